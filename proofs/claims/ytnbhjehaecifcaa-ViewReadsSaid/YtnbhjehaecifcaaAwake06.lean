/- The statements' own examples hold. -/
import Derived.Test.YtnbhjehaecifcaaBury
namespace Go.Proofs.Ytnbhjehaecifcaa
open Go.RowKit

theorem IsV.told {w : World} {B : Nat} {x : Vx} {V : Vw} (h : Told w B x V) : IsV w x V := h.isV
def A1 : Vw := ⟨3, 1, [(1, 1, false)], [], [0, 1, 0]⟩
def A2 : Vw := ⟨3, 2, [(1, 2, false)], [(1, 1, false)], [0, 2, 0]⟩
def A3 : Vw := ⟨3, 3, [(0, 1, false), (1, 2, false)], [(1, 1, false)], [1, 2, 0]⟩
theorem a1 : joinV (newV 3) 1 = A1 ∧ joinN (newV 3) 1 = 1 := ⟨by kernel_rfl, by kernel_rfl⟩
theorem a2 : joinV A1 1 = A2 ∧ joinN A1 1 = 2 := ⟨by kernel_rfl, by kernel_rfl⟩
theorem a3 : joinV A2 0 = A3 ∧ joinN A2 0 = 1 := ⟨by kernel_rfl, by kernel_rfl⟩
theorem a4 : leaveB A3 0 1 = false := by kernel_rfl
theorem sm_small {V : Vw} (h1 : V.mem.length ≤ 800) (h2 : V.dead.length ≤ 800) (h3 : V.incs.length ≤ 800) : Sm V := ⟨h1, h2, h3⟩
set_option maxHeartbeats 4000000 in
theorem awake_any (w : World) : Calls Try.prog 5 #[] w fun e w' => e = .returned (.bool true) ∧ Below w.heap.size w w' := by
  go_enter Try.func5, Try.ntmps5
  go_wp2_with fail
  refine (New_any 3 w).mono ?_
  rintro e w1 ⟨x0, rfl, hT0, hb1⟩
  have HT0 := Lib.hid hT0
  have HB1 : Hid (Below w.heap.size w w1) := Lib.hid hb1
  clear hT0 hb1
  go_wp2_with fail
  refine (Join_any w1 x0 (newV 3) HT0.out.isV 1 (sm_small (by decide) (by decide) (by decide))).mono ?_
  rw [a1.1, a1.2]
  rintro e w2 ⟨x1, rfl, hT1, hb2⟩
  have HT1 := Lib.hid hT1
  have HB2 : Hid (Below w.heap.size w w2) := Lib.hid (bnext HB1.out hb2)
  clear hT1 hb2
  go_wp2_with fail
  obtain ⟨w3, H_w3⟩ : ∃ w3, Hid (w2.alloc (.cells (vC x1) 25) = w3) := ⟨_, Lib.hid rfl⟩
  obtain ⟨g1, H_g1⟩ : ∃ g1, Hid (w2.heap.size = g1) := ⟨_, Lib.hid rfl⟩
  have HX_g1 : Hid (BoxV w3 g1 x1) := Lib.hid (by rw [← H_w3.out, ← H_g1.out]; exact BoxV.new w2 x1)
  have HL_w3 : Hid (Below w2.heap.size w2 w3) := Lib.hid (by rw [← H_w3.out]; exact (Below.refl _ _).alloc (Nat.le_refl _) _)
  rw [show w2.alloc (.cells #[.int .i64 x1.nodes, .int .i64 x1.epoch, .slice x1.mA x1.mn x1.mc, .slice x1.dA x1.dn x1.dc, .slice x1.iA x1.ir x1.ic] 25) = w3 from H_w3.out]
  try rw [H_g1.out]
  have HV3 := Lib.hid (HT1.out.isV.below HL_w3.out)
  have HB3 : Hid (Below w.heap.size w w3) := Lib.hid (bnext HB2.out HL_w3.out)
  refine (Join_any w3 x1 A1 HV3.out 1 (sm_small (by decide) (by decide) (by decide))).mono ?_
  rw [a2.1, a2.2]
  rintro e w4 ⟨x2, rfl, hT2, hb4⟩
  have HT2 := Lib.hid hT2
  have HL4 := Lib.hid hb4
  have HB4 : Hid (Below w.heap.size w w4) := Lib.hid (bnext HB3.out hb4)
  clear hT2 hb4
  go_wp2_with fail
  obtain ⟨w5, H_w5⟩ : ∃ w5, Hid (w4.alloc (.cells (vC x2) 25) = w5) := ⟨_, Lib.hid rfl⟩
  obtain ⟨g2, H_g2⟩ : ∃ g2, Hid (w4.heap.size = g2) := ⟨_, Lib.hid rfl⟩
  have HX_g2 : Hid (BoxV w5 g2 x2) := Lib.hid (by rw [← H_w5.out, ← H_g2.out]; exact BoxV.new w4 x2)
  have HL_w5 : Hid (Below w4.heap.size w4 w5) := Lib.hid (by rw [← H_w5.out]; exact (Below.refl _ _).alloc (Nat.le_refl _) _)
  rw [show w4.alloc (.cells #[.int .i64 x2.nodes, .int .i64 x2.epoch, .slice x2.mA x2.mn x2.mc, .slice x2.dA x2.dn x2.dc, .slice x2.iA x2.ir x2.ic] 25) = w5 from H_w5.out]
  try rw [H_g2.out]
  have HV5 := Lib.hid (HT2.out.isV.below HL_w5.out)
  have HB5 : Hid (Below w.heap.size w w5) := Lib.hid (bnext HB4.out HL_w5.out)
  refine (Join_any w5 x2 A2 HV5.out 0 (sm_small (by decide) (by decide) (by decide))).mono ?_
  rw [a3.1, a3.2]
  rintro e w6 ⟨x3, rfl, hT3, hb6⟩
  have HT3 := Lib.hid hT3
  have HL6 := Lib.hid hb6
  have HB6 : Hid (Below w.heap.size w w6) := Lib.hid (bnext HB5.out hb6)
  clear hT3 hb6
  go_wp2_with fail
  obtain ⟨w7, H_w7⟩ : ∃ w7, Hid (w6.alloc (.cells (vC x3) 25) = w7) := ⟨_, Lib.hid rfl⟩
  obtain ⟨g3, H_g3⟩ : ∃ g3, Hid (w6.heap.size = g3) := ⟨_, Lib.hid rfl⟩
  have HX_g3 : Hid (BoxV w7 g3 x3) := Lib.hid (by rw [← H_w7.out, ← H_g3.out]; exact BoxV.new w6 x3)
  have HL_w7 : Hid (Below w6.heap.size w6 w7) := Lib.hid (by rw [← H_w7.out]; exact (Below.refl _ _).alloc (Nat.le_refl _) _)
  rw [show w6.alloc (.cells #[.int .i64 x3.nodes, .int .i64 x3.epoch, .slice x3.mA x3.mn x3.mc, .slice x3.dA x3.dn x3.dc, .slice x3.iA x3.ir x3.ic] 25) = w7 from H_w7.out]
  try rw [H_g3.out]
  have HV7 := Lib.hid (HT3.out.isV.below HL_w7.out)
  have HB7 : Hid (Below w.heap.size w w7) := Lib.hid (bnext HB6.out HL_w7.out)
  refine (Leave_any w7 x3 A3 HV7.out 0 1 (sm_small (by decide) (by decide) (by decide))).mono ?_
  rw [a4]
  rintro e w8 ⟨x4, rfl, _, hb8⟩
  have HL8 := Lib.hid hb8
  have HB8 : Hid (Below w.heap.size w w8) := Lib.hid (bnext HB7.out hb8)
  clear hb8
  have k1 : Below w3.heap.size w3 w8 := bnext HL4.out (bnext HL_w5.out (bnext HL6.out (bnext HL_w7.out HL8.out)))
  have k2 : Below w5.heap.size w5 w8 := bnext HL6.out (bnext HL_w7.out HL8.out)
  have X1 := Lib.hid (HX_g1.out.below k1)
  have X2 := Lib.hid (HX_g2.out.below k2)
  have L1 := Lib.hid (HV3.out.below k1)
  have L2 := Lib.hid (HV5.out.below k2)
  obtain ⟨ga, oa, ea, hga, hca⟩ := L1.out.mem.cells (by rw [← L1.out.mem.length]; decide)
  obtain ⟨gd, od, ed, hgd, hcd⟩ := L2.out.dead.cells (by rw [← L2.out.dead.length]; decide)
  have ca := (hca 0 (1, 1, false) rfl).1
  have cd := (hcd 0 (1, 1, false) rfl).2.1
  simp only [Nat.zero_mul, Nat.add_zero] at ca cd
  have e1 : ((x1.mn : Int) == 1) = true := beq_yes (by have := L1.out.mem.length; simp [A1] at this; omega)
  have e2 : ((x2.dn : Int) == 1) = true := beq_yes (by have := L2.out.dead.length; simp [A2] at this; omega)
  have n1 : 0 < x1.mn := by have := L1.out.mem.length; simp [A1] at this; omega
  have n2 : 0 < x2.dn := by have := L2.out.dead.length; simp [A2] at this; omega
  have q1 : x1.epoch = 1 := L1.out.epoch
  have u1 := X1.out.cells.2.1
  have u2 := X1.out.cells.2.2.1
  have u3 := X2.out.cells.2.2.2.1
  rw [q1] at u1
  rw [ea] at u2
  rw [ed] at u3
  have l1 := X1.out.lt
  have l2 := X2.out.lt
  clear k1 k2 hca hcd ea ed q1
  go_wp2
  go_ret
  exact ⟨rfl, balloc HB8.out _⟩
end Go.Proofs.Ytnbhjehaecifcaa
