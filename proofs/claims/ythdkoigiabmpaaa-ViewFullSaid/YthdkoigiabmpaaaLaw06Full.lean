/- ViewFull: there are never more than twenty dead: with as many nobody joins, and nobody leaves; with one buried they may again. No conditions. -/
import Derived.Test.YthdkoigiabmpaaaRows
import Derived.Test.YthdkoigiabmpaaaAwake06
import Derived.Test.YthdkoigiabmpaaaArr
import Derived.Test.YthdkoigiabmpaaaLk06
import Derived.Test.YthdkoigiabmpaaaSame06
import Derived.Deep.DeepCutAuto
namespace Go.Proofs.Ythdkoigiabmpaaa.viewFull
open Go.RowKit Go.ChangeShapes Go.WideShapes Go.ChangeAt
open Go.ChangeMaps (open_string shut_string)

/-- A node that has joined again and again. -/
def rows (n k i : Nat) : Vw := if i = 0 then newV n else ⟨n, i, [((k : Int), (i : Int), false)], (List.range (i - 1)).map (fun j : Nat => ((k : Int), (j : Int) + 1, false)), (List.replicate n 0).set k (i : Int)⟩
def smB (V : Vw) : Bool := Nat.ble V.mem.length 800 && (Nat.ble V.dead.length 800 && Nat.ble V.incs.length 800)
def stepB (n k i : Nat) : Bool := sameB (joinV (rows n k i) k) (rows n k (i + 1)) && (joinN (rows n k i) k == (i : Int) + 1)
theorem stepAll : ((List.range 8).all fun n => (List.range (n + 1)).all fun k => (List.range 21).all fun i => stepB (n + 1) k i) = true := by kernel_rfl
def lastB (n k : Nat) : Bool := (joinN (rows n k 21) k == 0) && (sameB (joinV (rows n k 21) k) (rows n k 21) && (buryB (rows n k 21) k 7 && (((buryV (rows n k 21) k 7).dead.length == 19) && ((joinN (buryV (rows n k 21) k 7) k == 22) && (((joinV (buryV (rows n k 21) k 7) k).dead.length == 20) && ((chkE (joinV (buryV (rows n k 21) k 7) k) == 0) && (smB (buryV (rows n k 21) k 7))))))))
theorem lastAll : ((List.range 8).all fun n => (List.range (n + 1)).all fun k => lastB (n + 1) k) = true := by kernel_rfl
theorem step_at {n k i : Nat} (hn : 1 ≤ n) (hn8 : n ≤ 8) (hk : k < n) (hi : i < 21) : joinV (rows n k i) k = rows n k (i + 1) ∧ joinN (rows n k i) k = (i : Int) + 1 := by
  have h1 := List.all_eq_true.1 stepAll (n - 1) (List.mem_range.2 (by omega))
  rw [show n - 1 + 1 = n by omega] at h1
  have h2 := List.all_eq_true.1 (List.all_eq_true.1 h1 k (List.mem_range.2 hk)) i (List.mem_range.2 hi)
  simp only [stepB, Bool.and_eq_true, beq_iff_eq] at h2
  exact ⟨same_eq h2.1, h2.2⟩
theorem sm_of {V : Vw} (h : smB V = true) : Sm V := by
  simp only [smB, Bool.and_eq_true] at h
  exact ⟨Nat.le_of_ble_eq_true h.1, Nat.le_of_ble_eq_true h.2.1, Nat.le_of_ble_eq_true h.2.2⟩
theorem last_at {n k : Nat} (hn : 1 ≤ n) (hn8 : n ≤ 8) (hk : k < n) : joinN (rows n k 21) k = 0 ∧ joinV (rows n k 21) k = rows n k 21 ∧ buryB (rows n k 21) k 7 = true ∧ (buryV (rows n k 21) k 7).dead.length = 19 ∧ joinN (buryV (rows n k 21) k 7) k = 22 ∧ (joinV (buryV (rows n k 21) k 7) k).dead.length = 20 ∧ chkE (joinV (buryV (rows n k 21) k 7) k) = 0 ∧ Sm (buryV (rows n k 21) k 7) := by
  have h1 := List.all_eq_true.1 lastAll (n - 1) (List.mem_range.2 (by omega))
  rw [show n - 1 + 1 = n by omega] at h1
  have h2 := List.all_eq_true.1 h1 k (List.mem_range.2 hk)
  simp only [lastB, Bool.and_eq_true, beq_iff_eq] at h2
  obtain ⟨a, b, c, d, e, f, g, h⟩ := h2
  exact ⟨a, same_eq b, c, d, e, f, g, sm_of h⟩
theorem rows_sm {n k i : Nat} (hn8 : n ≤ 8) (hi : i ≤ 21) : Sm (rows n k i) := by
  unfold rows
  split
  · have := clamp_pos (n : Int)
    exact ⟨by simp [newV], by simp [newV], by simp [newV]; omega⟩
  · exact ⟨by simp, by simp; omega, by simp; omega⟩
theorem rows_dead (n k i : Nat) : (rows n k (i + 1)).dead.length = i := by
  unfold rows
  rw [if_neg (by omega)]
  simp
set_option maxRecDepth 100000 in
set_option maxHeartbeats 8000000 in
theorem walk (nodes node : Int) (w : World) (_ : (Lit.int .i64 nodes).wf = true) (hwf : (Lit.int .i64 node).wf = true) :
    Calls Try.prog 10 #[.int .i64 nodes, .int .i64 node] w fun e w' => e = .returned (.bool true) ∧ Below w.heap.size w w' := by
  obtain ⟨n0, Hn0, hn0⟩ := and_small nodes 7 (.inr rfl)
  have hbn := Hn0.out
  rw [show ((7 : Nat) : Int) = 7 from rfl] at hbn
  obtain ⟨n, Hn⟩ : ∃ n, Hid (1 + n0 = n) := ⟨_, Lib.hid rfl⟩
  have hn8 : n ≤ 8 ∧ 1 ≤ n := by have := Hn.out; omega
  have Hnc : Hid ((1 : Int) + (n0 : Int) = (n : Int)) := Lib.hid (by have := Hn.out; omega)
  obtain ⟨k, Hk⟩ : ∃ k, Hid (node.natAbs % n = k) := ⟨_, Lib.hid rfl⟩
  have hk : k < n := by rw [← Hk.out]; exact Nat.mod_lt _ (by omega)
  obtain ⟨hw1, hw2⟩ : -9223372036854775808 ≤ node ∧ node ≤ 9223372036854775807 := by
    simpa [Lit.wf, IntKind.min, IntKind.max, IntKind.signed, IntKind.bits] using hwf
  have hr : node.tmod (n : Int) = (k : Int) ∨ (node.tmod (n : Int) = -(k : Int) ∧ 0 < k) := by
    rcases Int.le_total 0 node with h | h
    · refine .inl ?_
      rw [Int.tmod_eq_emod_of_nonneg h, ← Hk.out, Int.natCast_emod, show ((node.natAbs : Nat) : Int) = node by omega]
    · have e : node.tmod (n : Int) = -(((-node) % (n : Int))) := by
        rw [← Int.tmod_eq_emod_of_nonneg (by omega), Int.neg_tmod, Int.neg_neg]
      have e2 : (-node) % (n : Int) = (k : Int) := by
        rw [← Hk.out, Int.natCast_emod, show ((node.natAbs : Nat) : Int) = -node by omega]
      rw [e, e2]
      rcases Nat.eq_zero_or_pos k with h0 | h0
      · exact .inl (by omega)
      · exact .inr ⟨rfl, h0⟩
  clear hwf
  go_enter Try.func10, Try.ntmps10
  go_wp2_with fail
  refine (awake_any _).mono ?_
  rintro e w2 ⟨rfl, hb2⟩
  have HB2 : Hid (Below w.heap.size w w2) := Lib.hid hb2
  clear hb2
  go_upto_region 3 with (fail)
  rw [Hnc.out]
  clear hbn
  have hr' : (node.tmod (n : Int) = (k : Int)) ∨ (node.tmod (n : Int) = -(k : Int) ∧ 0 < k) := hr
  clear hr
  have hn1 : 1 ≤ n := hn8.2
  have hn2 : n ≤ 8 := hn8.1
  have Hr := Lib.hid hr'
  clear hr'
  go_upto_if 27 with (fail)
  go_cut [7] (fun s wx => s = .int .i64 (k : Int) ∧ wx = w2)
  case first =>
    rcases Hr.out with hr | ⟨hr, hk0⟩
    · rw [hr]
      have hk1 : decide ((k : Int) < 0) = false := by simp
      go_wp2_with fail
      go_meet
      case rel => exact ⟨rfl, rfl⟩
    · rw [hr]
      have hk1 : decide (-(k : Int) < 0) = true := by simp; omega
      go_wp2_with fail
      go_meet
      case rel => exact ⟨by simp, rfl⟩
  case rest =>
  obtain ⟨rfl, rfl⟩ := hcut
  go_wp2_with fail
  refine (New_any (n : Int) _).mono ?_
  rintro e w3 ⟨x0, rfl, hT0, hb3⟩
  have HT0 := Lib.hid hT0
  have HB3 : Hid (Below w.heap.size w w3) := Lib.hid (bnext HB2.out hb3)
  clear hT0 hb3
  go_upto_region 7 with (fail)
  obtain ⟨w4, H_w4⟩ : ∃ w4, Hid (w3.alloc (.cells (vC x0) 25) = w4) := ⟨_, Lib.hid rfl⟩
  obtain ⟨gv, H_gv⟩ : ∃ gv, Hid (w3.heap.size = gv) := ⟨_, Lib.hid rfl⟩
  have HX_gv : Hid (BoxV w4 gv x0) := Lib.hid (by rw [← H_w4.out, ← H_gv.out]; exact BoxV.new w3 x0)
  have HL_w4 : Hid (Below w3.heap.size w3 w4) := Lib.hid (by rw [← H_w4.out]; exact (Below.refl _ _).alloc (Nat.le_refl _) _)
  rw [show w3.alloc (.cells #[.int .i64 x0.nodes, .int .i64 x0.epoch, .slice x0.mA x0.mn x0.mc, .slice x0.dA x0.dn x0.dc, .slice x0.iA x0.ir x0.ic] 25) = w4 from H_w4.out]
  try rw [H_gv.out]
  have HB4 : Hid (Below w.heap.size w w4) := Lib.hid (bnext HB3.out HL_w4.out)
  have Hgg : Hid (w.heap.size ≤ gv) := Lib.hid (by have := HB3.out.size; have := H_gv.out; omega)
  have HVv : Hid (Var w4 (fun h => h = gv) gv x0 (rows n k 0)) := Lib.hid (by
    have h := Var.new (S := fun h => h = gv) HT0.out (fun h e => .inr (by have := H_gv.out; omega))
    rw [H_w4.out, H_gv.out] at h
    exact h)
  go_wp2
  go_loopw [9, 10, 11] (fun i _ _ wr => ∃ (j : Nat) (xv : Vx), i = .int .i64 (j : Int) ∧ j ≤ 21 ∧ Hid (Below w.heap.size w wr) ∧ Hid (Var wr (fun h => h = gv) gv xv (rows n k j))) (fun i _ _ _ => 21 - (intOf i).toNat)
  case atStart => exact ⟨0, x0, rfl, by omega, HB4, HVv⟩
  case round =>
    obtain ⟨j, xv, rfl, hj, HB, Hv⟩ := hrel
    obtain ⟨v0, v1, v2, v3, v4⟩ := Hv.out.box.cells
    by_cases hlt : j < 21
    · have hst := step_at hn1 hn2 hk hlt
      go_wp2_with fail
      refine (Join_any wr xv (rows n k j) Hv.out.isV (k : Int) (rows_sm hn2 hj)).mono ?_
      rw [hst.1, hst.2]
      rintro e w7 ⟨x2, rfl, hT7, hb7⟩
      have HV7 : Var (setV w7 gv x2) (fun h => h = gv) gv x2 (rows n k (j + 1)) := Hv.out.store hb7 hT7 (fun h e => by have := Hv.out.box.lt; omega) rfl
      have HB7 : Below w.heap.size w (setV w7 gv x2) := bmod (bnext HB.out hb7) (setV_mod w7 gv x2) Hgg.out
      have HV8 : Hid (Var ((setV w7 gv x2).alloc (.cells (vC x2) 25)) (fun h => h = gv) gv x2 (rows n k (j + 1))) := Lib.hid (HV7.below ((Below.refl _ _).alloc (Nat.le_refl _) _))
      have HB8 : Hid (Below w.heap.size w ((setV w7 gv x2).alloc (.cells (vC x2) 25))) := Lib.hid (balloc HB7 _)
      have e1 : (((j : Int) + 1) != ((j : Int) + 1)) = false := bne_no rfl
      have e2 : ((x2.dn : Int) != (j : Int)) = false := bne_no (by have := RowM.len hT7.dead; rw [rows_dead] at this; omega)
      have u := Hv.out.below hb7
      clear v0 v1 v2 v3 v4
      obtain ⟨v0, v1, v2, v3, v4⟩ := u.box.cells
      have f0 := u.box.free 0
      have f1 := u.box.free 1
      have f2 := u.box.free 2
      have f3 := u.box.free 3
      have f4 := u.box.free 4
      have hgl := u.box.lt
      have hgne : ¬ w7.heap.size = gv := by omega
      have hgne' : ¬ gv = w7.heap.size := by omega
      clear hst hT7 hb7 HV7 HB7 u
      go_wp2
      clear v0 v1 v2 v3 v4 f0 f1 f2 f3 f4 hgl hgne hgne'
      go_roundw
      case rel => exact ⟨j + 1, x2, by go_num, by omega, HB8, HV8⟩
      case measure => simp [intOf]; omega
    · obtain rfl : j = 21 := by omega
      obtain ⟨l1, l2, l3, l4, l5, l6, l7, l8⟩ := last_at hn1 hn2 hk
      have H3 := Lib.hid l3
      have H4 := Lib.hid l4
      have H5 := Lib.hid l5
      have H6 := Lib.hid l6
      have H7 := Lib.hid l7
      have H8 := Lib.hid l8
      obtain ⟨v0, v1, v2, v3, v4⟩ := Hv.out.box.cells
      go_wp2_with fail
      refine (Join_any wr xv (rows n k 21) Hv.out.isV (k : Int) (rows_sm hn2 (Nat.le_refl _))).mono ?_
      rw [l1, l2]
      clear l1 l2 l3 l4 l5 l6 l7 l8
      rintro e w7 ⟨x2, rfl, hT7, hb7⟩
      have HT7 := Lib.hid hT7
      have HB7 : Hid (Below w.heap.size w w7) := Lib.hid (bnext HB.out hb7)
      have HV7 := Lib.hid (Hv.out.below hb7)
      clear hT7 hb7 v0 v1 v2 v3 v4
      go_upto_region 15 with (fail)
      obtain ⟨w8, H_w8⟩ : ∃ w8, Hid (w7.alloc (.cells (vC x2) 25) = w8) := ⟨_, Lib.hid rfl⟩
      obtain ⟨g2, H_g2⟩ : ∃ g2, Hid (w7.heap.size = g2) := ⟨_, Lib.hid rfl⟩
      have HX_g2 : Hid (BoxV w8 g2 x2) := Lib.hid (by rw [← H_w8.out, ← H_g2.out]; exact BoxV.new w7 x2)
      have HL_w8 : Hid (Below w7.heap.size w7 w8) := Lib.hid (by rw [← H_w8.out]; exact (Below.refl _ _).alloc (Nat.le_refl _) _)
      rw [show w7.alloc (.cells #[.int .i64 x2.nodes, .int .i64 x2.epoch, .slice x2.mA x2.mn x2.mc, .slice x2.dA x2.dn x2.dc, .slice x2.iA x2.ir x2.ic] 25) = w8 from H_w8.out]
      try rw [H_g2.out]
      have HV8 := Lib.hid (HV7.out.below HL_w8.out)
      have HB8 : Hid (Below w.heap.size w w8) := Lib.hid (bnext HB7.out HL_w8.out)
      have HI8 := Lib.hid (HT7.out.isV.below HL_w8.out)
      obtain ⟨v0, v1, v2, v3, v4⟩ := HV8.out.box.cells
      obtain ⟨y0, y1, y2, y3, y4⟩ := HX_g2.out.cells
      go_wp2_with fail
      refine (Same_any w8 xv x2 _ _ HV8.out.isV HI8.out).mono ?_
      rw [same_self]
      rintro e w9 ⟨rfl, hb9⟩
      have HV9 := Lib.hid (HV8.out.below hb9)
      have HB9 : Hid (Below w.heap.size w w9) := Lib.hid (bnext HB8.out hb9)
      have hdn : Hid (xv.dn = 20) := Lib.hid (by have := RowM.len HV9.out.told.dead; rw [rows_dead] at this; omega)
      have hd1 : (((xv.dn : Nat) : Int) != 20) = false := bne_no (by rw [hdn.out]; rfl)
      clear hb9 v0 v1 v2 v3 v4 y0 y1 y2 y3 y4
      obtain ⟨v0, v1, v2, v3, v4⟩ := HV9.out.box.cells
      go_wp2_with fail
      refine (Bury_any w9 xv (rows n k 21) HV9.out.isV (k : Int) 7 (rows_sm hn2 (Nat.le_refl _))).mono ?_
      rw [H3.out]
      rintro e w10 ⟨x4, rfl, hT10, hb10⟩
      have HT10 := Lib.hid hT10
      have HB10 : Hid (Below w.heap.size w w10) := Lib.hid (bnext HB9.out hb10)
      clear hT10 hb10 v0 v1 v2 v3 v4 hd1
      go_upto_region 19 with (fail)
      obtain ⟨w11, H_w11⟩ : ∃ w11, Hid (w10.alloc (.cells (vC x4) 25) = w11) := ⟨_, Lib.hid rfl⟩
      obtain ⟨g4, H_g4⟩ : ∃ g4, Hid (w10.heap.size = g4) := ⟨_, Lib.hid rfl⟩
      have HX_g4 : Hid (BoxV w11 g4 x4) := Lib.hid (by rw [← H_w11.out, ← H_g4.out]; exact BoxV.new w10 x4)
      have HL_w11 : Hid (Below w10.heap.size w10 w11) := Lib.hid (by rw [← H_w11.out]; exact (Below.refl _ _).alloc (Nat.le_refl _) _)
      rw [show w10.alloc (.cells #[.int .i64 x4.nodes, .int .i64 x4.epoch, .slice x4.mA x4.mn x4.mc, .slice x4.dA x4.dn x4.dc, .slice x4.iA x4.ir x4.ic] 25) = w11 from H_w11.out]
      try rw [H_g4.out]
      have HB11 : Hid (Below w.heap.size w w11) := Lib.hid (bnext HB10.out HL_w11.out)
      have HI11 := Lib.hid (HT10.out.isV.below HL_w11.out)
      obtain ⟨v0, v1, v2, v3, v4⟩ := HX_g4.out.cells
      go_wp2_with fail
      refine (Join_any w11 x4 _ HI11.out (k : Int) H8.out).mono ?_
      rw [H5.out]
      rintro e w12 ⟨x5, rfl, hT12, hb12⟩
      have HT12 := Lib.hid hT12
      have HB12 : Hid (Below w.heap.size w w12) := Lib.hid (bnext HB11.out hb12)
      have HX12 := Lib.hid (HX_g4.out.below hb12)
      have hd2 : Hid (x4.dn = 19) := Lib.hid (by have := RowM.len HT10.out.dead; rw [H4.out] at this; omega)
      have hd3 : Hid (x5.dn = 20) := Lib.hid (by have := RowM.len HT12.out.dead; rw [H6.out] at this; omega)
      clear hT12 hb12 v0 v1 v2 v3 v4
      go_upto_region 20 with (fail)
      obtain ⟨w13, H_w13⟩ : ∃ w13, Hid (w12.alloc (.cells (vC x5) 25) = w13) := ⟨_, Lib.hid rfl⟩
      obtain ⟨g5, H_g5⟩ : ∃ g5, Hid (w12.heap.size = g5) := ⟨_, Lib.hid rfl⟩
      have HX_g5 : Hid (BoxV w13 g5 x5) := Lib.hid (by rw [← H_w13.out, ← H_g5.out]; exact BoxV.new w12 x5)
      have HL_w13 : Hid (Below w12.heap.size w12 w13) := Lib.hid (by rw [← H_w13.out]; exact (Below.refl _ _).alloc (Nat.le_refl _) _)
      rw [show w12.alloc (.cells #[.int .i64 x5.nodes, .int .i64 x5.epoch, .slice x5.mA x5.mn x5.mc, .slice x5.dA x5.dn x5.dc, .slice x5.iA x5.ir x5.ic] 25) = w13 from H_w13.out]
      try rw [H_g5.out]
      have HB13 : Hid (Below w.heap.size w w13) := Lib.hid (bnext HB12.out HL_w13.out)
      have HI13 := Lib.hid (HT12.out.isV.below HL_w13.out)
      have HX13 := Lib.hid (HX12.out.below HL_w13.out)
      have q1 : (((x4.dn : Nat) : Int) == 19) = true := beq_yes (by rw [hd2.out]; rfl)
      have q2 : (((x5.dn : Nat) : Int) == 20) = true := beq_yes (by rw [hd3.out]; rfl)
      have v3 := HX13.out.cells.2.2.2.1
      obtain ⟨y0, y1, y2, y3, y4⟩ := HX_g5.out.cells
      go_wp2_with fail
      refine (Check_any w13 x5 _ HI13.out).mono ?_
      rw [H7.out]
      rintro e w14 ⟨rfl, hb14⟩
      have HF : Hid (Below w.heap.size w w14) := Lib.hid (bnext HB13.out hb14)
      clear hb14 v3 y0 y1 y2 y3 y4
      go_wp2
      go_ret
      exact ⟨rfl, HF.out⟩
theorem own : ownKnob Try.prog.godebug = none := by kernel_rfl
theorem laidOut : laidOutB Try.prog = true := by kernel_rfl
set_option maxRecDepth 100000 in
theorem lifted (os : Os) (started : os.Started) (H : Type) (enc : TypeId × Value → H) :
    ReturnsInHanded {} Try.checked os 10 .any (Rows.viewFullSpec.pre6 enc Try.prog Try.f10 Rows.viewFullRow.domain false) (Rows.viewFullSpec.post enc Try.prog Try.f10 false true false false) := by
  refine returnsInHanded_of_change (C := Try.checked) own started (by kernel_rfl) Try.func10
    (ChangeSpec.witness6 (enc := enc) (C := Try.checked) false ⟨#[], #[.int .i64 0, .int .i64 0], []⟩ 8 (by kernel_rfl) (by kernel_rfl) (by kernel_rfl) (by kernel_rfl)) ?_
  intro W base args ds gs before hval0 hW hcnd _
  have hval : ∀ (j : Nat) t v, Try.f10.params[j]? = some t → args[j]? = some v → Value.okWide Try.prog W .any base t v := hval0
  have hW' := hW
  obtain ⟨p, q, hA0, hV, rfl, hfz, hnd⟩ := hW
  have hA : DataW.TrodAll enc Try.prog W 0 (fun _ => true) true Try.f10.params.toList args.toList ds p := hA0
  rw [Try.params10] at hA hval
  obtain ⟨v0, vs0, d0, ds0, p0, q0, hargs, rfl, rfl, h0, r0⟩ := trodAll_cons hA
  obtain ⟨v1, vs1, d1, ds1, p1, q1, rfl, rfl, rfl, h1, r1⟩ := trodAll_cons r0
  obtain ⟨rfl, rfl, rfl⟩ := trodAll_nil r1
  obtain rfl : args = #[v0, v1] := by cases args; simp_all
  obtain ⟨a0, rfl, rfl, rfl, w0⟩ := open_int Try.underlying3 (hval 0 3 v0 rfl rfl) h0
  obtain ⟨a1, rfl, rfl, rfl, w1⟩ := open_int Try.underlying3 (hval 1 3 v1 rfl rfl) h1
  clear hA0 hval0
  refine (walk a0 a1 W w0 w1).mono fun e W' ⟨he, bel⟩ => ?_
  subst he
  exact ⟨_, rfl, law_post laidOut (by rw [Try.params10]; decide +kernel) rfl Try.underlying4 rfl hW' (fun _ => rfl) bel⟩
theorem over : Rows.viewFullRow.holds Try.pinned (OpenSpec.ofChange Rows.viewFullSpec) :=
  OpenClaim.holds_of_wide 10 Try.f10 rfl rfl rfl rfl rfl rfl rfl ⟨rfl, rfl, rfl, rfl, rfl⟩ rfl rfl rfl rfl rfl (by kernel_rfl) Try.func10 (by kernel_rfl)
    (of_decide_eq_true (by kernel_rfl)) (by unfold Func.isWrapper; first | (rw [if_pos (by decide +kernel)]; kernel_rfl) | (rw [if_neg (by decide +kernel)]; exact ⟨rfl, rfl⟩))
    (fun os started H enc _ => lifted os started H enc)
theorem proved : Rows.ViewFullSaid := over
end Go.Proofs.Ythdkoigiabmpaaa.viewFull
