/- The chapter's examples of free sectors, at this translation. -/
import Derived.Test.YtoakjcmhmlngfaaTn17
import Derived.Test.YtoakjcmhmlngfaaGv17
import Derived.Test.YtoakjcmhmlngfaaFr17
import Derived.Test.YtoakjcmhmlngfaaSm17
namespace Go.Proofs.Ytoakjcmhmlngfaa
open Go.RowKit

theorem i_two (w : World) (x y : Int) : IsG (w.alloc (.cells #[.int .i64 x, .int .i64 y] 3)) 1 encI (some ⟨w.heap.size, 0, none⟩) 2 [x, y] := by
  refine ⟨rfl, by decide, fun _ => ⟨_, 0, rfl, by simp, fun i a j u hi hj => ?_⟩⟩
  match i, j, hi, hj with
  | 0, 0, hi, hj => simp at hi; subst hi; simp [encI] at hj; subst hj; simp [go_sem]
  | 1, 0, hi, hj => simp at hi; subst hi; simp [encI] at hj; subst hj; simp [go_sem]
  | i + 2, _, hi, _ => simp at hi
  | _, j + 1, _, hj => simp [encI] at hj
theorem four_of {w : World} {A : Option Addr} {n c : Nat} {M : List (List UInt8)} (h : RG w 1 encT (.slice A n c) M) (h4 : M.length = 4) : n = 4 ∧ (A = none → n = 0 ∧ c = 0) ∧ IsG w 1 encT A 4 M := by
  obtain ⟨A', c', e⟩ := h.shape
  injection e with e1 e2 e3
  obtain rfl : n = 4 := e2.trans h4
  refine ⟨rfl, fun e => ?_, (h.is encT_ok).1⟩
  obtain ⟨g, off, e', _⟩ := (h.is encT_ok).1.cells (by omega)
  rw [e] at e'
  cases e'
set_option maxRecDepth 100000 in
set_option maxHeartbeats 4000000 in
theorem awk17_any (w : World) :
    Calls Try.prog 5 #[] w fun e w' => e = .returned (.bool true) ∧ Below w.heap.size w w' := by
  obtain ⟨l, M, M1, E⟩ : ∃ l M M1, Hid (freshL 200 = l ∧ freshM 200 = M ∧ takeV l M 3 2 = (M1, [181, 182], true) ∧ giveV l M1 [181, 181] = (M1, false) ∧ giveV l M1 [179] = (M1, false) ∧ freeM l M = 68 ∧ layR l = 68 ∧ M1.length = 4 ∧ (∀ s ∈ M, s.length ≤ 100000) ∧ ∀ s ∈ M1, s.length ≤ 100000) :=
    ⟨freshL 200, freshM 200, (takeV (freshL 200) (freshM 200) 3 2).1, Lib.hid ⟨rfl, rfl, by decide +kernel, by decide +kernel, by decide +kernel, by decide +kernel, by decide +kernel, by decide +kernel, by decide +kernel, by decide +kernel⟩⟩
  go_enter Try.func5, Try.ntmps5
  go_wp2_with fail
  refine (fresh_any 200 _).mono ?_
  rw [E.out.1, E.out.2.1]
  rintro e w1 ⟨g, rfl, hI, _, hb⟩
  obtain ⟨q, Hq⟩ : ∃ q, Hid (w1.heap.size = q) := ⟨_, Lib.hid rfl⟩
  obtain ⟨W1, HW1⟩ : ∃ W, Hid (w1.alloc (.cells #[.int .i64 l.s, .int .i64 l.n, .int .i64 l.f, .int .i64 l.z] 25) = W) := ⟨_, Lib.hid rfl⟩
  have L1 : Hid (LayAt W1 q l ∧ Below w.heap.size w W1 ∧ IsG W1 1 encT (some ⟨g, 0, none⟩) 4 M) := Lib.hid (by
    have b := balloc (Below.refl w1.heap.size w1) (.cells #[.int .i64 l.s, .int .i64 l.n, .int .i64 l.f, .int .i64 l.z] 25)
    refine ⟨?_, by rw [← HW1.out]; exact bnext hb b, by rw [← HW1.out]; exact hI.below b⟩
    rw [← HW1.out, ← Hq.out]
    exact ⟨by go_simp, by go_simp, by go_simp, by go_simp⟩)
  clear hI hb
  obtain ⟨e0, e1, e2, e3⟩ := L1.out.1
  rw [← HW1.out] at e0 e1 e2 e3
  go_wp2_with fail
  rw [HW1.out, Hq.out]
  refine (Take_any l (some ⟨g, 0, none⟩) 4 4 M 3 2 W1 L1.out.2.2 (by decide) (fun e => by cases e) E.out.2.2.2.2.2.2.2.2.1).mono ?_
  rw [E.out.2.2.1]
  rintro e w2 ⟨⟨A2, n2, c2, v2, rfl, hr2, hs2, _, _, _, _⟩, hb2⟩
  obtain ⟨rfl, hA2, hI2⟩ := four_of hr2 E.out.2.2.2.2.2.2.2.1
  obtain ⟨A3, c3, rfl⟩ : ∃ A3 c3, v2 = .slice A3 2 c3 := hs2.shape
  obtain ⟨gs, os, rfl, hgs, hcs⟩ := (hs2.is encI_ok).1.cells (by omega)
  have k0 := hcs 0 181 0 _ rfl rfl
  have k1 := hcs 1 182 0 _ rfl rfl
  have T2 : Hid (LayAt w2 q l ∧ Below w.heap.size w w2 ∧ IsG w2 1 encT (some ⟨g, 0, none⟩) 4 M ∧ IsG w2 1 encT A2 4 M1 ∧ w2.cell? ⟨gs, os, none⟩ = some (.int .i64 181) ∧ w2.cell? ⟨gs, os + 1, none⟩ = some (.int .i64 182)) := Lib.hid ⟨L1.out.1.below hb2, bnext L1.out.2.1 hb2, L1.out.2.2.below hb2, hI2, k0, k1⟩
  clear hr2 hs2 hb2 hI2 hcs k0 k1 e0 e1 e2 e3
  obtain ⟨w3, Hw3⟩ : ∃ u, Hid (w2.alloc (.cells #[.int .i64 181, .int .i64 181] 3) = u) := ⟨_, Lib.hid rfl⟩
  obtain ⟨x3, Hx3⟩ : ∃ u, Hid (w2.heap.size = u) := ⟨_, Lib.hid rfl⟩
  have T3 : Hid (Below w2.heap.size w2 w3 ∧ IsG w3 1 encI (some ⟨x3, 0, none⟩) 2 [181, 181]) := Lib.hid (by rw [← Hw3.out, ← Hx3.out]; exact ⟨balloc (Below.refl _ _) _, i_two w2 181 181⟩)
  obtain ⟨e0, e1, e2, e3⟩ := T2.out.1
  go_wp2_with fail
  rw [Hw3.out, Hx3.out]
  refine (Give_any l A2 4 c2 M1 (some ⟨x3, 0, none⟩) 2 2 [181, 181] w3 (T2.out.2.2.2.1.below T3.out.1) (by decide) hA2 E.out.2.2.2.2.2.2.2.2.2 T3.out.2 (by decide)).mono ?_
  rw [E.out.2.2.2.1]
  rintro e w4 ⟨⟨A4, n4, c4, rfl, _, _⟩, hb4⟩
  have B4 : Hid (Below w2.heap.size w2 w4) := Lib.hid (bnext T3.out.1 hb4)
  clear hb4 e0 e1 e2 e3
  obtain ⟨w5, Hw5⟩ : ∃ u, Hid (w4.alloc (.cells #[.int .i64 179] 3) = u) := ⟨_, Lib.hid rfl⟩
  obtain ⟨x5, Hx5⟩ : ∃ u, Hid (w4.heap.size = u) := ⟨_, Lib.hid rfl⟩
  have T5 : Hid (Below w2.heap.size w2 w5 ∧ IsG w5 1 encI (some ⟨x5, 0, none⟩) 1 [179]) := Lib.hid (by rw [← Hw5.out, ← Hx5.out]; exact ⟨bnext B4.out (balloc (Below.refl _ _) _), i_one w4 179⟩)
  obtain ⟨e0, e1, e2, e3⟩ := T2.out.1.below B4.out
  go_wp2_with fail
  rw [Hw5.out, Hx5.out]
  refine (Give_any l A2 4 c2 M1 (some ⟨x5, 0, none⟩) 1 1 [179] w5 (T2.out.2.2.2.1.below T5.out.1) (by decide) hA2 E.out.2.2.2.2.2.2.2.2.2 T5.out.2 (by decide)).mono ?_
  rw [E.out.2.2.2.2.1]
  rintro e w6 ⟨⟨A6, n6, c6, rfl, _, _⟩, hb6⟩
  have B6 : Hid (Below w2.heap.size w2 w6) := Lib.hid (bnext T5.out.1 hb6)
  clear hb6 e0 e1 e2 e3
  obtain ⟨e0, e1, e2, e3⟩ := T2.out.1.below B6.out
  go_wp2_with fail
  refine (SFree_any l (some ⟨g, 0, none⟩) 4 4 M w6 (T2.out.2.2.1.below B6.out) E.out.2.2.2.2.2.2.2.2.1).mono ?_
  rw [E.out.2.2.2.2.2.1]
  rintro e w7 ⟨rfl, hb7⟩
  have B7 : Hid (Below w2.heap.size w2 w7) := Lib.hid (bnext B6.out hb7)
  clear hb7 e0 e1 e2 e3
  obtain ⟨e0, e1, e2, e3⟩ := T2.out.1.below B7.out
  have k0 := (B7.out.cell (p := ⟨gs, os, none⟩) (lt_of_cell T2.out.2.2.2.2.1)).trans T2.out.2.2.2.2.1
  have k1 := (B7.out.cell (p := ⟨gs, os + 1, none⟩) (lt_of_cell T2.out.2.2.2.2.2)).trans T2.out.2.2.2.2.2
  go_wp2_with fail
  refine (Room_any l w7).mono ?_
  rw [E.out.2.2.2.2.2.2.1]
  rintro e w8 ⟨rfl, hb8⟩
  have B8 : Hid (Below w.heap.size w w8) := Lib.hid (bnext T2.out.2.1 (bnext B7.out hb8))
  clear hb8
  go_wp2
  go_ret
  exact ⟨rfl, B8.out⟩
end Go.Proofs.Ytoakjcmhmlngfaa
