/- A new disk's maps, at this translation. -/
import Derived.Test.YtoakjcmhmlngfaaLb17
import Derived.Laws.ResultCell
namespace Go.Proofs.Ytoakjcmhmlngfaa
open Go.RowKit

theorem t_four (w : World) (z : List UInt8) : IsG (w.alloc (.cells #[.string (str z), .string (str z), .string (str z), .string (str z)] 9)) 1 encT (some ⟨w.heap.size, 0, none⟩) 4 [z, z, z, z] := by
  refine ⟨rfl, by decide, fun _ => ⟨_, 0, rfl, by simp, fun i a j u hi hj => ?_⟩⟩
  match i, j, hi, hj with
  | 0, 0, hi, hj => simp at hi; subst hi; simp [encT] at hj; subst hj; simp [go_sem]
  | 1, 0, hi, hj => simp at hi; subst hi; simp [encT] at hj; subst hj; simp [go_sem]
  | 2, 0, hi, hj => simp at hi; subst hi; simp [encT] at hj; subst hj; simp [go_sem]
  | 3, 0, hi, hj => simp at hi; subst hi; simp [encT] at hj; subst hj; simp [go_sem]
  | i + 4, _, hi, _ => simp at hi
  | _, j + 1, _, hj => simp [encT] at hj
def freshL (s : Int) : Lay := layN s 3
def freshM (s : Int) : List (List UInt8) := [layM (freshL s), layM (freshL s), layM (freshL s), layM (freshL s)]
set_option maxRecDepth 100000 in
set_option maxHeartbeats 2000000 in
theorem fresh_any (s : Int) (w : World) :
    Calls Try.prog 6 #[.int .i64 s] w fun e w' => ∃ g, e = .returned (.tuple #[(freshL s).v, .slice (some ⟨g, 0, none⟩) 4 4]) ∧ IsG w' 1 encT (some ⟨g, 0, none⟩) 4 (freshM s) ∧ w.heap.size ≤ g ∧ Below w.heap.size w w' := by
  obtain ⟨l, Hl⟩ : ∃ l, Hid (layN s 3 = l) := ⟨_, Lib.hid rfl⟩
  obtain ⟨er, Her⟩ : ∃ l, Hid (layE s 3 = l) := ⟨_, Lib.hid rfl⟩
  obtain ⟨m, Hm⟩ : ∃ m, Hid (layM l = m) := ⟨_, Lib.hid rfl⟩
  have HF : Hid (freshL s = l ∧ freshM s = [m, m, m, m]) := Lib.hid (by unfold freshM freshL; rw [Hl.out, Hm.out]; exact ⟨rfl, rfl⟩)
  rw [HF.out.1, HF.out.2]
  obtain ⟨W, HW⟩ : ∃ W, Hid (w.alloc (.cells #[.int .i64 0, .int .i64 0, .int .i64 0, .int .i64 0] 25) = W) := ⟨_, Lib.hid rfl⟩
  obtain ⟨r, Hr⟩ : ∃ p, Hid (w.heap.size = p) := ⟨_, Lib.hid rfl⟩
  have Z : Hid (W.cell? ⟨r, 0, none⟩ = some (.int .i64 0) ∧ W.cell? ⟨r, 1, none⟩ = some (.int .i64 0) ∧ W.cell? ⟨r, 2, none⟩ = some (.int .i64 0) ∧ W.cell? ⟨r, 3, none⟩ = some (.int .i64 0) ∧ W.frozen? ⟨r, 0, none⟩ = false ∧ W.frozen? ⟨r, 1, none⟩ = false ∧ W.frozen? ⟨r, 2, none⟩ = false ∧ W.frozen? ⟨r, 3, none⟩ = false ∧ Below w.heap.size w W) := Lib.hid (by
    rw [← HW.out, ← Hr.out]
    exact ⟨by simp [go_sem], by simp [go_sem], by simp [go_sem], by simp [go_sem], by simp [go_sem], by simp [go_sem], by simp [go_sem], by simp [go_sem], balloc (Below.refl _ _) _⟩)
  go_enter Try.func6, Try.ntmps6
  go_wp2_with fail
  rw [HW.out, Hr.out]
  refine (XLNew_any s 3 W).mono ?_
  rw [Hl.out, Her.out]
  rintro e w1 ⟨rfl, b1⟩
  have B1 := Lib.hid b1
  obtain ⟨q, Hq⟩ : ∃ q, Hid (w1.heap.size = q) := ⟨_, Lib.hid rfl⟩
  obtain ⟨W1, HW1⟩ : ∃ W, Hid (w1.alloc (.cells #[.int .i64 l.s, .int .i64 l.n, .int .i64 l.f, .int .i64 l.z] 25) = W) := ⟨_, Lib.hid rfl⟩
  have L1 : Hid (LayAt W1 q l ∧ Below W.heap.size W W1) := Lib.hid (by
    rw [← HW1.out, ← Hq.out]
    exact ⟨⟨by go_simp, by go_simp, by go_simp, by go_simp⟩, bnext B1.out (balloc (Below.refl _ _) _)⟩)
  obtain ⟨e0, e1, e2, e3⟩ := L1.out.1
  rw [← HW1.out] at e0 e1 e2 e3
  clear b1
  go_wp2_with fail
  rw [HW1.out, Hq.out]
  refine (XLMap_any l W1).mono ?_
  rw [Hm.out]
  rintro e w2 ⟨rfl, b2⟩
  have L2 : Hid (LayAt w2 q l ∧ Below W.heap.size W w2) := Lib.hid ⟨L1.out.1.below b2, bnext L1.out.2 b2⟩
  have rl : r < W.heap.size := lt_of_cell Z.out.1
  have z0 := (L2.out.2.cell (p := ⟨r, 0, none⟩) rl).trans Z.out.1
  have z1 := (L2.out.2.cell (p := ⟨r, 1, none⟩) rl).trans Z.out.2.1
  have z2 := (L2.out.2.cell (p := ⟨r, 2, none⟩) rl).trans Z.out.2.2.1
  have z3 := (L2.out.2.cell (p := ⟨r, 3, none⟩) rl).trans Z.out.2.2.2.1
  have f0 := (L2.out.2.frozen (p := ⟨r, 0, none⟩) rl).trans Z.out.2.2.2.2.1
  have f1 := (L2.out.2.frozen (p := ⟨r, 1, none⟩) rl).trans Z.out.2.2.2.2.2.1
  have f2 := (L2.out.2.frozen (p := ⟨r, 2, none⟩) rl).trans Z.out.2.2.2.2.2.2.1
  have f3 := (L2.out.2.frozen (p := ⟨r, 3, none⟩) rl).trans Z.out.2.2.2.2.2.2.2.1
  obtain ⟨U, HU⟩ : ∃ u, Hid (w2.alloc (.cells #[.string (str m), .string (str m), .string (str m), .string (str m)] 9) = u) := ⟨_, Lib.hid rfl⟩
  obtain ⟨g, Hg⟩ : ∃ g, Hid (w2.heap.size = g) := ⟨_, Lib.hid rfl⟩
  have bU : Below w2.heap.size w2 U := by rw [← HU.out]; exact balloc (Below.refl _ _) _
  have hI : Hid (IsG U 1 encT (some ⟨g, 0, none⟩) 4 [m, m, m, m]) := Lib.hid (by rw [← HU.out, ← Hg.out]; exact t_four w2 m)
  have rl2 := lt_of_cell z0
  have y0 := (bU.cell (p := ⟨r, 0, none⟩) rl2).trans z0
  have y1 := (bU.cell (p := ⟨r, 1, none⟩) rl2).trans z1
  have y2 := (bU.cell (p := ⟨r, 2, none⟩) rl2).trans z2
  have y3 := (bU.cell (p := ⟨r, 3, none⟩) rl2).trans z3
  have x0 := (bU.frozen (p := ⟨r, 0, none⟩) rl2).trans f0
  have x1 := (bU.frozen (p := ⟨r, 1, none⟩) rl2).trans f1
  have x2 := (bU.frozen (p := ⟨r, 2, none⟩) rl2).trans f2
  have x3 := (bU.frozen (p := ⟨r, 3, none⟩) rl2).trans f3
  have hrg : Hid (r < g) := Lib.hid (by rw [← Hg.out]; exact rl2)
  have hwr : Hid (w.heap.size ≤ r) := Lib.hid (by rw [Hr.out]; exact Nat.le_refl _)
  have BU : Hid (Below w.heap.size w U) := Lib.hid (bnext Z.out.2.2.2.2.2.2.2.2 (bnext L2.out.2 bU))
  have LU : Hid (LayAt U q l) := Lib.hid (L2.out.1.below bU)
  clear z0 z1 z2 z3 f0 f1 f2 f3 rl rl2
  rw [← HU.out] at y0 y1 y2 y3 x0 x1 x2 x3
  clear e0 e1 e2 e3 b2
  obtain ⟨e0, e1, e2, e3⟩ := L2.out.1
  go_wp2
  rw [HU.out] at y0 y1 y2 y3 x0 x1 x2 x3
  rw [HU.out, Hg.out]
  refine bodyPost_ret (v := .tuple #[l.v, .slice (some ⟨g, 0, none⟩) 4 4]) ?_ rfl ⟨g, rfl, ?_, ?_, ?_⟩
  · rw [results_cell_tmp rfl]
    go_simp
  · exact hI.out.later (S := (· = r)) (((((Mod.refl (· = r) U).set1 _).set1 _).set1 _).set1 _) (fun _ _ e _ => by cases e; exact fun e2 => by have := hrg.out; omega)
  · have := hrg.out; have := hwr.out; omega
  · exact (((((Mod.refl (· = r) U).set1 _).set1 _).set1 _).set1 _).below BU.out BU.out.size (fun i e => by rw [e]; exact hwr.out)
end Go.Proofs.Ytoakjcmhmlngfaa
