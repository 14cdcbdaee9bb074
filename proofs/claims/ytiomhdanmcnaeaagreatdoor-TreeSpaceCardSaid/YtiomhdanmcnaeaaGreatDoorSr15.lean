/- The program's Split, at this translation. -/
import Derived.Test.YtiomhdanmcnaeaaGreatDoorSq15
namespace Go.Proofs.YtiomhdanmcnaeaaGreatDoor
open Go.RowKit

theorem Mx.later {S : Nat → Prop} {w w' : World} (h : Mx w) (m : Mod S w w') (hs : ¬ S 0) : Mx w' := by
  obtain ⟨x, hx⟩ := h
  exact ⟨x, (m.cell (p := ⟨0, 0, none⟩) (lt_of_cell hx) hs).trans hx⟩
theorem Mx.below {w w' : World} (h : Mx w) (b : Below w.heap.size w w') : Mx w' := h.later (Mod.of_below (S := fun _ => False) b) id
set_option maxRecDepth 100000 in
set_option maxHeartbeats 4000000 in
theorem Split_any (l : List UInt8) (hl : l.length ≤ 1000000) (w : World) (hm : Mx w) :
    Calls Tryz.prog 75 #[.string (str l)] w fun e w' => ∃ (A : Option Addr) (n c : Nat) (X : List (List UInt8)) (b : Bool), e = .returned (.tuple #[.slice A n c, .bool b]) ∧ IsG w' 1 encT A n X ∧ Splits l X b ∧ Below w.heap.size w w' := by
  have G0 : Hid (∀ u, IsG u 1 encT none 0 []) := Lib.hid (fun u => ⟨rfl, Nat.zero_le _, fun h => absurd h (Nat.lt_irrefl _)⟩)
  go_enter Tryz.func75, Tryz.ntmps75
  by_cases h1 : l = [47]
  · subst h1
    go_wp2
    go_ret2
    exact ⟨none, 0, 0, [], true, rfl, G0.out _, splits_root, Below.refl _ _⟩
  have hq : (l == [47]) = false := by simp [h1]
  by_cases h2 : ∃ r, l = 47 :: r
  · obtain ⟨r, rfl⟩ := h2
    have hrl : r.length ≤ 1000000 := by simp at hl; omega
    have hr : r ≠ [] := fun e => h1 (by rw [e])
    go_wp2_with fail
    refine (CutYes_any r _).mono ?_
    rintro e w1 ⟨rfl, rfl⟩
    go_wp2_with fail
    refine (SplitN_any r hrl _ hm).mono ?_
    rintro e w2 ⟨c, rfl, hG, hb⟩
    obtain ⟨X, HX⟩ : ∃ X, Hid (splitS r = X) := ⟨_, Lib.hid rfl⟩
    rw [HX.out] at hG ⊢
    have HG := Lib.hid hG
    have HB := Lib.hid hb
    have Hyes : Hid (X.length ≤ 8 → X.all nameB = true → Splits (47 :: r) X true) := Lib.hid (fun a b => by
      rw [← HX.out] at a b ⊢
      exact splits_yes a (List.all_eq_true.1 b))
    have Hno : Hid (¬ (X.length ≤ 8 ∧ X.all nameB = true) → Splits (47 :: r) [] false) := Lib.hid (fun h => splits_no hr (fun h2 => h (by
      rw [← HX.out]
      exact ⟨h2.1, List.all_eq_true.2 h2.2⟩)))
    clear hG hb
    by_cases h8 : (8 : Int) < (X.length : Int)
    · go_wp2
      go_ret2
      exact ⟨none, 0, 0, [], false, rfl, G0.out _, Hno.out (fun h => by omega), HB.out⟩
    · go_wp2_with fail
      refine (FindT_any _ _ _ _ X HG.out).mono ?_
      rintro e w3 ⟨z, rfl, hz, hb⟩
      have HB3 := Lib.hid (bnext HB.out hb)
      have HG3 := Lib.hid (HG.out.below hb)
      clear hb
      by_cases ha : X.all nameB = true
      · have hz2 : ¬ (z : Int) < (X.length : Int) := by rw [ha] at hz; simpa using hz
        have HS := Lib.hid (Hyes.out (by omega) ha)
        clear hz ha
        go_wp2
        go_ret2
        exact ⟨_, _, c, X, true, rfl, HG3.out, HS.out, HB3.out⟩
      · have hz2 : (z : Int) < (X.length : Int) := by
          have : X.all nameB = false := by simpa using ha
          rw [this] at hz; simpa using hz
        have HS := Lib.hid (Hno.out (fun h => ha h.2))
        clear hz ha
        go_wp2
        go_ret2
        exact ⟨none, 0, 0, [], false, rfl, G0.out _, HS.out, HB3.out⟩
  · have h3 : ∀ r, l ≠ 47 :: r := fun r e => h2 ⟨r, e⟩
    have HS := Lib.hid (splits_other h3)
    go_wp2_with fail
    refine (CutNo_any l h3 _).mono ?_
    rintro e w1 ⟨rfl, rfl⟩
    go_wp2_with fail
    refine (SplitN_any l hl _ hm).mono ?_
    rintro e w2 ⟨c, rfl, _, hb⟩
    obtain ⟨X, HX⟩ : ∃ X, Hid (splitS l = X) := ⟨_, Lib.hid rfl⟩
    rw [HX.out]
    clear h3 h2
    go_wp2
    go_ret2
    exact ⟨none, 0, 0, [], false, rfl, G0.out _, HS.out, hb⟩
end Go.Proofs.YtiomhdanmcnaeaaGreatDoor
