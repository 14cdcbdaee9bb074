/- A path's names, with room behind them. -/
import Derived.Test.YtiomhdanmcnaeaaGreatDoorSr15
import Derived.Test.YtiomhdanmcnaeaaGreatDoorUb16
namespace Go.Proofs.YtiomhdanmcnaeaaGreatDoor
open Go.RowKit

theorem SplitC_any (r : List UInt8) (hr : r.length ≤ 1000000) (w : World) (hm : Mx w) :
    Calls Tryz.prog 90 #[.string (str r), .string ⟨#[47]⟩, .int .i64 9] w fun e w' => ∃ c, e = .returned (.slice (some ⟨w.heap.size, 0, none⟩) (splitS r).length c) ∧ (splitS r).length ≤ c ∧ IsG w' 1 encT (some ⟨w.heap.size, 0, none⟩) (splitS r).length (splitS r) ∧ Below w.heap.size w w' := by
  obtain ⟨m, hm⟩ := hm
  refine (Tryz.strings_SplitN (str r) ⟨#[47]⟩ 9 m w (by rw [str_size]; omega) hm (by decide) (by decide) (by decide)).mono ?_
  rintro e w1 ⟨rfl, rfl⟩
  have hlc : (splitS r).length ≤ min 9 (r.length + 1) := by
    have h := Lib.splitB_length_le ⟨#[47]⟩ 0 (min 9 (r.length + 1) - 1) (str r)
    rw [splitB_str, List.length_map] at h
    unfold splitS; omega
  have hlen : (splitS r).length ≤ 9 := by
    have h := Lib.splitB_length_le ⟨#[47]⟩ 0 (min 9 (r.length + 1) - 1) (str r)
    rw [splitB_str, List.length_map] at h
    unfold splitS; omega
  rw [str_size, splitB_str, List.length_map]
  refine ⟨_, rfl, hlc, ⟨rfl, by unfold splitS at hlen; unfold splitS maxLen; omega, fun h0 => ⟨_, 0, rfl, by simp, ?_⟩⟩, balloc (Below.refl _ w) _⟩
  intro i a j u hi hj
  match j, hj with
  | j + 1, hj => simp [encT] at hj
  | 0, hj =>
    have hu : u = .string (str a) := by simpa [encT] using hj.symm
    subst hu
    rw [World.cell?_alloc_at _ _ _ _ rfl]
    have hil := (List.getElem?_eq_some_iff.1 hi).1
    rw [Lib.cellsOf, List.getElem?_toArray, List.getElem?_append_left (by simpa [splitS] using hil)]
    simp only [List.getElem?_map]
    rw [show 0 + i * 1 + 0 = i by omega]
    rw [show Lib.splitK [47] 0 (min 9 (r.length + 1) - 1) r = splitS r from rfl, hi]
    rfl
set_option maxRecDepth 100000 in
set_option maxHeartbeats 4000000 in
theorem SplitE_any (l : List UInt8) (hl : l.length ≤ 1000000) (w : World) (hm : Mx w) :
    Calls Tryz.prog 75 #[.string (str l)] w fun e w' => ∃ (A : Option Addr) (n c : Nat) (X : List (List UInt8)) (b : Bool), e = .returned (.tuple #[.slice A n c, .bool b]) ∧ n ≤ c ∧ (∀ g off, A = some ⟨g, off, none⟩ → w.heap.size ≤ g) ∧ IsG w' 1 encT A n X ∧ Splits l X b ∧ Below w.heap.size w w' := by
  have G0 : Hid (∀ u, IsG u 1 encT none 0 []) := Lib.hid (fun u => ⟨rfl, Nat.zero_le _, fun h => absurd h (Nat.lt_irrefl _)⟩)
  go_enter Tryz.func75, Tryz.ntmps75
  by_cases h1 : l = [47]
  · subst h1
    go_wp2
    go_ret2
    exact ⟨none, 0, 0, [], true, rfl, Nat.le_refl _, (fun _ _ e => by cases e), G0.out _, splits_root, Below.refl _ _⟩
  have hq : (l == [47]) = false := by simp [h1]
  by_cases h2 : ∃ r, l = 47 :: r
  · obtain ⟨r, rfl⟩ := h2
    have hrl : r.length ≤ 1000000 := by simp at hl; omega
    have hr : r ≠ [] := fun e => h1 (by rw [e])
    go_wp2_with fail
    refine (CutYes_any r _).mono ?_
    rintro e w1 ⟨rfl, rfl⟩
    go_wp2_with fail
    refine (SplitC_any r hrl _ hm).mono ?_
    rintro e w2 ⟨c, rfl, hcc, hG, hb⟩
    obtain ⟨X, HX⟩ : ∃ X, Hid (splitS r = X) := ⟨_, Lib.hid rfl⟩
    rw [HX.out] at hG ⊢
    have HG := Lib.hid hG
    rw [HX.out] at hcc
    have HCC := Lib.hid hcc
    clear hcc
    have HB := Lib.hid hb
    have Hyes : Hid (X.length ≤ 8 → X.all nameB = true → Splits (47 :: r) X true) := Lib.hid (fun a b => by
      rw [← HX.out] at a b ⊢
      exact splits_yes a (List.all_eq_true.1 b))
    have Hno : Hid (¬ (X.length ≤ 8 ∧ X.all nameB = true) → Splits (47 :: r) [] false) := Lib.hid (fun h => splits_no hr (fun h2 => h (by
      rw [← HX.out]
      exact ⟨h2.1, List.all_eq_true.2 h2.2⟩)))
    clear hG hb
    by_cases h8 : (8 : Int) < (X.length : Int)
    · go_wp2
      go_ret2
      exact ⟨none, 0, 0, [], false, rfl, Nat.le_refl _, (fun _ _ e => by cases e), G0.out _, Hno.out (fun h => by omega), HB.out⟩
    · go_wp2_with fail
      refine (FindT_any _ _ _ _ X HG.out).mono ?_
      rintro e w3 ⟨z, rfl, hz, hb⟩
      have HB3 := Lib.hid (bnext HB.out hb)
      have HG3 := Lib.hid (HG.out.below hb)
      clear hb
      by_cases ha : X.all nameB = true
      · have hz2 : ¬ (z : Int) < (X.length : Int) := by rw [ha] at hz; simpa using hz
        have HS := Lib.hid (Hyes.out (by omega) ha)
        clear hz ha
        go_wp2
        go_ret2
        exact ⟨_, _, c, X, true, rfl, HCC.out, (fun _ _ e => by injection e with e; injection e with e1; omega), HG3.out, HS.out, HB3.out⟩
      · have hz2 : (z : Int) < (X.length : Int) := by
          have : X.all nameB = false := by simpa using ha
          rw [this] at hz; simpa using hz
        have HS := Lib.hid (Hno.out (fun h => ha h.2))
        clear hz ha
        go_wp2
        go_ret2
        exact ⟨none, 0, 0, [], false, rfl, Nat.le_refl _, (fun _ _ e => by cases e), G0.out _, HS.out, HB3.out⟩
  · have h3 : ∀ r, l ≠ 47 :: r := fun r e => h2 ⟨r, e⟩
    have HS := Lib.hid (splits_other h3)
    go_wp2_with fail
    refine (CutNo_any l h3 _).mono ?_
    rintro e w1 ⟨rfl, rfl⟩
    go_wp2_with fail
    refine (SplitC_any l hl _ hm).mono ?_
    rintro e w2 ⟨c, rfl, hcc, _, hb⟩
    obtain ⟨X, HX⟩ : ∃ X, Hid (splitS l = X) := ⟨_, Lib.hid rfl⟩
    rw [HX.out]
    clear h3 h2
    go_wp2
    go_ret2
    exact ⟨none, 0, 0, [], false, rfl, Nat.le_refl _, (fun _ _ e => by cases e), G0.out _, HS.out, hb⟩
/-- The names of a path that is one. -/
theorem Splits.path {X Y : List (List UInt8)} {b : Bool} (h : Splits (pathOf X) Y b) (hx : PathOk X) : Y = X ∧ b = true := by
  rcases h.is with ⟨h1, h2, h3⟩ | ⟨_, _, h3⟩
  · exact ⟨pathOf_inj h2 hx h3, h1⟩
  · exact absurd rfl (h3 X hx)
set_option maxRecDepth 100000 in
theorem names_any (X : List (List UInt8)) (hX : PathOk X) (hl : (pathOf X).length ≤ 1000000) (least : Nat) (hle : least ≤ X.length) (w : World) (hm : Mx w) :
    Calls Tryz.prog 45 #[.string (str (pathOf X)), .int .i64 (least : Int)] w fun e w' => ∃ A n c, e = .returned (.tuple #[.slice A n c, .bool true]) ∧ n = X.length ∧ n ≤ c ∧ (∀ g off, A = some ⟨g, off, none⟩ → w.heap.size ≤ g) ∧ IsG w' 1 encT A n X ∧ Below w.heap.size w w' := by
  obtain ⟨l, Hl⟩ : ∃ r, Hid (pathOf X = r) := ⟨_, Lib.hid rfl⟩
  rw [Hl.out] at hl ⊢
  have HX := Lib.hid hX
  clear hX
  go_enter Tryz.func45, Tryz.ntmps45
  go_wp2_with fail
  refine (SplitE_any l hl w hm).mono ?_
  rintro e w2 ⟨A, n, c, Y, bb, rfl, hnc, hnew, hG, hS, hb⟩
  have HNW := Lib.hid hnew
  clear hnew
  rw [← Hl.out] at hS
  obtain ⟨rfl, rfl⟩ := hS.path HX.out
  have hn : n = Y.length := hG.length.symm
  subst hn
  have HG := Lib.hid hG
  have HB := Lib.hid hb
  have hge : (least : Int) ≤ (Y.length : Int) := by omega
  have HNC := Lib.hid hnc
  clear hG hb hS hnc
  go_wp2
  go_ret2
  exact ⟨A, Y.length, c, rfl, rfl, HNC.out, HNW.out, HG.out, HB.out⟩
end Go.Proofs.YtiomhdanmcnaeaaGreatDoor
