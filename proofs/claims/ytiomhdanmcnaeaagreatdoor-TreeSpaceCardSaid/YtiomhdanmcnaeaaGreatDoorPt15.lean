/- PLAIN: paths and their names. -/
import Derived.Test.YtiomhdanmcnaeaaGreatDoorEn15
import Derived.Lib.Split
import Derived.Lib.SplitLaws
namespace Go.Proofs.YtiomhdanmcnaeaaGreatDoor
open Go.RowKit

/-- Names, each with a '/' ahead. -/
def joinP (ns : List (List UInt8)) : List UInt8 := ns.flatMap fun s => 47 :: s
theorem joinP_cons (s : List UInt8) (ns : List (List UInt8)) : joinP (s :: ns) = 47 :: (s ++ joinP ns) := rfl
theorem joinP_append (a b : List (List UInt8)) : joinP (a ++ b) = joinP a ++ joinP b := List.flatMap_append
theorem joinP_start : ∀ ns : List (List UInt8), joinP ns = [] ∨ ∃ r, joinP ns = 47 :: r
  | [] => .inl rfl
  | s :: ns => .inr ⟨_, joinP_cons s ns⟩
def pathOf (ns : List (List UInt8)) : List UInt8 := if ns = [] then [47] else joinP ns
structure PathOk (ns : List (List UInt8)) : Prop where
  n : ns.length ≤ 8
  a : ∀ s ∈ ns, nameB s = true
theorem name_slash {s : List UInt8} (h : nameB s = true) : ∀ c ∈ s, c ≠ 47 := by
  intro c hc e
  subst e
  simp only [nameB, Bool.and_eq_true] at h
  have h2 := List.all_eq_true.1 h.2 _ hc
  exact absurd h2 (by decide)
theorem name_some {s : List UInt8} (h : nameB s = true) : 1 ≤ s.length ∧ s.length ≤ 30 := by
  simp only [nameB, Bool.and_eq_true, decide_eq_true_eq] at h
  exact ⟨h.1.1.1.1, h.1.1.1.2⟩
/-- Where the first '/' stands. -/
theorem index_no : ∀ y : List UInt8, (∀ c ∈ y, c ≠ 47) → Lib.index y [47] = -1
  | [], _ => by simp [Lib.index]
  | b :: l, h => by
    have ih := index_no l (fun c hc => h c (List.mem_cons_of_mem _ hc))
    have hb : b ≠ 47 := h b (by simp)
    have hp : ([47] : List UInt8).isPrefixOf (b :: l) = false := by simp [List.isPrefixOf, Ne.symm hb]
    rw [Lib.index, hp]
    simp [ih]
theorem index_at (r : List UInt8) : ∀ y : List UInt8, (∀ c ∈ y, c ≠ 47) → Lib.index (y ++ 47 :: r) [47] = (y.length : Int)
  | [], _ => by rw [List.nil_append, Lib.index]; simp [List.isPrefixOf]
  | b :: l, h => by
    have ih := index_at r l (fun c hc => h c (List.mem_cons_of_mem _ hc))
    have hb : b ≠ 47 := h b (by simp)
    have hp : ([47] : List UInt8).isPrefixOf (b :: (l ++ 47 :: r)) = false := by simp [List.isPrefixOf, Ne.symm hb]
    rw [List.cons_append, Lib.index, hp, ih]
    simp
theorem cut_first : ∀ s : List UInt8, (∀ c ∈ s, c ≠ 47) ∨ ∃ y r, s = y ++ 47 :: r ∧ ∀ c ∈ y, c ≠ 47
  | [] => .inl (by simp)
  | b :: l => by
    by_cases hb : b = 47
    · subst hb; exact .inr ⟨[], l, rfl, by simp⟩
    · rcases cut_first l with h | ⟨y, r, e, h⟩
      · exact .inl (by
          intro c hc
          rcases List.mem_cons.1 hc with rfl | hc
          · exact hb
          · exact h c hc)
      · exact .inr ⟨b :: y, r, by rw [e]; rfl, by
          intro c hc
          rcases List.mem_cons.1 hc with rfl | hc
          · exact hb
          · exact h c hc⟩
theorem split_no (k : Nat) {s : List UInt8} (h : ∀ c ∈ s, c ≠ 47) : Lib.splitK [47] 0 k s = [s] := by
  cases k with
  | zero => rfl
  | succ k => rw [Lib.splitK, if_pos (by rw [index_no s h]; rfl)]
theorem split_hit (k : Nat) {y : List UInt8} (r : List UInt8) (h : ∀ c ∈ y, c ≠ 47) : Lib.splitK [47] 0 (k + 1) (y ++ 47 :: r) = y :: Lib.splitK [47] 0 k r := by
  have hi := index_at r y h
  rw [Lib.splitK, if_neg (by rw [hi]; simp), hi]
  simp
theorem split_join : ∀ (k : Nat) (s : List UInt8), joinP (Lib.splitK [47] 0 k s) = 47 :: s
  | 0, s => by simp [Lib.splitK, joinP]
  | k + 1, s => by
    rcases cut_first s with h | ⟨y, r, rfl, h⟩
    · rw [split_no _ h]; simp [joinP]
    · rw [split_hit k r h, joinP_cons, split_join k r]
theorem split_some (k : Nat) (s : List UInt8) : Lib.splitK [47] 0 k s ≠ [] := by
  intro e
  have h := split_join k s
  rw [e] at h
  cases h
theorem split_of : ∀ (Y : List (List UInt8)) (k : Nat) (s : List UInt8), Y ≠ [] → (∀ y ∈ Y, ∀ c ∈ y, c ≠ 47) → Y.length ≤ k + 1 → joinP Y = 47 :: s → Lib.splitK [47] 0 k s = Y
  | [], _, _, h, _, _, _ => absurd rfl h
  | [y], k, s, _, hn, _, e => by
    have : s = y := by simpa [joinP] using e.symm
    subst this
    exact split_no k (hn _ (by simp))
  | y :: z :: Z, k, s, _, hn, hk, e => by
    rw [joinP_cons, joinP_cons] at e
    injection e with _ e
    cases k with
    | zero => simp at hk
    | succ k =>
      rw [← e, split_hit k _ (hn y (by simp)), split_of (z :: Z) k (z ++ joinP Z) (by simp) (fun u hu => hn u (List.mem_cons_of_mem _ hu)) (by simpa using hk) (joinP_cons z Z)]
/-- What a splitting gives: the names whose path it is, or none. -/
structure Splits (l : List UInt8) (X : List (List UInt8)) (b : Bool) : Prop where
  is : (b = true ∧ PathOk X ∧ pathOf X = l) ∨ (b = false ∧ X = [] ∧ ∀ Y, PathOk Y → pathOf Y ≠ l)
theorem pathOf_inj {X Y : List (List UInt8)} (hx : PathOk X) (hy : PathOk Y) (h : pathOf X = pathOf Y) : X = Y := by
  have one : ∀ {Z : List (List UInt8)}, PathOk Z → Z ≠ [] → joinP Z ≠ [47] := by
    intro Z hz hne e
    obtain ⟨z, Z, rfl⟩ : ∃ z t, Z = z :: t := List.exists_cons_of_ne_nil hne
    rw [joinP_cons] at e
    injection e with _ e
    have h1 := name_some (hz.a z (by simp))
    have h2 := (List.append_eq_nil_iff.1 e).1
    rw [h2] at h1
    simp at h1
  unfold pathOf at h
  split at h <;> split at h
  · rename_i h1 h2; rw [h1, h2]
  · rename_i h1 h2; exact absurd h.symm (one hy h2)
  · rename_i h1 h2; exact absurd h (one hx h1)
  · rename_i h1 h2
    obtain ⟨s, hs⟩ : ∃ s, joinP X = 47 :: s := by
      rcases joinP_start X with e | e
      · obtain ⟨z, Z, rfl⟩ := List.exists_cons_of_ne_nil h1
        cases e
      · exact e
    have a := split_of X 8 s h1 (fun y hy' => name_slash (hx.a y hy')) (by have := hx.n; omega) hs
    have b := split_of Y 8 s h2 (fun y hy' => name_slash (hy.a y hy')) (by have := hy.n; omega) (h ▸ hs)
    exact a.symm.trans b
theorem Splits.same {l : List UInt8} {X Y : List (List UInt8)} {b c : Bool} (h : Splits l X b) (k : Splits l Y c) : X = Y ∧ b = c := by
  rcases h.is with ⟨h1, h2, h3⟩ | ⟨h1, h2, h3⟩ <;> rcases k.is with ⟨k1, k2, k3⟩ | ⟨k1, k2, k3⟩
  · exact ⟨pathOf_inj h2 k2 (h3.trans k3.symm), h1.trans k1.symm⟩
  · exact (k3 X h2 h3).elim
  · exact (h3 Y k2 k3).elim
  · exact ⟨h2.trans k2.symm, h1.trans k1.symm⟩
theorem Splits.of {X Z : List (List UInt8)} {b : Bool} (hx : PathOk X) (h : Splits (pathOf X) Z b) : Z = X ∧ b = true := h.same ⟨.inl ⟨rfl, hx, rfl⟩⟩
theorem no_head {a U V : List UInt8} (ha : ∀ c ∈ a, c ≠ 47) (hU : V = [] ∨ ∃ r, V = 47 :: r) (h : V = a ++ U) : a = [] := by
  rcases a with _ | ⟨x, t⟩
  · rfl
  · rcases hU with e | ⟨r, e⟩
    · rw [e] at h; cases h
    · rw [e] at h
      injection h with h _
      exact absurd h.symm (ha x (by simp))
/-- Of a path's bytes up to within a name: the path's names. -/
theorem parts_in {name r : List UInt8} (hn : ∀ c ∈ name, c ≠ 47) : ∀ (out Y : List (List UInt8)), (∀ y ∈ out, ∀ c ∈ y, c ≠ 47) → (∀ y ∈ Y, ∀ c ∈ y, c ≠ 47) → joinP Y = joinP out ++ 47 :: (name ++ r) → ∃ t Z, Y = out ++ (name ++ t) :: Z ∧ r = t ++ joinP Z
  | [], [], _, _, h => by cases h
  | [], y :: Z, _, hy, h => by
    rw [joinP_cons] at h
    injection h with _ h
    rcases List.append_eq_append_iff.1 h with ⟨a, e1, e2⟩ | ⟨a, e1, e2⟩
    · have ha : a = [] := no_head (fun c hc => hn c (by rw [e1]; exact List.mem_append_right _ hc)) (joinP_start Z) e2
      subst ha
      refine ⟨[], Z, ?_, ?_⟩
      · rw [List.append_nil] at e1 ⊢; rw [e1]; rfl
      · simpa using e2.symm
    · exact ⟨a, Z, by rw [e1]; rfl, e2⟩
  | o :: O, [], _, _, h => by cases h
  | o :: O, y :: Z, ho, hy, h => by
    rw [joinP_cons, joinP_cons, List.cons_append] at h
    injection h with _ h
    rw [List.append_assoc] at h
    have hR : (joinP O ++ 47 :: (name ++ r)) = [] ∨ ∃ u, (joinP O ++ 47 :: (name ++ r)) = 47 :: u := by
      rcases joinP_start O with e | ⟨u, e⟩
      · exact .inr ⟨name ++ r, by rw [e]; rfl⟩
      · exact .inr ⟨u ++ 47 :: (name ++ r), by rw [e]; rfl⟩
    have hyo : y = o ∧ joinP Z = joinP O ++ 47 :: (name ++ r) := by
      rcases List.append_eq_append_iff.1 h with ⟨a, e1, e2⟩ | ⟨a, e1, e2⟩
      · have ha : a = [] := no_head (fun c hc => ho o (by simp) c (by rw [e1]; exact List.mem_append_right _ hc)) (joinP_start Z) e2
        subst ha
        exact ⟨by rw [e1, List.append_nil], by simpa using e2⟩
      · have ha : a = [] := no_head (fun c hc => hy y (by simp) c (by rw [e1]; exact List.mem_append_right _ hc)) hR e2
        subst ha
        exact ⟨by rw [e1, List.append_nil], by simpa using e2.symm⟩
    obtain ⟨t, Z', e, e2⟩ := parts_in hn O Z (fun u hu => ho u (List.mem_cons_of_mem _ hu)) (fun u hu => hy u (List.mem_cons_of_mem _ hu)) hyo.2
    exact ⟨t, Z', by rw [hyo.1, e]; rfl, e2⟩
theorem pathOf_join {Y : List (List UInt8)} {l : List UInt8} (h : pathOf Y = l) (hl : l ≠ [47]) : Y ≠ [] ∧ joinP Y = l := by
  unfold pathOf at h
  split at h
  · exact absurd h.symm hl
  · exact ⟨by assumption, h⟩
theorem splits_root : Splits [47] [] true := ⟨.inl ⟨rfl, ⟨by simp, by simp⟩, rfl⟩⟩
theorem splits_other {l : List UInt8} (h : ∀ r, l ≠ 47 :: r) : Splits l [] false := ⟨.inr ⟨rfl, rfl, fun Y _ e => by
  obtain ⟨h1, h2⟩ := pathOf_join e (h [])
  rcases joinP_start Y with e2 | ⟨r, e2⟩
  · obtain ⟨z, Z, rfl⟩ := List.exists_cons_of_ne_nil h1
    cases e2
  · exact h r (h2 ▸ e2)⟩⟩
/-- The program's way. -/
def splitS (r : List UInt8) : List (List UInt8) := Lib.splitK [47] 0 (min 9 (r.length + 1) - 1) r
theorem splits_yes {r : List UInt8} (h : (splitS r).length ≤ 8) (ha : ∀ s ∈ splitS r, nameB s = true) : Splits (47 :: r) (splitS r) true := ⟨.inl ⟨rfl, ⟨h, ha⟩, by
  rw [pathOf, if_neg (show splitS r ≠ [] from split_some _ _)]
  exact split_join _ _⟩⟩
theorem splits_no {r : List UInt8} (hr : r ≠ []) (h : ¬ ((splitS r).length ≤ 8 ∧ ∀ s ∈ splitS r, nameB s = true)) : Splits (47 :: r) [] false := ⟨.inr ⟨rfl, rfl, fun Y hY e => h (by
  obtain ⟨h1, h2⟩ := pathOf_join e (by intro e; injection e with _ e; exact hr e)
  have hlen : ∀ Z : List (List UInt8), (∀ s ∈ Z, nameB s = true) → 2 * Z.length ≤ (joinP Z).length := by
    intro Z
    induction Z with
    | nil => simp [joinP]
    | cons z Z ih =>
      intro hz
      have h3 := ih (fun s hs => hz s (List.mem_cons_of_mem _ hs))
      have h4 := name_some (hz z (by simp))
      rw [joinP_cons, List.length_cons, List.length_cons, List.length_append]
      omega
  have h5 := hlen Y hY.a
  rw [h2, List.length_cons] at h5
  have h6 := hY.n
  have h7 : 1 ≤ r.length := by
    rcases r with _ | ⟨x, t⟩
    · exact absurd rfl hr
    · simp
  have := split_of Y (min 9 (r.length + 1) - 1) r h1 (fun y hy => name_slash (hY.a y hy)) (by omega) h2
  rw [splitS, this]
  exact ⟨hY.n, hY.a⟩)⟩⟩
/-- The document's way: refused within a name that is too long; at its end. -/
theorem splits_long {l name r : List UInt8} {out : List (List UInt8)} (hl : l = joinP out ++ 47 :: (name ++ r)) (hne : l ≠ [47]) (hn : ∀ c ∈ name, c ≠ 47) (ho : ∀ s ∈ out, nameB s = true) (h : 30 < name.length) : Splits l [] false := ⟨.inr ⟨rfl, rfl, fun Y hY e => by
  obtain ⟨h1, h2⟩ := pathOf_join e hne
  obtain ⟨t, Z, e1, _⟩ := parts_in hn out Y (fun y hy => name_slash (ho y hy)) (fun y hy => name_slash (hY.a y hy)) (h2.trans hl)
  have h3 := name_some (hY.a (name ++ t) (by rw [e1]; simp))
  rw [List.length_append] at h3
  omega⟩⟩
theorem splits_bad {l name r : List UInt8} {out : List (List UInt8)} (hl : l = joinP out ++ 47 :: (name ++ r)) (hne : l ≠ [47]) (hr : r = [] ∨ ∃ u, r = 47 :: u) (hn : ∀ c ∈ name, c ≠ 47) (ho : ∀ s ∈ out, nameB s = true) (h : nameB name = false ∨ 8 ≤ out.length) : Splits l [] false := ⟨.inr ⟨rfl, rfl, fun Y hY e => by
  obtain ⟨h1, h2⟩ := pathOf_join e hne
  obtain ⟨t, Z, e1, e2⟩ := parts_in hn out Y (fun y hy => name_slash (ho y hy)) (fun y hy => name_slash (hY.a y hy)) (h2.trans hl)
  have hm : nameB (name ++ t) = true := hY.a (name ++ t) (by rw [e1]; simp)
  have ht : t = [] := no_head (fun c hc => name_slash hm c (List.mem_append_right _ hc)) hr e2
  subst ht
  rw [List.append_nil] at hm
  rcases h with h | h
  · rw [hm] at h; cases h
  · have h3 := hY.n
    rw [e1, List.length_append, List.length_cons] at h3
    omega⟩⟩
theorem splits_done {l : List UInt8} {out : List (List UInt8)} (hl : joinP out = l) (hne : out ≠ []) (hn : out.length ≤ 8) (ho : ∀ s ∈ out, nameB s = true) : Splits l out true := ⟨.inl ⟨rfl, ⟨hn, ho⟩, by rw [pathOf, if_neg hne, hl]⟩⟩
end Go.Proofs.YtiomhdanmcnaeaaGreatDoor
