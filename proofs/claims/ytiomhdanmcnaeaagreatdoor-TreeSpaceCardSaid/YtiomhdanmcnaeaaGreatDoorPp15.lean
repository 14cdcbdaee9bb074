/- PLAIN: names that are put together as a path, and split again. -/
import Derived.Test.YtiomhdanmcnaeaaGreatDoorAw15
namespace Go.Proofs.YtiomhdanmcnaeaaGreatDoor
open Go.RowKit

def slashT (T : List (List UInt8)) : Bool := T.any fun s => s.any (· == 47)
theorem slash_step {T : List (List UInt8)} {i : Nat} {s : List UInt8} (h : T[i]? = some s) : slashT (T.take (i + 1)) = (slashT (T.take i) || s.any (· == 47)) := by
  rw [List.take_add_one, h]
  simp [slashT]
theorem any_step {s : List UInt8} {k : Nat} (h : k < s.length) : (s.take (k + 1)).any (· == 47) = ((s.take k).any (· == 47) || s[k] == 47) := by
  rw [List.take_succ_eq_append_getElem h, List.any_append, List.any_cons, List.any_nil, Bool.or_false]
theorem join_step {T : List (List UInt8)} {i : Nat} {s : List UInt8} (h : T[i]? = some s) : joinP (T.take (i + 1)) = (joinP (T.take i) ++ [47]) ++ s := by
  rw [List.take_add_one, h, joinP_append]
  simp [joinP]
theorem take_some {α : Type} {T : List α} {i : Nat} {s : α} (h : T[i]? = some s) : T.take (i + 1) = T.take i ++ [s] := by
  rw [List.take_add_one, h]
  rfl
theorem joinP_len {T : List (List UInt8)} {m : Nat} (h : ∀ s ∈ T, s.length ≤ m) : (joinP T).length ≤ (m + 1) * T.length := by
  induction T with
  | nil => simp [joinP]
  | cons a T ih =>
    have h1 := ih (fun s hs => h s (List.mem_cons_of_mem _ hs))
    have h2 := h a (by simp)
    rw [joinP_cons, List.length_cons, List.length_append, List.length_cons, Nat.mul_add]
    omega
/-- Names without a slash, put together, are split again one way only. -/
theorem paths_say {T X : List (List UInt8)} {b : Bool} (h : Splits (pathOf T) X b) (hT : ¬ PathOk T) (hb : b = true) (hs : slashT T = false) : pathOf T = [47] := by
  rcases h.is with ⟨_, hX, e⟩ | ⟨e, _⟩
  · by_cases hT0 : T = []
    · rw [hT0]; rfl
    by_cases hX0 : X = []
    · rw [← e, hX0]; rfl
    have eT : pathOf T = joinP T := by rw [pathOf, if_neg hT0]
    have eX : pathOf X = joinP X := by rw [pathOf, if_neg hX0]
    have hTs : ∀ y ∈ T, ∀ c ∈ y, c ≠ 47 := fun y hy c hc e => by
      have : slashT T = true := by
        rw [slashT, List.any_eq_true]
        exact ⟨y, hy, List.any_eq_true.2 ⟨c, hc, by simp [e]⟩⟩
      rw [hs] at this
      cases this
    have hXs : ∀ y ∈ X, ∀ c ∈ y, c ≠ 47 := fun y hy => name_slash (hX.a y hy)
    obtain ⟨s, hs2⟩ : ∃ s, joinP T = 47 :: s := by
      rcases joinP_start T with h | h
      · rcases T with _ | ⟨a, T⟩
        · exact absurd rfl hT0
        · rw [joinP_cons] at h; cases h
      · exact h
    have k1 := split_of T (T.length + X.length) s hT0 hTs (by omega) hs2
    have k2 := split_of X (T.length + X.length) s hX0 hXs (by omega) (by rw [← hs2, ← eT, ← e, eX])
    exact absurd (by rw [← k1, k2]; exact hX) hT
  · rw [hb] at e; cases e
end Go.Proofs.YtiomhdanmcnaeaaGreatDoor
