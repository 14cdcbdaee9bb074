
/- The chapter's examples of names, at this translation. -/
import Derived.Test.YtiomhdanmcnaeaaGreatDoorBc15
import Derived.Test.YtiomhdanmcnaeaaGreatDoorSx15
import Derived.Test.YtiomhdanmcnaeaaGreatDoorSn15
import Derived.Test.YtiomhdanmcnaeaaGreatDoorZn15
namespace Go.Proofs.YtiomhdanmcnaeaaGreatDoor
open Go.RowKit

theorem Splits.len {l : List UInt8} {X : List (List UInt8)} {b : Bool} (h : Splits l X b) : X.length ≤ 8 := by
  rcases h.is with ⟨_, h, _⟩ | ⟨_, h, _⟩
  · exact h.n
  · rw [h]; decide
theorem isG15_of {w : World} {A : Option Addr} {n : Nat} {ss : List (List UInt8)} (h : IsStrs w A n ss) : IsG w 1 encT A n ss ∧ ∀ s ∈ ss, s.length ≤ 9223372036854775807 := by
  refine ⟨⟨h.length, h.max, fun h0 => ?_⟩, fun s hs => by have := h.wf s hs; unfold maxLen at this; omega⟩
  obtain ⟨b, off, e, hc⟩ := h.cells h0
  refine ⟨b, off, e, lt_of_cell (hc 0 h0), fun i a j u hi hj => ?_⟩
  match j, hj with
  | 0, hj =>
    simp only [encT, List.getElem?_cons_zero, Option.some.injEq] at hj
    subst hj
    have hlt : i < n := by
      obtain ⟨h1, _⟩ := List.getElem?_eq_some_iff.1 hi
      rw [← h.length]; exact h1
    have h2 := hc i hlt
    rw [List.getD_eq_getElem?_getD, hi] at h2
    rw [Nat.mul_one, Nat.add_zero]
    exact h2
  | j + 1, hj => simp [encT] at hj
end Go.Proofs.YtiomhdanmcnaeaaGreatDoor
