/- The last of the words for laws of free sectors: all that they import, at this translation. -/
import Derived.Test.YtoakjcmhmlngfaaAk17
import Derived.Test.YtoakjcmhmlngfaaRv17
import Derived.Test.YtoakjcmhmlngfaaSt17
import Derived.Test.YtoakjcmhmlngfaaAw13
namespace Go.Proofs.Ytoakjcmhmlngfaa
open Go.RowKit

theorem isG_of {w : World} {A : Option Addr} {n : Nat} {ss : List (List UInt8)} (h : IsStrs w A n ss) : IsG w 1 encT A n ss ∧ ∀ s ∈ ss, s.length ≤ 9223372036854775807 := by
  refine ⟨⟨h.length, h.max, fun h0 => ?_⟩, fun s hs => by have := h.wf s hs; unfold maxLen at this; omega⟩
  obtain ⟨b, off, e, hc⟩ := h.cells h0
  refine ⟨b, off, e, lt_of_cell (hc 0 h0), fun i a j u hi hj => ?_⟩
  match j, hj with
  | 0, hj =>
    simp only [encT, List.getElem?_cons_zero, Option.some.injEq] at hj
    subst hj
    have hlt : i < n := by
      obtain ⟨h1, _⟩ := List.getElem?_eq_some_iff.1 hi
      rw [← h.length]; exact h1
    have h2 := hc i hlt
    rw [List.getD_eq_getElem?_getD, hi] at h2
    rw [Nat.mul_one, Nat.add_zero]
    exact h2
  | j + 1, hj => simp [encT] at hj
end Go.Proofs.Ytoakjcmhmlngfaa
