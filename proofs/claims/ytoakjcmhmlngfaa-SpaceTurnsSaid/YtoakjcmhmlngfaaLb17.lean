/- A layout in a box of its own, at this translation. -/
import Derived.Test.YtoakjcmhmlngfaaSr17
namespace Go.Proofs.Ytoakjcmhmlngfaa
open Go.RowKit

theorem layBoxed (l : Lay) (w : World) : ∃ W p, Hid (w.alloc (.cells #[.int .i64 l.s, .int .i64 l.n, .int .i64 l.f, .int .i64 l.z] 25) = W) ∧ Hid (w.heap.size = p) ∧ Hid (LayAt W p l ∧ Below w.heap.size w W) := by
  refine ⟨_, _, Lib.hid rfl, Lib.hid rfl, Lib.hid ⟨⟨by go_simp, by go_simp, by go_simp, by go_simp⟩, balloc (Below.refl _ _) _⟩⟩
/-- What of a layout and a map is read in a region. -/
theorem takenM_no {l : Lay} {M : List (List UInt8)} {x : Int} (h : rightM l M = false) : takenM l M x = false := by rw [takenM, h]; rfl
end Go.Proofs.Ytoakjcmhmlngfaa
