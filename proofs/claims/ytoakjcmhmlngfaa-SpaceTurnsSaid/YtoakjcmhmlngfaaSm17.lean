
/- What a law hands on: at most six maps of forty bytes, at this translation. -/
import Derived.Test.YtoakjcmhmlngfaaLb17
namespace Go.Proofs.Ytoakjcmhmlngfaa
open Go.RowKit

/-- At most 6 maps, of 40 bytes at most. -/
def cutT (s : List UInt8) : List UInt8 := s.take 40
def cutM (l : List (List UInt8)) : List (List UInt8) := (l.take 6).map cutT
theorem cutM_length (l : List (List UInt8)) : (cutM l).length ≤ 6 := by simp [cutM]; omega
theorem cutM_len (l : List (List UInt8)) : ∀ s ∈ cutM l, s.length ≤ 100000 := by
  intro s hs
  obtain ⟨x, hx, rfl⟩ := List.mem_map.1 hs
  simp [cutT]
  omega
end Go.Proofs.Ytoakjcmhmlngfaa
