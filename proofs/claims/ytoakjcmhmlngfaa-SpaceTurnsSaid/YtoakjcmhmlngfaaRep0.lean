/- What strings.Repeat gives of a byte 0. -/
import Derived.Test.YtoakjcmhmlngfaaChecked
import Derived.Test.YtoakjcmhmlngfaaClose
import Derived.Test.YtoakjcmhmlngfaaShelf
namespace Go.Proofs.Ytoakjcmhmlngfaa
open Go.RowKit

theorem Repeat0_any (n : Int) (h0 : 0 ≤ n) (h1 : n ≤ 1099511627776) (w : World) :
    Calls Try.prog 44 #[.string ⟨#[0]⟩, .int .i64 n] w fun e w' => e = .returned (.string (str (List.replicate n.toNat 0))) ∧ Below w.heap.size w w' := by
  obtain ⟨m, rfl⟩ := Int.eq_ofNat_of_zero_le h0
  rw [Int.toNat_natCast, ← repeatL_one]
  exact Try.strings_Repeat ⟨#[0]⟩ m w (by omega) (by simp [ByteArray.size]; omega)
end Go.Proofs.Ytoakjcmhmlngfaa
