
/- Giving back: the document's, at this translation. -/
import Derived.Test.YtoakjcmhmlngfaaGv17
import Derived.Test.YtoakjcmhmlngfaaRt17
namespace Go.Proofs.Ytoakjcmhmlngfaa
open Go.RowKit

structure GaveX (w w' : World) (e : Ending) (M : List (List UInt8)) (t : Bool) : Prop where
  is : ∃ A n c, e = .returned (.tuple #[.slice A n c, .bool t]) ∧ IsG w' 1 encT A n M
  below : Below w.heap.size w w'
end Go.Proofs.Ytoakjcmhmlngfaa
