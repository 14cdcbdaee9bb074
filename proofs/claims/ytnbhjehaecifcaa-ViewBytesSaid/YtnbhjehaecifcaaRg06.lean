
/- The document's functions over views: Open, Chief, unready. -/
import Derived.Test.YtnbhjehaecifcaaRf06
namespace Go.Proofs.Ytnbhjehaecifcaa
open Go.RowKit

theorem any_upto {l : List Mb} {p : Mb → Bool} {k : Nat} {m : Mb} (h : (l.take k).any p = false) (hm : l[k]? = some m) (hp : p m = false) : (l.take (k + 1)).any p = false := by
  rw [List.take_add_one, hm, List.any_append, h]
  simp [hp]
end Go.Proofs.Ytnbhjehaecifcaa
