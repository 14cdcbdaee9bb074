
/- The document's functions over views: Chief, put. -/
import Derived.Test.YtnbhjehaecifcaaRg06
import Derived.Test.YtnbhjehaecifcaaKeep
namespace Go.Proofs.Ytnbhjehaecifcaa
open Go.RowKit

/-- The least node of members, one after another. -/
def lst (a : Int) (x : Mb) : Int := if x.1 < a then x.1 else a
def lstTo : List Mb → Int
  | [] => -1
  | m :: t => t.foldl lst m.1
theorem lst_more {l : List Mb} {k : Nat} {m : Mb} (h : l[k]? = some m) (hk : 0 < k) : lstTo (l.take (k + 1)) = lst (lstTo (l.take k)) m := by
  match l, k, hk, h with
  | q :: l, k + 1, _, h =>
    rw [List.take_succ_cons, List.take_succ_cons]
    show (l.take (k + 1)).foldl lst q.1 = lst ((l.take k).foldl lst q.1) m
    rw [List.take_add_one, List.getElem?_cons_succ.symm.trans h, List.foldl_append]
    rfl
theorem lst_one {l : List Mb} {m : Mb} (h : l[0]? = some m) : lstTo (l.take 1) = m.1 := by
  match l, h with
  | q :: l, h =>
    simp at h
    subst h
    rfl
end Go.Proofs.Ytnbhjehaecifcaa
