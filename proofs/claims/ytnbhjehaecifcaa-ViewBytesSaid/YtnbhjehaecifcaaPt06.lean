
/- The document's put: a list with one more. -/
import Derived.Test.YtnbhjehaecifcaaRh06
import Derived.Deep.DeepCutAuto
namespace Go.Proofs.Ytnbhjehaecifcaa
open Go.RowKit

theorem wpList_appR {w : World} {ops : Array Oper} {rest : List Oper} {o : Oper} {a : Act} {Q : Exit → Act → World → Prop} (hgd : o.guard = none) (s x : Operand) (t : TypeId)
    (ho : o.op = .call { callee := .builtin .append, args := #[s, x], argTypes := #[t, t] }) {v' : Value} {w' : World} (hr : (Builtin.append_ #[t, t] o.type #[a.eval s, a.eval x]).run Try.prog w = .ok v' w')
    (hK : wpList Try.prog ops Q rest (a.put o.dst v') w') : wpList Try.prog ops Q (o :: rest) a w := by
  refine wpList_plain hgd fun K' hK' => ?_
  unfold Oper.wp
  rw [exec_append ho hr]
  exact hK' _ _ hK
def pLt (m x : Mb) : Bool := decide (x.1 < m.1) || (x.1 == m.1 && decide (x.2.1 < m.2.1))
def atR (l : List Mb) (m : Mb) : Nat := l.findIdx (fun x => !pLt m x)
def putR (l : List Mb) (m : Mb) : List Mb := l.take (atR l m) ++ [m] ++ l.drop (atR l m)
def goOn (l : List Mb) (m : Mb) (k : Nat) : Bool := match l[k]? with | some x => pLt m x | none => false
end Go.Proofs.Ytnbhjehaecifcaa
