
/- Ready, Bury. -/
import Derived.Test.YtnbhjehaecifcaaLeave
namespace Go.Proofs.Ytnbhjehaecifcaa
open Go.RowKit

def readyB (V : Vw) (node inc : Int) : Bool := chkB V && (match V.mem[V.mem.findIdx (pIs node inc)]? with | some m => !m.2.2 | none => false)
def readyV (V : Vw) (node inc : Int) : Vw := if readyB V node inc then (match V.mem[V.mem.findIdx (pIs node inc)]? with | some m => { V with mem := V.mem.set (V.mem.findIdx (pIs node inc)) (m.1, m.2.1, true) } | none => V) else V
def buryB (V : Vw) (node inc : Int) : Bool := chkB V && decide (V.dead.findIdx (pIs node inc) < V.dead.length)
def buryV (V : Vw) (node inc : Int) : Vw := if buryB V node inc then { V with dead := V.dead.take (V.dead.findIdx (pIs node inc)) ++ V.dead.drop (V.dead.findIdx (pIs node inc) + 1) } else V
end Go.Proofs.Ytnbhjehaecifcaa
