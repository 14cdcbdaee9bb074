
/- What is asked of a view: Inc. -/
import Derived.Test.YtnbhjehaecifcaaFind
namespace Go.Proofs.Ytnbhjehaecifcaa
open Go.RowKit

def incOf (V : Vw) (node : Int) : Int := match V.mem[V.mem.findIdx (pOf node)]? with | some m => m.2.1 | none => 0
end Go.Proofs.Ytnbhjehaecifcaa
