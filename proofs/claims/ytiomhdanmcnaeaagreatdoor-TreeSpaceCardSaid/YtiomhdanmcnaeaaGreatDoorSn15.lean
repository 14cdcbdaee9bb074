
/- Are two lists of names the same, at this translation. -/
import Derived.Test.YtiomhdanmcnaeaaGreatDoorSx15
import Derived.Deep.QuietTactic
import Derived.BigQuiet
namespace Go.Proofs.YtiomhdanmcnaeaaGreatDoor
open Go.RowKit

end Go.Proofs.YtiomhdanmcnaeaaGreatDoor
