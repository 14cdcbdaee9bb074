
/- What strings.Repeat gives of a byte 0. -/
import Derived.Test.YtiomhdanmcnaeaaGreatDoorChecked
import Derived.Test.YtiomhdanmcnaeaaGreatDoorClose
import Derived.Test.YtiomhdanmcnaeaaGreatDoorShelf
namespace Go.Proofs.YtiomhdanmcnaeaaGreatDoor
open Go.RowKit

end Go.Proofs.YtiomhdanmcnaeaaGreatDoor
