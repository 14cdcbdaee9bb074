
/- The document's names, at this translation. -/
import Derived.Test.YtiomhdanmcnaeaaGreatDoorNm15
namespace Go.Proofs.YtiomhdanmcnaeaaGreatDoor
open Go.RowKit

end Go.Proofs.YtiomhdanmcnaeaaGreatDoor
