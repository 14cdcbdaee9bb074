
/- What strings.Repeat gives of a byte 0. -/
import Derived.Test.YtnoidhfhnaemgaaDoorChecked
import Derived.Test.YtnoidhfhnaemgaaDoorClose
import Derived.Test.YtnoidhfhnaemgaaDoorShelf
namespace Go.Proofs.YtnoidhfhnaemgaaDoor
open Go.RowKit

end Go.Proofs.YtnoidhfhnaemgaaDoor
