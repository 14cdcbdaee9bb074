
/- Bury. -/
import Derived.Test.YtnbhjehaecifcaaReady
import Derived.Deep.Cut
namespace Go.Proofs.Ytnbhjehaecifcaa
open Go.RowKit

end Go.Proofs.Ytnbhjehaecifcaa
