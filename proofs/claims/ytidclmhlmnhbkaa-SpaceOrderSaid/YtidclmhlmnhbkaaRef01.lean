
/- What each function of the document's answer for layer 1 gives, at this translation. -/
import Derived.Test.YtidclmhlmnhbkaaPack
namespace Go.Proofs.Ytidclmhlmnhbkaa
open Go.RowKit

end Go.Proofs.Ytidclmhlmnhbkaa
