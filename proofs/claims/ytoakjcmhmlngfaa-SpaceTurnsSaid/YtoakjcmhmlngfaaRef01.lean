
/- What each function of the document's answer for layer 1 gives, at this translation. -/
import Derived.Test.YtoakjcmhmlngfaaPack
namespace Go.Proofs.Ytoakjcmhmlngfaa
open Go.RowKit

end Go.Proofs.Ytoakjcmhmlngfaa
