/- The document's GoodPath. -/
import Derived.Test.YtjlmkaeepeamkaaPthPl
namespace Go.Proofs.Ytjlmkaeepeamkaa
open Go.RowKit
set_option maxRecDepth 100000

end Go.Proofs.Ytjlmkaeepeamkaa
