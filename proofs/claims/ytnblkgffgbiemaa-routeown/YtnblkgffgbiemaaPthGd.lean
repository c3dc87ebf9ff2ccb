/- The document's GoodPath. -/
import Derived.Test.YtnblkgffgbiemaaPthPl
namespace Go.Proofs.Ytnblkgffgbiemaa
open Go.RowKit
set_option maxRecDepth 100000

end Go.Proofs.Ytnblkgffgbiemaa
