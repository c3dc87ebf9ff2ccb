/- The program's isSequence. -/
import Derived.Test.YtnblkgffgbiemaaPthQ
namespace Go.Proofs.Ytnblkgffgbiemaa
open Go.RowKit
set_option maxRecDepth 100000

end Go.Proofs.Ytnblkgffgbiemaa
