/- The document's GoodPath. -/
import Derived.Test.YtolpaimmmhoiiaaPthPl
namespace Go.Proofs.Ytolpaimmmhoiiaa
open Go.RowKit
set_option maxRecDepth 100000

end Go.Proofs.Ytolpaimmmhoiiaa
