/- The document's GoodPath. -/
import Derived.Test.YtmpnnfbpknfekaaPthPl
namespace Go.Proofs.Ytmpnnfbpknfekaa
open Go.RowKit
set_option maxRecDepth 100000

end Go.Proofs.Ytmpnnfbpknfekaa
