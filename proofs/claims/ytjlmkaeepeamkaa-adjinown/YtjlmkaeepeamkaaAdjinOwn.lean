/- Proved: for every route whose attributes have fewer than 3000 parts, what a table keeps of it, and what it tells, is memory of its own: numbers of the communities that were handed in, and of those that Of told, are changed, and Get and For tell the route as it was; the document's sample holds; nothing that was there is changed; no condition. -/
import Derived.Test.YtjlmkaeepeamkaaFrAdjinOwn
import Derived.Test.YtjlmkaeepeamkaaWAdjinOwn
namespace Go.Proofs.Ytjlmkaeepeamkaa
open Go.RowKit
set_option maxRecDepth 100000

theorem adjinOwn_holds : Rows.AdjinOwnSaid := adjinOwn_over fun pa pc ca cc ra rc r W hb h => adjinOwn_walk pa pc ca cc ra rc r W hb h
end Go.Proofs.Ytjlmkaeepeamkaa
