/- Proved: for every route, a table that is none keeps nothing: Put does nothing, Get and Drop answer false, Of, For and Prefixes nothing, Len 0; the document's sample holds; nothing that was there is changed; no condition. -/
import Derived.Test.YtjlmkaeepeamkaaFrAdjinNone
import Derived.Test.YtjlmkaeepeamkaaWAdjinNone
namespace Go.Proofs.Ytjlmkaeepeamkaa
open Go.RowKit
set_option maxRecDepth 100000

theorem adjinNone_holds : Rows.AdjinNoneSaid := adjinNone_over fun pa pc ca cc ra rc r W _ _ => adjinNone_walk pa pc ca cc ra rc r W
end Go.Proofs.Ytjlmkaeepeamkaa
