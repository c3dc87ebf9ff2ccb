/- Proved: for every list of up to 50 acts (beyond that: the sample alone), of which those count whose routes have attributes with fewer than 3000 parts: behind each act, a Drop or a Put, the table answers what the document's list of routes has: whether it was there, Get, Len, Of, For and Prefixes, in their orders; the document's sample holds; nothing that was there is changed; no condition. -/
import Derived.Test.YtjlmkaeepeamkaaFrAdjinPlays
import Derived.Test.YtjlmkaeepeamkaaWAdjinPlays
namespace Go.Proofs.Ytjlmkaeepeamkaa
open Go.RowKit
set_option maxRecDepth 100000

theorem adjinPlays_holds : Rows.AdjinPlaysSaid := adjinPlays_over fun a0 c0 l0 W _ hb h => adjinPlays_walk a0 c0 l0 W hb h
end Go.Proofs.Ytjlmkaeepeamkaa
