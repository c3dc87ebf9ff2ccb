/- Proved: for every two lists of routes, of up to 30 each (beyond that: the sample alone), of those whose attributes have fewer than 3000 parts: a table that was told the first ones by peer 1, the second ones by peer 2, and from which peer 2's routes of the first ones' prefixes are dropped, tells of peer 1 just what a table tells that was told the first ones alone; that one tells nothing of peer 2; the document's sample holds; nothing that was there is changed; no condition. -/
import Derived.Test.YtjlmkaeepeamkaaFrAdjinPeers
import Derived.Test.YtjlmkaeepeamkaaWAdjinPeers
namespace Go.Proofs.Ytjlmkaeepeamkaa
open Go.RowKit
set_option maxRecDepth 100000

theorem adjinPeers_holds : Rows.AdjinPeersSaid := adjinPeers_over fun a0 c0 l0 a1 c1 l1 W _ hb0 h0 _ hb1 h1 => adjinPeers_walk a0 c0 l0 a1 c1 l1 W hb0 h0 hb1 h1
end Go.Proofs.Ytjlmkaeepeamkaa
