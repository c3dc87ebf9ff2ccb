/- Proved: for every own number, all infos (up to 20; beyond that: the sample alone) and all routes (with fewer than 3000 parts together, whose Pref, Med, Origin and Peer are from -2^53 to 2^53; others: the sample alone) Best answers the place that the document's Best answers, or that there is none; the document's sample holds; nothing that was there is changed; no condition. -/
import Derived.Test.YtolpaimmmhoiiaaFrDecideBest
import Derived.Test.YtolpaimmmhoiiaaWDecideBest
namespace Go.Proofs.Ytolpaimmmhoiiaa
open Go.RowKit
set_option maxRecDepth 100000

theorem decideBest_holds : Rows.DecideBestSaid := decideBest_over fun z0 a1 c1 l1 a2 c2 l2 W _ hid hi hm hb hr => decideBest_walk z0 a1 c1 l1 a2 c2 l2 W hid hi hm hb hr
end Go.Proofs.Ytolpaimmmhoiiaa
