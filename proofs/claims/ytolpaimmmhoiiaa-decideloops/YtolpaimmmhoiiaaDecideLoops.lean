/- Proved: for every own number, all infos (up to 20; beyond that: the sample alone) and all routes (with fewer than 3000 parts together, whose Pref, Med, Origin and Peer are from -2^53 to 2^53; others: the sample alone) Best answers one just where there is a route in whose path the own number is not; that one's path has it not; it is static, if any such is, else not stale 2, if any such is; where there is none, 0; the document's sample holds; nothing that was there is changed; no condition. -/
import Derived.Test.YtolpaimmmhoiiaaFrDecideLoops
import Derived.Test.YtolpaimmmhoiiaaWDecideLoops
namespace Go.Proofs.Ytolpaimmmhoiiaa
open Go.RowKit
set_option maxRecDepth 100000

theorem decideLoops_holds : Rows.DecideLoopsSaid := decideLoops_over fun z0 a1 c1 l1 a2 c2 l2 W _ hid hi hm hb hr => decideLoops_walk z0 a1 c1 l1 a2 c2 l2 W hid hi hm hb hr
end Go.Proofs.Ytolpaimmmhoiiaa
