/- Proved: for every own number, all infos (up to 20), all routes of unlike peers (at least one, with fewer than 3000 parts together, whose Pref, Med, Origin and Peer are from -2^53 to 2^53; others, or peers twice: the sample alone) and any place: of the routes turned about so that it comes first Best tells the same route, or none just where it tells none; the document's sample holds; nothing that was there is changed; no condition. -/
import Derived.Test.YtolpaimmmhoiiaaFrDecideOrder
import Derived.Test.YtolpaimmmhoiiaaWDecideOrder
namespace Go.Proofs.Ytolpaimmmhoiiaa
open Go.ChangeShapes Go.WideShapes Go.ChangeAt Go.RowKit
set_option maxRecDepth 100000

theorem decideOrder_holds : Rows.DecideOrderSaid := decideOrder_over fun z0 a1 c1 l1 a2 c2 l2 z3 W hw hid hi hm hb hc hr hz => by
  have h := bounds_u8 hz
  exact decideOrder_walk z0 a1 c1 l1 a2 c2 l2 z3 W hid hi hm hb hc hr (by omega) (by omega)
end Go.Proofs.Ytolpaimmmhoiiaa
