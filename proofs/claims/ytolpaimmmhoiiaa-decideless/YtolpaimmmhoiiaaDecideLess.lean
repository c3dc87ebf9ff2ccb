/- Proved: for every own number, all infos (up to 20), all routes (at least two, with fewer than 3000 parts together, whose Pref, Med, Origin and Peer are from -2^53 to 2^53, of whose Meds none is above 0; others: the sample alone) and any place that is not the one that Best tells: without the route there Best tells the same one, or none just where it told none; the document's sample holds; nothing that was there is changed; no condition. -/
import Derived.Test.YtolpaimmmhoiiaaFrDecideLess
import Derived.Test.YtolpaimmmhoiiaaWDecideLess
namespace Go.Proofs.Ytolpaimmmhoiiaa
open Go.ChangeShapes Go.WideShapes Go.ChangeAt Go.RowKit
set_option maxRecDepth 100000

theorem decideLess_holds : Rows.DecideLessSaid := decideLess_over fun z0 a1 c1 l1 a2 c2 l2 z3 W hw hid hi hm hb hc hr hz => by
  have h := bounds_u8 hz
  exact decideLess_walk z0 a1 c1 l1 a2 c2 l2 z3 W hid hi hm hb hc hr (by omega) (by omega)
end Go.Proofs.Ytolpaimmmhoiiaa
