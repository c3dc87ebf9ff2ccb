/- A route of a size that there may be. Nothing of the program is named here. -/
import Derived.Test.YtclihbfjendllaaDoorKAi
namespace Go.Proofs.YtclihbfjendllaaDoor
open Go.RowKit
set_option maxRecDepth 100000

/-- Routes of a size that there may be. -/
structure BigR (r : Rt) : Prop where
  path : r.att.path.length ≤ 1152921504606846976
  segs : ∀ s ∈ r.att.path, s.2.length ≤ 1152921504606846976
  comms : r.att.comms.length ≤ 1152921504606846976
  raws : r.att.raws.length ≤ 1152921504606846976
  datas : ∀ q ∈ r.att.raws, q.2.2.length ≤ 1152921504606846976
end Go.Proofs.YtclihbfjendllaaDoor
