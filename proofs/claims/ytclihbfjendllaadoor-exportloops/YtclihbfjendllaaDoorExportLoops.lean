/- Proved: for all settings of a speaker and a peer, all routes and numbers of the AS that a route is from, where the attributes are small (path's parts and numbers, communities, Raws and their bytes together under 3000) and the peer has at most 100 rules for Out: what is not told has no attributes; nothing is told to the peer that it is from; what a peer of another AS is told begins with the speaker's number, has its next hop, no preference and no Med, and its path is one longer; what a peer of the own AS is told has a preference, and its next hop and path are the route's; for every input the document's sample holds; nothing that was there is changed; the table 'said' stands as the program's text lays it (the card ties it). -/
import Derived.Test.YtclihbfjendllaaDoorCdExportLoops
import Derived.Test.YtclihbfjendllaaDoorWExportLoops
namespace Go.Proofs.YtclihbfjendllaaDoor
theorem exportLoops_card : Rows.ExportLoopsCardSaid := exportLoops_carded fun c0 ia1 ic1 oa1 oc1 pe1 pa2 pc2 ca2 cc2 ra2 rc2 r2 z3 W hS hc hp hA hg hr _ =>
  exportLoops_walk c0 pe1 ia1 ic1 oa1 oc1 pa2 pc2 ca2 cc2 ra2 rc2 r2 z3 W hS hc hp hA hg hr
end Go.Proofs.YtclihbfjendllaaDoor
