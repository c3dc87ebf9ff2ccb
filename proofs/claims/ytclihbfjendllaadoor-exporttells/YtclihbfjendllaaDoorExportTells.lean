/- Proved: for all settings of a speaker and a peer, with and without the long-lived restart, all routes and numbers of the AS that a route is from, where the attributes are small (path's parts and numbers, communities, Raws and their bytes together under 3000) and the peer has at most 100 rules for Out: Export answers what the document's answers, told or not, and the same attributes; for every input the document's sample holds; nothing that was there is changed; the table 'said' stands as the program's text lays it (the card ties it). -/
import Derived.Test.YtclihbfjendllaaDoorCdExportTells
import Derived.Test.YtclihbfjendllaaDoorWExportTells
namespace Go.Proofs.YtclihbfjendllaaDoor
theorem exportTells_card : Rows.ExportTellsCardSaid := exportTells_carded fun c0 ia1 ic1 oa1 oc1 pe1 b2 pa3 pc3 ca3 cc3 ra3 rc3 rt3 z4 W hS hc hp _ hA hg hr hl _ =>
  exportTells_walk c0 pe1 ia1 ic1 oa1 oc1 pa3 pc3 ca3 cc3 ra3 rc3 rt3 b2 z4 W hS hc hp hA hg hr hl
end Go.Proofs.YtclihbfjendllaaDoor
