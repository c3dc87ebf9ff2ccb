/- Proved: for all settings of a speaker and a peer, all prefixes and next hops, where the peer has at most 50 rules for Out, both next hops may be next hops, the speaker's own number is one and the peer's number is not below 0: a static route goes out exactly where no Out rule denies it; to a peer in the own AS with its own next hop, preference 100 and an empty path, to another with the speaker's next hop, no preference and the own number as the path; for every input the document's sample holds; nothing that was there is changed; the table 'said' stands as the program's text lays it (the card ties it). -/
import Derived.Test.YtclihbfjendllaaDoorCdExportStatic
import Derived.Test.YtclihbfjendllaaDoorWExportStatic
namespace Go.Proofs.YtclihbfjendllaaDoor
theorem exportStatic_card : Rows.ExportStaticCardSaid := exportStatic_carded fun c0 ia1 ic1 oa1 oc1 pe1 A2 L2 z3 W hS hc hp hx w3 => by
  have b := bounds_u32 w3
  obtain ⟨n, rfl⟩ := Int.eq_ofNat_of_zero_le b.1
  exact exportStatic_walk c0 pe1 ia1 ic1 oa1 oc1 A2 L2 n W hS hp hx (by omega) hc
end Go.Proofs.YtclihbfjendllaaDoor
