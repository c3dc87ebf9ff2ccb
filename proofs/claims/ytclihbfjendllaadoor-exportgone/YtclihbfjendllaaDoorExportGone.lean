/- Proved: for every number, of its rest by 450 so many prefixes that were told with no attributes and are told no more: Delta answers Updates that tell of nothing new, a hundred prefixes each but in the last, in the order of the list, as many as are needed; the document's sample holds; nothing that was there is changed; the table 'said' stands as the program's text lays it (the card ties it). -/
import Derived.Test.YtclihbfjendllaaDoorCdExportGone
import Derived.Test.YtclihbfjendllaaDoorWExportGone
namespace Go.Proofs.YtclihbfjendllaaDoor
theorem exportGone_card : Rows.ExportGoneCardSaid := exportGone_carded fun z0 W hS w0 => by
  have b := (Go.bounds_u16 w0).1
  obtain ⟨n, rfl⟩ := Int.eq_ofNat_of_zero_le b
  exact exportGone_walk n W hS
end Go.Proofs.YtclihbfjendllaaDoor
