/- Proved: for any two lists of what is told (beyond 400 in either the document's sample alone is asked), each put in order by prefix with what is not right left out: whoever knows the routes of the elder list, and plays Delta's Updates (drops what is gone, puts what is new), knows just those of the newer one; each Update tells either up to a hundred prefixes that are gone or one that is new, and together they tell as many prefixes as differ; of a list against itself Delta tells nothing; the document's sample holds; nothing that was there is changed; the table 'said' stands as the program's text lays it (the card ties it). -/
import Derived.Test.YthigjonagbfbbaaDoorCdExportDelta
import Derived.Test.YthigjonagbfbbaaDoorWExportDelta
namespace Go.Proofs.YthigjonagbfbbaaDoor
theorem exportDelta_card : Rows.ExportDeltaCardSaid := exportDelta_carded fun a0 c0 l0 a1 c1 l1 W hS h0 h1 => exportDelta_walk a0 c0 l0 a1 c1 l1 W hS h0 h1
end Go.Proofs.YthigjonagbfbbaaDoor
