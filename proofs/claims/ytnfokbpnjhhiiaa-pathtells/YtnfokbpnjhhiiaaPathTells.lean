/- Proved: for every path whose segments and numbers together are under 3000 and every number, Length, First and Has answer what the document's answers do; for every path the document's sample holds; nothing that was there is changed; no condition. -/
import Derived.Test.YtnfokbpnjhhiiaaPthFr
import Derived.Test.YtnfokbpnjhhiiaaWPathTells
namespace Go.Proofs.Ytnfokbpnjhhiiaa
theorem pathTells_holds : Rows.PathTellsSaid := tells_over pathTells_walk
end Go.Proofs.Ytnfokbpnjhhiiaa
