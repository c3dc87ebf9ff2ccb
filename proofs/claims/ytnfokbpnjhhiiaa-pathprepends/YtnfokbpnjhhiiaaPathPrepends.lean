/- Proved: for every path whose segments and numbers together are under 3000 and every number, Prepend answers the path that the document's answer does, one longer, the path that was handed in stays, also when every number of the answer is changed; for every path the document's sample holds; nothing that was there is changed; no condition. -/
import Derived.Test.YtnfokbpnjhhiiaaPthFr
import Derived.Test.YtnfokbpnjhhiiaaWPathPrepends
namespace Go.Proofs.Ytnfokbpnjhhiiaa
theorem pathPrepends_holds : Rows.PathPrependsSaid := preps_over pathPrepends_walk
end Go.Proofs.Ytnfokbpnjhhiiaa
