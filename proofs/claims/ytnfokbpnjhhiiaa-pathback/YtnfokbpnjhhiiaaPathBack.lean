/- Proved: for every path whose segments and numbers together are under 3000, Good answers what the document's answer does, Encode answers the bytes that the document's answer does, none where the path is not good, and Decode of a good path's bytes answers true and that path; for every path the document's sample holds; nothing that was there is changed; no condition. -/
import Derived.Test.YtnfokbpnjhhiiaaPthFr
import Derived.Test.YtnfokbpnjhhiiaaWPathBack
namespace Go.Proofs.Ytnfokbpnjhhiiaa
theorem pathBack_holds : Rows.PathBackSaid := back_over pathBack_walk
end Go.Proofs.Ytnfokbpnjhhiiaa
