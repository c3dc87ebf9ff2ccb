/- How large what is told can be. -/
import Derived.Test.YthigjonagbfbbaaDoorExTd
namespace Go.Proofs.YthigjonagbfbbaaDoor
open Go.RowKit
set_option maxRecDepth 100000

theorem big_told {p : TE} (hr : ReachA reachBytes p.2) : BigT p.2 := by
  obtain ⟨h1, h2, h3, h4, h5⟩ := hr
  unfold reachBytes at h1 h2 h3 h4 h5
  exact ⟨by omega, fun s hs => by have := h2 s hs; omega, by omega, by omega, fun r hr => by have := h5 r hr; omega⟩
end Go.Proofs.YthigjonagbfbbaaDoor
