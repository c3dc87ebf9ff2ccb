/- The program's isSequence. -/
import Derived.Test.YtolpaimmmhoiiaaPthQ
namespace Go.Proofs.Ytolpaimmmhoiiaa
open Go.RowKit
set_option maxRecDepth 100000

set_option maxHeartbeats 400000 in
theorem isSeq_any (b : Bool) (a : Option Addr) (n c : Nat) (w : World) : Calls Try.prog 53 #[segV b a n c] w fun e w' => e = .returned (.bool (!b)) ∧ Below w.heap.size w w' := by
  unfold segV
  go_enter Try.func53, Try.ntmps53
  go_wp2
  go_ret
  exact ⟨rfl, (Below.refl _ _).alloc (Nat.le_refl _) _⟩
end Go.Proofs.Ytolpaimmmhoiiaa
