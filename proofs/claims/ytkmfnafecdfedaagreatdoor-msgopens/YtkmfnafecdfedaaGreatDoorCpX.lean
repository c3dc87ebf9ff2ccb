/- The document's GoodCaps. -/
import Derived.Test.YtkmfnafecdfedaaGreatDoorHCp
namespace Go.Proofs.YtkmfnafecdfedaaGreatDoor
open Go.RowKit
set_option maxRecDepth 100000

set_option maxHeartbeats 3200000 in
theorem rgoodc_any (c : Cp) (w : World) : Calls Tryz.prog 50 #[capV c] w fun e w' => e = .returned (.bool (goodC c)) ∧ Below w.heap.size w w' := by
  obtain ⟨four, as4, gr, rs, tm, fam, fwd, ll, lt⟩ := c
  have HG : Hid (goodC ⟨four, as4, gr, rs, tm, fam, fwd, ll, lt⟩ = ((if four then decide (1 ≤ as4 ∧ as4 ≤ 4294967295) else decide (as4 = 0)) && ((gr || (!rs && decide (tm = 0) && !fam)) && (decide (0 ≤ tm ∧ tm ≤ 4095) && (fam || !fwd))) && (if ll then decide (0 ≤ lt ∧ lt ≤ 16777215) else decide (lt = 0)))) := rfl
  generalize goodC ⟨four, as4, gr, rs, tm, fam, fwd, ll, lt⟩ = g at *
  unfold capV
  go_enter Tryz.func50, Tryz.ntmps50
  go_wp2
  all_goals go_ret
  all_goals refine ⟨ret_bool ?_, below_new _ _⟩
  all_goals rw [HG.out]
  all_goals first | (simp_all; done) | (simp_all; omega) | (rw [Bool.eq_iff_iff]; cases ll <;> cases fwd <;> simp_all <;> omega)
end Go.Proofs.YtkmfnafecdfedaaGreatDoor
