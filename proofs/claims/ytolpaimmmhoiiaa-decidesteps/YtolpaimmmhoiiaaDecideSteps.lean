/- Proved: for every choice of what they differ in and any two numbers: of two routes that differ in one thing alone (Pref, the path's length, Origin, Med, their peers' AS or ID, or Stale) Best tells the one that this thing prefers, and the first peer's where it prefers none, in whichever order they stand; the document's sample holds; no condition. -/
import Derived.Test.YtolpaimmmhoiiaaFrDecideSteps
import Derived.Test.YtolpaimmmhoiiaaWDecideSteps
namespace Go.Proofs.Ytolpaimmmhoiiaa
open Go.ChangeShapes Go.WideShapes Go.ChangeAt Go.RowKit
set_option maxRecDepth 100000

theorem decideSteps_holds : Rows.DecideStepsSaid := decideSteps_over fun z0 z1 z2 W h0 h1 h2 => by
  have b0 := bounds_u8 h0
  have b1 : 0 ≤ z1 ∧ z1 ≤ 65535 := by
    have h := h1
    simp [Lit.wf, IntKind.min, IntKind.max, IntKind.signed, IntKind.bits] at h
    omega
  have b2 : 0 ≤ z2 ∧ z2 ≤ 65535 := by
    have h := h2
    simp [Lit.wf, IntKind.min, IntKind.max, IntKind.signed, IntKind.bits] at h
    omega
  obtain ⟨n0, rfl⟩ := Int.eq_ofNat_of_zero_le b0.1
  obtain ⟨n1, rfl⟩ := Int.eq_ofNat_of_zero_le b1.1
  obtain ⟨n2, rfl⟩ := Int.eq_ofNat_of_zero_le b2.1
  exact decideSteps_walk n0 n1 n2 W (by omega) (by omega) (by omega)
end Go.Proofs.Ytolpaimmmhoiiaa
