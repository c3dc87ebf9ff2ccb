/- The program's Covers, where the first is not right. -/
import Derived.Test.YtejbajjkbjaadaaPfxCov
import Derived.Deep.RegionWith
namespace Go.Proofs.Ytejbajjkbjaadaa
open Go.RowKit
set_option maxRecDepth 100000

set_option maxHeartbeats 3200000 in
theorem covers_no (A B : Nat) (L M : Int) (w : World) (hA : A < 4294967296) (h : rightB A L = false) :
    Calls Try.prog 21 #[pfx A L, pfx B M] w fun e w' => e = .returned (.bool false) ∧ Below w.heap.size w w' := by
  have HR := hide h
  clear h
  unfold pfx
  go_enter Try.func21, Try.ntmps21
  go_wp2_with fail
  first
  | (go_region_with ((go_at_call 25; refine (meets_one A L _ hA _ 1 (by simp [go_sem])).mono ?_; rw [HR.out]; rintro e w1 ⟨rfl, hb⟩; have HB : Hid (Below w.heap.size w w1) := ((((Below.refl _ _).alloc (Nat.le_refl _) _).alloc (by simp) _).alloc (by simp <;> omega) _).drew.trans (hb.mono (by simp <;> omega)); clear hb)))
  | fail
  all_goals go_wp2
  all_goals go_ret
  all_goals exact ⟨rfl, HB.out⟩
end Go.Proofs.Ytejbajjkbjaadaa
