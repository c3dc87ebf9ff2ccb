/- WalNone's walk. -/
import Derived.Test.YtbecchoidglaeaaAns04
namespace Go.Proofs.Ytbecchoidglaeaa
open Go.RowKit
set_option maxRecDepth 100000

set_option maxHeartbeats 1600000 in
theorem walNone_in (a0 : Option Addr) (len0 cap0 : Nat) (n k : Nat) (w : World) (hn : n < 256) (hk : (n : Int) % 4 = (k : Int)) :
    Calls Try.prog 7 #[.slice a0 len0 cap0, .int .u8 (n : Int)] w fun e w' => e = .returned (.bool true) ∧ Below w.heap.size w w' := by
  have hk4 : k < 4 := by omega
  go_enter Try.func7, Try.ntmps7
  go_wp2_with fail
  refine (open_nil _).mono ?_
  rintro e w ⟨rfl, hw⟩
  subst hw
  go_wp2_with fail
  refine (new_any (k : Int) _ (by omega)).mono ?_
  rintro e w1 ⟨D, F, rfl, hd, hF, hb⟩
  have hcl : (clamp (k : Int) 1024).toNat = k := by unfold clamp; omega
  rw [hcl] at hd
  have HD := hide hd
  have HB := hide hb
  clear hd hF hb hcl
  go_wp2_with fail
  refine (open_small HD.out hk4).mono ?_
  rintro e w2 ⟨rfl, hw⟩
  subst hw
  go_wp2_with fail
  refine (answers_any _).mono ?_
  rintro e w3 ⟨rfl, hb3⟩
  have HB3 := hide (HB.out.trans (below_le hb3 HB.out.size))
  clear hb3
  go_wp2_with fail
  refine (append_nil _ _ _ _).mono ?_
  rintro e w4 ⟨rfl, hw⟩
  subst hw
  go_wp2_with fail
  refine (check_nil _ _ _ _).mono ?_
  rintro e w5 ⟨rfl, hw⟩
  subst hw
  go_wp2_with fail
  refine (gen_nil _).mono ?_
  rintro e w6 ⟨rfl, hw⟩
  subst hw
  go_wp2_with fail
  refine (used_nil _).mono ?_
  rintro e w7 ⟨rfl, hw⟩
  subst hw
  go_wp2
  go_ret
  exact ⟨rfl, HB3.out⟩
theorem walNone_walk (a0 : Option Addr) (len0 cap0 : Nat) (z0 : List Int) (a1 : Int) (w : World) (_ : IsRow .u8 w a0 len0 cap0 z0) (w1 : (Lit.int .u8 a1).wf = true) :
    Calls Try.prog 7 #[.slice a0 len0 cap0, .int .u8 a1] w fun e w' => e = .returned (.bool true) ∧ Below w.heap.size w w' := by
  have hb := bounds_u8 w1
  obtain ⟨n, rfl⟩ := Int.eq_ofNat_of_zero_le hb.1
  exact walNone_in a0 len0 cap0 n (n % 4) w (by omega) (by omega)
end Go.Proofs.Ytbecchoidglaeaa
