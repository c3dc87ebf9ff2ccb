/- WalOpens' walk. -/
import Derived.Test.YtbecchoidglaeaaBothW
import Derived.Test.YtbecchoidglaeaaSameW
import Derived.Test.YtbecchoidglaeaaActsOf
import Derived.Test.YtbecchoidglaeaaAns04
import Derived.Test.YtbecchoidglaeaaGLogPr
import Derived.Test.YtbecchoidglaeaaLater
namespace Go.Proofs.Ytbecchoidglaeaa
open Go.RowKit
set_option maxRecDepth 100000

theorem used_nat {w : World} {B D : Nat} {g : Lg} {s : St} {F : Nat → Prop} (h : PLog w B D g s F) (hn : 4 ≤ s.n) (hs : s.n ≤ 1024) (hat : g.at_ ≤ s.n) {U : Nat} (hU : g.at_ = fromOf s.n g.gen + U) : Calls Try.prog 25 #[.pointer (some ⟨B, 0, none⟩)] w fun e w' => e = .returned (.int .i64 (U : Int)) ∧ ∃ k, w' = w.drewN k := by
  refine (used_in h hn hs hat).mono ?_
  rintro e w' ⟨rfl, hk⟩
  exact ⟨ret_int (by omega), hk⟩
theorem open_used (s : St) : ∃ U, (openLg s).at_ = fromOf s.n (openLg s).gen + U := by
  have h := (zOf_le (prep s).1 (genOf s)).1
  rw [prep_n] at h
  exact ⟨zOf (prep s).1 (genOf s) - fromOf s.n (genOf s), by rw [openLg_at, openLg_gen]; omega⟩
theorem openSt_n {N : Nat} {s : St} (h : Good N s) (h120 : N ≤ 120) : (openSt s).1.n = s.n := by rw [(openSt_good h h120).1.2.2, h.2.2]
set_option maxHeartbeats 3200000 in
theorem walOpens_in (n k : Nat) (a0 : Option Addr) (len0 cap0 : Nat) (w : World) (hn : n < 256) (hk : (n : Int) % 60 = (k : Int)) (hm : len0 ≤ maxLen) (ha : Acts w a0 len0) :
    Calls Try.prog 4 #[.int .u8 (n : Int), .slice a0 len0 cap0] w fun e w' => e = .returned (.bool true) ∧ Below w.heap.size w w' := by
  have HA := hide ha
  have HMx := hide hm
  have hk60 : k < 60 := by omega
  clear ha hm
  go_enter Try.func4, Try.ntmps4
  go_wp2_with fail
  refine (both_any (k : Int) (by omega) a0 len0 cap0 w HMx.out HA.out).mono ?_
  rintro r w1 ⟨D, V, rfl, s, F, W, P, hp, hgd, hlo, hbel⟩
  have hN : (clamp (k : Int) 1024).toNat = k := by unfold clamp; omega
  rw [hN] at hgd
  have hsn : s.n = k := hgd.2.2
  have HSN := hide hsn
  have HP := hide hp
  have HGd := hide hgd
  have HB := hide hbel
  have HLO := hide hlo
  clear hp hgd hbel hlo hN hsn
  by_cases hk4 : k < 4
  · go_wp2_with fail
    refine (open_small HP.out.d (by rw [HSN.out]; exact hk4)).mono ?_
    rintro e w2 ⟨rfl, hw2⟩
    subst hw2
    go_wp2_with fail
    refine (ropen_small HP.out.r (by rw [HSN.out]; exact hk4)).mono ?_
    rintro e w2 ⟨rfl, hw2⟩
    subst hw2
    go_wp2_with fail
    refine (rows_same (rows_nil _) (rows_nil _)).mono ?_
    rintro r w4 ⟨rfl, mm, rfl⟩
    have HP4 := hide (HP.out.later (below_drewN (Below.refl _ _) mm))
    have HB4 := hide (below_drewN HB.out mm)
    generalize w2.drewN mm = w4 at *
    go_wp2_with fail
    refine (sames_any HP4.out HGd.out (by have := HSN.out; omega)).mono ?_
    rintro r w5 ⟨rfl, hb5⟩
    have HB5 := hide (HB4.out.trans (below_le hb5 HB4.out.size))
    clear hb5
    go_wp2_with fail
    have hne := later_some w5
    refine region_later (by kernel_rfl) (by kernel_rfl) ?_
    repeat (go_big_quiet_step ((go_at_call 9; exact calls_later _ (answers_any _))))
    refine wpQuiet_nil ?_
    rintro _ ⟨xq, rfl⟩
    go_wp2
    go_ret
    exact ⟨rfl, HB5.out.trans (below_le xq.h HB5.out.size)⟩
  · have HK4 : Hid (4 ≤ k) := by show 4 ≤ k; omega
    have HK : Hid (k ≤ 120) := by show k ≤ 120; omega
    have HGO := hide (openSt_good HGd.out HK.out)
    rcases openSt_cases s with h0 | h0
    · have H0 := hide h0
      clear h0 hk4
      go_wp2_with fail
      refine (open_okB HP.out.d HGd.out HK4.out (by have := HK.out; omega) (by have := HLO.out; omega) H0.out).mono ?_
      rintro e w2 ⟨B, v, rfl, F2, B0, hp2, hst2, hB2, hB0, hro2⟩
      have hp2q := HP.out.stepD hp2.d hst2
      have HP2 := hide hp2
      have HQ2 := hide hp2q
      have HST2 := hide (And.intro hst2 (And.intro hB2 hB0))
      have HRO2 := hide hro2
      clear hp2 hst2 hB2 hB0 hro2 hp2q
      go_wp2_with fail
      refine (ropen_ok HQ2.out.r HGd.out HK4.out HK.out (by have := HLO.out; omega) H0.out).mono ?_
      rintro e w3 ⟨M, v3, rfl, W3, P3, hr3, hst3, hM3, hro3⟩
      have HLP := hide (lp_of HP.out HB.out HP2.out HST2.out.1 HST2.out.2.1 hr3 hst3 hM3)
      have HRA : Hid (ORows w3 v s) := (HRO2.out.keeps hst3.1 (fun b hb => by have := HP.out.r.lt b (.inl hb); have := HST2.out; omega)).rd (by have := HSN.out; have := HK.out; omega)
      have HRB := hide hro3
      have c1 := HLP.out.rl.c1
      clear hr3 hst3 hM3 hro3
      go_wp2_with fail
      refine (rows_same HRA.out HRB.out).mono ?_
      rintro r w4 ⟨rfl, mm, rfl⟩
      have HL4 := hide (HLP.out.later (below_drewN (Below.refl _ _) mm))
      have c14 := HL4.out.rl.c1
      generalize w3.drewN mm = w4 at *
      go_wp2_with fail
      refine (sames_any (HL4.out.q.others (O' := fun _ => False) (fun _ h => h.elim)) HGO.out.1 (by rw [HGO.out.1.2.2]; have := HK.out; omega)).mono ?_
      rintro r w5 ⟨rfl, hb5⟩
      have HL5 := hide (HL4.out.later hb5)
      clear hb5
      obtain ⟨U, hU⟩ := open_used s
      have HU : Hid ((openLg s).at_ = fromOf (openSt s).1.n (openLg s).gen + U) := by show _ = _; rw [openSt_n HGd.out HK.out]; exact hU
      have HI := hide (inv_open (c := 60) HGd.out HLO.out HK4.out HK.out)
      have HN5 : Hid ((openSt s).1.n = k) := HGO.out.1.2.2
      have cc : ∀ x : Later w5, x.w.cell? ⟨M, 1, none⟩ = some (.int .i64 ((openLg s).gen : Int)) := fun x => x.cell HL5.out.rl.c1
      have hU0 : (0 : Int) ≤ (U : Int) := by omega
      clear hU c1 c14
      go_wp2_with fail
      have hne := later_some w5
      refine region_later (by kernel_rfl) (by kernel_rfl) ?_
      repeat (go_big_quiet_step (first
        | (go_at_call 9; exact calls_later _ (answers_any _))
        | (go_at_call 23; exact calls_same _ (gen_in (HL5.out.later (Later.h _)).pl))
        | (go_at_call 25; exact calls_drew _ (used_nat (HL5.out.later (Later.h _)).plog (by rw [HN5.out]; exact HK4.out) (by rw [HN5.out]; have := HK.out; omega) (by rw [HN5.out]; exact HI.out.at_) HU.out))))
      refine wpQuiet_nil ?_
      rintro _ ⟨xq, rfl⟩
      go_wp2
      go_ret
      exact ⟨rfl, (HL5.out.later xq.h).bel⟩
    · have H0 := hide h0
      clear h0 hk4
      go_wp2_with fail
      refine (open_no HP.out.d HGd.out HK4.out (by have := HK.out; omega) (by have := HLO.out; omega) H0.out).mono ?_
      rintro e w2 ⟨rfl, F2, hd2, hst2⟩
      have HQ2 := hide (HP.out.stepD hd2 hst2)
      have HB2 := hide (HB.out.trans (HP.out.belowD hst2))
      clear hd2 hst2
      go_wp2_with fail
      refine (ropen_no HQ2.out.r HGd.out HK4.out HK.out (by have := HLO.out; omega) H0.out).mono ?_
      rintro e w3 ⟨rfl, W3, P3, hd3, hst3⟩
      have HQ3 := hide (HQ2.out.stepR hd3 hst3)
      have HB3 := hide (HB2.out.trans (HQ2.out.belowR hst3))
      clear hd3 hst3
      go_wp2_with fail
      refine (rows_same (rows_nil _) (rows_nil _)).mono ?_
      rintro r w4 ⟨rfl, mm, rfl⟩
      have HP4 := hide (HQ3.out.later (below_drewN (Below.refl _ _) mm))
      have HB4 := hide (below_drewN HB3.out mm)
      generalize w3.drewN mm = w4 at *
      go_wp2_with fail
      refine (sames_any HP4.out HGO.out.1 (by rw [HGO.out.1.2.2]; have := HK.out; omega)).mono ?_
      rintro r w5 ⟨rfl, hb5⟩
      have HB5 := hide (HB4.out.trans (below_le hb5 HB4.out.size))
      clear hb5
      go_wp2_with fail
      have hne := later_some w5
      refine region_later (by kernel_rfl) (by kernel_rfl) ?_
      repeat (go_big_quiet_step ((go_at_call 9; exact calls_later _ (answers_any _))))
      refine wpQuiet_nil ?_
      rintro _ ⟨xq, rfl⟩
      go_wp2
      go_ret
      exact ⟨rfl, HB5.out.trans (below_le xq.h HB5.out.size)⟩
theorem walOpens_walk (n : Int) (hn : (Lit.int .u8 n).wf = true) (a0 : Option Addr) (len0 cap0 : Nat) (w : World) (hm : len0 ≤ maxLen) (ha : Acts w a0 len0) :
    Calls Try.prog 4 #[.int .u8 n, .slice a0 len0 cap0] w fun e w' => e = .returned (.bool true) ∧ Below w.heap.size w w' := by
  have hb := bounds_u8 hn
  obtain ⟨k, rfl⟩ := Int.eq_ofNat_of_zero_le hb.1
  exact walOpens_in k (k % 60) a0 len0 cap0 w (by omega) (by omega) hm ha
end Go.Proofs.Ytbecchoidglaeaa
