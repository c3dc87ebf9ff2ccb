/- 'both' of the law: the walk. -/
import Derived.Test.YtbecchoidglaeaaBoth
import Derived.Deep.CutBlock
import Derived.Deep.QuietTactic
import Derived.BigQuiet
namespace Go.Proofs.Ytbecchoidglaeaa
open Go.RowKit
set_option maxRecDepth 100000

set_option maxRecDepth 100000 in
set_option maxHeartbeats 3200000 in
theorem both_any (n : Int) (hn : -9223372036854775808 ≤ n ∧ n ≤ 9223372036854775807) (a0 : Option Addr) (len0 cap0 : Nat) (w : World) (hm : len0 ≤ maxLen) (ha : Acts w a0 len0) :
    Calls Try.prog 24 #[.int .i64 n, .slice a0 len0 cap0] w fun e w' =>
      ∃ D V, e = .returned (.tuple #[.pointer (some ⟨D, 0, none⟩), .pointer (some ⟨V, 0, none⟩), .bool true]) ∧ BothAt (clamp n 1024).toNat w w' D V 60 := by
  have HA := hide ha
  clear ha
  unfold maxLen at hm
  go_enter Try.func24, Try.ntmps24
  go_wp2_with fail
  refine (new_any n _ hn).mono ?_
  rintro e w1 ⟨D, F, rfl, hd1, hF1, hb1⟩
  have HD1 := hide hd1
  have HF1 := hide hF1
  have HB1 := hide hb1
  clear hd1 hF1 hb1
  go_wp2_with fail
  refine (rnew_any n _).mono ?_
  rintro e w2 ⟨V, W, P, rfl, hd2, hF2, hb2⟩
  have HP0 : Hid (BothAt (clamp n 1024).toNat w w2 D V 0) := by
    have hs := HB1.out.size
    refine ⟨_, F, W, P, ⟨HD1.out.later hb2, hd2, HF1.out, fun b hb => by have := hF2 b (.inl hb); omega, fun b hb => by have := hF2 b (.inr hb); omega, fun b hb hw => ?_, fun b hb hp => ?_, fun _ h => h.elim, by have := hb2.size; omega⟩, good_made _, Nat.zero_le _, HB1.out.trans (below_le hb2 hs)⟩
    · have := HD1.out.lt b hb; have := hF2 b (.inl hw); omega
    · have := HD1.out.lt b hb; have := hF2 b (.inr hp); omega
  clear hd2 hF2 hb2 HD1 HF1 HB1 hn
  go_wp2
  go_loopg [9] 60 (fun gk s9 wq => ∃ i : Nat, i + gk = 60 ∧ i ≤ len0 ∧ s9 = .int .i64 i ∧ BothAt (clamp n 1024).toNat w wq D V i)
  case atStart => exact ⟨0, by omega, Nat.zero_le _, rfl, HP0.out⟩
  case round =>
    clear HP0
    obtain ⟨i, hi60, hil, rfl, hbo⟩ := hrel
    by_cases hlt : i < len0 ∧ i < 60
    · obtain ⟨hi1, hi2⟩ := hlt
      obtain ⟨s, F, W, P, hp, hg, hlo, hbel⟩ := hbo
      obtain ⟨b, off, rfl, hacts⟩ := HA.out (by omega)
      obtain ⟨wh, at_, nn, keep, ba, bl, bc, f, hact⟩ := hacts i hi1
      have hc := hact.below (below_le hbel (Nat.le_refl _))
      have c0 := hc.c0
      have c1 := hc.c1
      have c2 := hc.c2
      have c3 := hc.c3
      have c4 := hc.c4
      have HAct := hide hact
      have HP := hide hp
      have HG := hide hg
      have HBel := hide hbel
      have hi1' : (i : Int) < (len0 : Int) := by omega
      have hi2' : (i : Int) < 60 := by omega
      have hi0' : (0 : Int) ≤ (i : Int) := by omega
      have hlo' : s.lo.length < 1000000 := by omega
      clear hact hacts hp hg hbel hc
      by_cases hbl : 200 < bl
      · have hbl' : (200 : Int) < (bl : Int) := by omega
        go_wp2
        go_roundg (gk - 1)
        case measure => omega
        case rel => exact ⟨i + 1, by omega, by omega, by go_num, s, F, W, P, HP.out.alloc _, HG.out, by omega, HBel.out.trans (below_le ((Below.refl _ _).alloc (Nat.le_refl _) _) HBel.out.size)⟩
      · have hbl' : (bl : Int) ≤ 200 := by omega
        obtain ⟨g1, cc1, w3, hr3, hp3, hb3, hbuf3, hrw3, hne3, hge3, hh3⟩ := mid_start HP.out HBel.out HAct.out (by omega)
        unfold copied at hr3
        have HR3 := hide hr3
        have HP3 := hide hp3
        have HB3 := hide hb3
        have HF3 := hide hbuf3
        have HW3 := hide hrw3
        have k0 : w3.cell? ⟨wr.heap.size, 0, none⟩ = some (.int .i64 wh) := by rw [cell_of_row _ _ _ _ _ _ hh3]; rfl
        have k1 : w3.cell? ⟨wr.heap.size, 1, none⟩ = some (.int .i64 at_) := by rw [cell_of_row _ _ _ _ _ _ hh3]; rfl
        have k2 : w3.cell? ⟨wr.heap.size, 2, none⟩ = some (.int .i64 nn) := by rw [cell_of_row _ _ _ _ _ _ hh3]; rfl
        have k3 : w3.cell? ⟨wr.heap.size, 3, none⟩ = some (.slice ba bl bc) := by rw [cell_of_row _ _ _ _ _ _ hh3]; rfl
        have k4 : w3.cell? ⟨wr.heap.size, 4, none⟩ = some (.int .u64 keep) := by rw [cell_of_row _ _ _ _ _ _ hh3]; rfl
        clear hr3 hp3 hb3 hbuf3 hrw3 hh3 HP HBel
        go_upto_block 2 with ((with_reducible refine wpl_append _ _ 37 (.slice (some ⟨wr.heap.size + 1, 0, none⟩) 0 0) (.slice ba bl bc) _ ?_ ?_ HR3.out ?_); (· rfl); (· rfl))
        go_cut [11, 12] from 19 to 123 (fun s11 s12 wc => ∃ c : Int, s11 = .int .i64 c ∧ s12 = .int .i64 c ∧ MidAt (clamp n 1024).toNat w wc D V (i + 1) wr.heap.size g1 bl)
        case first =>
          have HM0 : Hid (MidAt (clamp n 1024).toNat w w3.drew D V (i + 1) wr.heap.size g1 bl) := mid_same HP3.out.drew (below_drew HB3.out) HF3.out.drew HG.out hlo
          have HM1 : Hid (MidAt (clamp n 1024).toNat w w3 D V (i + 1) wr.heap.size g1 bl) := mid_same HP3.out HB3.out HF3.out HG.out hlo
          have HAB := hide HAct.out.at1
          have HNB := hide HAct.out.n1
          have HKB := hide HAct.out.k1
          have HgD : Hid (∀ x : Addr, some (⟨g1, 0, none⟩ : Addr) = some x → 0 < bl → x.block ≠ D) := fun x hx _ e => by
            simp at hx
            subst hx
            have e2 : g1 = D := e
            exact (HP3.out.oo g1 (.inr rfl)).2.1 (by rw [e2]; exact HP3.out.d.D.1)
          have HbV : Hid (∀ x : Addr, ba = some x → 0 < bl → x.block ≠ V) := fun x hx hp e => by
            have h1 := HAct.out.rw.lt x hx hp
            have h2 := HP3.out.hW V HP3.out.r.V.1
            omega
          clear c0 c1 c2 c3 c4 HR3
          by_cases hw0 : wh = 0
          · subst hw0
            by_cases hbad : ¬ (0 ≤ at_ ∧ at_ < s.n) ∨ 64 < bl
            · have HBad := hide hbad
              clear hbad
              go_wp2_with fail
              go_region_held3 (fun w' => w'.cell? ⟨wr.heap.size, 1, none⟩ = some (.int .i64 at_) ∧ w'.cell? ⟨wr.heap.size, 3, none⟩ = some (.slice ba bl bc))
                (first
                  | (refine ⟨?_, ?_⟩ <;> assumption)
                  | (refine ⟨?_, ?_⟩ <;> (simp only [World.cell?_drew]; assumption)))
                (first
                  | (go_at_call 28; refine (disk_write_bad HP3.out.drew.d at_ _ _ _ HBad.out).mono ?_; rintro e wA ⟨rfl, rfl⟩)
                  | (go_at_call 43; refine (rdisk_write_bad HP3.out.drew.r at_ _ _ _ HBad.out).mono ?_; rintro e wA ⟨rfl, rfl⟩))
              all_goals (go_wp2_with fail; go_meet; exact ⟨1, rfl, rfl, HM0.out⟩)
            · have hat0 : 0 ≤ at_ := by omega
              have hatn : at_ < s.n := by omega
              have hb64 : bl ≤ 64 := by omega
              clear hbad
              cases hpw : s.power with
              | false =>
                have HPW := hide hpw
                clear hpw
                go_wp2_with fail
                go_region_held3 (fun w' => w'.cell? ⟨wr.heap.size, 1, none⟩ = some (.int .i64 at_) ∧ w'.cell? ⟨wr.heap.size, 3, none⟩ = some (.slice ba bl bc))
                  (first
                    | (refine ⟨?_, ?_⟩ <;> assumption)
                    | (refine ⟨?_, ?_⟩ <;> (simp only [World.cell?_drew]; assumption)))
                  (first
                    | (go_at_call 28; refine (disk_write_down HP3.out.drew.d at_ hat0 hatn _ bl _ hb64 HPW.out).mono ?_; rintro e wA ⟨rfl, FA, hdA, hstA⟩; have PA := hide (HP3.out.drew.stepD hdA hstA); have q1 : wA.cell? ⟨wr.heap.size, 1, none⟩ = some (.int .i64 at_) := (HP3.out.drew.cellD hstA (.inl rfl)).trans k1; have q3 : wA.cell? ⟨wr.heap.size, 3, none⟩ = some (.slice ba bl bc) := (HP3.out.drew.cellD hstA (.inl rfl)).trans k3; have BA := hide ((below_drew HB3.out).trans (HP3.out.drew.belowD hstA)); have SA := hide hstA; have DA := hide hdA; clear hdA hstA)
                    | (go_at_call 43; refine (rdisk_write_down PA.out.r at_ hat0 hatn _ bl _ hb64 HPW.out).mono ?_; rintro e wB ⟨rfl, WB, PB, hdB, hstB⟩; have r1 : wB.cell? ⟨wr.heap.size, 1, none⟩ = some (.int .i64 at_) := (PA.out.cellR hstB (.inl rfl)).trans q1; have r3 : wB.cell? ⟨wr.heap.size, 3, none⟩ = some (.slice ba bl bc) := (PA.out.cellR hstB (.inl rfl)).trans q3; have SB := hide hstB; have DB := hide hdB; clear hdB hstB))
                all_goals (go_wp2_with fail; go_meet; exact ⟨4, rfl, rfl, mid_step HP3.out.drew (below_drew HB3.out) HF3.out.drew DA.out SA.out DB.out SB.out (good_spent HG.out) (show s.lo.length ≤ i + 1 by omega)⟩)
              | true =>
                have HPW := hide hpw
                clear hpw
                go_wp2_with fail
                go_region_held3 (fun w' => w'.cell? ⟨wr.heap.size, 1, none⟩ = some (.int .i64 at_) ∧ w'.cell? ⟨wr.heap.size, 3, none⟩ = some (.slice ba bl bc))
                  (first
                    | (refine ⟨?_, ?_⟩ <;> assumption)
                    | (refine ⟨?_, ?_⟩ <;> (simp only [World.cell?_drew]; assumption)))
                  (first
                    | (go_at_call 28; refine (disk_write HP3.out.drew.d at_ hat0 hatn _ bl _ f hb64 HPW.out hlo' HW3.out.drew HgD.out).mono ?_; rintro e wA ⟨rfl, FA, hdA, hstA⟩; have PA := hide (HP3.out.drew.stepD hdA hstA); have q1 : wA.cell? ⟨wr.heap.size, 1, none⟩ = some (.int .i64 at_) := (HP3.out.drew.cellD hstA (.inl rfl)).trans k1; have q3 : wA.cell? ⟨wr.heap.size, 3, none⟩ = some (.slice ba bl bc) := (HP3.out.drew.cellD hstA (.inl rfl)).trans k3; have BA := hide ((below_drew HB3.out).trans (HP3.out.drew.belowD hstA)); have SA := hide hstA; have DA := hide hdA; clear hdA hstA)
                    | (go_at_call 43; refine (rdisk_write PA.out.r at_ hat0 hatn _ bl _ f hb64 HPW.out hlo' (HAct.out.rw.below BA.out) HbV.out).mono ?_; rintro e wB ⟨rfl, WB, PB, hdB, hstB⟩; have r1 : wB.cell? ⟨wr.heap.size, 1, none⟩ = some (.int .i64 at_) := (PA.out.cellR hstB (.inl rfl)).trans q1; have r3 : wB.cell? ⟨wr.heap.size, 3, none⟩ = some (.slice ba bl bc) := (PA.out.cellR hstB (.inl rfl)).trans q3; have SB := hide hstB; have DB := hide hdB; clear hdB hstB))
                all_goals (go_wp2_with fail; go_meet; exact ⟨0, rfl, rfl, mid_step HP3.out.drew (below_drew HB3.out) HF3.out.drew DA.out SA.out DB.out SB.out (good_write (good_spent HG.out) _ (bts_fill HAct.out.f256)) (by simp [St.write, St.spent]; omega)⟩)
          · have e0 : (wh == 0) = false := by rw [beq_eq_false_iff_ne]; exact hw0
            clear hw0
            by_cases hw1 : wh = 1
            · subst hw1
              cases hpw : s.power with
              | false =>
                have HPW := hide hpw
                clear hpw
                go_wp2_with fail
                refine (disk_flush_down HP3.out.d HPW.out).mono ?_
                rintro e wA ⟨rfl, FA, hdA, hstA⟩
                have PA := hide (HP3.out.stepD hdA hstA)
                have SA := hide hstA
                have DA := hide hdA
                clear hdA hstA
                go_wp2_with fail
                refine (rdisk_flush_down PA.out.r HPW.out).mono ?_
                rintro e wB ⟨rfl, WB, PB, hdB, hstB⟩
                have HM : Hid (MidAt (clamp n 1024).toNat w wB D V (i + 1) wr.heap.size g1 bl) := mid_step HP3.out HB3.out HF3.out DA.out SA.out hdB hstB (good_spent HG.out) (show s.lo.length ≤ i + 1 by omega)
                clear hdB hstB
                go_wp2_with fail
                go_meet
                exact ⟨_, rfl, rfl, HM.out⟩
              | true =>
                have HPW := hide hpw
                clear hpw
                go_wp2_with fail
                refine (disk_flush HP3.out.d HPW.out).mono ?_
                rintro e wA ⟨rfl, FA, hdA, hstA⟩
                have PA := hide (HP3.out.stepD hdA hstA)
                have SA := hide hstA
                have DA := hide hdA
                clear hdA hstA
                go_wp2_with fail
                refine (rdisk_flush PA.out.r HPW.out).mono ?_
                rintro e wB ⟨rfl, WB, PB, hdB, hstB⟩
                have HM : Hid (MidAt (clamp n 1024).toNat w wB D V (i + 1) wr.heap.size g1 bl) := mid_step HP3.out HB3.out HF3.out DA.out SA.out hdB hstB (good_flush (good_spent HG.out)) (Nat.zero_le _)
                clear hdB hstB
                go_wp2_with fail
                go_meet
                exact ⟨_, rfl, rfl, HM.out⟩
            · have e1 : (wh == 1) = false := by rw [beq_eq_false_iff_ne]; exact hw1
              clear hw1
              by_cases hw2 : wh = 2
              · subst hw2
                go_wp2_with fail
                refine (disk_crash HP3.out.d keep nn at_ HKB.out.1 HKB.out.2 HAB.out).mono ?_
                rintro e wA ⟨rfl, FA, hdA, hstA⟩
                have PA := hide (HP3.out.stepD hdA hstA)
                have q1 : wA.cell? ⟨wr.heap.size, 1, none⟩ = some (.int .i64 at_) := (HP3.out.cellD hstA (.inl rfl)).trans k1
                have q2 : wA.cell? ⟨wr.heap.size, 2, none⟩ = some (.int .i64 nn) := (HP3.out.cellD hstA (.inl rfl)).trans k2
                have q4 : wA.cell? ⟨wr.heap.size, 4, none⟩ = some (.int .u64 keep) := (HP3.out.cellD hstA (.inl rfl)).trans k4
                have SA := hide hstA
                have DA := hide hdA
                clear hdA hstA
                go_wp2_with fail
                refine (rdisk_crash PA.out.r keep nn at_ HKB.out.1).mono ?_
                rintro e wB ⟨rfl, WB, PB, hdB, hstB⟩
                have HM : Hid (MidAt (clamp n 1024).toNat w wB D V (i + 1) wr.heap.size g1 bl) := mid_step HP3.out HB3.out HF3.out DA.out SA.out hdB hstB (good_crash HG.out _ _ _) (by simp [St.crash])
                clear hdB hstB
                go_wp2_with fail
                go_meet
                exact ⟨0, rfl, rfl, HM.out⟩
              · have e2 : (wh == 2) = false := by rw [beq_eq_false_iff_ne]; exact hw2
                clear hw2
                by_cases hw3 : wh = 3
                · subst hw3
                  go_wp2_with fail
                  refine (disk_fuse HP3.out.d nn HNB.out.2).mono ?_
                  rintro e wA ⟨rfl, FA, hdA, hstA⟩
                  have PA := hide (HP3.out.stepD hdA hstA)
                  have q2 : wA.cell? ⟨wr.heap.size, 2, none⟩ = some (.int .i64 nn) := (HP3.out.cellD hstA (.inl rfl)).trans k2
                  have hHV : wr.heap.size ≠ V := fun e => (PA.out.oo _ (.inl rfl)).2.2.1 (by rw [e]; exact PA.out.r.V.1)
                  obtain ⟨⟨u2, hu2⟩, hf2⟩ := PA.out.r.fuseCell
                  have SA := hide hstA
                  have DA := hide hdA
                  clear hdA hstA
                  by_cases hneg : nn < 0
                  · have HM : Hid (MidAt (clamp n 1024).toNat w ((wA.setCell ⟨V, 2, none⟩ (.int .i64 nn)).setCell ⟨V, 2, none⟩ (.int .i64 0)) D V (i + 1) wr.heap.size g1 bl) :=
                      mid_step HP3.out HB3.out HF3.out DA.out SA.out (rdisk_fuse2 PA.out.r nn HNB.out.2 _ 0 (by omega)) (rstep_set PA.out.r (((Keeps.refl (fun b => b = V) _).setCell V 2 _ (.inl rfl)).setCell V 2 _ (.inl rfl))) (good_fuse HG.out nn) (show s.lo.length ≤ i + 1 by omega)
                    go_wp2_with fail
                    go_meet
                    exact ⟨0, rfl, rfl, HM.out⟩
                  · have HM : Hid (MidAt (clamp n 1024).toNat w (wA.setCell ⟨V, 2, none⟩ (.int .i64 nn)) D V (i + 1) wr.heap.size g1 bl) :=
                      mid_step HP3.out HB3.out HF3.out DA.out SA.out (rdisk_fuse PA.out.r nn HNB.out.2 nn (by omega)) (rstep_set PA.out.r ((Keeps.refl (fun b => b = V) _).setCell V 2 _ (.inl rfl))) (good_fuse HG.out nn) (show s.lo.length ≤ i + 1 by omega)
                    go_wp2_with fail
                    go_meet
                    exact ⟨0, rfl, rfl, HM.out⟩
                · have e3 : (wh == 3) = false := by rw [beq_eq_false_iff_ne]; exact hw3
                  clear hw3
                  go_wp2_with fail
                  go_meet
                  exact ⟨0, rfl, rfl, HM1.out⟩
        case rest =>
          clear HP3 HB3 HF3 HW3 HR3 HAct k0 k1 k2 k3 k4 c0 c1 c2 c3 c4 hlo hlo'
          obtain ⟨c, rfl, rfl, s2, F2, W2, P2, hp2, hg2, hlo2, hbel2, hbuf2⟩ := hcut
          have HP2 := hide hp2
          have HG2 := hide hg2
          have HB2 := hide hbel2
          have HL2 := hide hlo2
          have HF2 : Hid (Keeps (fun b => b = g1) wc wc ∧ Buf wc g1 bl) := ⟨Keeps.refl _ _, hbuf2⟩
          clear hp2 hg2 hbel2 hbuf2 hlo2
          go_wp2
          go_loopg [14] bl (fun g2 s14 wx => ∃ k : Nat, k + g2 = bl ∧ s14 = .int .i64 k ∧ Hid (Keeps (fun b => b = g1) wc wx ∧ Buf wx g1 bl))
          case atStart => exact ⟨0, by omega, rfl, HF2⟩
          case round =>
            clear HF2
            obtain ⟨k, hkb, rfl, hkp⟩ := hrel
            by_cases hkl : k < bl
            · obtain ⟨⟨z, hz⟩, hfz⟩ := hkp.out.2 k hkl
              have hk0 : (0 : Int) ≤ (k : Int) := by omega
              have hk1 : (k : Int) < (bl : Int) := by omega
              go_wp2
              go_roundg (gk - 1)
              case measure => omega
              case rel => exact ⟨k + 1, by omega, by go_num, ⟨hkp.out.1.setCell g1 k _ (.inl rfl), hkp.out.2.set k _⟩⟩
            · have hk1 : ¬ (k : Int) < (bl : Int) := by omega
              obtain ⟨hp4, hb4⟩ := mid_done HP2.out HB2.out hkp.out.1 hge3 HG2.out HL2.out
              have HP4 := hide hp4
              have HB4 := hide hb4
              obtain ⟨la, lc, hlc⟩ := hp4.r.looseLen
              clear hp4 hb4 hkp HP2 HB2
              go_wp2_with fail
              go_quiet ((go_at_call 55; refine Calls.quiet_of_same (disk_loose (HP4.out.d.later ⟨rfl, rfl, rfl, Nat.le_refl _, fun _ _ => rfl⟩))))
              go_wp2
              go_roundg (60 - (i + 1))
              case measure => omega
              case rel => exact ⟨i + 1, by omega, by omega, by go_num, HB4.out.drewN _⟩
    · obtain ⟨s, F, W, P, hp, hg, hlo, hbel⟩ := hbo
      have HE : Hid (BothAt (clamp n 1024).toNat w wr D V 60) := ⟨s, F, W, P, hp, hg, by omega, hbel⟩
      clear hp hg hbel
      by_cases h1 : i < len0
      · have h1' : (i : Int) < (len0 : Int) := by omega
        have h2' : ¬ (i : Int) < 60 := by omega
        go_wp2
        go_ret3
        exact ⟨D, V, rfl, HE.out⟩
      · have h1' : ¬ (i : Int) < (len0 : Int) := by omega
        go_wp2
        go_ret3
        exact ⟨D, V, rfl, HE.out⟩
end Go.Proofs.Ytbecchoidglaeaa
