/- WalPlays' walk. -/
import Derived.Test.YtbecchoidglaeaaSameW
import Derived.Test.YtbecchoidglaeaaAns04
import Derived.Test.YtbecchoidglaeaaGLogPr
import Derived.Deep.CutBlock
namespace Go.Proofs.Ytbecchoidglaeaa
open Go.RowKit
set_option maxRecDepth 100000

/-- What holds of both logs when c / 300 things were done. -/
def PlayAt (N : Nat) (w wq : World) (D V B M : Nat) (g : Lg) (s : St) (c : Nat) : Prop :=
  ∃ F W P, LP w wq D V B M g s g s (fun _ => False) F W P ∧ Inv N s g c
theorem play_done {N : Nat} {w wq : World} {D V B M c : Nat} {g : Lg} {s : St} {O F W P : Nat → Prop} (h : LP w wq D V B M g s g s O F W P) (hi : Inv N s g c) : PlayAt N w wq D V B M g s c :=
  ⟨F, W, P, h.others (fun _ h => h.elim), hi⟩
/-- The copy of what is done in a variable. -/
def copiedDo (wh n at_ keep : Int) (ba : Option Addr) (bl bc : Nat) : Obj := .cells #[.int .i64 wh, .int .i64 n, .int .i64 at_, .slice ba bl bc, .int .u64 keep] 40
theorem play_start {N : Nat} {w wr : World} {D V B M c : Nat} {g : Lg} {s : St} (h : PlayAt N w wr D V B M g s c) (o : Obj) : ∃ F W P, LP w (wr.alloc o) D V B M g s g s (fun b => b = wr.heap.size) F W P ∧ Inv N s g c := by
  obtain ⟨F, W, P, h, hi⟩ := h
  have hb : Below wr.heap.size wr (wr.alloc o) := (Below.refl _ _).alloc (Nat.le_refl _) _
  refine ⟨F, W, P, (h.later hb).others (fun b hb => .inr ?_), hi⟩
  subst hb
  exact ⟨by simp, fun hf => by have := h.q.d.lt _ hf; omega, fun hf => by have := h.q.r.lt _ (.inl hf); omega, fun hf => by have := h.q.r.lt _ (.inr hf); omega, fun e => by have := h.pl.lt; omega, fun e => by have := h.rl.lt; omega⟩
theorem LP.fuse {w0 w w1 w2 : World} {D V B M : Nat} {g : Lg} {s s' : St} {O F W P F' W' P' : Nat → Prop} (h : LP w0 w D V B M g s g s O F W P) (hd : Disk w1 D s' F') (hst : Step F F' w w1) (hr : RDisk w2 V s' W' P') (hst2 : RStep W P W' P' w1 w2) : LP w0 w2 D V B M g s' g s' O F' W' P' := by
  have h1 := h.stepP (h.plog.step hd hst) hst.log
  exact h1.stepR (h1.rlog.step hr hst2) hst2.log
set_option maxHeartbeats 12800000 in
theorem walPlays_in (n k : Nat) (a0 : Option Addr) (len0 cap0 : Nat) (w : World) (hn : n < 256) (hk : (n : Int) % 120 = (k : Int)) (hm : len0 ≤ 30) (ha : Acts w a0 len0) :
    Calls Try.prog 3 #[.int .u8 (n : Int), .slice a0 len0 cap0] w fun e w' => e = .returned (.bool true) ∧ Below w.heap.size w w' := by
  have HA := hide ha
  have hk120 : k < 120 := by omega
  have hm' : (len0 : Int) ≤ 30 := by omega
  clear ha
  go_enter Try.func3, Try.ntmps3
  go_wp2_with fail
  refine (new_any (k : Int) _ (by omega)).mono ?_
  rintro e w1 ⟨D, F, rfl, hd1, hF1, hb1⟩
  have hN : (clamp (k : Int) 1024).toNat = k := by unfold clamp; omega
  rw [hN] at hd1
  have HD1 := hide hd1
  have HF1 := hide hF1
  have HB1 := hide hb1
  clear hd1 hF1 hb1
  go_wp2_with fail
  refine (rnew_any (k : Int) _).mono ?_
  rintro e w2 ⟨V, W, P, rfl, hd2, hF2, hb2⟩
  rw [hN] at hd2
  have HP : Hid (Pair w2 D V (St.made k) (St.made k) F W P (fun _ => False) w.heap.size) := by
    have hs := HB1.out.size
    refine ⟨HD1.out.later hb2, hd2, HF1.out, fun b hb => by have := hF2 b (.inl hb); omega, fun b hb => by have := hF2 b (.inr hb); omega, fun b hb hw => ?_, fun b hb hp => ?_, fun _ h => h.elim, by have := hb2.size; omega⟩
    · have := HD1.out.lt b hb; have := hF2 b (.inl hw); omega
    · have := HD1.out.lt b hb; have := hF2 b (.inr hp); omega
  have HB : Hid (Below w.heap.size w w2) := HB1.out.trans (below_le hb2 HB1.out.size)
  have HGd := hide (good_made k)
  clear hd2 hF2 hb2 hN HD1 HF1 HB1
  by_cases hk4 : k < 4
  · go_wp2_with fail
    refine (open_small HP.out.d hk4).mono ?_
    rintro e w3 ⟨rfl, hw3⟩
    subst hw3
    go_wp2_with fail
    refine (ropen_small HP.out.r hk4).mono ?_
    rintro e w3 ⟨rfl, hw3⟩
    subst hw3
    go_wp2_with fail
    refine (rows_same (rows_nil _) (rows_nil _)).mono ?_
    rintro r w4 ⟨rfl, mm, rfl⟩
    go_wp2_with fail
    refine (answers_any _).mono ?_
    rintro r w5 ⟨rfl, hb5⟩
    go_wp2
    go_ret
    exact ⟨rfl, (below_drewN HB.out mm).trans (below_le hb5 (below_drewN HB.out mm).size)⟩
  · have HNN : Hid (4 ≤ k ∧ k ≤ 120) := by show 4 ≤ k ∧ k ≤ 120; omega
    have H0 : Hid ((openSt (St.made k)).2 = 0) := (calm_new k (by omega)).1
    have hL0 : (St.made k).lo.length ≤ 0 := Nat.le_refl _
    have HL0 := hide hL0
    clear hL0 hk4
    go_wp2_with fail
    refine (open_okB HP.out.d HGd.out HNN.out.1 (by have := HNN.out; omega) (by have := HL0.out; omega) H0.out).mono ?_
    rintro e w3 ⟨B, v, rfl, F2, B0, hp2, hst2, hB2, hB0, hro2⟩
    have HP2 := hide hp2
    have HST2 := hide (And.intro hst2 (And.intro hB2 hB0))
    have HQ2 := hide (HP.out.stepD hp2.d hst2)
    have HRO2 := hide hro2
    clear hp2 hst2 hB2 hB0 hro2
    go_wp2_with fail
    refine (ropen_ok HQ2.out.r HGd.out HNN.out.1 HNN.out.2 (by have := HL0.out; omega) H0.out).mono ?_
    rintro e w4 ⟨M, v3, rfl, W3, P3, hr3, hst3, hM3, hro3⟩
    have HLP := hide (lp_of HP.out HB.out HP2.out HST2.out.1 HST2.out.2.1 hr3 hst3 hM3)
    have HRA : Hid (ORows w4 v (St.made k)) := (HRO2.out.keeps hst3.1 (fun b hb => by have := HP.out.r.lt b (.inl hb); have := HST2.out; omega)).rd (by show k ≤ 1024; omega)
    have HRB := hide hro3
    have HIn := hide (inv_open HGd.out HL0.out HNN.out.1 HNN.out.2)
    clear hr3 hst3 hM3 hro3 HP2 HST2 HQ2 HRO2 HP HB
    generalize (openSt (St.made k)).1 = s0 at *
    generalize openLg (St.made k) = g0 at *
    go_wp2_with fail
    refine (rows_same HRA.out HRB.out).mono ?_
    rintro r w5 ⟨rfl, mm, rfl⟩
    have HP0 : Hid (PlayAt k w (w4.drewN mm) D V B M g0 s0 300) := play_done (HLP.out.later (below_drewN (Below.refl _ _) mm)) HIn.out
    clear HRA HRB HLP HIn HGd H0 HL0
    generalize w4.drewN mm = w5 at *
    go_wp2
    try rw [hk]
    clear hk
    go_loopg [8, 11, 14] len0 (fun gk s8 s11 s14 wq => ∃ i B M g s, i + gk = len0 ∧ s14 = .int .i64 (i : Int) ∧ s8 = .pointer (some ⟨B, 0, none⟩) ∧ s11 = .pointer (some ⟨M, 0, none⟩) ∧ PlayAt k w wq D V B M g s (300 * (i + 1)))
    case atStart => exact ⟨0, B, M, g0, s0, by omega, rfl, rfl, rfl, HP0.out⟩
    case round =>
      clear HP0
      obtain ⟨i, B, M, g, s, hil, rfl, rfl, rfl, hbo⟩ := hrel
      by_cases hlt : i < len0
      · obtain ⟨b, off, rfl, hacts⟩ := HA.out (by omega)
        obtain ⟨wh, nn, at_, keep, ba, bl, bc, f, hact⟩ := hacts i hlt
        have hc := hact.below (by obtain ⟨_, _, _, h, _⟩ := hbo; exact h.bel)
        have c0 := hc.c0
        have c1 := hc.c1
        have c2 := hc.c2
        have c3 := hc.c3
        have c4 := hc.c4
        have HAct := hide hact
        have HBo := hide hbo
        have hi1' : (i : Int) < (len0 : Int) := by omega
        have hi0' : (0 : Int) ≤ (i : Int) := by omega
        clear hact hacts hbo hc
        by_cases hbl : 9000 < bl
        · have hbl' : (9000 : Int) < (bl : Int) := by omega
          have HN : Hid (PlayAt k w (wr.alloc (copiedDo wh nn at_ keep ba bl bc)) D V B M g s (300 * (i + 1 + 1))) := by
            obtain ⟨F, W, P, h, hi⟩ := play_start HBo.out (copiedDo wh nn at_ keep ba bl bc)
            exact play_done h { hi with lo := by have := hi.lo; omega }
          unfold copiedDo at HN
          go_wp2
          go_roundg (gk - 1)
          case measure => omega
          case rel => exact ⟨i + 1, B, M, g, s, by omega, by go_num, rfl, rfl, HN.out⟩
        · have hbl' : (bl : Int) ≤ 9000 := by omega
          have HCap := hide HAct.out.cap
          obtain ⟨F1, W1, P1, hL3, hIv⟩ := play_start HBo.out (copiedDo wh nn at_ keep ba bl bc)
          have hh3 : (wr.alloc (copiedDo wh nn at_ keep ba bl bc)).heap[wr.heap.size]? = some (.cells #[.int .i64 wh, .int .i64 nn, .int .i64 at_, .slice ba bl bc, .int .u64 keep] 40 (0, 0)) := heap_alloc_new wr _
          have HL3 := hide hL3
          have HIv := hide hIv
          unfold copiedDo at HL3 hh3
          obtain ⟨w3, hw3⟩ : ∃ w3, w3 = wr.alloc (.cells #[.int .i64 wh, .int .i64 nn, .int .i64 at_, .slice ba bl bc, .int .u64 keep] 40) := ⟨_, rfl⟩
          rw [← hw3] at HL3 hh3
          have k0 : w3.cell? ⟨wr.heap.size, 0, none⟩ = some (.int .i64 wh) := by rw [cell_of_row _ _ _ _ _ _ hh3]; rfl
          have k1 : w3.cell? ⟨wr.heap.size, 1, none⟩ = some (.int .i64 nn) := by rw [cell_of_row _ _ _ _ _ _ hh3]; rfl
          have k2 : w3.cell? ⟨wr.heap.size, 2, none⟩ = some (.int .i64 at_) := by rw [cell_of_row _ _ _ _ _ _ hh3]; rfl
          have k3 : w3.cell? ⟨wr.heap.size, 3, none⟩ = some (.slice ba bl bc) := by rw [cell_of_row _ _ _ _ _ _ hh3]; rfl
          have k4 : w3.cell? ⟨wr.heap.size, 4, none⟩ = some (.int .u64 keep) := by rw [cell_of_row _ _ _ _ _ _ hh3]; rfl
          clear hL3 hIv hh3 HBo
          go_upto_block 2 with fail
          rw [← hw3]
          clear hw3 c0 c1 c2 c3 c4
          go_cut [8, 11, 16, 17, 18, 19, 20, 21, 22, 23] from 63 to 177 (fun s8 s11 s16 s17 _ _ _ _ _ _ wc => ∃ B M g s, ∃ c : Int, s8 = .pointer (some ⟨B, 0, none⟩) ∧ s11 = .pointer (some ⟨M, 0, none⟩) ∧ s16 = .int .i64 c ∧ s17 = .int .i64 c ∧ PlayAt k w wc D V B M g s (300 * (i + 1) + 300))
          case first =>
            have HAB := hide HAct.out.n1
            have HNB := hide HAct.out.at1
            have HKB := hide HAct.out.k1
            by_cases hw0 : wh = 0
            · subst hw0

              go_wp2_with fail
              go_region_held3 (fun w' => w'.cell? ⟨wr.heap.size, 3, none⟩ = some (.slice ba bl bc))
                (first
                  | assumption
                  | (simp only [World.cell?_drew]; assumption))
                (first
                  | (go_at_call 15; refine (lp_pappend (HL3.out.later (below_drew1 (Below.refl _ _))) HIv.out (by omega) ba bl bc f HCap.out HAct.out.rw HAct.out.f256).mono ?_; rintro e wA ⟨rfl, FA, hA, hkA⟩; have q3 : wA.cell? ⟨wr.heap.size, 3, none⟩ = some (.slice ba bl bc) := (World.cell?_of_block (w := w3.drew) (hkA wr.heap.size rfl)).trans (by rw [World.cell?_drew]; exact k3); have LA := hide hA; clear hA hkA)
                  | (go_at_call 16; refine (lp_rappend LA.out HIv.out (by omega) ba bl bc f HCap.out HAct.out.rw HAct.out.f256).mono ?_; rintro e wB ⟨rfl, WB, PB, hB, hkB⟩; have r3 : wB.cell? ⟨wr.heap.size, 3, none⟩ = some (.slice ba bl bc) := (World.cell?_of_block (w := wA) (hkB wr.heap.size rfl)).trans q3; have LB := hide hB; clear hB hkB))
              all_goals (go_wp2_with fail; go_meet; exact ⟨B, M, _, _, _, rfl, rfl, rfl, rfl, play_done LB.out (HIv.out.append HAct.out.f256)⟩)
            · have e0 : (wh == 0) = false := by rw [beq_eq_false_iff_ne]; exact hw0
              clear hw0
              by_cases hw1 : wh = 1
              · subst hw1

                go_wp2_with fail
                go_region_held3 (fun w' => w'.cell? ⟨wr.heap.size, 3, none⟩ = some (.slice ba bl bc))
                  (first
                    | assumption
                    | (simp only [World.cell?_drew]; assumption))
                  (first
                    | (go_at_call 17; refine (lp_pcheck (HL3.out.later (below_drew1 (Below.refl _ _))) HIv.out (by omega) ba bl bc f HCap.out HAct.out.rw HAct.out.f256).mono ?_; rintro e wA ⟨rfl, FA, hA, hkA⟩; have q3 : wA.cell? ⟨wr.heap.size, 3, none⟩ = some (.slice ba bl bc) := (World.cell?_of_block (w := w3.drew) (hkA wr.heap.size rfl)).trans (by rw [World.cell?_drew]; exact k3); have LA := hide hA; clear hA hkA)
                    | (go_at_call 18; refine (lp_rcheck LA.out HIv.out (by omega) ba bl bc f HCap.out HAct.out.rw HAct.out.f256).mono ?_; rintro e wB ⟨rfl, WB, PB, hB, hkB⟩; have r3 : wB.cell? ⟨wr.heap.size, 3, none⟩ = some (.slice ba bl bc) := (World.cell?_of_block (w := wA) (hkB wr.heap.size rfl)).trans q3; have LB := hide hB; clear hB hkB))
                all_goals (go_wp2_with fail; go_meet; exact ⟨B, M, _, _, _, rfl, rfl, rfl, rfl, play_done LB.out (HIv.out.check HAct.out.f256)⟩)
              · have e1 : (wh == 1) = false := by rw [beq_eq_false_iff_ne]; exact hw1
                clear hw1
                by_cases hw3 : wh = 3
                · subst hw3
                  go_wp2_with fail
                  refine (disk_fuse HL3.out.q.d nn HNB.out.2).mono ?_
                  rintro e wA ⟨rfl, FA, hdA, hstA⟩
                  have PA := hide (HL3.out.q.stepD hdA hstA)
                  have q1 : wA.cell? ⟨wr.heap.size, 1, none⟩ = some (.int .i64 nn) := (HL3.out.q.cellD hstA (.inr (.inr rfl))).trans k1
                  have hHV : wr.heap.size ≠ V := fun e => (PA.out.oo _ (.inr (.inr rfl))).2.2.1 (by rw [e]; exact PA.out.r.V.1)
                  obtain ⟨⟨u2, hu2⟩, hf2⟩ := PA.out.r.fuseCell
                  have SA := hide hstA
                  have DA := hide hdA
                  have HIf : Hid (Inv k (s.fuse nn) g (300 * (i + 1) + 300)) := { HIv.out with good := good_fuse HIv.out.good nn, lo := (by have := HIv.out.lo; show s.lo.length ≤ _; omega) }
                  clear hdA hstA
                  by_cases hneg : nn < 0
                  · have HM : Hid (PlayAt k w ((wA.setCell ⟨V, 2, none⟩ (.int .i64 nn)).setCell ⟨V, 2, none⟩ (.int .i64 0)) D V B M g (s.fuse nn) (300 * (i + 1) + 300)) :=
                      play_done (HL3.out.fuse DA.out SA.out (rdisk_fuse2 PA.out.r nn HNB.out.2 _ 0 (by omega)) (rstep_set PA.out.r (((Keeps.refl (fun b => b = V) _).setCell V 2 _ (.inl rfl)).setCell V 2 _ (.inl rfl)))) HIf.out
                    go_wp2_with fail
                    go_meet
                    exact ⟨B, M, _, _, 0, rfl, rfl, rfl, rfl, HM.out⟩
                  · have HM : Hid (PlayAt k w (wA.setCell ⟨V, 2, none⟩ (.int .i64 nn)) D V B M g (s.fuse nn) (300 * (i + 1) + 300)) :=
                      play_done (HL3.out.fuse DA.out SA.out (rdisk_fuse PA.out.r nn HNB.out.2 nn (by omega)) (rstep_set PA.out.r ((Keeps.refl (fun b => b = V) _).setCell V 2 _ (.inl rfl)))) HIf.out
                    go_wp2_with fail
                    go_meet
                    exact ⟨B, M, _, _, 0, rfl, rfl, rfl, rfl, HM.out⟩
                · have e3 : (wh == 3) = false := by rw [beq_eq_false_iff_ne]; exact hw3
                  clear hw3
                  by_cases hw2 : wh = 2
                  · subst hw2
                    go_wp2_with fail
                    refine (disk_crash HL3.out.q.d keep nn at_ HKB.out.1 HKB.out.2 HAB.out).mono ?_
                    rintro e wA ⟨rfl, FA, hdA, hstA⟩
                    have PA := hide (HL3.out.q.stepD hdA hstA)
                    have q1 : wA.cell? ⟨wr.heap.size, 1, none⟩ = some (.int .i64 nn) := (HL3.out.q.cellD hstA (.inr (.inr rfl))).trans k1
                    have q2 : wA.cell? ⟨wr.heap.size, 2, none⟩ = some (.int .i64 at_) := (HL3.out.q.cellD hstA (.inr (.inr rfl))).trans k2
                    have q4 : wA.cell? ⟨wr.heap.size, 4, none⟩ = some (.int .u64 keep) := (HL3.out.q.cellD hstA (.inr (.inr rfl))).trans k4
                    have SA := hide hstA
                    have DA := hide hdA
                    clear hdA hstA
                    go_wp2_with fail
                    refine (rdisk_crash PA.out.r keep nn at_ HKB.out.1).mono ?_
                    rintro e wx ⟨rfl, Wx, Px, hdB, hstB⟩
                    have HLx := hide (HL3.out.fuse DA.out SA.out hdB hstB)
                    have HGx := hide (good_crash HIv.out.good keep.toNat nn at_)
                    have HLOx : Hid ((s.crash keep.toNat nn at_).lo.length ≤ 300 * (i + 1)) := by show (s.crash keep.toNat nn at_).lo.length ≤ _; simp [St.crash]
                    clear hdB hstB
                    generalize s.crash keep.toNat nn at_ = sx at *

                    have HGO := hide (openSt_good HGx.out HNN.out.2)
                    rcases openSt_cases sx with h0 | h0
                    · have H0 := hide h0
                      clear h0
                      go_wp2_with fail
                      refine (open_okB HLx.out.q.d HGx.out HNN.out.1 (by have := HNN.out; omega) (by have := HLOx.out; omega) H0.out).mono ?_
                      rintro e wC ⟨B2, vC, rfl, FC, B0, hpC, hstC, hBC, hB0, hroC⟩
                      have HLC := hide (HLx.out.newP hpC hstC hBC)
                      have HROC := hide hroC
                      have HB0C : Hid (∀ b, Wx b → b < B0) := fun b hb => by have := HLx.out.q.r.lt b (.inl hb); omega
                      clear hpC hstC hBC hB0 hroC
                      go_wp2_with fail
                      refine (ropen_ok HLC.out.q.r HGx.out HNN.out.1 HNN.out.2 (by have := HLOx.out; omega) H0.out).mono ?_
                      rintro e wE ⟨M2, vE, rfl, WE, PE, hrE, hstE, hME, hroE⟩
                      have HLE := hide (HLC.out.newR hrE hstE hME)
                      have HRA : Hid (ORows wE vC sx) := (HROC.out.keeps hstE.1 HB0C.out).rd (by rw [HGx.out.2.2]; have := HNN.out; omega)
                      have HRB := hide hroE
                      clear hrE hstE hME hroE
                      go_wp2_with fail
                      refine (rows_same HRA.out HRB.out).mono ?_
                      rintro r wG ⟨rfl, mm, rfl⟩
                      have HLG := hide (HLE.out.later (below_drewN (Below.refl _ _) mm))
                      have HIG := hide (inv_open HGx.out HLOx.out HNN.out.1 HNN.out.2)
                      generalize wE.drewN mm = wG at *
                      go_wp2_with fail
                      go_meet
                      exact ⟨B2, M2, _, _, 0, rfl, rfl, rfl, rfl, play_done HLG.out HIG.out⟩
                    · have H0 := hide h0
                      clear h0
                      go_wp2_with fail
                      refine (open_no HLx.out.q.d HGx.out HNN.out.1 (by have := HNN.out; omega) (by have := HLOx.out; omega) H0.out).mono ?_
                      rintro e wC ⟨rfl, FC, hdC, hstC⟩
                      have HQC := hide (HLx.out.q.stepD hdC hstC)
                      have HBC := hide (HLx.out.bel.trans (HLx.out.q.belowD hstC))
                      clear hdC hstC
                      go_wp2_with fail
                      refine (ropen_no HQC.out.r HGx.out HNN.out.1 HNN.out.2 (by have := HLOx.out; omega) H0.out).mono ?_
                      rintro e wE ⟨rfl, WE, PE, hdE, hstE⟩
                      have HQE := hide (HQC.out.stepR hdE hstE)
                      have HBE := hide (HBC.out.trans (HQC.out.belowR hstE))
                      clear hdE hstE
                      go_wp2_with fail
                      refine (rows_same (rows_nil _) (rows_nil _)).mono ?_
                      rintro r wG ⟨rfl, mm, rfl⟩
                      have HQG := hide (HQE.out.later (below_drewN (Below.refl _ _) mm))
                      have HBG := hide (below_drewN HBE.out mm)
                      generalize wE.drewN mm = wG at *
                      go_wp2_with fail
                      refine (answers_any _).mono ?_
                      rintro r wI ⟨rfl, hbI⟩
                      have HQI := hide (HQG.out.later hbI)
                      have HBI := hide (HBG.out.trans (below_le hbI HBG.out.size))
                      clear hbI
                      go_wp2_with fail
                      refine (sames_any (HQI.out.others (O' := fun _ => False) (fun _ h => h.elim)) HGO.out.1 (by rw [HGO.out.1.2.2]; have := HNN.out; omega)).mono ?_
                      rintro r wJ ⟨rfl, hbJ⟩
                      have HBJ := hide (HBI.out.trans (below_le hbJ HBI.out.size))
                      clear hbJ
                      go_wp2
                      go_ret
                      exact ⟨rfl, HBJ.out⟩
                  · have e2 : (wh == 2) = false := by rw [beq_eq_false_iff_ne]; exact hw2
                    clear hw2
                    obtain ⟨sx, hsx⟩ : ∃ sx, sx = s := ⟨_, rfl⟩
                    have HGx : Hid (Good k sx) := by rw [hsx]; exact HIv.out.good
                    have HLOx : Hid (sx.lo.length ≤ 300 * (i + 1)) := by rw [hsx]; exact HIv.out.lo
                    obtain ⟨Wx, hWx⟩ : ∃ Wx, Wx = W1 := ⟨_, rfl⟩
                    have HLx : Hid (LP w w3 D V B M g sx g sx (fun b => b = wr.heap.size) F1 Wx P1) := by rw [hsx, hWx]; exact HL3
                    clear hsx hWx

                    have HGO := hide (openSt_good HGx.out HNN.out.2)
                    rcases openSt_cases sx with h0 | h0
                    · have H0 := hide h0
                      clear h0
                      go_wp2_with fail
                      refine (open_okB HLx.out.q.d HGx.out HNN.out.1 (by have := HNN.out; omega) (by have := HLOx.out; omega) H0.out).mono ?_
                      rintro e wC ⟨B2, vC, rfl, FC, B0, hpC, hstC, hBC, hB0, hroC⟩
                      have HLC := hide (HLx.out.newP hpC hstC hBC)
                      have HROC := hide hroC
                      have HB0C : Hid (∀ b, Wx b → b < B0) := fun b hb => by have := HLx.out.q.r.lt b (.inl hb); omega
                      clear hpC hstC hBC hB0 hroC
                      go_wp2_with fail
                      refine (ropen_ok HLC.out.q.r HGx.out HNN.out.1 HNN.out.2 (by have := HLOx.out; omega) H0.out).mono ?_
                      rintro e wE ⟨M2, vE, rfl, WE, PE, hrE, hstE, hME, hroE⟩
                      have HLE := hide (HLC.out.newR hrE hstE hME)
                      have HRA : Hid (ORows wE vC sx) := (HROC.out.keeps hstE.1 HB0C.out).rd (by rw [HGx.out.2.2]; have := HNN.out; omega)
                      have HRB := hide hroE
                      clear hrE hstE hME hroE
                      go_wp2_with fail
                      refine (rows_same HRA.out HRB.out).mono ?_
                      rintro r wG ⟨rfl, mm, rfl⟩
                      have HLG := hide (HLE.out.later (below_drewN (Below.refl _ _) mm))
                      have HIG := hide (inv_open HGx.out HLOx.out HNN.out.1 HNN.out.2)
                      generalize wE.drewN mm = wG at *
                      go_wp2_with fail
                      go_meet
                      exact ⟨B2, M2, _, _, 0, rfl, rfl, rfl, rfl, play_done HLG.out HIG.out⟩
                    · have H0 := hide h0
                      clear h0
                      go_wp2_with fail
                      refine (open_no HLx.out.q.d HGx.out HNN.out.1 (by have := HNN.out; omega) (by have := HLOx.out; omega) H0.out).mono ?_
                      rintro e wC ⟨rfl, FC, hdC, hstC⟩
                      have HQC := hide (HLx.out.q.stepD hdC hstC)
                      have HBC := hide (HLx.out.bel.trans (HLx.out.q.belowD hstC))
                      clear hdC hstC
                      go_wp2_with fail
                      refine (ropen_no HQC.out.r HGx.out HNN.out.1 HNN.out.2 (by have := HLOx.out; omega) H0.out).mono ?_
                      rintro e wE ⟨rfl, WE, PE, hdE, hstE⟩
                      have HQE := hide (HQC.out.stepR hdE hstE)
                      have HBE := hide (HBC.out.trans (HQC.out.belowR hstE))
                      clear hdE hstE
                      go_wp2_with fail
                      refine (rows_same (rows_nil _) (rows_nil _)).mono ?_
                      rintro r wG ⟨rfl, mm, rfl⟩
                      have HQG := hide (HQE.out.later (below_drewN (Below.refl _ _) mm))
                      have HBG := hide (below_drewN HBE.out mm)
                      generalize wE.drewN mm = wG at *
                      go_wp2_with fail
                      refine (answers_any _).mono ?_
                      rintro r wI ⟨rfl, hbI⟩
                      have HQI := hide (HQG.out.later hbI)
                      have HBI := hide (HBG.out.trans (below_le hbI HBG.out.size))
                      clear hbI
                      go_wp2_with fail
                      refine (sames_any (HQI.out.others (O' := fun _ => False) (fun _ h => h.elim)) HGO.out.1 (by rw [HGO.out.1.2.2]; have := HNN.out; omega)).mono ?_
                      rintro r wJ ⟨rfl, hbJ⟩
                      have HBJ := hide (HBI.out.trans (below_le hbJ HBI.out.size))
                      clear hbJ
                      go_wp2
                      go_ret
                      exact ⟨rfl, HBJ.out⟩
          case rest =>
            clear HL3 HIv HAct k0 k1 k2 k3 k4
            obtain ⟨B, M, g, s, c, rfl, rfl, rfl, rfl, F2, W2, P2, hL, hI⟩ := hcut
            have HL := hide hL
            have HI := hide hI
            have m1 := hL.rl.c1
            have hcc : ((c : Int) != c) = false := by simp
            clear hL hI
            go_wp2_with fail
            go_quiet ((go_at_call 23; refine Calls.quiet_of_same (gen_in (HL.out.later (below_drewN (Below.refl _ _) _)).pl)))
            have HE : Hid (PlayAt k w (wc.drewN nq) D V B M g s (300 * (i + 1 + 1))) := play_done (HL.out.later (below_drewN (Below.refl _ _) nq)) HI.out
            go_wp2
            go_roundg (gk - 1)
            case measure => omega
            case rel => exact ⟨i + 1, B, M, g, s, by omega, by go_num, rfl, rfl, HE.out⟩
      · obtain ⟨F2, W2, P2, hL, hI⟩ := hbo
        have HL := hide hL
        have HI := hide hI
        have h1' : ¬ (i : Int) < (len0 : Int) := by omega
        clear hL hI
        go_wp2_with fail
        refine (answers_any _).mono ?_
        rintro r w6 ⟨rfl, hb6⟩
        have HL6 := hide (HL.out.later hb6)
        clear hb6
        go_wp2_with fail
        refine (sames_any (HL6.out.q.others (O' := fun _ => False) (fun _ h => h.elim)) HI.out.good (by rw [HI.out.good.2.2]; have := HNN.out; omega)).mono ?_
        rintro r w7 ⟨rfl, hb7⟩
        have HL7 := hide (HL6.out.later hb7)
        clear hb7
        go_wp2
        go_ret
        exact ⟨rfl, HL7.out.bel⟩
set_option maxHeartbeats 400000 in
theorem walPlays_out (n : Int) (a0 : Option Addr) (len0 cap0 : Nat) (w : World) (hm : 30 < len0) :
    Calls Try.prog 3 #[.int .u8 n, .slice a0 len0 cap0] w fun e w' => e = .returned (.bool true) ∧ Below w.heap.size w w' := by
  have hm' : (30 : Int) < (len0 : Int) := by omega
  go_enter Try.func3, Try.ntmps3
  go_wp2_with fail
  refine (answers_any _).mono ?_
  rintro e w1 ⟨rfl, hb⟩
  go_wp2
  go_ret
  exact ⟨rfl, hb⟩
theorem walPlays_walk (n : Int) (hn : (Lit.int .u8 n).wf = true) (a0 : Option Addr) (len0 cap0 : Nat) (w : World) (ha : Acts w a0 len0) :
    Calls Try.prog 3 #[.int .u8 n, .slice a0 len0 cap0] w fun e w' => e = .returned (.bool true) ∧ Below w.heap.size w w' := by
  have hb := bounds_u8 hn
  by_cases hm : 30 < len0
  · exact walPlays_out n a0 len0 cap0 w hm
  · obtain ⟨k, rfl⟩ := Int.eq_ofNat_of_zero_le hb.1
    exact walPlays_in k (k % 120) a0 len0 cap0 w (by omega) (by omega) (by omega) ha
end Go.Proofs.Ytbecchoidglaeaa
