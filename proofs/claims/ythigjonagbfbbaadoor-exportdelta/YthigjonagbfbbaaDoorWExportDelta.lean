/- ExportDelta's walk. -/
import Derived.Test.YthigjonagbfbbaaDoorKBd
import Derived.Test.YthigjonagbfbbaaDoorExTe
import Derived.Test.YthigjonagbfbbaaDoorKBc
import Derived.Deep.CutRange
namespace Go.Proofs.YthigjonagbfbbaaDoor
open Go.RowKit
set_option maxRecDepth 100000

section
attribute [local go_sem ↓] keptT_build keptT_bs keptT_load keptT_store keptT_alloc keptA_load Go.wp_at_zero Go.wp_at_succ
set_option maxHeartbeats 25600000 in
theorem exportDelta_in (a0 a1 : Option Addr) (c0 c1 n0 n1 : Nat) (l0 l1 : List TE) (w : World) (hS : Said w) (hn0 : n0 = l0.length) (hn1 : n1 = l1.length) (hl0 : n0 ≤ 400) (hl1 : n1 ≤ 400) (hr0 : TlsRd w a0 (l0.map Prod.fst)) (hr1 : TlsRd w a1 (l1.map Prod.fst)) (ht0 : ∀ p ∈ l0, TlAt w p) (ht1 : ∀ p ∈ l1, TlAt w p) (hg0 : ∀ p ∈ l0, BigT p.2) (hg1 : ∀ p ∈ l1, BigT p.2) :
    Calls Tryd.prog 5 #[.slice a0 n0 c0, .slice a1 n1 c1] w fun e w' => e = .returned (.bool true) ∧ Below w.heap.size w w' := by
  have HANS := hide (fun (w1 : World) (hb : Below w.heap.size w w1) => answers_any w1 (hS.below hb))
  have T0 := told_any a0 c0 l0 w (by omega) hr0 ht0 hg0
  have T1 := fun (w1 : World) (hb : Below w.heap.size w w1) => told_any a1 c1 l1 w1 (by omega) (hr1.below hb) (fun p hp => (ht1 p hp).below hb) hg1
  rw [← hn0] at T0
  rw [← hn1] at T1
  have HT0 := hide T0
  have HT1 := hide T1
  have HF := hide (fun (w2 : World) (hb : Below w.heap.size w w2) => tell_two l0 l1 w2 (fun p hp => (ht0 p hp).below hb) (fun p hp => (ht1 p hp).below hb))
  have z0 := toldT_len l0
  have z1 := toldT_len l1
  have r0 := told_risesL l0
  have r1 := told_risesL l1
  clear hS hr0 hr1 ht0 ht1 hg0 hg1 T0 T1
  rw [← List.length_map (f := Prod.fst)] at z0 z1
  generalize (toldT l0).map Prod.fst = old at *
  generalize (toldT l1).map Prod.fst = fresh at *
  have HR0 := hide r0
  have HR1 := hide r1
  clear r0 r1 hn0 hn1
  have dn0 : decide ((400 : Int) < (n0 : Int)) = false := decide_eq_false (by omega)
  have dn1 : decide ((400 : Int) < (n1 : Int)) = false := decide_eq_false (by omega)
  go_enter Tryd.func5, Tryd.ntmps5
  go_wp2_with fail
  refine HT0.out.mono ?_
  rintro e w1 ⟨v5, rfl, o5, b1⟩
  go_wp2_with fail
  refine (HT1.out w1 b1).mono ?_
  rintro e w2 ⟨v6, rfl, o6, b2⟩
  have hb2 : Below w.heap.size w w2 := b1.trans (b2.mono b1.size)
  obtain ⟨f, hf0, hf1⟩ := HF.out w2 hb2
  obtain ⟨oa, oc, rfl, hor⟩ := TlOwn.rd (own_later o5 b2) (fun x hx => (hf0 x hx).2)
  obtain ⟨fa, fc, rfl, hfr⟩ := TlOwn.rd o6 (fun x hx => (hf1 x hx).2)
  obtain ⟨on, hon⟩ : ∃ on, on = old.length := ⟨_, rfl⟩
  obtain ⟨fn, hfn⟩ : ∃ fn, fn = fresh.length := ⟨_, rfl⟩
  have HD := hide (delta_any oa fa oc fc old fresh f w2 (by omega) (by omega) hor hfr (fun t ht => (hf0 t ht).1) (fun t ht => (hf1 t ht).1))
  have HDD := hide (fun (W : World) (hb : Below w2.heap.size w2 W) => delta_any fa fa fc fc fresh fresh f W (by omega) (by omega) (hfr.below hb) (hfr.below hb) (fun t ht => (hf1 t ht).1.below hb) (fun t ht => (hf1 t ht).1.below hb))
  rw [delta_self fresh f HR1.out] at HDD
  have HU1 := hide (delta_play old fresh f HR0.out HR1.out)
  have HU2 := hide (delta_seen old fresh f HR0.out HR1.out)
  have HU3 := hide (delta_ok old fresh f)
  have HU4 := hide (delta_att old (fun t ht => (hf1 t ht).1))
  have HU5 := hide (delta_len old fresh f z0 z1)
  have HSM : Hid (smallRs (fresh.map (rtF f))) := fun r hr => by
    obtain ⟨t, ht, rfl⟩ := List.mem_map.1 hr
    obtain ⟨_, _, _, _, _, _, _, _, h⟩ := (hf1 t ht).1
    exact h
  generalize deltaU old fresh f = us at *
  have HOR := hide hor
  have HFR := hide hfr
  have HC0 := hide hf0
  have HC1 := hide hf1
  have HB2 := hide hb2
  have HON := hide hon
  have HFN := hide hfn
  rw [← hon] at HD z0 ⊢
  rw [← hfn] at HD HDD z1 ⊢
  clear hf0 hf1 hor hfr o5 o6 b1 b2 hb2 HT0 HT1 HF hon hfn
  go_wp2_with fail
  refine HD.out.mono ?_
  rintro e w3 ⟨v7, rfl, hd, b3⟩
  obtain ⟨ua, uc, rfl⟩ := hd.slice
  have HDL := hide hd
  have HB3 := hide b3
  have HBw3 : Hid (Below w.heap.size w w3) := HB2.out.trans (b3.mono HB2.out.size)
  obtain ⟨un, hun⟩ : ∃ un, un = us.length := ⟨_, rfl⟩
  have HUN := hide hun
  rw [← hun] at HDL ⊢
  have hu9 : un ≤ 1000 := by have := HU5.out; omega
  clear HD hd b3 hun
  go_wp2_with fail
  have HK0 : Hid (OwnRts w3 w3.heap.size w3 (.slice none 0 0) ((old.take 0).map (rtF f))) := OwnRts.nil _ _ _
  have HW0 : Hid (Below w3.heap.size w3 w3) := Below.refl _ _
  go_loopw [8, 9] (fun v i wq => ∃ k : Nat, k ≤ on ∧ i = .int .i64 k ∧ Hid (OwnRts w3 w3.heap.size wq v ((old.take k).map (rtF f))) ∧ Hid (Below w3.heap.size w3 wq)) (fun _ i _ => on - (intOf i).toNat)
  case atStart => exact ⟨0, Nat.zero_le _, rfl, HK0, HW0⟩
  case round =>
    clear HK0 HW0
    obtain ⟨k, hk, rfl, HK, HW⟩ := hrel
    by_cases hko : k < on
    · skip
      have hk0 : (0 : Int) ≤ (k : Int) := Int.natCast_nonneg _
      have hk1 : (k : Int) < (on : Int) := by omega
      obtain ⟨t, ht⟩ : ∃ t, old[k]? = some t := ⟨old[k]'(by have := HON.out; omega), List.getElem?_eq_getElem _⟩
      obtain ⟨b, off, rfl, hcs⟩ := HOR.out.1 (by have := HON.out; omega)
      have hc2 := hcs k t ht
      have hcw : ∀ W, Below w3.heap.size w3 W → ∀ (j : Nat) (v : Value), (tlC t)[j]? = some v → W.cell? ⟨b, off + k * 9 + j, none⟩ = some v := fun W hb j v hv => by
        have h1 := hc2 j v hv
        have hb9 : Below w2.heap.size w2 W := HB3.out.trans (hb.mono HB3.out.size)
        rw [hb9.cell (World.block_lt_of_cell? w2 _ h1)]
        exact h1
      obtain ⟨hca, hac⟩ := HC0.out t (List.mem_of_getElem? ht)
      obtain ⟨pa, pc, ca, cc, ra, rc, hC, hrd, hsz⟩ := hca
      have hla : ∀ W, Below w3.heap.size w3 W → (Instr.loadAt 34 (.pointer (some ⟨b, off + k * 9 + 2, none⟩))).run Tryd.prog W = .ok (.agg (atC pa pc ca cc ra rc (f t.C))) W := fun W hb => by
        have := loadA_tl (hcw W hb) hac
        rw [show (Value.agg t.C) = .agg (atC pa pc ca cc ra rc (f t.C)) from congrArg Value.agg hC] at this
        exact this
      have hcp : ∀ W, Below w3.heap.size w3 W → W.cell? ⟨b, off + k * 9, none⟩ = some (.int .u32 (t.A : Int)) ∧ W.cell? ⟨b, off + k * 9 + 1, none⟩ = some (.int .i64 t.L) := fun W hb => ⟨hcw W hb 0 _ (tlC_0 t), hcw W hb 1 _ (tlC_1 t)⟩
      have hlen : ((old.take k).map (rtF f)).length = k := by rw [List.length_map, List.length_take]; have := HON.out; omega
      have hdr : Below wr.heap.size wr wr.drew := (Below.refl _ _).drew
      obtain ⟨ra2, rc2, w5, hr5, ho5, hb5, _⟩ := OwnRts.snoc (r := rtF f t) (pa := pa) (pc := pc) (ca := ca) (cc := cc) (ra := ra) (rc := rc) (HK.out.later hdr) (Nat.le_trans HW.out.size hdr.size) (hrd.below HB3.out) (by rw [hlen]; omega)
      rw [hlen] at hr5 ho5
      have HO5 : Hid (OwnRts w3 w3.heap.size w5 (.slice ra2 (k + 1) rc2) ((old.take (k + 1)).map (rtF f))) := by
        show OwnRts _ _ _ _ _
        rw [take_more old k t ht, List.map_append]
        exact ho5
      have HW5 : Hid (Below w3.heap.size w3 w5) := (HW.out.trans (hdr.mono HW.out.size)).trans hb5
      have HR5 := hide hr5
      have HLA := hide hla
      have HCP := hide hcp
      clear hc2 hcw hcs hac hC hrd hsz hla hcp hlen ho5 hb5 hr5 hdr ht
      go_wp2_with fail
      refine region_ord (fun W => Below w3.heap.size w3 W) (fun k => k == 12 || k == 13) [0, 1, 2, 3, 4, 5, 6, 7, 8, 9, 10, 11, 12, 13, 14] (by kernel_rfl) (by kernel_rfl) (by rfl) (by kernel_rfl) HW.out.drew ?_
      iterate 5 refine ord_q (by rfl) (by rfl) (by rfl) (fun w9 h9 => (by go_simp; first | done | rfl)) (by go_simp; first | done | rfl) ?_
      refine ord_q (by rfl) (by rfl) (by rfl) (fun w9 h9 => (by obtain ⟨s0, s1⟩ := HCP.out w9 h9; go_simp; first | done | rfl)) (by go_simp; first | done | rfl) ?_
      iterate 4 refine ord_q (by rfl) (by rfl) (by rfl) (fun w9 h9 => (by go_simp; first | done | rfl)) (by go_simp; first | done | rfl) ?_
      refine ord_q (by rfl) (by rfl) (by rfl) (fun w9 h9 => exec_loadv _ _ _ (by rfl) (HLA.out w9 h9)) (by go_simp; first | done | rfl) ?_
      refine ord_q (by rfl) (by rfl) (by rfl) (fun w9 h9 => exec_build2 0 2 _ _ _ _ _ (by rfl) (by rfl) (run_buildRt t.A t.L pa pc ca cc ra rc (f t.C) w9)) (by go_simp; first | done | rfl) ?_
      refine ord_l (by rfl) (by rfl) (by rfl) ?_
      refine wp_exec (exec_bs1 _ _ _ (by rfl) (run_bsRt pa pc ca cc ra rc (rtF f t) wr.drew)) ?_
      refine ⟨HW.out.drew.alloc HW.out.size _, ?_⟩
      refine ord_l (by rfl) (by rfl) (by rfl) ?_
      refine wp_exec (exec_append _ _ _ _ _ (by rfl) (by rfl) HR5.out) ?_
      refine ⟨HW5.out, ?_⟩
      refine ord_q (by rfl) (by rfl) (by rfl) (fun w9 h9 => (by go_simp; first | done | rfl)) (by go_simp; first | done | rfl) ?_
      refine ⟨fun _ h => (by cases h), ?_⟩
      go_wp2_with fail
      exact ⟨⟨k + 1, by omega, by go_num, HO5, HW5⟩, by simp [intOf]; omega⟩
    · obtain rfl : k = on := by omega
      have hkd : decide ((k : Int) < (k : Int)) = false := decide_eq_false (by omega)
      have hta : old.take k = old := List.take_of_length_le (by have := HON.out; omega)
      rw [hta] at HK
      obtain ⟨ka, kc, rfl, hrd⟩ := HK.out.rd HW.out
      have HQ0 : Hid (RtsRd wr ka ((us.take 0).foldl playU (old.map (rtF f)))) := hrd
      clear HK hrd hta
      go_wp2_with fail
      go_loopw [8, 10, 11] (fun v s i wq => ∃ (q : Nat) (a : Option Addr) (c : Nat), q ≤ un ∧ i = .int .i64 q ∧ s = .int .i64 ((seenU (us.take q) : Nat) : Int) ∧ v = .slice a ((us.take q).foldl playU (old.map (rtF f))).length c ∧ Hid (RtsRd wq a ((us.take q).foldl playU (old.map (rtF f)))) ∧ Hid (Below w3.heap.size w3 wq)) (fun _ _ i _ => un - (intOf i).toNat)
      case atStart => exact ⟨0, ka, kc, Nat.zero_le _, rfl, rfl, rfl, HQ0, HW⟩
      case round =>
        clear HQ0 HW
        obtain ⟨q, ka2, kc2, hq, rfl, rfl, rfl, HQ, HW⟩ := hrel
        by_cases hqu : q < un
        · skip
          have hq0 : (0 : Int) ≤ (q : Int) := Int.natCast_nonneg _
          have hq1 : (q : Int) < (un : Int) := by omega
          obtain ⟨u, hu⟩ : ∃ u, us[q]? = some u := ⟨us[q]'(by have := HUN.out; omega), List.getElem?_eq_getElem _⟩
          have hum := List.mem_of_getElem? hu
          have HUO := hide (HU3.out u hum)
          obtain ⟨g, cap, e, hcell⟩ := HDL.out.cells (by have := HUN.out; omega)
          injection e with e1 e2 e3
          subst e1
          clear e2 e3
          obtain ⟨cs9, hup, hx⟩ := hcell q u hu
          obtain ⟨ga, na, gc, nc, pa, pc, ca, cc, ra, rc, hui⟩ := up_in hup HW.out hx (HU4.out u hum).1 (HU4.out u hum).2.1 (HU4.out u hum).2.2
          have hol := plays_len (us.take q) (old.map (rtF f)) (fun v hv => HU3.out v (List.mem_of_mem_take hv)) (rises_rtF f old HR0.out)
          have hL : ((us.take q).foldl playU (old.map (rtF f))).length ≤ 5000 := by
            have h1 := hol.1
            rw [List.length_map, List.length_take] at h1
            have := HON.out
            omega
          have HSQ : Hid (seenU (us.take (q + 1)) = seenU (us.take q) + (u.gone.length + u.nlri.length)) := by
            show _ = _
            rw [take_more us q u hu, seenU_snoc]
          have HSL : Hid (seenU (us.take q) ≤ 101000) := by
            have h1 := seen_le (us.take q) (fun v hv => HU3.out v (List.mem_of_mem_take hv))
            rw [List.length_take] at h1
            show _ ≤ _
            omega
          have HE : Hid ((us.take (q + 1)).foldl playU (old.map (rtF f)) = playU ((us.take q).foldl playU (old.map (rtF f))) u) := by
            show _ = _
            rw [take_more us q u hu, List.foldl_append]
            rfl
          have HUI := hide hui
          generalize (us.take q).foldl playU (old.map (rtF f)) = L at *
          obtain ⟨gl, hgl⟩ : ∃ gl, gl = u.gone.length := ⟨_, rfl⟩
          obtain ⟨nl, hnl⟩ : ∃ nl, nl = u.nlri.length := ⟨_, rfl⟩
          have HGL := hide hgl
          have HNL := hide hnl
          have hgl1 : gl ≤ 100 := by
            rcases HUO.out with ⟨_, h, _⟩ | ⟨h, _⟩
            · omega
            · rw [h] at hgl; simp at hgl; omega
          have hnl1 : nl ≤ 1 := by
            rcases HUO.out with ⟨_, _, h⟩ | ⟨_, h⟩
            · rw [h] at hnl; simp at hnl; omega
            · omega
          have k0 := HUI.out.gone
          have k8 := HUI.out.nlri
          rw [← hgl] at k0
          rw [← hnl] at k8
          have HSE : Hid (seenU (us.take (q + 1)) = seenU (us.take q) + gl + nl) := by show _ = _; rw [HSQ.out, ← hgl, ← hnl]; omega
          obtain ⟨sn, hsn⟩ : ∃ sn, sn = seenU (us.take q) := ⟨_, rfl⟩
          rw [← hsn] at HSE HSL ⊢
          have hsn0 : (0 : Int) ≤ (sn : Int) := Int.natCast_nonneg _
          have hsn1 : (sn : Int) ≤ 101000 := by have := HSL.out; omega
          have hg0 : (0 : Int) ≤ (gl : Int) := Int.natCast_nonneg _
          have hg1 : (gl : Int) ≤ 100 := by omega
          have hn0 : (0 : Int) ≤ (nl : Int) := Int.natCast_nonneg _
          have hn1 : (nl : Int) ≤ 1 := by omega
          have ha1 : IntKind.i64.wrap ((sn : Int) + (gl : Int)) = (sn : Int) + (gl : Int) := by rw [IntKind.wrap_i64]; omega
          have ha2 : IntKind.i64.wrap ((sn : Int) + (gl : Int) + (nl : Int)) = ((sn + gl + nl : Nat) : Int) := by rw [IntKind.wrap_i64]; omega
          clear hum hup hx hcell hui hol hsn HSQ hgl hnl hu
          go_wp2_with fail
          go_quiet (fail)
          have HW1 : Hid (Below w3.heap.size w3 (World.drewN wr nq)) := below_drewN HW.out _
          have HQ1 : Hid (RtsRd (World.drewN wr nq) ka2 L) := HQ.out.below (below_drewN (Below.refl _ _) _)
          have HUI1 := hide (HUI.out.later (below_drewN (Below.refl _ _) nq))
          clear HW HQ HUI k0 k8
          generalize World.drewN wr nq = ws at *
          have k0 := HUI1.out.gone
          have k8 := HUI1.out.nlri
          rw [← HGL.out] at k0
          rw [← HNL.out] at k8
          go_upto_region 15 with fail
          go_cut [126] from 56 to 172 (fun v wq => v = .bool false ∧ ∃ m, wq = ws.drewN m)
          case first =>
            as_aux_lemma =>
              have d1 : decide ((100 : Int) < (gl : Int)) = false := decide_eq_false (by omega)
              have d2 : decide ((1 : Int) < (nl : Int)) = false := decide_eq_false (by omega)
              have d3 : IntKind.i64.wrap ((gl : Int) + (nl : Int)) = (gl : Int) + (nl : Int) := by rw [IntKind.wrap_i64]; omega
              have hne : 0 < gl + nl := by
                rcases HUO.out with ⟨g1, _, _⟩ | ⟨_, g2⟩
                · have := HGL.out; omega
                · have := HNL.out; omega
              have d4 : ((gl : Int) + (nl : Int) == 0) = false := by simp; omega
              by_cases hgz : 0 < gl
              · have hnz : nl = 0 := by
                  rcases HUO.out with ⟨_, _, g3⟩ | ⟨g1, _⟩
                  · rw [HNL.out, g3]; rfl
                  · have := HGL.out; rw [g1] at this; simp at this; omega
                have d5 : decide ((0 : Int) < (gl : Int)) = true := decide_eq_true (by omega)
                have d6 : decide ((0 : Int) < (nl : Int)) = false := decide_eq_false (by omega)
                have d7 : decide (0 < gl) = true := decide_eq_true hgz
                have d8 : decide (0 < nl) = false := decide_eq_false (by omega)
                clear hgz hnz hne
                go_big_quiet (fail)
                go_wp2_with fail
                go_meet
                case rel => exact ⟨rfl, _, rfl⟩
              · have d5 : decide ((0 : Int) < (gl : Int)) = false := decide_eq_false (by omega)
                have d7 : decide (0 < gl) = false := decide_eq_false hgz
                clear hgz hne
                go_big_quiet (fail)
                go_wp2_with fail
                go_meet
                case rel => exact ⟨rfl, _, rfl⟩
          case rest =>
            obtain ⟨rfl, m, rfl⟩ := hcut
            have HW2 : Hid (Below w3.heap.size w3 (World.drewN ws m)) := below_drewN HW1.out _
            have HQ2 : Hid (RtsRd (World.drewN ws m) ka2 (dropsL (u.gone.take 0) L)) := HQ1.out.below (below_drewN (Below.refl _ _) _)
            have HUI2 := hide (HUI1.out.later (below_drewN (Below.refl _ _) m))
            clear HW1 HQ1 HUI1 k0 k8
            generalize World.drewN ws m = wt at *
            have HT0 : Hid (Below wt.heap.size wt wt) := Below.refl _ _
            go_wp2_with fail
            go_loopw [8, 12] (fun v i wq => ∃ (k : Nat) (a : Option Addr) (c : Nat), k ≤ gl ∧ i = .int .i64 k ∧ v = .slice a (dropsL (u.gone.take k) L).length c ∧ Hid (RtsRd wq a (dropsL (u.gone.take k) L)) ∧ Hid (Below wt.heap.size wt wq)) (fun _ i _ => gl - (intOf i).toNat)
            case atStart => exact ⟨0, ka2, kc2, Nat.zero_le _, rfl, rfl, HQ2, HT0⟩
            case round =>
              clear HQ2 HT0
              obtain ⟨k2, a3, c3, hk2, rfl, rfl, HQ3, HT3⟩ := hrel
              have HUI3 := hide (HUI2.out.later HT3.out)
              have k0 := HUI3.out.gone
              rw [← HGL.out] at k0
              by_cases hkg : k2 < gl
              · as_aux_lemma =>
                  have hk20 : (0 : Int) ≤ (k2 : Int) := Int.natCast_nonneg _
                  have hk21 : (k2 : Int) < (gl : Int) := by omega
                  obtain ⟨p, hp⟩ : ∃ p, u.gone[k2]? = some p := ⟨u.gone[k2]'(by have := HGL.out; omega), List.getElem?_eq_getElem _⟩
                  obtain ⟨b, rfl, p0, p1⟩ := HUI3.out.gones k2 p hp
                  have hl3 := dropsL_len (u.gone.take k2) L
                  have HDE : Hid (dropsL (u.gone.take (k2 + 1)) L = dropL p.1 p.2 0 (dropsL (u.gone.take k2) L)) := by
                    show _ = _
                    rw [take_more u.gone k2 p hp, dropsL_app]
                    rfl
                  generalize dropsL (u.gone.take k2) L = L3 at *
                  have HDR := hide (rdrop_any a3 c3 p.1 p.2 0 L3 wr (by omega) HQ3.out)
                  clear hp
                  go_wp2_with fail
                  refine HDR.out.mono ?_
                  rintro e w5 ⟨⟨v, rfl, ho⟩, hb⟩
                  obtain ⟨a5, c5, rfl, hr5⟩ := ho.rd hb
                  rw [← HDE.out] at hr5 ⊢
                  have HQ5 := hide hr5
                  have HT5 : Hid (Below wt.heap.size wt w5) := HT3.out.trans (hb.mono HT3.out.size)
                  clear ho hb hr5
                  go_wp2_with fail
                  exact ⟨⟨k2 + 1, a5, c5, by omega, by go_num, rfl, HQ5, HT5⟩, by simp [intOf]; omega⟩
              · obtain rfl : k2 = gl := by omega
                have hkd2 : decide ((k2 : Int) < (k2 : Int)) = false := decide_eq_false (by omega)
                have htk : u.gone.take k2 = u.gone := List.take_of_length_le (by have := HGL.out; omega)
                have hl3 := dropsL_len u.gone L
                rw [htk] at HQ3 ⊢
                have HPE : Hid (putsK u (dropsL u.gone L) nl = playU L u) := putsK_all u L nl HNL.out
                generalize dropsL u.gone L = D at *
                have HW3 : Hid (Below w3.heap.size w3 wr) := HW2.out.trans (HT3.out.mono HW2.out.size)
                have HQ4 : Hid (RtsRd wr a3 (putsK u D 0)) := HQ3.out
                clear HUI2 HT3 HW2 htk HQ3
                go_wp2_with fail
                clear k0
                have HT0 : Hid (Below wr.heap.size wr wr) := Below.refl _ _
                generalize wr = wv at *
                go_loopw [8, 13] (fun v i wq => ∃ (k : Nat) (a : Option Addr) (c : Nat), k ≤ nl ∧ i = .int .i64 k ∧ v = .slice a (putsK u D k).length c ∧ Hid (RtsRd wq a (putsK u D k)) ∧ Hid (Below wv.heap.size wv wq)) (fun _ i _ => nl - (intOf i).toNat)
                case atStart => exact ⟨0, a3, c3, Nat.zero_le _, rfl, rfl, HQ4, HT0⟩
                case round =>
                  clear HQ4 HT0
                  obtain ⟨k4, a4, c4, hk4, rfl, rfl, HQ4, HT4⟩ := hrel
                  have HUI4 := hide (HUI3.out.later HT4.out)
                  have k8 := HUI4.out.nlri
                  rw [← HNL.out] at k8
                  by_cases hkn : k4 < nl
                  · as_aux_lemma =>
                      have hk40 : (0 : Int) ≤ (k4 : Int) := Int.natCast_nonneg _
                      have hk41 : (k4 : Int) < (nl : Int) := by omega
                      obtain ⟨p, hp⟩ : ∃ p, u.nlri[k4]? = some p := ⟨u.nlri[k4]'(by have := HNL.out; omega), List.getElem?_eq_getElem _⟩
                      obtain ⟨b, rfl, p0, p1⟩ := HUI4.out.nlris k4 p hp
                      have hl4 : (putsK u D k4).length ≤ 5000 := by
                        obtain rfl : k4 = 0 := by omega
                        show D.length ≤ 5000
                        omega
                      have HDE : Hid (putsK u D (k4 + 1) = putL (rtU u p) (putsK u D k4)) := by
                        exact putsK_more u D k4 p hp
                      generalize putsK u D k4 = L4 at *
                      have HSW : Hid (∀ W, Below wr.heap.size wr W → W.cell? ⟨g, q * 9 + 8, none⟩ = some (.slice (some ⟨b, 0, none⟩) nl nc) ∧ W.cell? ⟨b, k4 * 2, none⟩ = some (.int .u32 (p.1 : Int)) ∧ W.cell? ⟨b, k4 * 2 + 1, none⟩ = some (.int .i64 p.2)) := fun W hb => ⟨by rw [hb.cell (World.block_lt_of_cell? wr _ k8)]; exact k8, by rw [hb.cell (World.block_lt_of_cell? wr _ p0)]; exact p0, by rw [hb.cell (World.block_lt_of_cell? wr _ p1)]; exact p1⟩
                      have HLA : Hid (∀ W, Below wr.heap.size wr W → (Instr.loadAt 34 (.pointer (some ⟨g, q * 9 + 1, none⟩))).run Tryd.prog W = .ok (.agg (atC pa pc ca cc ra rc u.att)) W) := fun W hb => loadA_up (HUI4.out.later hb)
                      have HPU := hide (rput_any a4 c4 L4 (rtU u p) pa pc ca cc ra rc wr.drew (by omega) (HUI4.out.rd.below (Below.refl _ _).drew) (HQ4.out.below (Below.refl _ _).drew))
                      clear hp
                      go_wp2_with fail
                      refine region_ord (fun W => Below wr.heap.size wr W) (fun k => k == 15) [0, 1, 2, 3, 4, 5, 6, 7, 8, 9, 10, 11, 12, 13, 14, 15, 16] (by kernel_rfl) (by kernel_rfl) (by rfl) (by kernel_rfl) (Below.refl _ _).drew ?_
                      iterate 13 refine ord_q (by rfl) (by rfl) (by rfl) (fun w9 h9 => (by obtain ⟨s0, s1, s2⟩ := HSW.out w9 h9; go_simp; first | done | rfl)) (by go_simp; first | done | rfl) ?_
                      refine ord_q (by rfl) (by rfl) (by rfl) (fun w9 h9 => exec_loadv _ _ _ (by rfl) (HLA.out w9 h9)) (by go_simp; first | done | rfl) ?_
                      refine ord_q (by rfl) (by rfl) (by rfl) (fun w9 h9 => exec_build2 0 2 _ _ _ _ _ (by rfl) (by rfl) (run_buildRt p.1 p.2 pa pc ca cc ra rc u.att w9)) (by go_simp; first | done | rfl) ?_
                      refine ord_l (by rfl) (by rfl) (by rfl) ?_
                      go_simp
                      refine HPU.out.mono ?_
                      rintro e w5 ⟨⟨v, rfl, ho⟩, hb⟩
                      obtain ⟨a5, c5, rfl, hr5⟩ := ho.rd hb
                      have hb9 : Below wr.heap.size wr w5 := (Below.refl _ _).drew.trans hb
                      rw [← HDE.out] at hr5 ⊢
                      have HQ5 := hide hr5
                      have HT5 : Hid (Below wv.heap.size wv w5) := HT4.out.trans (hb9.mono HT4.out.size)
                      refine ⟨hb9, ?_⟩
                      refine ord_q (by rfl) (by rfl) (by rfl) (fun w9 h9 => (by go_simp; first | done | rfl)) (by go_simp; first | done | rfl) ?_
                      refine ⟨fun _ h => (by cases h), ?_⟩
                      clear ho hb hr5 hb9
                      go_wp2_with fail
                      exact ⟨⟨k4 + 1, a5, c5, by omega, by go_num, rfl, HQ5, HT5⟩, by simp [intOf]; omega⟩
                  · obtain rfl : k4 = nl := by omega
                    have hkd4 : decide ((k4 : Int) < (k4 : Int)) = false := decide_eq_false (by omega)
                    have HEE := HE.out.trans HPE.out.symm
                    have HQ6 : Hid (RtsRd wr a4 ((us.take (q + 1)).foldl playU (old.map (rtF f)))) := by show RtsRd _ _ _; rw [HEE]; exact HQ4.out
                    have HW6 : Hid (Below w3.heap.size w3 wr) := HW3.out.trans (HT4.out.mono HW3.out.size)
                    rw [← HEE]
                    have HS6 : Hid ((sn : Int) + (k2 : Int) + (k4 : Int) = ((seenU (us.take (q + 1)) : Nat) : Int)) := by show _ = _; rw [HSE.out]; omega
                    clear HEE HE HPE HQ4 HUI4 HT4 HW3
                    go_wp2_with fail
                    exact ⟨⟨q + 1, a4, c4, by omega, by go_num, by rw [HS6.out], rfl, HQ6, HW6⟩, by simp [intOf]; omega⟩
        · obtain rfl : q = un := by omega
          have hqd : decide ((q : Int) < (q : Int)) = false := decide_eq_false (by omega)
          have hta : us.take q = us := List.take_of_length_le (by have := HUN.out; omega)
          rw [hta, HU1.out] at HQ ⊢
          have HSN : Hid (((seenU us : Nat) : Int) = odd1 f old fresh + odd2 fresh old) := HU2.out
          have hfl : (fresh.map (rtF f)).length = fn := by rw [List.length_map, HFN.out]
          rw [hfl]
          generalize ((seenU us : Nat) : Int) = sn at *
          clear hta HU1 HU2 HU3 HU4 HU5 HUN HDL hfl
          have HBk : Hid (Below w2.heap.size w2 wr) := HB3.out.trans (HW.out.mono HB3.out.size)
          have HBw : Hid (Below w.heap.size w wr) := HBw3.out.trans (HW.out.mono HBw3.out.size)
          go_wp2_with fail
          clear HW HB3 HBw3
          generalize wr = wk at *
          have HZ0 : Hid (OwnRts wk wk.heap.size wk (.slice none 0 0) ((fresh.take 0).map (rtF f))) := OwnRts.nil _ _ _
          have HY0 : Hid (Below wk.heap.size wk wk) := Below.refl _ _
          go_loopw [14, 15, 16] (fun v o i wq => ∃ y : Nat, y ≤ fn ∧ i = .int .i64 y ∧ o = .int .i64 (odd1 f old (fresh.take y)) ∧ Hid (OwnRts wk wk.heap.size wq v ((fresh.take y).map (rtF f))) ∧ Hid (Below wk.heap.size wk wq)) (fun _ _ i _ => fn - (intOf i).toNat)
          case atStart => exact ⟨0, Nat.zero_le _, rfl, rfl, HZ0, HY0⟩
          case round =>
            clear HZ0 HY0
            obtain ⟨y, hy, rfl, rfl, HZ, HY⟩ := hrel
            by_cases hyf : y < fn
            · skip
              have hy0 : (0 : Int) ≤ (y : Int) := Int.natCast_nonneg _
              have hy1 : (y : Int) < (fn : Int) := by omega
              obtain ⟨s, hs⟩ : ∃ s, fresh[y]? = some s := ⟨fresh[y]'(by have := HFN.out; omega), List.getElem?_eq_getElem _⟩
              obtain ⟨b, off, rfl, hcs⟩ := HFR.out.1 (by have := HFN.out; omega)
              have hc2 := hcs y s hs
              have hcw : ∀ W, Below wk.heap.size wk W → ∀ (j : Nat) (v : Value), (tlC s)[j]? = some v → W.cell? ⟨b, off + y * 9 + j, none⟩ = some v := fun W hb j v hv => by
                have h1 := hc2 j v hv
                have hb9 : Below w2.heap.size w2 W := HBk.out.trans (hb.mono HBk.out.size)
                rw [hb9.cell (World.block_lt_of_cell? w2 _ h1)]
                exact h1
              obtain ⟨hca, hac⟩ := HC1.out s (List.mem_of_getElem? hs)
              obtain ⟨pa, pc, ca, cc, ra, rc, hC, hrd, hsz⟩ := hca
              have hla : ∀ W, Below wk.heap.size wk W → (Instr.loadAt 34 (.pointer (some ⟨b, off + y * 9 + 2, none⟩))).run Tryd.prog W = .ok (.agg (atC pa pc ca cc ra rc (f s.C))) W := fun W hb => by
                have := loadA_tl (hcw W hb) hac
                rw [show (Value.agg s.C) = .agg (atC pa pc ca cc ra rc (f s.C)) from congrArg Value.agg hC] at this
                exact this
              have hcp : ∀ W, Below wk.heap.size wk W → W.cell? ⟨b, off + y * 9, none⟩ = some (.int .u32 (s.A : Int)) ∧ W.cell? ⟨b, off + y * 9 + 1, none⟩ = some (.int .i64 s.L) := fun W hb => ⟨hcw W hb 0 _ (tlC_0 s), hcw W hb 1 _ (tlC_1 s)⟩
              have hlen : ((fresh.take y).map (rtF f)).length = y := by rw [List.length_map, List.length_take]; have := HFN.out; omega
              have hdr : Below wr.heap.size wr wr.drew := (Below.refl _ _).drew
              obtain ⟨ra2, rc2, w5, hr5, ho5, hb5, _⟩ := OwnRts.snoc (r := rtF f s) (pa := pa) (pc := pc) (ca := ca) (cc := cc) (ra := ra) (rc := rc) (HZ.out.later hdr) (Nat.le_trans HY.out.size hdr.size) (hrd.below HBk.out) (by rw [hlen]; omega)
              rw [hlen] at hr5 ho5
              have HO5 : Hid (OwnRts wk wk.heap.size w5 (.slice ra2 (y + 1) rc2) ((fresh.take (y + 1)).map (rtF f))) := by
                show OwnRts _ _ _ _ _
                rw [take_more fresh y s hs, List.map_append]
                exact ho5
              have HY5 : Hid (Below wk.heap.size wk w5) := (HY.out.trans (hdr.mono HY.out.size)).trans hb5
              have HSRD : Hid (∀ W, Below wk.heap.size wk W → AtRd W pa ca ra (f s.C)) := fun W hb => hrd.below (HBk.out.trans (hb.mono HBk.out.size))
              have HSZ : Hid (sizeA (f s.C) ≤ 100000) := hsz
              have HOD : Hid (odd1 f old (fresh.take (y + 1)) = odd1 f old (fresh.take y) + (1 - cntB (same1 f s) old)) := by
                show _ = _
                rw [take_more fresh y s hs, odd1_snoc]
              have hod := odd1_le f old HR0.out (fresh.take y)
              rw [List.length_take] at hod
              obtain ⟨od, hode⟩ : ∃ od, od = odd1 f old (fresh.take y) := ⟨_, rfl⟩
              rw [← hode] at HOD hod ⊢
              have hod0 : 0 ≤ od := hod.1
              have hod1 : od ≤ 400 := by have := hod.2; omega
              have HR5 := hide hr5
              have HLA := hide hla
              have HCP := hide hcp
              clear hc2 hcw hcs hac hC hrd hsz hla hcp hlen ho5 hb5 hr5 hdr hs hode hod
              go_wp2_with fail
              refine region_ord (fun W => Below wk.heap.size wk W) (fun k => k == 12 || k == 13) [0, 1, 2, 3, 4, 5, 6, 7, 8, 9, 10, 11, 12, 13, 14] (by kernel_rfl) (by kernel_rfl) (by rfl) (by kernel_rfl) HY.out.drew ?_
              iterate 5 refine ord_q (by rfl) (by rfl) (by rfl) (fun w9 h9 => (by go_simp; first | done | rfl)) (by go_simp; first | done | rfl) ?_
              refine ord_q (by rfl) (by rfl) (by rfl) (fun w9 h9 => (by obtain ⟨s0, s1⟩ := HCP.out w9 h9; go_simp; first | done | rfl)) (by go_simp; first | done | rfl) ?_
              iterate 4 refine ord_q (by rfl) (by rfl) (by rfl) (fun w9 h9 => (by go_simp; first | done | rfl)) (by go_simp; first | done | rfl) ?_
              refine ord_q (by rfl) (by rfl) (by rfl) (fun w9 h9 => exec_loadv _ _ _ (by rfl) (HLA.out w9 h9)) (by go_simp; first | done | rfl) ?_
              refine ord_q (by rfl) (by rfl) (by rfl) (fun w9 h9 => exec_build2 0 2 _ _ _ _ _ (by rfl) (by rfl) (run_buildRt s.A s.L pa pc ca cc ra rc (f s.C) w9)) (by go_simp; first | done | rfl) ?_
              refine ord_l (by rfl) (by rfl) (by rfl) ?_
              refine wp_exec (exec_bs1 _ _ _ (by rfl) (run_bsRt pa pc ca cc ra rc (rtF f s) wr.drew)) ?_
              refine ⟨HY.out.drew.alloc HY.out.size _, ?_⟩
              refine ord_l (by rfl) (by rfl) (by rfl) ?_
              refine wp_exec (exec_append _ _ _ _ _ (by rfl) (by rfl) HR5.out) ?_
              refine ⟨HY5.out, ?_⟩
              refine ord_q (by rfl) (by rfl) (by rfl) (fun w9 h9 => (by go_simp; first | done | rfl)) (by go_simp; first | done | rfl) ?_
              refine ⟨fun _ h => (by cases h), ?_⟩
              go_wp2_with fail
              have HX0 : Hid (Below w5.heap.size w5 w5) := Below.refl _ _
              go_loopw [15, 17] (fun o i wq => ∃ z : Nat, z ≤ k ∧ i = .int .i64 z ∧ o = .int .i64 (od + 1 - cntB (same1 f s) (old.take z)) ∧ Hid (Below w5.heap.size w5 wq)) (fun _ i _ => k - (intOf i).toNat)
              case atStart => exact ⟨0, Nat.zero_le _, rfl, by show _ = Value.int .i64 (od + 1 - 0); rw [Int.sub_zero], HX0⟩
              case round =>
                clear HX0
                obtain ⟨z, hz, rfl, rfl, HX⟩ := hrel
                have HYX : Hid (Below wk.heap.size wk wr) := HY5.out.trans (HX.out.mono HY5.out.size)
                by_cases hzo : z < k
                · skip
                  have hz0 : (0 : Int) ≤ (z : Int) := Int.natCast_nonneg _
                  have hz1 : (z : Int) < (k : Int) := by omega
                  obtain ⟨t, ht⟩ : ∃ t, old[z]? = some t := ⟨old[z]'(by have := HON.out; omega), List.getElem?_eq_getElem _⟩
                  obtain ⟨bo, offo, rfl, hco⟩ := HOR.out.1 (by have := HON.out; omega)
                  have hc2 := hco z t ht
                  have hcw : ∀ W, Below wk.heap.size wk W → ∀ (j : Nat) (v : Value), (tlC t)[j]? = some v → W.cell? ⟨bo, offo + z * 9 + j, none⟩ = some v := fun W hb j v hv => by
                    have h1 := hc2 j v hv
                    have hb9 : Below w2.heap.size w2 W := HBk.out.trans (hb.mono HBk.out.size)
                    rw [hb9.cell (World.block_lt_of_cell? w2 _ h1)]
                    exact h1
                  obtain ⟨hca, hac⟩ := HC0.out t (List.mem_of_getElem? ht)
                  obtain ⟨pa2, pc2, ca2, cc2, ra3, rc3, hC, hrd, hsz⟩ := hca
                  have hup : ∀ W, Below wr.heap.size wr W → Below wk.heap.size wk W := fun W hb => HYX.out.trans (hb.mono HYX.out.size)
                  have HLT : Hid (∀ W, Below wr.heap.size wr W → (Instr.loadAt 34 (.pointer (some ⟨bo, offo + z * 9 + 2, none⟩))).run Tryd.prog W = .ok (.agg (atC pa2 pc2 ca2 cc2 ra3 rc3 (f t.C))) W) := fun W hb => by
                    have := loadA_tl (hcw W (hup W hb)) hac
                    rw [show (Value.agg t.C) = .agg (atC pa2 pc2 ca2 cc2 ra3 rc3 (f t.C)) from congrArg Value.agg hC] at this
                    exact this
                  have HLS : Hid (∀ W, Below wr.heap.size wr W → (Instr.loadAt 34 (.pointer (some ⟨b, off + y * 9 + 2, none⟩))).run Tryd.prog W = .ok (.agg (atC pa pc ca cc ra rc (f s.C))) W) := fun W hb => HLA.out W (hup W hb)
                  have HCT : Hid (∀ W, Below wr.heap.size wr W → W.cell? ⟨bo, offo + z * 9, none⟩ = some (.int .u32 (t.A : Int)) ∧ W.cell? ⟨bo, offo + z * 9 + 1, none⟩ = some (.int .i64 t.L) ∧ W.cell? ⟨b, off + y * 9, none⟩ = some (.int .u32 (s.A : Int)) ∧ W.cell? ⟨b, off + y * 9 + 1, none⟩ = some (.int .i64 s.L)) := fun W hb => ⟨hcw W (hup W hb) 0 _ (tlC_0 t), hcw W (hup W hb) 1 _ (tlC_1 t), (HCP.out W (hup W hb)).1, (HCP.out W (hup W hb)).2⟩
                  have HSA := hide (samea_any pa2 pa pc2 pc ca2 ca cc2 cc ra3 ra rc3 rc (f t.C) (f s.C) wr.drew hsz HSZ.out (hrd.below (HBk.out.trans ((hup _ (Below.refl _ _).drew).mono HBk.out.size))) (HSRD.out _ (hup _ (Below.refl _ _).drew)))
                  have HCN : Hid (cntB (same1 f s) (old.take (z + 1)) = cntB (same1 f s) (old.take z) + (if same1 f s t then 1 else 0)) := by
                    show _ = _
                    rw [take_more old z t ht, cntB_snoc]
                  have hcl := cntB_le (same1 f s) (old.take z)
                  rw [List.length_take] at hcl
                  obtain ⟨cn, hcn⟩ : ∃ cn, cn = cntB (same1 f s) (old.take z) := ⟨_, rfl⟩
                  rw [← hcn] at HCN hcl ⊢
                  have hcn0 : 0 ≤ cn := hcl.1
                  have hcn1 : cn ≤ 400 := by have := hcl.2; omega
                  clear hc2 hcw hco hac hC hrd hsz hup ht hcl hcn
                  go_wp2_with fail
                  go_upto_region 35 with fail
                  go_cut [224] from 195 to 226 (fun v wq => v = .bool (same1 f s t) ∧ Hid (Below wr.heap.size wr wq))
                  case first =>
                    as_aux_lemma =>
                      by_cases hsm : t.A = s.A ∧ t.L = s.L
                      · refine region_ord (fun W => Below wr.heap.size wr W) (fun k => k == 22) [0, 1, 2, 3, 4, 5, 6, 7, 8, 9, 10, 11, 12, 13, 14, 15, 16, 17, 18, 19, 20, 21, 22, 23] (by kernel_rfl) (by kernel_rfl) (by rfl) (by kernel_rfl) (Below.refl _ _).drew ?_
                        iterate 10 refine ord_q (by rfl) (by rfl) (by rfl) (fun w9 h9 => (by obtain ⟨s0, s1, s2, s3⟩ := HCT.out w9 h9; go_simp; first | done | rfl)) (by go_simp; first | done | rfl) ?_
                        refine ord_q (v := .bool true) (by rfl) (by rfl) (by rfl) (fun w9 h9 => (by go_simp; first | done | simp [hsm.1, hsm.2])) (by go_simp; first | done | rfl) ?_
                        iterate 5 refine ord_q (by rfl) (by rfl) (by rfl) (fun w9 h9 => (by go_simp; first | done | rfl)) (by go_simp; first | done | rfl) ?_
                        refine ord_q (by rfl) (by rfl) (by rfl) (fun w9 h9 => exec_loadv _ _ _ (by rfl) (HLT.out w9 h9)) (by go_simp; first | done | rfl) ?_
                        iterate 4 refine ord_q (by rfl) (by rfl) (by rfl) (fun w9 h9 => (by go_simp; first | done | rfl)) (by go_simp; first | done | rfl) ?_
                        refine ord_q (by rfl) (by rfl) (by rfl) (fun w9 h9 => exec_loadv _ _ _ (by rfl) (HLS.out w9 h9)) (by go_simp; first | done | rfl) ?_
                        refine ord_l (by rfl) (by rfl) (by rfl) ?_
                        go_simp
                        refine HSA.out.mono ?_
                        rintro e w9 ⟨rfl, b9⟩
                        have B9 : Below wr.heap.size wr w9 := (Below.refl _ _).drew.trans b9
                        refine ⟨B9, ?_⟩
                        refine ord_q (by rfl) (by rfl) (by rfl) (fun w9 h9 => (by go_simp; first | done | rfl)) (by go_simp; first | done | rfl) ?_
                        refine ⟨fun _ h => (by cases h), ?_⟩
                        go_wp2_with fail
                        go_meet
                        case rel => exact ⟨by unfold same1; rw [decide_eq_true hsm]; rfl, B9⟩
                      · refine region_ord (fun W => Below wr.heap.size wr W) (fun _ => false) [0, 1, 2, 3, 4, 5, 6, 7, 8, 9, 10, 11, 12, 13, 14, 15, 16, 17, 18, 19, 20, 21, 22, 23] (by kernel_rfl) (by kernel_rfl) (by rfl) (by kernel_rfl) (Below.refl _ _).drew ?_
                        iterate 10 refine ord_q (by rfl) (by rfl) (by rfl) (fun w9 h9 => (by obtain ⟨s0, s1, s2, s3⟩ := HCT.out w9 h9; go_simp; first | done | rfl)) (by go_simp; first | done | rfl) ?_
                        refine ord_q (v := .bool false) (by rfl) (by rfl) (by rfl) (fun w9 h9 => (by
                          go_simp
                          by_cases h1 : t.A = s.A
                          · have h2 : ¬ t.L = s.L := fun h => hsm ⟨h1, h⟩
                            simp [h1, h2]
                          · have h2 : ¬ (t.A : Int) = (s.A : Int) := by omega
                            exact fun h => absurd h h2)) (by go_simp; first | done | rfl) ?_
                        refine ord_q (by rfl) (by rfl) (by rfl) (fun w9 h9 => (by go_simp; first | done | rfl)) (by go_simp; first | done | rfl) ?_
                        iterate 11 refine ord_sk (by rfl) (by rfl) (by rfl) (by go_simp; first | done | rfl) ?_
                        refine ord_q (by rfl) (by rfl) (by rfl) (fun w9 h9 => (by go_simp; first | done | rfl)) (by go_simp; first | done | rfl) ?_
                        refine ⟨fun _ h => (by cases h), ?_⟩
                        go_wp2_with fail
                        go_meet
                        case rel => exact ⟨by unfold same1; rw [decide_eq_false hsm]; rfl, (Below.refl _ _).drew⟩
                  case rest =>
                    obtain ⟨rfl, HBq⟩ := hcut
                    have HX9 : Hid (Below w5.heap.size w5 wc) := HX.out.trans (HBq.out.mono HX.out.size)
                    clear HBq HX HYX HSA HLT HLS HCT
                    cases hsm : same1 f s t with
                    | true =>
                      have HCE : Hid (od + 1 - cn - 1 = od + 1 - cntB (same1 f s) (old.take (z + 1))) := by show _ = _; rw [HCN.out, hsm, if_pos rfl]; omega
                      have hw9 : IntKind.i64.wrap (od + 1 - cn - 1) = od + 1 - cn - 1 := by rw [IntKind.wrap_i64]; omega
                      go_wp2_with fail
                      exact ⟨⟨z + 1, by omega, by go_num, by rw [HCE.out], HX9⟩, by simp [intOf]; omega⟩
                    | false =>
                      have HCE : Hid (od + 1 - cn = od + 1 - cntB (same1 f s) (old.take (z + 1))) := by show _ = _; rw [HCN.out, hsm]; simp
                      go_wp2_with fail
                      exact ⟨⟨z + 1, by omega, by go_num, by rw [HCE.out], HX9⟩, by simp [intOf]; omega⟩
                · obtain rfl : z = k := by omega
                  have hzd : decide ((z : Int) < (z : Int)) = false := decide_eq_false (by omega)
                  have htz : old.take z = old := List.take_of_length_le (by have := HON.out; omega)
                  rw [htz]
                  have HO6 : Hid (OwnRts wk wk.heap.size wr (.slice ra2 (y + 1) rc2) ((fresh.take (y + 1)).map (rtF f))) := HO5.out.later HX.out
                  have HOE : Hid (od + 1 - cntB (same1 f s) old = odd1 f old (fresh.take (y + 1))) := by show _ = _; rw [HOD.out]; omega
                  clear HO5 HX HOD htz
                  go_wp2_with fail
                  exact ⟨⟨y + 1, by omega, by go_num, by rw [HOE.out], HO6, HYX⟩, by simp [intOf]; omega⟩
            · obtain rfl : y = fn := by omega
              have hyd : decide ((y : Int) < (y : Int)) = false := decide_eq_false (by omega)
              have hty : fresh.take y = fresh := List.take_of_length_le (by have := HFN.out; omega)
              rw [hty] at HZ ⊢
              obtain ⟨wa, wc, rfl, hwr⟩ := HZ.out.rd HY.out
              rw [show (fresh.map (rtF f)).length = y by rw [List.length_map, HFN.out]]
              have HWT := hide hwr
              have HKN := hide (HQ.out.below HY.out)
              have HBz : Hid (Below w2.heap.size w2 wr) := HBk.out.trans (HY.out.mono HBk.out.size)
              have HBx : Hid (Below w.heap.size w wr) := HBw.out.trans (HY.out.mono HBw.out.size)
              have hod := odd1_le f old HR0.out fresh
              rw [← HFN.out] at hod
              obtain ⟨od, hode⟩ : ∃ od, od = odd1 f old fresh := ⟨_, rfl⟩
              rw [← hode] at HSN hod ⊢
              have hod0 : 0 ≤ od := hod.1
              have hod1 : od ≤ 400 := by have := hod.2; omega
              clear hty hwr HZ HY HQ HBk HBw hode hod
              go_wp2_with fail
              generalize wr = wz at *
              go_loopw [15, 18] (fun o i wq => ∃ x m : Nat, x ≤ k ∧ i = .int .i64 x ∧ o = .int .i64 (od + odd2 fresh (old.take x)) ∧ wq = wz.drewN m) (fun _ i _ => k - (intOf i).toNat)
              case atStart => exact ⟨0, 0, Nat.zero_le _, rfl, by show _ = Value.int .i64 (od + 0); rw [Int.add_zero], rfl⟩
              case round =>
                obtain ⟨x, m, hx, rfl, rfl, rfl⟩ := hrel
                by_cases hxo : x < k
                · skip
                  have hx0 : (0 : Int) ≤ (x : Int) := Int.natCast_nonneg _
                  have hx1 : (x : Int) < (k : Int) := by omega
                  obtain ⟨⟨A1, L1, C1⟩, ht⟩ : ∃ t, old[x]? = some t := ⟨old[x]'(by have := HON.out; omega), List.getElem?_eq_getElem _⟩
                  obtain ⟨bo, offo, rfl, hco⟩ := HOR.out.1 (by have := HON.out; omega)
                  have p0 : wz.cell? ⟨bo, offo + x * 9, none⟩ = some (.int .u32 (A1 : Int)) := by
                    have h1 := hco x _ ht 0 _ (tlC_0 _)
                    rw [Nat.add_zero] at h1
                    rw [HBz.out.cell (World.block_lt_of_cell? w2 _ h1)]
                    exact h1
                  have p1 : wz.cell? ⟨bo, offo + x * 9 + 1, none⟩ = some (.int .i64 L1) := by
                    have h1 := hco x _ ht 1 _ (tlC_1 _)
                    rw [HBz.out.cell (World.block_lt_of_cell? w2 _ h1)]
                    exact h1
                  have HO2 : Hid (odd2 fresh (old.take (x + 1)) = odd2 fresh (old.take x) + (1 - cntB (same2 ⟨A1, L1, C1⟩) fresh)) := by
                    show _ = _
                    rw [take_more old x _ ht, odd2_snoc]
                  have hol := odd2_le fresh HR1.out (old.take x)
                  rw [List.length_take] at hol
                  obtain ⟨o2, ho2⟩ : ∃ o2, o2 = odd2 fresh (old.take x) := ⟨_, rfl⟩
                  rw [← ho2] at HO2 hol ⊢
                  have ho0 : 0 ≤ o2 := hol.1
                  have ho1 : o2 ≤ 400 := by have := hol.2; omega
                  have hw1 : IntKind.i64.wrap (od + o2 + 1) = od + o2 + 1 := by rw [IntKind.wrap_i64]; omega
                  clear hco ht hol ho2
                  go_wp2_with fail
                  go_loopw [15, 19] (fun o i wq => ∃ z m : Nat, z ≤ y ∧ i = .int .i64 z ∧ o = .int .i64 (od + o2 + 1 - cntB (same2 ⟨A1, L1, C1⟩) (fresh.take z)) ∧ wq = wz.drewN m) (fun _ i _ => y - (intOf i).toNat)
                  case atStart => exact ⟨0, m, Nat.zero_le _, rfl, by show _ = Value.int .i64 (od + o2 + 1 - 0); rw [Int.sub_zero], rfl⟩
                  case round =>
                    obtain ⟨z, m9, hz, rfl, rfl, rfl⟩ := hrel
                    by_cases hzy : z < y
                    · as_aux_lemma =>
                        have hz0 : (0 : Int) ≤ (z : Int) := Int.natCast_nonneg _
                        have hz1 : (z : Int) < (y : Int) := by omega
                        obtain ⟨⟨A2, L2, C2⟩, hu⟩ : ∃ t, fresh[z]? = some t := ⟨fresh[z]'(by have := HFN.out; omega), List.getElem?_eq_getElem _⟩
                        obtain ⟨bf, offf, rfl, hcf⟩ := HFR.out.1 (by have := HFN.out; omega)
                        have f0 : wz.cell? ⟨bf, offf + z * 9, none⟩ = some (.int .u32 (A2 : Int)) := by
                          have h1 := hcf z _ hu 0 _ (tlC_0 _)
                          rw [Nat.add_zero] at h1
                          rw [HBz.out.cell (World.block_lt_of_cell? w2 _ h1)]
                          exact h1
                        have f1 : wz.cell? ⟨bf, offf + z * 9 + 1, none⟩ = some (.int .i64 L2) := by
                          have h1 := hcf z _ hu 1 _ (tlC_1 _)
                          rw [HBz.out.cell (World.block_lt_of_cell? w2 _ h1)]
                          exact h1
                        have HCN : Hid (cntB (same2 ⟨A1, L1, C1⟩) (fresh.take (z + 1)) = cntB (same2 ⟨A1, L1, C1⟩) (fresh.take z) + (if A1 = A2 ∧ L1 = L2 then 1 else 0)) := by
                          show _ = _
                          rw [take_more fresh z _ hu, cntB_snoc]
                          unfold same2
                          simp only [decide_eq_true_eq]
                        have hcl := cntB_le (same2 ⟨A1, L1, C1⟩) (fresh.take z)
                        rw [List.length_take] at hcl
                        obtain ⟨cn, hcn⟩ : ∃ cn, cn = cntB (same2 ⟨A1, L1, C1⟩) (fresh.take z) := ⟨_, rfl⟩
                        rw [← hcn] at HCN hcl ⊢
                        have hcn0 : 0 ≤ cn := hcl.1
                        have hcn1 : cn ≤ 400 := by have := hcl.2; omega
                        clear hcf hu hcl hcn
                        by_cases hA : A1 = A2
                        · by_cases hLL : L1 = L2
                          · have HCE : Hid (od + o2 + 1 - cn - 1 = od + o2 + 1 - cntB (same2 ⟨A1, L1, C1⟩) (fresh.take (z + 1))) := by show _ = _; rw [HCN.out, if_pos ⟨hA, hLL⟩]; omega
                            have hw9 : IntKind.i64.wrap (od + o2 + 1 - cn - 1) = od + o2 + 1 - cn - 1 := by rw [IntKind.wrap_i64]; omega
                            clear HCN
                            subst hA hLL
                            go_wp2_with fail
                            go_quiet (fail)
                            go_wp2_with fail
                            exact ⟨⟨z + 1, m9 + nq, by omega, by go_num, by rw [HCE.out], rfl⟩, by simp [intOf]; omega⟩
                          · have HCE : Hid (od + o2 + 1 - cn = od + o2 + 1 - cntB (same2 ⟨A1, L1, C1⟩) (fresh.take (z + 1))) := by show _ = _; rw [HCN.out, if_neg (fun h => hLL h.2)]; omega
                            have hd9 : (L1 == L2) = false := by simpa using hLL
                            clear HCN
                            subst hA
                            go_wp2_with fail
                            go_quiet (fail)
                            go_wp2_with fail
                            exact ⟨⟨z + 1, m9 + nq, by omega, by go_num, by rw [HCE.out], rfl⟩, by simp [intOf]; omega⟩
                        · have HCE : Hid (od + o2 + 1 - cn = od + o2 + 1 - cntB (same2 ⟨A1, L1, C1⟩) (fresh.take (z + 1))) := by show _ = _; rw [HCN.out, if_neg (fun h => hA h.1)]; omega
                          have hd9 : ((A1 : Int) == (A2 : Int)) = false := by simp; omega
                          clear HCN
                          go_wp2_with fail
                          go_quiet (fail)
                          go_wp2_with fail
                          exact ⟨⟨z + 1, m9 + nq, by omega, by go_num, by rw [HCE.out], rfl⟩, by simp [intOf]; omega⟩
                    · obtain rfl : z = y := by omega
                      have hzd : decide ((z : Int) < (z : Int)) = false := decide_eq_false (by omega)
                      have htz : fresh.take z = fresh := List.take_of_length_le (by have := HFN.out; omega)
                      rw [htz]
                      have HOE : Hid (od + o2 + 1 - cntB (same2 ⟨A1, L1, C1⟩) fresh = od + odd2 fresh (old.take (x + 1))) := by show _ = _; rw [HO2.out]; omega
                      clear HO2 htz
                      go_wp2_with fail
                      exact ⟨⟨x + 1, m9, by omega, by go_num, by rw [HOE.out], rfl⟩, by simp [intOf]; omega⟩
                · obtain rfl : x = k := by omega
                  have hxd : decide ((x : Int) < (x : Int)) = false := decide_eq_false (by omega)
                  have htx : old.take x = old := List.take_of_length_le (by have := HON.out; omega)
                  rw [htx, ← HSN.out]
                  have hbm : Below wz.heap.size wz (World.drewN wz m) := below_drewN (Below.refl _ _) m
                  have HKM := hide (HKN.out.below hbm)
                  have HWM := hide (HWT.out.below hbm)
                  have HBM : Hid (Below w.heap.size w (World.drewN wz m)) := below_drewN HBx.out m
                  have HBN : Hid (Below w2.heap.size w2 (World.drewN wz m)) := below_drewN HBz.out m
                  have hfl : (fresh.map (rtF f)).length = y := by rw [List.length_map, HFN.out]
                  have heq : eqRts (fresh.map (rtF f)) (fresh.map (rtF f)) = true := eqRts_all _ _ rfl (fun k a b h1 h2 => by rw [h1] at h2; cases h2; exact eqRt_self a)
                  have hsm := fun (W : World) (hb : Below (World.drewN wz m).heap.size (World.drewN wz m) W) => samers_any ka2 wa kc2 wc (fresh.map (rtF f)) (fresh.map (rtF f)) W (by rw [hfl]; omega) (HKM.out.below hb) (HWM.out.below hb) HSM.out HSM.out
                  rw [heq, hfl] at hsm
                  have HSR := hide hsm
                  clear hbm HKN HWT HBx HBz hfl heq hsm HKM HWM HSN htx
                  generalize World.drewN wz m = wm at *
                  go_wp2_with fail
                  refine (HANS.out wm HBM.out).mono ?_
                  rintro e w7 ⟨rfl, b7⟩
                  have HB7 := hide b7
                  clear b7
                  go_wp2_with fail
                  refine (HSR.out w7 HB7.out).mono ?_
                  rintro e w8 ⟨rfl, b8⟩
                  have hb8 : Below wm.heap.size wm w8 := HB7.out.trans (b8.mono HB7.out.size)
                  have HB8 := hide hb8
                  clear b8 hb8
                  go_wp2_with fail
                  refine (HDD.out w8 (HBN.out.trans (HB8.out.mono HBN.out.size))).mono ?_
                  rintro e w9 ⟨v9, rfl, hd9, b9⟩
                  obtain ⟨a9, c9, rfl⟩ := hd9.slice
                  have HB9 : Hid (Below w.heap.size w w9) := (HBM.out.trans (HB8.out.mono HBM.out.size)).trans (b9.mono (Nat.le_trans HBM.out.size HB8.out.size))
                  clear hd9 b9
                  go_wp2_with fail
                  go_ret
                  exact ⟨rfl, HB9.out⟩
end
set_option maxHeartbeats 1600000 in
theorem exportDelta_many (a0 a1 : Option Addr) (c0 c1 n0 n1 : Nat) (w : World) (hS : Said w) (hn : 400 < n0 ∨ 400 < n1) :
    Calls Tryd.prog 5 #[.slice a0 n0 c0, .slice a1 n1 c1] w fun e w' => e = .returned (.bool true) ∧ Below w.heap.size w w' := by
  have HANS := hide (answers_any w hS)
  clear hS
  cases h0 : decide ((400 : Int) < (n0 : Int)) with
  | true =>
    go_enter Tryd.func5, Tryd.ntmps5
    go_wp2_with fail
    refine HANS.out.mono ?_
    rintro e w1 ⟨rfl, b1⟩
    go_wp2
    go_ret
    exact ⟨rfl, b1⟩
  | false =>
    have h1 : decide ((400 : Int) < (n1 : Int)) = true := by
      have := of_decide_eq_false h0
      exact decide_eq_true (by omega)
    go_enter Tryd.func5, Tryd.ntmps5
    go_wp2_with fail
    refine HANS.out.mono ?_
    rintro e w1 ⟨rfl, b1⟩
    go_wp2
    go_ret
    exact ⟨rfl, b1⟩
theorem exportDelta_walk (a0 : Option Addr) (c0 : Nat) (l0 : List TE) (a1 : Option Addr) (c1 : Nat) (l1 : List TE) (w : World) (hS : Said w) (h0 : TlsRd w a0 (l0.map Prod.fst) ∧ (∀ p ∈ l0, TlAt w p) ∧ ∀ p ∈ l0, BigT p.2) (h1 : TlsRd w a1 (l1.map Prod.fst) ∧ (∀ p ∈ l1, TlAt w p) ∧ ∀ p ∈ l1, BigT p.2) :
    Calls Tryd.prog 5 #[.slice a0 l0.length c0, .slice a1 l1.length c1] w fun e w' => e = .returned (.bool true) ∧ Below w.heap.size w w' := by
  by_cases hn : 400 < l0.length ∨ 400 < l1.length
  · exact exportDelta_many a0 a1 c0 c1 _ _ w hS hn
  · exact exportDelta_in a0 a1 c0 c1 _ _ l0 l1 w hS rfl rfl (by omega) (by omega) h0.1 h1.1 h0.2.1 h1.2.1 h0.2.2 h1.2.2
end Go.Proofs.YthigjonagbfbbaaDoor
