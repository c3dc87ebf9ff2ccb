/- AdjinOwn's walk. -/
import Derived.Test.YtjlmkaeepeamkaaAjO
import Derived.Test.YtjlmkaeepeamkaaRtA
namespace Go.Proofs.Ytjlmkaeepeamkaa
open Go.RowKit
set_option maxRecDepth 100000

theorem rises_sole (r : Rt) : RisesR [r] := List.pairwise_singleton _ _
section
attribute [local go_sem ↓] keptR_load keptR_store keptR_box keptR_alloc keptR_build kept_app
set_option maxHeartbeats 3200000 in
theorem adjinOwn_great (pa : Option Addr) (pc : Nat) (ca : Option Addr) (cc : Nat) (ra : Option Addr) (rc : Nat) (r : Rt) (w : World) (hba : BigR r) (h1 : AtRd w pa ca ra r.att) (hs : smallR r = false) :
    Calls Try.prog 4 #[rtV pa pc ca cc ra rc r] w fun e w' => e = .returned (.bool true) ∧ Below w.heap.size w w' := by
  rw [rtV_eq]
  have HR1 := hide h1
  have HS := hide hs
  clear h1 hs
  go_enter Try.func4, Try.ntmps4
  go_wp2_with fail
  refine kept_box_intro _ _ _ (by rfl) (run_boxR _ w) ?_
  have HB0 : Hid (Below w.heap.size w (w.alloc (.cells (rtC pa pc ca cc ra rc r) 36))) := (Below.refl _ _).alloc (Nat.le_refl _) _
  have HX0 : Hid (Bl (w.alloc (.cells (rtC pa pc ca cc ra rc r) 36)) w.heap.size (rtC pa pc ca cc ra rc r)) := Bl.new w _
  generalize w.alloc (.cells (rtC pa pc ca cc ra rc r) 36) = w0 at *
  go_wp2_with fail
  refine kept_load_intro _ _ _ (by rfl) (run_loadR HX0.out (RC.rt _ _ _ _ _ _ _)) ?_
  go_wp2_with fail
  refine (small_is w0 hba (HR1.out.below HB0.out) HS.out).mono ?_
  rintro e w1 ⟨rfl, hb1⟩
  have HB1 : Hid (Below w.heap.size w w1) := HB0.out.trans (hb1.mono HB0.out.size)
  clear hb1 HX0 HB0
  go_wp2_with fail
  refine (answers_any w1).mono ?_
  rintro e w2 ⟨rfl, hb2⟩
  have HB2 : Hid (Below w.heap.size w w2) := HB1.out.trans (hb2.mono HB1.out.size)
  clear hb2 HB1
  go_wp2
  go_ret
  exact ⟨rfl, HB2.out⟩
set_option maxHeartbeats 12800000 in
theorem adjinOwn_small (pa : Option Addr) (pc : Nat) (ca : Option Addr) (cc : Nat) (ra : Option Addr) (rc : Nat) (r : Rt) (w : World) (hba : BigR r) (h1 : AtRd w pa ca ra r.att) (hs : smallR r = true) :
    Calls Try.prog 4 #[rtV pa pc ca cc ra rc r] w fun e w' => e = .returned (.bool true) ∧ Below w.heap.size w w' := by
  rw [rtV_eq]
  have HR := hide h1
  have HS := hide hs
  have HZ : Hid (sizeA r.att ≤ 100000 ∧ r.att.comms.length ≤ 100000) := by
    have := of_decide_eq_true hs
    refine ⟨by omega, ?_⟩
    unfold sizeA at this
    omega
  clear h1 hs
  go_enter Try.func4, Try.ntmps4
  go_wp2_with fail
  refine kept_box_intro _ _ _ (by rfl) (run_boxR _ w) ?_
  have HB0 : Hid (Below w.heap.size w (w.alloc (.cells (rtC pa pc ca cc ra rc r) 36))) := (Below.refl _ _).alloc (Nat.le_refl _) _
  have HX0 : Hid (Bl (w.alloc (.cells (rtC pa pc ca cc ra rc r) 36)) w.heap.size (rtC pa pc ca cc ra rc r)) := Bl.new w _
  generalize w.alloc (.cells (rtC pa pc ca cc ra rc r) 36) = w0 at *
  go_wp2_with fail
  refine kept_load_intro _ _ _ (by rfl) (run_loadR HX0.out (RC.rt _ _ _ _ _ _ _)) ?_
  go_wp2_with fail
  refine (small_is w0 hba (HR.out.below HB0.out) HS.out).mono ?_
  rintro e w2 ⟨rfl, hb1⟩
  have HB2 : Hid (Below w.heap.size w w2) := HB0.out.trans (hb1.mono HB0.out.size)
  have HX2 := hide (HX0.out.below hb1)
  clear hb1 HX0 HB0 HS hba
  go_wp2_with fail
  refine kept_load_intro _ _ _ (by rfl) (run_loadR HX2.out (RC.rt _ _ _ _ _ _ _)) ?_
  go_wp2_with fail
  refine kept_alloc_intro _ (run_allocR _) ?_
  go_wp2_with fail
  refine kept_store_intro _ _ _ (.agg (rtC pa pc ca cc ra rc r)) (by rfl) (by rfl) (run_storeR (Bl.new w2 zR) rfl (RC.rt _ _ _ _ _ _ _)) ?_
  have hb3 : Below w2.heap.size w2 ((w2.alloc (.cells zR 36)).setCells w2.heap.size 0 (rtC pa pc ca cc ra rc r).toList) := below_puts ((Below.refl _ _).alloc (Nat.le_refl _) _) (Nat.le_refl _) _
  have HY3 : Hid (Bl ((w2.alloc (.cells zR 36)).setCells w2.heap.size 0 (rtC pa pc ca cc ra rc r).toList) w2.heap.size (rtC pa pc ca cc ra rc r)) := (Bl.new w2 zR).put rfl
  generalize (w2.alloc (.cells zR 36)).setCells w2.heap.size 0 (rtC pa pc ca cc ra rc r).toList = w3 at *
  have HX3 := hide (HX2.out.below hb3)
  have HB3 : Hid (Below w.heap.size w w3) := HB2.out.trans (hb3.mono HB2.out.size)
  have hXY : w.heap.size < w2.heap.size := HX2.out.lt
  clear hb3 HX2 HB2
  generalize w2.heap.size = Y at *
  have x8 : w3.cell? ⟨w.heap.size, 8, none⟩ = some (.slice ca r.att.comms.length cc) := HX3.out.cell 8 rfl
  have zX := HX3.out.lt
  have zY := HY3.out.lt
  have hbe : Below w3.heap.size w3 (w3.alloc (.cells #[] 27)) := (Below.refl _ _).alloc (Nat.le_refl _) _
  obtain ⟨v4, w4, hr4, ho4, hb4⟩ := app_cells elemU32 ca cc (own_empty w3 27 1) hbe.size (by have := HZ.out.2; omega) (cells_u ((HR.out.comms.below HB3.out).below hbe))
  rw [Nat.zero_add, List.nil_append] at ho4
  obtain ⟨ca4, cc4, rfl⟩ := own_shape ho4
  have hb34 : Below w3.heap.size w3 w4 := hbe.trans hb4
  have HR4 := hide hr4
  have HO4 := hide ho4
  have HX4 := hide (HX3.out.below hb34)
  have HY4 := hide (HY3.out.below hb34)
  have HB4 : Hid (Below w.heap.size w w4) := HB3.out.trans (hb34.mono HB3.out.size)
  have y8 : w4.cell? ⟨Y, 8, none⟩ = some (.slice ca r.att.comms.length cc) := HY4.out.cell 8 rfl
  have f8 := HY4.out.frozen 8
  have zY4 := HY4.out.lt
  clear hr4 ho4 hbe hb4
  go_wp2_with fail
  refine kept_app_intro _ _ _ _ _ _ (w' := w4) (by rfl) (by rfl) (by exact HR4.out) ?_
  clear HR4 x8
  go_wp2_with fail
  have HY5 : Hid (Bl (w4.setCell ⟨Y, 8, none⟩ (.slice ca4 r.att.comms.length cc4)) Y (rtC pa pc ca4 cc4 ra rc r)) := HY4.out.set 8 _
  have HX5 : Hid (Bl (w4.setCell ⟨Y, 8, none⟩ (.slice ca4 r.att.comms.length cc4)) w.heap.size (rtC pa pc ca cc ra rc r)) := HX4.out.other 8 _ (by omega)
  have HO5 : Hid ((w4.setCell ⟨Y, 8, none⟩ (.slice ca4 r.att.comms.length cc4)).ownsRow w3.heap.size 27 1 (.slice ca4 r.att.comms.length cc4) r.att.comms.length (ucells r.att.comms)) := own_keeps HO4.out ((Keeps.refl (fun x => x = Y) w4).setCell Y 8 _ (.inl rfl)) (fun x hx e => by omega)
  have HB5 : Hid (Below w.heap.size w (w4.setCell ⟨Y, 8, none⟩ (.slice ca4 r.att.comms.length cc4))) := HB4.out.setCell (by show w.heap.size ≤ Y; omega) _
  have hs35 : w3.heap.size ≤ (w4.setCell ⟨Y, 8, none⟩ (.slice ca4 r.att.comms.length cc4)).heap.size := by simpa using hb34.size
  clear HY4 HX4 HO4 HB4 y8 f8 zY4 hb34
  generalize w4.setCell ⟨Y, 8, none⟩ (.slice ca4 r.att.comms.length cc4) = w5 at *
  refine (new_any w5).mono ?_
  rintro e w6 ⟨rfl, t6, b6⟩
  obtain ⟨b, hb⟩ : ∃ b, b = w5.heap.size := ⟨_, rfl⟩
  rw [← hb] at t6 ⊢
  have HBB := hide hb
  clear hb
  have HT6 := hide t6
  have HB6 : Hid (Below w.heap.size w w6) := HB5.out.trans (b6.mono HB5.out.size)
  have HY6 := hide (HY5.out.below b6)
  have HA6 : Hid (AtRd w6 pa ca4 ra r.att) := ⟨(HR.out.below HB6.out).path, (own_reads HO5.out).below b6, (HR.out.below HB6.out).raws, HR.out.next⟩
  clear t6
  go_wp2_with fail
  refine kept_load_intro _ _ _ (by rfl) (run_loadR HY6.out (RC.rt _ _ _ _ _ _ _)) ?_
  have K7 := hide (put_any b [] pa pc ca4 cc4 ra rc r w6 HT6.out HZ.out.1 HA6.out)
  rw [rtV_eq] at K7
  go_wp2_with fail
  refine K7.out.mono ?_
  rintro e w7 ⟨rfl, t7, k7⟩
  have hbb := HBB.out
  have hb57 : Below w5.heap.size w5 w7 := b6.trans (k7.below w5.heap.size b6.size (fun x hx => by omega))
  have HT7 : Hid (Tab w7 b [r]) := t7
  have HX7 := hide (HX5.out.below hb57)
  have HY7 := hide (HY5.out.below hb57)
  have HU7 := hide (bump1_row (own_later HO5.out hb57))
  have HB7 : Hid (Below w.heap.size w w7) := HB5.out.trans (hb57.mono HB5.out.size)
  have HIN : Hid (∀ x, InRow ca4 x → w3.heap.size ≤ x ∧ x < b) := fun x hx => by have := inRow_lt HO5.out x hx; omega
  have hsb : w3.heap.size ≤ b := by omega
  clear t7 k7 b6 hb57 HO5 HX5 HY5 HB5 HT6 HB6 HY6 HA6 hbb HBB hs35 K7
  obtain ⟨n, hn⟩ : ∃ n, n = r.att.comms.length := ⟨_, rfl⟩
  rw [← hn] at HU7 ⊢
  have HN := hide hn
  have hnn : n ≤ 100000 := by rw [hn]; exact HZ.out.2
  clear hn
  go_wp2_with fail
  go_loopw [5] (fun i wq => ∃ k : Nat, k ≤ n ∧ i = .int .i64 k ∧ Hid (Keeps (InRow ca4) w7 wq) ∧ Hid (Bump1 wq w3.heap.size ca4 n cc4)) (fun i _ => n - (intOf i).toNat)
  case atStart => exact ⟨0, Nat.zero_le _, rfl, Keeps.refl _ _, HU7⟩
  case round =>
    obtain ⟨k, hk, rfl, HK, HU⟩ := hrel
    have hYY : ¬ InRow ca4 Y := fun h => by have := HIN.out Y h; omega
    have HYr := hide (HY7.out.keeps HK.out hYY)
    have c8 : wr.cell? ⟨Y, 8, none⟩ = some (.slice ca4 n cc4) := by rw [HN.out]; exact HYr.out.cell 8 rfl
    have zY2 := HYr.out.lt
    by_cases hlt : k < n
    · obtain ⟨g, z, hca, hg, zg, cg, fg⟩ := HU.out.at hlt
      subst hca
      have HUU : Hid (∀ y, Bump1 (wr.setCell ⟨g, k, none⟩ (.int .u32 y)) w3.heap.size (some ⟨g, 0, none⟩) n cc4) := fun y => HU.out.set y
      have HKK : Hid (∀ y, Keeps (InRow (some ⟨g, 0, none⟩)) w7 (wr.setCell ⟨g, k, none⟩ y)) := fun y => HK.out.setCell g k y (.inl rfl)
      have hk0 : (0 : Int) ≤ (k : Int) := Int.natCast_nonneg _
      have hk1 : (k : Int) < (n : Int) := by omega
      clear HYr HK HU
      go_wp2
      exact ⟨⟨k + 1, by omega, by go_num, HKK.out _, HUU.out _⟩, by simp [intOf]; omega⟩
    · have HT8 : Hid (Tab wr b [r]) := HT7.out.keeps HK.out (fun x hx h => by have := HIN.out x h; omega)
      have HX8 : Hid (Bl wr w.heap.size (rtC pa pc ca cc ra rc r)) := HX7.out.keeps HK.out (fun h => by have := HIN.out _ h; omega)
      have HB8 : Hid (Below w.heap.size w wr) := HB7.out.trans (HK.out.below w.heap.size HB7.out.size (fun x h => by have := HIN.out x h; omega))
      have d1 : decide ((k : Int) < (n : Int)) = false := decide_eq_false (by omega)
      clear HT7 HX7 HY7 HU7 HB7 HK HU HYr
      go_wp2_with fail
      clear c8 zY2 d1
      refine region_ord (fun W => Bl W w.heap.size (rtC pa pc ca cc ra rc r)) (fun q => q == 3 || q == 7) [0, 1, 2, 4, 5, 6, 3, 7, 8, 9] (by kernel_rfl) (by kernel_rfl) (by rfl) (by kernel_rfl) (HX8.out.below (Below.refl _ _).drew) ?_
      have b9 : Below wr.heap.size wr wr.drew := (Below.refl _ _).drew
      have HX9 := hide (HX8.out.below b9)
      have HT9 := hide (HT8.out.later b9)
      have HB9 : Hid (Below w.heap.size w wr.drew) := HB8.out.trans (b9.mono HB8.out.size)
      clear HX8 HT8 HB8 b9
      generalize wr.drew = w9 at *
      iterate 6 refine ord_q (by rfl) (by rfl) (by rfl) (fun wz h9 => (by
        have e0 : wz.cell? ⟨w.heap.size, 0, none⟩ = some (.int .u32 (r.A : Int)) := h9.cell 0 rfl
        have e1 : wz.cell? ⟨w.heap.size, 1, none⟩ = some (.int .i64 r.L) := h9.cell 1 rfl
        have e2 : wz.cell? ⟨w.heap.size, 2, none⟩ = some (.int .i64 r.peer) := h9.cell 2 rfl
        clear h9
        go_simp; first | done | rfl)) (by go_simp; first | done | rfl) ?_
      refine ord_l (by rfl) (by rfl) (by rfl) ?_
      go_simp
      refine (of_any b [r] r.peer w9 HT9.out (rises_sole r) (by simp)).mono ?_
      rintro e wa ⟨⟨v1, rfl, oa⟩, ba⟩
      have ea : ofL r.peer [r] = [r] := by unfold ofL; simp
      rw [ea] at oa
      have HXa := hide (HX9.out.below ba)
      have HTa := hide (HT9.out.later ba)
      have HBa : Hid (Below w.heap.size w wa) := HB9.out.trans (ba.mono HB9.out.size)
      obtain ⟨ga, cA, pa1, pc1, ca1, cc1, ra1, rc1, ev1, at1, ow1, hga, ⟨cura, hga2⟩, ok1⟩ := oa.one
      subst ev1
      have HI1 : Hid (∀ x, InRow ca1 x → w9.heap.size ≤ x ∧ x < wa.heap.size ∧ x ≠ ga) := fun x hx => by
        obtain ⟨q1, q2, q3⟩ := inRow_lt ow1.comms x hx
        refine ⟨q1, q2, fun e => ?_⟩
        subst e
        have := q3 _ _ _ hga2
        revert this
        decide
      have HA1 := hide at1
      have HW1 := hide ow1
      have HGA : Hid (ga < wa.heap.size) := (Array.getElem?_eq_some_iff.1 hga2).1
      clear oa ea at1 ow1 hga2
      refine ⟨HXa.out, ?_⟩
      refine ord_l (by rfl) (by rfl) (by rfl) ?_
      go_simp
      refine (for_any b [r] r.A r.L wa HTa.out (rises_sole r) (by simp)).mono ?_
      rintro e wb ⟨⟨v2, rfl, ob⟩, bb⟩
      have eb : whatL r.A r.L [r] = [r] := by unfold whatL; simp
      rw [eb] at ob
      obtain ⟨gb, cB, pa2, pc2, ca2, cc2, ra2, rc2, ev2, at2, ow2, hgb, _, _⟩ := ob.one
      subst ev2
      have HXb := hide (HXa.out.below bb)
      have HBb : Hid (Below w.heap.size w wb) := HBa.out.trans (bb.mono HBa.out.size)
      have HA1b := hide (HA1.out.below bb)
      have HU1b : Hid (Bump1 wb w9.heap.size ca1 n cc1) := by rw [HN.out]; exact bump1_row (own_later HW1.out.comms bb)
      have HTb := hide (HTa.out.later bb)
      have hs9 : w9.heap.size ≤ wa.heap.size := ba.size
      have hsa : wa.heap.size ≤ wb.heap.size := bb.size
      have HOB := hide ob
      have hX9 : w.heap.size < w9.heap.size := HX9.out.lt
      have HS9 : Hid (Below w9.heap.size w9 wb) := ba.trans (bb.mono ba.size)
      clear ob eb bb HXa HTa HBa HA1 HW1 ba HX9 HB9
      refine ⟨HXb.out, ?_⟩
      iterate 2 refine ord_q (by rfl) (by rfl) (by rfl) (fun wz h9 => (by clear h9; go_simp; first | done | rfl)) (by go_simp; first | done | rfl) ?_
      refine ⟨fun _ h => (by cases h), ?_⟩
      clear HIN HX3 HY3 hXY zX zY hsb HB3 hYY hlt hk hgb
      go_wp2_with fail
      go_loopw [8] (fun i wq => ∃ k : Nat, k ≤ n ∧ i = .int .i64 k ∧ Hid (Keeps (InRow ca1) wb wq) ∧ Hid (Bump1 wq w9.heap.size ca1 n cc1)) (fun i _ => n - (intOf i).toNat)
      case atStart => exact ⟨0, Nat.zero_le _, rfl, Keeps.refl _ _, HU1b⟩
      case round =>
        obtain ⟨k, hk, rfl, HK, HU⟩ := hrel
        have hgg : ¬ InRow ca1 ga := fun h => (HI1.out ga h).2.2 rfl
        have c8 : wr.cell? ⟨ga, 8, none⟩ = some (.slice ca1 n cc1) := by
          rw [HK.out.cell ⟨ga, 8, none⟩ (Nat.lt_of_lt_of_le HGA.out hsa) hgg, HN.out]
          have := HA1b.out.1 8 _ rfl
          rwa [Nat.zero_add] at this
        have zga : ga < wr.heap.size := Nat.lt_of_lt_of_le (Nat.lt_of_lt_of_le HGA.out hsa) HK.out.size
        by_cases hlt : k < n
        · obtain ⟨g, z, hca, hg, zg, cg, fg⟩ := HU.out.at hlt
          subst hca
          have HUU : Hid (∀ y, Bump1 (wr.setCell ⟨g, k, none⟩ (.int .u32 y)) w9.heap.size (some ⟨g, 0, none⟩) n cc1) := fun y => HU.out.set y
          have HKK : Hid (∀ y, Keeps (InRow (some ⟨g, 0, none⟩)) wb (wr.setCell ⟨g, k, none⟩ y)) := fun y => HK.out.setCell g k y (.inl rfl)
          have hk0 : (0 : Int) ≤ (k : Int) := Int.natCast_nonneg _
          have hk1 : (k : Int) < (n : Int) := by omega
          clear HK HU
          go_wp2
          exact ⟨⟨k + 1, by omega, by go_num, HKK.out _, HUU.out _⟩, by simp [intOf]; omega⟩
        · have d1 : decide ((k : Int) < (n : Int)) = false := decide_eq_false (by omega)
          have hkb : Below w9.heap.size wb wr := HK.out.below w9.heap.size (by omega) (fun x h => (HI1.out x h).1)
          have HTc : Hid (Tab wr b [r]) := HT9.out.later (HS9.out.trans hkb)
          have HOc : Hid (OwnTb wr wa.heap.size (.slice (some ⟨gb, 0, none⟩) 1 cB) [r]) := HOB.out.keeps HK.out (fun x hx h => by have := HI1.out x h; omega)
          have HXc : Hid (Bl wr w.heap.size (rtC pa pc ca cc ra rc r)) := HXb.out.keeps HK.out (fun h => by have := HI1.out _ h; omega)
          have HBc : Hid (Below w.heap.size w wr) := HBb.out.trans (hkb.mono (by omega))
          have x0 : wr.cell? ⟨w.heap.size, 0, none⟩ = some (.int .u32 (r.A : Int)) := HXc.out.cell 0 rfl
          have x1 : wr.cell? ⟨w.heap.size, 1, none⟩ = some (.int .i64 r.L) := HXc.out.cell 1 rfl
          have x2 : wr.cell? ⟨w.heap.size, 2, none⟩ = some (.int .i64 r.peer) := HXc.out.cell 2 rfl
          have zx := HXc.out.lt
          clear HK HU HU1b HA1b HTb HXb HBb hkb HI1 HOB HGA
          go_wp2_with fail
          clear c8 zga d1 x0 x1 x2 zx
          refine (get_any b [r] r.A r.L r.peer wr HTc.out).mono ?_
          rintro e wd ⟨⟨pa3, pc3, ca3, cc3, ra3, rc3, r3, rfl, lk⟩, bd⟩
          have hth : there r.A r.L r.peer [r] = true := by simp [there, gone]
          rw [hth] at lk ⊢
          have hr3 : r3 = r := by
            rcases lk.2.2 with ⟨_, h, _⟩ | ⟨h, _⟩
            · exact List.mem_singleton.1 h
            · cases h
          subst hr3
          have HAd := hide lk.1
          have HXd := hide (HXc.out.below bd)
          have HOd := hide (HOc.out.later bd)
          have HBd : Hid (Below w.heap.size w wd) := HBc.out.trans (bd.mono HBc.out.size)
          clear lk hth bd HXc HOc HBc HTc
          rw [rtV_eq]
          go_wp2_with fail
          refine kept_alloc_intro _ (run_allocR _) ?_
          go_wp2_with fail
          refine kept_store_intro _ _ _ (.agg (rtC pa3 pc3 ca3 cc3 ra3 rc3 r3)) (by rfl) (by rfl) (run_storeR (Bl.new wd zR) rfl (RC.rt _ _ _ _ _ _ _)) ?_
          have be : Below wd.heap.size wd ((wd.alloc (.cells zR 36)).setCells wd.heap.size 0 (rtC pa3 pc3 ca3 cc3 ra3 rc3 r3).toList) := below_puts ((Below.refl _ _).alloc (Nat.le_refl _) _) (Nat.le_refl _) _
          have HZe : Hid (Bl ((wd.alloc (.cells zR 36)).setCells wd.heap.size 0 (rtC pa3 pc3 ca3 cc3 ra3 rc3 r3).toList) wd.heap.size (rtC pa3 pc3 ca3 cc3 ra3 rc3 r3)) := (Bl.new wd zR).put rfl
          generalize (wd.alloc (.cells zR 36)).setCells wd.heap.size 0 (rtC pa3 pc3 ca3 cc3 ra3 rc3 r3).toList = we at *
          have HAe := hide (HAd.out.below be)
          have HXe := hide (HXd.out.below be)
          have HOe := hide (HOd.out.later be)
          have HBe : Hid (Below w.heap.size w we) := HBd.out.trans (be.mono HBd.out.size)
          clear be HAd HXd HOd HBd
          generalize wd.heap.size = Z at *
          obtain ⟨gb2, cB2, pa4, pc4, ca5, cc5, ra4, rc4, ev2, at4, _, _, _, _⟩ := HOe.out.one
          have HA4 : Hid (RtAt we gb 0 r3 pa4 pc4 ca5 cc5 ra4 rc4) := by
            injection ev2 with ev2 _ _
            injection ev2 with ev2
            injection ev2 with ev2 _ _
            rw [ev2]
            exact at4
          clear ev2 at4 HOe
          go_wp2_with fail
          refine region_mix (fun W => Below we.heap.size we W) (fun q => q == 0 || q == 7 || q == 14) (by kernel_rfl) (by kernel_rfl) (by kernel_rfl) (Below.refl _ _).drew ?_
          refine mix_l (by rfl) (by rfl) (by rfl) ?_
          go_simp
          refine (answers_any we.drew).mono ?_
          rintro e wf ⟨rfl, bf0⟩
          have bf : Below we.heap.size we wf := (Below.refl _ _).drew.trans bf0
          refine ⟨bf, ?_⟩
          iterate 4 refine mix_q (by rfl) (by rfl) (fun wz h9 => (by clear h9; go_simp; first | done | rfl)) (by go_simp; first | done | rfl) ?_
          refine mix_q (by rfl) (by rfl) (fun wz h9 => exec_loadR (by rfl) (HZe.out.below h9) (RC.rt _ _ _ _ _ _ _)) (by go_simp; first | done | rfl) ?_
          refine mix_q (by rfl) (by rfl) (fun wz h9 => exec_loadR (by rfl) (HXe.out.below h9) (RC.rt _ _ _ _ _ _ _)) (by go_simp; first | done | rfl) ?_
          refine mix_l (by rfl) (by rfl) (by rfl) ?_
          go_simp
          refine (samer_any pa3 pc3 ca3 cc3 ra3 rc3 pa pc ca cc ra rc r3 r3 wf HZ.out.1 HZ.out.1 (HAe.out.below bf) (HR.out.below (HBe.out.trans (bf.mono HBe.out.size)))).mono ?_
          rintro e wg ⟨rfl, bg0⟩
          have bg : Below we.heap.size we wg := bf.trans (bg0.mono bf.size)
          refine ⟨bg, ?_⟩
          rw [eqRt_self]
          iterate 4 refine mix_q (by rfl) (by rfl) (fun wz h9 => (by clear h9; go_simp; first | done | rfl)) (by go_simp; first | done | rfl) ?_
          refine mix_q (by rfl) (by rfl) (fun wz h9 => exec_loadR_at (by rfl) (HA4.out.below h9)) (by go_simp; first | done | rfl) ?_
          refine mix_q (by rfl) (by rfl) (fun wz h9 => exec_loadR (by rfl) (HXe.out.below h9) (RC.rt _ _ _ _ _ _ _)) (by go_simp; first | done | rfl) ?_
          refine mix_l (by rfl) (by rfl) (by rfl) ?_
          go_simp
          refine (samer_any pa4 pc4 ca5 cc5 ra4 rc4 pa pc ca cc ra rc r3 r3 wg HZ.out.1 HZ.out.1 (HA4.out.below bg).2 (HR.out.below (HBe.out.trans (bg.mono HBe.out.size)))).mono ?_
          rintro e wh ⟨rfl, bh0⟩
          have bh : Below we.heap.size we wh := bg.trans (bh0.mono bg.size)
          refine ⟨bh, ?_⟩
          rw [eqRt_self]
          iterate 2 refine mix_q (by rfl) (by rfl) (fun wz h9 => (by clear h9; go_simp; first | done | rfl)) (by go_simp; first | done | rfl) ?_
          refine ⟨fun _ h => (by cases h), ?_⟩
          have HBh : Hid (Below w.heap.size w wh) := HBe.out.trans (bh.mono HBe.out.size)
          clear bf0 bf bg0 bg bh0 bh
          go_wp2
          go_ret
          exact ⟨rfl, HBh.out⟩
end
theorem adjinOwn_walk (pa : Option Addr) (pc : Nat) (ca : Option Addr) (cc : Nat) (ra : Option Addr) (rc : Nat) (r : Rt) (w : World) (hba : BigR r) (h1 : AtRd w pa ca ra r.att) :
    Calls Try.prog 4 #[rtV pa pc ca cc ra rc r] w fun e w' => e = .returned (.bool true) ∧ Below w.heap.size w w' := by
  cases hs : smallR r with
  | false => exact adjinOwn_great pa pc ca cc ra rc r w hba h1 hs
  | true => exact adjinOwn_small pa pc ca cc ra rc r w hba h1 hs
end Go.Proofs.Ytjlmkaeepeamkaa
