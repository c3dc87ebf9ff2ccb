/- StreamMany's walk. -/
import Derived.Test.YtflhohfeahcnfaaGreatDoorStI
import Derived.Deep.QuietTactic
import Derived.BigQuiet
namespace Go.Proofs.YtflhohfeahcnfaaGreatDoor
open Go.RowKit
set_option maxRecDepth 100000

set_option maxHeartbeats 1600000 in
theorem many_ans (a0 : Option Addr) (n c0 : Nat) (w : World) (hS : SaidM w) (h : 60 < n) :
    Calls Tryz.prog 6 #[.slice a0 n c0] w fun e w' => e = .returned (.bool true) ∧ Below w.heap.size w w' := by
  have HA := hide (sanswers_any w hS)
  clear hS
  have i2 : (60 : Int) < (n : Int) := by omega
  clear h
  go_enter Tryz.func6, Tryz.ntmps6
  go_wp2_with fail
  refine HA.out.mono ?_
  rintro e w2 ⟨rfl, hb2⟩
  have HB := hide hb2
  clear hb2
  go_wp2
  go_ret
  exact ⟨rfl, HB.out⟩
/-- A stream of which bs is left. -/
structure Rest (w wq : World) (S : Nat) (a : Option Addr) (m c : Nat) (bs : List Nat) : Prop where
  st : ∃ d, StrAt wq S (.slice a m c) 0 0 d
  len : bs.length = m
  cap : m ≤ c
  rd : BRd wq a bs
  up : ∀ g o, a = some ⟨g, o, none⟩ → g ≠ S
  bel : Below w.heap.size w wq
  lo : w.heap.size ≤ S
theorem Rest.below {w wq w' : World} {S m c : Nat} {a : Option Addr} {bs : List Nat} (h : Rest w wq S a m c bs) (hb : Below wq.heap.size wq w') : Rest w w' S a m c bs := by
  obtain ⟨d, hd⟩ := h.st
  exact ⟨⟨d, hd.below hb⟩, h.len, h.cap, h.rd.below hb, h.up, h.bel.trans (hb.mono h.bel.size), h.lo⟩
theorem Wait.rest {w wq : World} {S B : Nat} {v : Value} {ys : List Nat} (h : Wait w wq S B v ys) (hl : ys.length ≤ 100000) : ∃ a c, Rest w wq S a ys.length c ys := by
  obtain ⟨a, c, rfl, hc, hr⟩ := h.read hl
  refine ⟨a, c, h.st, rfl, hc, hr, fun g o e => ?_, h.bel, h.lo⟩
  subst e
  rcases h.own.2 with ⟨e9, _⟩ | ⟨g9, cap, cur, e9, hg, _⟩
  · cases e9
  · cases e9
    have := h.hS
    omega
/-- What is left when a message was taken. -/
theorem Rest.take {w wq w' : World} {S g o m c z : Nat} {x y : List Nat} (h : Rest w wq S (some ⟨g, o, none⟩) m c (x ++ y)) (hx : x.length = z) (hs : ∃ d, StrAt w' S (restV g o m c z) 0 0 d) (hk : Keeps (fun b => b = S) wq w') : ∃ a' c', Rest w w' S a' y.length c' y := by
  have hm : m = z + y.length := by rw [← h.len, List.length_append, hx]
  have hb : Below w.heap.size w w' := h.bel.trans (hk.below _ h.bel.size (fun b e => by have := h.lo; omega))
  by_cases e : m = z
  · have hy : y = [] := List.length_eq_zero_iff.1 (by omega)
    subst hy
    unfold restV at hs
    rw [if_pos e] at hs
    exact ⟨none, 0, hs, rfl, Nat.le_refl _, brd_none _ _, (fun g o e => by cases e), hb, h.lo⟩
  · unfold restV at hs
    rw [if_neg e, show m - z = y.length from by omega] at hs
    have hr : BRd wq (some ⟨g, o + z, none⟩) y := by
      have h9 := brd_drop (k := z) h.rd (by rw [List.length_append]; omega)
      rwa [List.drop_left' hx] at h9
    refine ⟨some ⟨g, o + z, none⟩, c - z, hs, rfl, by have := h.cap; omega, brd_keep hr hk (fun b' o' e => by cases e; exact h.up g o rfl), fun g' o' e => by cases e; exact h.up g o rfl, hb, h.lo⟩
section
attribute [local go_sem ↓] keptM_load keptM_store keptM_alloc keptM_build
set_option maxHeartbeats 16000000 in
theorem many_in (g0 o0 n c0 : Nat) (a0 : Option Addr) (ks : List Nat) (w : World) (hS : SaidM w) (hn : ks.length = n) (h2 : n ≤ 60) (hd : BRd w a0 ks) (ha : 0 < n → a0 = some ⟨g0, o0, none⟩) :
    Calls Tryz.prog 6 #[.slice a0 n c0] w fun e w' => e = .returned (.bool true) ∧ Below w.heap.size w w' := by
  have HS := hide hS
  have HN := hide hn
  have HD := hide hd
  have HA := hide ha
  have i2 : decide ((60 : Int) < (n : Int)) = false := decide_eq_false (by omega)
  have HK : Hid (∀ (j k : Nat), ks[j]? = some k → k < 256 ∧ a0 = some ⟨g0, o0, none⟩ ∧ ∀ W, Below w.heap.size w W → W.cell? ⟨g0, o0 + j, none⟩ = some (.int .u8 (k : Int))) := fun j k hk => by
    have hj : j < ks.length := (List.getElem?_eq_some_iff.1 hk).1
    have e0 := ha (by omega)
    refine ⟨hd.2 k (List.mem_iff_getElem?.2 ⟨j, hk⟩), e0, fun W hW => ?_⟩
    obtain ⟨g', o', e9, hc⟩ := hd.1.2 (by omega)
    rw [e0] at e9
    cases e9
    have h9 : w.cell? ⟨g0, o0 + j, none⟩ = some (.int .u8 ((ks.getD j 0 : Nat) : Int)) := hc j hj
    rw [List.getD_eq_getElem?_getD, hk] at h9
    rw [hW.cell (p := ⟨g0, o0 + j, none⟩) (World.block_lt_of_cell? w _ h9)]
    exact h9
  have HLn : Hid (∀ j, (manyB (ks.take j)).length ≤ 1300) := fun j => by
    have h9 := manyB_length (ks.take j)
    rw [List.length_take] at h9
    omega
  clear hS hn hd ha
  go_enter Tryz.func6, Tryz.ntmps6
  go_wp2_with fail
  refine (snew_any w).mono ?_
  rintro e w1 ⟨rfl, rfl⟩
  have HW := hide (wait_new (w := w) (Below.refl w.heap.size w) (Below.refl _ _))
  go_wp2
  generalize (w.alloc (.cells #[.slice none 0 0, .int .i64 0, .int .i64 0, .slice none 0 0] 77)) = W0 at *
  go_loopw [4] (fun i wq => ∃ j : Nat, j ≤ n ∧ i = .int .i64 j ∧ Hid (∃ v, Wait w wq w.heap.size W0.heap.size v (manyB (ks.take j)))) (fun i _ => n - (intOf i).toNat)
  case atStart => exact ⟨0, Nat.zero_le _, rfl, ⟨_, HW.out⟩⟩
  case round =>
    obtain ⟨j, hj, rfl, HWj⟩ := hrel
    by_cases hlt : j < n
    · obtain ⟨v, hw⟩ := HWj.out
      obtain ⟨k, hk⟩ : ∃ k, ks[j]? = some k := ⟨ks[j]'(by rw [HN.out]; exact hlt), List.getElem?_eq_getElem _⟩
      obtain ⟨hk256, rfl, hcell⟩ := HK.out j k hk
      have HTk : Hid (manyB (ks.take (j + 1)) = manyB (ks.take j) ++ mB k) := by
        show _ = _
        rw [List.take_add_one, hk, manyB_app]
        simp [manyB]
      obtain ⟨W1, hst1, hbx1, hb1⟩ := store_new wr (MC.msg 4 0 0 none 0 0)
      have HST1 := hide hst1
      have HW1 := hide (hw.below hb1)
      have cj : W1.cell? ⟨g0, o0 + j, none⟩ = some (.int .u8 (k : Int)) := hcell W1 HW1.out.bel
      have zj : g0 < W1.heap.size := World.block_lt_of_cell? W1 _ cj
      have hk0 : (0 : Int) ≤ (j : Int) := Int.natCast_nonneg _
      have hk1 : (j : Int) < (n : Int) := by omega
      have HBx1 := hide hbx1
      have HLd1 := hide (run_loadM (range_of hbx1) (MC.msg 4 0 0 none 0 0))
      have HWv := HWj
      have hb1x := hide hb1
      clear hw hst1 hbx1 hb1 hcell HWj
      by_cases hev : k % 2 = 0
      · have em : (((k : Int)).tmod 2 == 0) = true := by rw [Int.tmod_eq_emod_of_nonneg (by omega)]; simp; omega
        have em2 : (((k : Int)) % 2 == 0) = true := by simp; omega
        have HMk : Hid (mB k = noteB 6 k []) := by show _ = _; unfold mB; rw [if_pos hev]
        obtain ⟨W2, hst2, hbx2, hb2⟩ := store_again HBx1.out rfl (MC.msg 3 6 (k : Int) none 0 0) (Nat.le_refl _)
        have HST2 := hide hst2
        have HLd2 := hide (run_loadM (range_of hbx2) (MC.msg 3 6 (k : Int) none 0 0))
        have HB2 := hide hb2
        have hW2 : ∃ v, Wait w W2 w.heap.size W0.heap.size v (manyB (ks.take j)) := by
          obtain ⟨v, hw⟩ := HWv.out
          exact ⟨v, hw.below (hb1x.out.trans hb2)⟩
        obtain ⟨v2, hw2⟩ := hW2
        have HW2 := hide hw2
        clear hst2 hbx2 hb2 hw2
        go_wp2_with (first | (refine keptM_build1_intro 0 _ (.int .i64 4) (.agg (msgC 4 0 0 (.slice none 0 0))) (by rfl) (run_buildkM 4 _) ?_) | (refine keptM_alloc_intro _ (run_allocM wr) ?_) | (refine keptM_store_intro _ _ (.pointer (some ⟨wr.heap.size, 0, none⟩)) (.agg (msgC 4 0 0 (.slice none 0 0))) (by rfl) (by rfl) HST1.out ?_) | (refine keptM_build2_intro 0 3 _ _ (.int .i64 3) (.agg #[.int .i64 6, .int .i64 (k : Int), .slice none 0 0]) _ (by rfl) (by rfl) (run_buildnM 3 6 (k : Int) none 0 0 _) ?_) | (refine keptM_store_intro _ _ (.pointer (some ⟨wr.heap.size, 0, none⟩)) (.agg (msgC 3 6 (k : Int) (.slice none 0 0))) (by rfl) (by rfl) HST2.out ?_) | (refine keptM_load_intro _ (.pointer (some ⟨wr.heap.size, 0, none⟩)) (.agg (msgC 3 6 (k : Int) (.slice none 0 0))) (by rfl) HLd2.out ?_))
        refine (rmsg_note 6 k 0 0 none [] W2 (by decide) hk256 rfl (by omega) (brd_none _ _)).mono ?_
        rintro e w3 ⟨v3, rfl, ho3, hb3⟩
        have hl3 : (noteB 6 k []).length = 21 := by rw [noteB_length]; rfl
        have h9 : w3.ownsRow W2.heap.size 5 1 v3 (noteB 6 k []).length (bcells (noteB 6 k [])) := by rw [hl3]; exact ho3
        obtain ⟨a3, c3, rfl, _, hr3⟩ := own_brd h9 (by rw [hl3]; omega) (noteB_lt (by decide) hk256 (by simp) (by simp))
        rw [hl3] at ho3 h9
        have HW3 := hide (HW2.out.below hb3)
        have HR3 := hide hr3
        clear ho3 hb3 h9 hr3
        rw [hl3]
        go_wp2_with fail
        refine (wait_feed a3 c3 HW3.out (by have := HLn.out j; rw [hl3]; omega) HR3.out hl3).mono ?_
        rintro e w4 ⟨rfl, HW4, _⟩
        have HW5 : Hid (∃ v, Wait w w4 w.heap.size W0.heap.size v (manyB (ks.take (j + 1)))) := by
          show ∃ v, _
          rw [HTk.out, HMk.out]
          exact HW4.out
        clear HW4
        go_wp2
        exact ⟨⟨j + 1, by omega, by go_num, HW5⟩, by simp [intOf]; omega⟩
      · have em : (((k : Int)) % 2 == 0) = false := by simp; omega
        have HMk : Hid (mB k = alvB) := by show _ = _; unfold mB; rw [if_neg hev]
        go_wp2_with (first | (refine keptM_build1_intro 0 _ (.int .i64 4) (.agg (msgC 4 0 0 (.slice none 0 0))) (by rfl) (run_buildkM 4 _) ?_) | (refine keptM_alloc_intro _ (run_allocM wr) ?_) | (refine keptM_store_intro _ _ (.pointer (some ⟨wr.heap.size, 0, none⟩)) (.agg (msgC 4 0 0 (.slice none 0 0))) (by rfl) (by rfl) HST1.out ?_) | (refine keptM_load_intro _ (.pointer (some ⟨wr.heap.size, 0, none⟩)) (.agg (msgC 4 0 0 (.slice none 0 0))) (by rfl) HLd1.out ?_))
        refine (rmsg_alive W1).mono ?_
        rintro e w3 ⟨⟨b, o, sp⟩, c, rfl, hc, hsp, hbS0, HR, HB⟩
        simp only at hsp
        subst hsp
        have HW3 := hide (HW1.out.below HB.out)
        go_wp2_with fail
        refine (wait_feed (some ⟨b, o, none⟩) c HW3.out (by have := HLn.out j; simp [ff16]; omega) HR.out (by rfl)).mono ?_
        rintro e w4 ⟨rfl, HW4, _⟩
        have HW5 : Hid (∃ v, Wait w w4 w.heap.size W0.heap.size v (manyB (ks.take (j + 1)))) := by
          show ∃ v, _
          rw [HTk.out, HMk.out]
          exact HW4.out
        clear HW4
        go_wp2
        exact ⟨⟨j + 1, by omega, by go_num, HW5⟩, by simp [intOf]; omega⟩
    · obtain rfl : j = n := by omega
      obtain ⟨v, hw⟩ := HWj.out
      rw [List.take_of_length_le (by rw [HN.out]; exact Nat.le_refl _)] at hw
      have hl9 := manyB_length ks
      obtain ⟨ar, cr, hrest⟩ := hw.rest (by rw [HN.out] at hl9; omega)
      have HRs := hide hrest
      clear hw HWj hrest hlt hj
      go_wp2
      go_loopw [6] (fun i wq => ∃ q : Nat, q ≤ j ∧ i = .int .i64 q ∧ Hid (∃ a c, Rest w wq w.heap.size a (manyB (ks.drop q)).length c (manyB (ks.drop q)))) (fun i _ => j - (intOf i).toNat)
      case atStart => exact ⟨0, Nat.zero_le _, rfl, ⟨ar, cr, HRs.out⟩⟩
      case round =>
        obtain ⟨q, hq, rfl, HQ⟩ := hrel
        obtain ⟨aq, cq, hR⟩ := HQ.out
        have HR := hide hR
        clear HQ hR
        by_cases hlt : q < j
        · obtain ⟨k, hk⟩ : ∃ k, ks[q]? = some k := ⟨ks[q]'(by rw [HN.out]; exact hlt), List.getElem?_eq_getElem _⟩
          obtain ⟨hk256, rfl, hcell⟩ := HK.out q k hk
          have hD : manyB (ks.drop q) = mB k ++ manyB (ks.drop (q + 1)) := by
            have hql : q < ks.length := (List.getElem?_eq_some_iff.1 hk).1
            rw [List.drop_eq_getElem_cons hql, (List.getElem?_eq_some_iff.1 hk).2]
            rfl
          have hR := HR.out
          rw [hD] at hR
          have hmb : 0 < (mB k).length := by
            unfold mB
            split
            · rw [noteB_length]; omega
            · rw [alv_len]; omega
          obtain ⟨gq, oq, rfl, _⟩ := hR.rd.1.2 (by rw [List.length_append]; omega)
          have hl9 := manyB_length (ks.drop q)
          rw [hD, List.length_drop, HN.out] at hl9
          have hk0 : (0 : Int) ≤ (q : Int) := Int.natCast_nonneg _
          have hk1 : (q : Int) < (j : Int) := by omega
          obtain ⟨dq, hsq⟩ := hR.st
          have HRq := hide hR
          have HC := hide hcell
          by_cases hev : k % 2 = 0
          · have hmk : mB k = noteB 6 k [] := by unfold mB; rw [if_pos hev]
            have e1 : (((k : Int)) % 2 == 1) = false := by simp; omega
            have e0 : (((k : Int)) % 2 == 0) = true := by simp; omega
            have hwk : IntKind.i64.wrap (k : Int) = (k : Int) := by rw [IntKind.wrap_i64]; omega
            rw [hmk] at hR hsq hl9
            have KN := hide (next_note w.heap.size gq oq _ cq 6 k 0 [] (manyB (ks.drop (q + 1))) 0 dq wr hsq rfl (by omega) hR.cap hR.rd (HS.out.below hR.bel) rfl (by omega))
            have HRq2 := hide hR
            clear hR hsq hcell HR HRq hmb hD
            go_wp2_with fail
            refine KN.out.mono ?_
            rintro e w6 ⟨C, v6, rfl, HN6, HS6, HK6⟩
            obtain ⟨a7, c7, hR7⟩ := HRq2.out.take (noteB_length 6 k []) HS6.out HK6.out
            obtain ⟨B6, _, ⟨a8, c8, hC8, _⟩, _, _, va, vn, vc, rfl⟩ := HN6.out
            have hC9 : C = msgC 3 6 (k : Int) (.slice a8 0 c8) := hC8
            subst hC9
            have HR7 := hide hR7
            clear hR7 KN HS6 HK6 HRq2 HN6 hC8
            obtain ⟨X1, X3, HRA, hX1, HST, HX3, HLB⟩ := law_boxes w6 (MC.msg 3 6 (k : Int) a8 0 c8) 0 0 va vn vc
            have hX1s := hX1
            obtain ⟨zx3, r0, r1, r2, f0, f1, f2⟩ := HX3.out
            go_wp2_with (first | (refine keptM_alloc_intro _ HRA.out ?_; rw [hX1s] at *) | (refine keptM_store_intro _ _ (.pointer (some ⟨w6.heap.size, 0, none⟩)) (.agg (msgC 3 6 (k : Int) (.slice a8 0 c8))) (by rfl) (by rfl) HST.out ?_))
            generalize ((X3.setCell ⟨w6.heap.size + 1, 0, none⟩ (.int .i64 0)).setCell ⟨w6.heap.size + 1, 1, none⟩ (.int .i64 0)).setCell ⟨w6.heap.size + 1, 2, none⟩ (.slice va vn vc) = V1 at *
            have HR8 := hide (HR7.out.below HLB.out.bel)
            have cq0 : V1.cell? ⟨g0, o0 + q, none⟩ = some (.int .u8 (k : Int)) := HC.out V1 HR8.out.bel
            have z0 : V1.cell? ⟨w6.heap.size, 0, none⟩ = some (.int .i64 3) := range_of HLB.out.bM 0 _ rfl
            have z23 : V1.cell? ⟨w6.heap.size, 23, none⟩ = some (.int .i64 (k : Int)) := range_of HLB.out.bM 23 _ rfl
            have z1 : V1.cell? ⟨w6.heap.size + 1, 0, none⟩ = some (.int .i64 0) := range_of HLB.out.bN 0 _ rfl
            have zz0 : w6.heap.size < V1.heap.size := World.block_lt_of_cell? V1 _ z0
            have zz1 : w6.heap.size + 1 < V1.heap.size := World.block_lt_of_cell? V1 _ z1
            have zzg : g0 < V1.heap.size := World.block_lt_of_cell? V1 _ cq0
            clear HRA hX1 hX1s HST HX3 zx3 r0 r1 r2 f0 f1 f2 HR7
            go_quiet (fail)
            go_wp2
            exact ⟨⟨q + 1, by omega, by go_num, ⟨a7, c7, HR8.out.below ⟨rfl, rfl, rfl, Nat.le_refl _, fun _ _ => rfl⟩⟩⟩, by simp [intOf]; omega⟩
          · have hmk : mB k = alvB := by unfold mB; rw [if_neg hev]
            have e1 : (((k : Int)) % 2 == 1) = true := by simp; omega
            have e0 : (((k : Int)) % 2 == 0) = false := by simp; omega
            rw [hmk] at hR hsq hl9
            have KN := hide (next_alv w.heap.size gq oq _ cq (manyB (ks.drop (q + 1))) 0 dq wr hsq rfl (by omega) hR.cap hR.rd (HS.out.below hR.bel))
            have HRq2 := hide hR
            clear hR hsq hcell HR HRq hmb hD
            go_wp2_with fail
            refine KN.out.mono ?_
            rintro e w6 ⟨v6, rfl, ⟨va, vn, vc, rfl⟩, HS6, HK6⟩
            obtain ⟨a7, c7, hR7⟩ := HRq2.out.take alv_len HS6.out HK6.out
            have HR7 := hide hR7
            clear hR7 KN HS6 HK6 HRq2
            obtain ⟨X1, X3, HRA, hX1, HST, HX3, HLB⟩ := law_boxes w6 (MC.msg 4 0 0 none 0 0) 0 0 va vn vc
            have hX1s := hX1
            obtain ⟨zx3, r0, r1, r2, f0, f1, f2⟩ := HX3.out
            have y0 : X3.cell? ⟨w6.heap.size, 0, none⟩ = some (.int .i64 4) := by
              have h9 := range_of HLB.out.bM 0 _ rfl
              simpa [go_sem] using h9
            go_wp2_with (first | (refine keptM_alloc_intro _ HRA.out ?_; rw [hX1s] at *) | (refine keptM_store_intro _ _ (.pointer (some ⟨w6.heap.size, 0, none⟩)) (.agg (msgC 4 0 0 (.slice none 0 0))) (by rfl) (by rfl) HST.out ?_))
            generalize ((X3.setCell ⟨w6.heap.size + 1, 0, none⟩ (.int .i64 0)).setCell ⟨w6.heap.size + 1, 1, none⟩ (.int .i64 0)).setCell ⟨w6.heap.size + 1, 2, none⟩ (.slice va vn vc) = V1 at *
            have HR8 := hide (HR7.out.below HLB.out.bel)
            have cq0 : V1.cell? ⟨g0, o0 + q, none⟩ = some (.int .u8 (k : Int)) := HC.out V1 HR8.out.bel
            have z0 : V1.cell? ⟨w6.heap.size, 0, none⟩ = some (.int .i64 4) := range_of HLB.out.bM 0 _ rfl
            have z1 : V1.cell? ⟨w6.heap.size + 1, 0, none⟩ = some (.int .i64 0) := range_of HLB.out.bN 0 _ rfl
            have zz0 : w6.heap.size < V1.heap.size := World.block_lt_of_cell? V1 _ z0
            have zz1 : w6.heap.size + 1 < V1.heap.size := World.block_lt_of_cell? V1 _ z1
            have zzg : g0 < V1.heap.size := World.block_lt_of_cell? V1 _ cq0
            clear HRA hX1 hX1s HST HX3 zx3 r0 r1 r2 f0 f1 f2 y0 HR7
            go_quiet (fail)
            go_wp2
            exact ⟨⟨q + 1, by omega, by go_num, ⟨a7, c7, HR8.out.below ⟨rfl, rfl, rfl, Nat.le_refl _, fun _ _ => rfl⟩⟩⟩, by simp [intOf]; omega⟩
        · obtain rfl : q = j := by omega
          have hD : manyB (ks.drop q) = [] := by rw [List.drop_of_length_le (by rw [HN.out]; exact Nat.le_refl _)]; rfl
          have hR := HR.out
          rw [hD] at hR
          obtain ⟨dq, hsq⟩ := hR.st
          have KN := hide (next_wait w.heap.size 0 cq 0 aq [] 0 dq wr hsq rfl (by omega) (Nat.zero_le _) hR.rd (HS.out.below hR.bel) (headM_short (by decide)) (.inl rfl))
          have HRq := hide hR
          clear hR hsq HR hlt hq
          go_wp2_with fail
          refine KN.out.mono ?_
          rintro e w6 ⟨rfl, hb6⟩
          have HR6 := hide (HRq.out.below hb6)
          clear hb6 KN HRq
          obtain ⟨X1, X3, HRA, hX1, HST, HX3, HLB⟩ := law_boxes w6 MC.zero 0 0 none 0 0
          have hX1s := hX1
          obtain ⟨zx3, r0, r1, r2, f0, f1, f2⟩ := HX3.out
          go_wp2_with (first | (refine keptM_alloc_intro _ HRA.out ?_; rw [hX1s] at *) | (refine keptM_store_intro _ _ (.pointer (some ⟨w6.heap.size, 0, none⟩)) (.agg zM) (by rfl) (by rfl) HST.out ?_))
          generalize ((X3.setCell ⟨w6.heap.size + 1, 0, none⟩ (.int .i64 0)).setCell ⟨w6.heap.size + 1, 1, none⟩ (.int .i64 0)).setCell ⟨w6.heap.size + 1, 2, none⟩ (.slice none 0 0) = V1 at *
          have HR8 := hide (HR6.out.below HLB.out.bel)
          clear HRA hX1 hX1s HST HX3 zx3 r0 r1 r2 f0 f1 f2 HR6
          refine (sanswers_any V1 (HS.out.below HR8.out.bel)).mono ?_
          rintro e w9 ⟨rfl, hb9⟩
          have HR9 := hide (HR8.out.below hb9)
          clear hb9 HR8 HLB
          obtain ⟨d9, hs9⟩ := HR9.out.st
          have HS9 := hide hs9
          clear hs9
          go_wp2_with fail
          refine (left_any w9 w.heap.size aq 0 cq 0 0 d9 HS9.out).mono ?_
          rintro e wy ⟨rfl, rfl⟩
          go_wp2
          go_ret
          exact ⟨rfl, HR9.out.bel⟩
end
theorem streamMany_walk (a0 : Option Addr) (c0 : Nat) (ks : List Nat) (w : World) (hS : SaidM w) (hd : BRd w a0 ks) :
    Calls Tryz.prog 6 #[.slice a0 ks.length c0] w fun e w' => e = .returned (.bool true) ∧ Below w.heap.size w w' := by
  by_cases h : 60 < ks.length
  · exact many_ans a0 _ c0 w hS h
  · by_cases hp : 0 < ks.length
    · obtain ⟨g, o, rfl, _⟩ := hd.1.2 hp
      exact many_in g o _ c0 _ ks w hS rfl (by omega) hd (fun _ => rfl)
    · exact many_in 0 0 _ c0 a0 ks w hS rfl (by omega) hd (fun h => absurd h hp)
end Go.Proofs.YtflhohfeahcnfaaGreatDoor
