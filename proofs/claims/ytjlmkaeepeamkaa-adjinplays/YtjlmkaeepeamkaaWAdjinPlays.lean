/- AdjinPlays' walk. -/
import Derived.Test.YtjlmkaeepeamkaaAjR
import Derived.Deep.CutRange
import Derived.Deep.QuietTactic
import Derived.BigQuiet
namespace Go.Proofs.Ytjlmkaeepeamkaa
open Go.RowKit
set_option maxRecDepth 100000

theorem allR_length (l : List Rt) : (allR l).length ≤ l.length := by
  have key : ∀ m : List Rt, (allR m.reverse).length ≤ m.length := by
    intro m
    induction m with
    | nil => exact Nat.le_refl _
    | cons x m ih =>
      rw [List.reverse_cons, allR_snoc]
      unfold allS
      split
      · simp only [List.length_cons]; omega
      · rw [List.length_append]; simp only [List.length_cons, List.length_nil]; omega
  have := key l.reverse
  rwa [List.reverse_reverse, List.length_reverse] at this
section
attribute [local go_sem ↓] keptR_load keptR_store keptR_box keptR_alloc keptR_build keptR_one kept_app keptX_load keptX_store keptX_alloc
set_option maxHeartbeats 1600000 in
theorem adjinPlays_great (a0 : Option Addr) (c0 n0 : Nat) (w : World) (h : 50 < n0) :
    Calls Try.prog 3 #[.slice a0 n0 c0] w fun e w' => e = .returned (.bool true) ∧ Below w.heap.size w w' := by
  have h1 : (50 : Int) < (n0 : Int) := by omega
  clear h
  go_enter Try.func3, Try.ntmps3
  go_wp2_with fail
  refine (answers_any w).mono ?_
  rintro e w1 ⟨rfl, b1⟩
  have HB1 := hide b1
  clear b1
  go_wp2
  go_ret
  exact ⟨rfl, HB1.out⟩
set_option maxHeartbeats 51200000 in
theorem adjinPlays_small (a0 : Option Addr) (c0 : Nat) (l0 : List Ak) (w : World) (n0 : Nat) (hn0 : n0 = l0.length) (h0 : n0 ≤ 50) (B0 : ∀ x ∈ l0, BigR x.r) (R0' : AksRd w a0 l0) :
    Calls Try.prog 3 #[.slice a0 n0 c0] w fun e w' => e = .returned (.bool true) ∧ Below w.heap.size w w' := by
  have HN0 := hide hn0
  have BIG0 := hide B0
  have R0 := hide R0'
  have d0 : decide ((50 : Int) < (n0 : Int)) = false := decide_eq_false (by omega)
  clear hn0 B0 R0'
  go_enter Try.func3, Try.ntmps3
  go_wp2_with fail
  refine (new_any w).mono ?_
  rintro e wA ⟨rfl, tA, bA⟩
  obtain ⟨b, hb⟩ : ∃ b, b = w.heap.size := ⟨_, rfl⟩
  rw [← hb] at tA ⊢
  have HTA := hide tA
  have HBA := hide bA
  have HBB : Hid (w.heap.size ≤ b) := by rw [hb]; exact Nat.le_refl _
  clear tA bA hb d0
  go_wp2_with fail
  go_loopw [4, 5] (fun s4 s5 wq => ∃ (k : Nat) (l : List Rt) (a4 : Option Addr) (c4 : Nat), k ≤ n0 ∧ s5 = .int .i64 k ∧ s4 = .slice a4 l.length c4 ∧ Hid (Tab wq b l) ∧ Hid (RtsRd wq a4 l) ∧ Hid (RisesR l ∧ l.length ≤ k ∧ smallRs l) ∧ Hid (Below w.heap.size w wq)) (fun _ s5 _ => n0 - (intOf s5).toNat)
  case atStart => exact ⟨0, [], none, 0, Nat.zero_le _, rfl, rfl, HTA, fun h => absurd h (Nat.lt_irrefl 0), ⟨List.Pairwise.nil, Nat.le_refl _, fun y hy => absurd hy (List.not_mem_nil (a := y))⟩, HBA⟩
  case round =>
    obtain ⟨k, l, a4, c4, hk, rfl, rfl, HT, HR, HP, HB⟩ := hrel
    by_cases hlt : k < n0
    · obtain ⟨g, off, rfl, hc⟩ := R0.out (by rw [← HN0.out]; omega)
      obtain ⟨pa, pc, ca, cc, ra, rc, rt⟩ := hc k _ (List.getElem?_eq_getElem (show k < l0.length by rw [← HN0.out]; exact hlt))
      have HBG : Hid (BigR (l0[k]'(by rw [← HN0.out]; exact hlt)).r) := BIG0.out _ (List.getElem_mem _)
      have RR := hide (rt.below HB.out)
      clear rt hc HTA HBA
      generalize l0[k]'_ = x at *
      have hk0 : (0 : Int) ≤ (k : Int) := Int.natCast_nonneg _
      have hkn : (k : Int) < (n0 : Int) := by omega
      have zg := World.block_lt_of_cell? wr _ (RR.out.1 0 _ rfl)
      simp only at zg
      go_wp2_with fail
      refine kept_load_intro _ _ _ (by rfl) (run_loadX RR.out) ?_
      go_wp2_with fail
      refine kept_alloc_intro _ (run_allocX _) ?_
      go_wp2_with fail
      refine kept_store_intro _ _ _ (.agg (akC pa pc ca cc ra rc x)) (by rfl) (by rfl) (run_storeX wr) ?_
      obtain ⟨hX1, b1⟩ := act_box RR.out
      generalize (wr.alloc (.cells zX 38)).setCells wr.heap.size 0 (akC pa pc ca cc ra rc x).toList = w1 at *
      have HX1 := hide hX1
      have HT1 := hide (HT.out.later b1)
      have HR1 := hide (HR.out.below b1)
      have HB1 : Hid (Below w.heap.size w w1) := HB.out.trans (b1.mono HB.out.size)
      have zY1 : wr.heap.size < w1.heap.size := by have := World.block_lt_of_cell? w1 _ (hX1.1 0 _ rfl); simpa using this
      clear hX1 b1 HT HR HB RR zg
      generalize wr.heap.size = Y at *
      have RT1 := hide HX1.out.route
      rw [Nat.zero_add] at RT1
      go_wp2_with fail
      refine kept_load_intro _ _ _ (by rfl) (run_loadR_at RT1.out) ?_
      cases hsm : smallR x.r with
      | false =>
        have K1 := hide (small_is (pc := pc) (cc := cc) (rc := rc) w1 HBG.out RT1.out.2 hsm)
        rw [rtV_eq] at K1
        clear hsm
        go_wp2_with fail
        refine K1.out.mono ?_
        rintro e w2 ⟨rfl, b2⟩
        have HT2 := hide (HT1.out.later b2)
        have HR2 := hide (HR1.out.below b2)
        have HB2 : Hid (Below w.heap.size w w2) := HB1.out.trans (b2.mono HB1.out.size)
        have HP2 : Hid (RisesR l ∧ l.length ≤ k + 1 ∧ smallRs l) := ⟨HP.out.1, by have := HP.out.2.1; omega, HP.out.2.2⟩
        clear b2 K1 HT1 HR1 HB1 HX1 RT1
        go_wp2
        exact ⟨⟨k + 1, l, a4, c4, by omega, by go_num, rfl, HT2, HR2, HP2, HB2⟩, by simp [intOf]; omega⟩
      | true =>
        have HSZ : Hid (sizeA x.r.att ≤ 100000) := by show _ ≤ _; have := of_decide_eq_true hsm; omega
        have K1 := hide (small_is (pc := pc) (cc := cc) (rc := rc) w1 HBG.out RT1.out.2 hsm)
        rw [rtV_eq] at K1
        clear hsm
        go_wp2_with fail
        refine K1.out.mono ?_
        rintro e w2 ⟨rfl, b2⟩
        have HT2 := hide (HT1.out.later b2)
        have HR2 := hide (HR1.out.below b2)
        have HX2 := hide (HX1.out.below b2)
        have HB2 : Hid (Below w.heap.size w w2) := HB1.out.trans (b2.mono HB1.out.size)
        have zY2 : Y < w2.heap.size := Nat.lt_of_lt_of_le zY1 b2.size
        clear b2 K1 HT1 HR1 HB1 HX1 RT1 HBG zY1
        have q0 : w2.cell? ⟨Y, 0, none⟩ = some (.bool x.drop) := HX2.out.1 0 _ rfl
        go_upto_if 36 with fail
        go_cut [4, 7] from 21 to 187 (fun s4 s7 wc => ∃ (l2 : List Rt) (a5 : Option Addr) (c5 : Nat), s4 = .slice a5 l2.length c5 ∧ Hid (Tab wc b l2) ∧ Hid (RtsRd wc a5 l2) ∧ Hid (RisesR l2 ∧ l2.length ≤ k + 1 ∧ smallRs l2) ∧ Hid (Below w.heap.size w wc) ∧ Hid (AkAt wc Y 0 x pa pc ca cc ra rc))
        case first =>
          have q1 : w2.cell? ⟨Y, 1, none⟩ = some (.int .i64 x.peer) := HX2.out.1 1 _ rfl
          have q2 : w2.cell? ⟨Y, 2, none⟩ = some (.int .u32 (x.A : Int)) := HX2.out.1 2 _ rfl
          have q3 : w2.cell? ⟨Y, 3, none⟩ = some (.int .i64 x.L) := HX2.out.1 3 _ rfl
          cases hdr : x.drop with
          | true =>
            go_wp2_with fail
            refine (rdrop_any a4 c4 x.A x.L x.peer l w2 (by have := HP.out.2.1; omega) HR2.out).mono ?_
            rintro e w3 ⟨⟨v, rfl, o3⟩, b3⟩
            obtain ⟨a5, c5, rfl, r5⟩ := o3.rd b3
            have HR3 := hide r5
            have HT3 := hide (HT2.out.later b3)
            have HX3 := hide (HX2.out.below b3)
            have HB3 : Hid (Below w.heap.size w w3) := HB2.out.trans (b3.mono HB2.out.size)
            have zY3 := Nat.lt_of_lt_of_le zY2 b3.size
            clear o3 r5 b3 q0 q1 q2 q3 HT2 HR2 HX2 HB2 zY2
            have q1 : w3.cell? ⟨Y, 1, none⟩ = some (.int .i64 x.peer) := HX3.out.1 1 _ rfl
            have q2 : w3.cell? ⟨Y, 2, none⟩ = some (.int .u32 (x.A : Int)) := HX3.out.1 2 _ rfl
            have q3 : w3.cell? ⟨Y, 3, none⟩ = some (.int .i64 x.L) := HX3.out.1 3 _ rfl
            have K4 := hide (drop_any b l x.A x.L x.peer w3 HT3.out)
            have hz : decide ((dropL x.A x.L x.peer l).length < l.length) = there x.A x.L x.peer l := drop_was x.A x.L x.peer l
            have HP4 : Hid (RisesR (dropL x.A x.L x.peer l) ∧ (dropL x.A x.L x.peer l).length ≤ k + 1 ∧ smallRs (dropL x.A x.L x.peer l)) := ⟨rises_drop _ _ _ l HP.out.1, by have := dropL_length x.A x.L x.peer l; have := HP.out.2.1; omega, small_filter HP.out.2.2⟩
            generalize dropL x.A x.L x.peer l = l2 at *
            cases hy : there x.A x.L x.peer l with
            | true =>
              rw [hy] at hz K4
              have hz2 : (l2.length : Int) < (l.length : Int) := by have := of_decide_eq_true hz; omega
              have hz3 : l2.length < l.length := of_decide_eq_true hz
              clear hz hy
              go_wp2_with fail
              refine K4.out.mono ?_
              rintro e w4 ⟨rfl, t4, k4⟩
              have hs4 : Sees w3 w4 := HT3.out.sees k4
              have HT4 := hide t4
              have HR4 := hide (HR3.out.sees hs4)
              have HX4 := hide (HX3.out.sees hs4)
              have HB4 : Hid (Below w.heap.size w w4) := HB3.out.trans (k4.below w.heap.size HB3.out.size (fun y hy => by have := HBB.out; omega))
              clear t4 k4 hs4 K4 HT3 HR3 HX3 HB3 q1 q2 q3
              go_wp2_with fail
              go_meet
              exact ⟨l2, a5, c5, rfl, HT4, HR4, HP4, HB4, HX4⟩
            | false =>
              rw [hy] at hz K4
              have hz2 : decide ((l2.length : Int) < (l.length : Int)) = false := decide_eq_false (by have := of_decide_eq_false hz; omega)
              have hz3 : decide (l2.length < l.length) = false := hz
              clear hz hy
              go_wp2_with fail
              refine K4.out.mono ?_
              rintro e w4 ⟨rfl, t4, k4⟩
              have hs4 : Sees w3 w4 := HT3.out.sees k4
              have HT4 := hide t4
              have HR4 := hide (HR3.out.sees hs4)
              have HX4 := hide (HX3.out.sees hs4)
              have HB4 : Hid (Below w.heap.size w w4) := HB3.out.trans (k4.below w.heap.size HB3.out.size (fun y hy => by have := HBB.out; omega))
              clear t4 k4 hs4 K4 HT3 HR3 HX3 HB3 q1 q2 q3
              go_wp2_with fail
              go_meet
              exact ⟨l2, a5, c5, rfl, HT4, HR4, HP4, HB4, HX4⟩
          | false =>
            have RT2 := hide HX2.out.route
            rw [Nat.zero_add] at RT2
            have K3 := hide (put_any b l pa pc ca cc ra rc x.r w2 HT2.out HSZ.out RT2.out.2)
            rw [rtV_eq] at K3
            go_wp2_with fail
            refine kept_load_intro _ _ _ (by rfl) (run_loadR_at RT2.out) ?_
            go_wp2_with fail
            refine K3.out.mono ?_
            rintro e w3 ⟨rfl, t3, k3⟩
            have hs3 : Sees w2 w3 := HT2.out.sees k3
            have HT3 : Hid (Tab w3 b (putL x.r l)) := t3.perm (put_perm x.r l HP.out.1)
            have HR3 := hide (HR2.out.sees hs3)
            have HX3 := hide (HX2.out.sees hs3)
            have HB3 : Hid (Below w.heap.size w w3) := HB2.out.trans (k3.below w.heap.size HB2.out.size (fun y hy => by have := HBB.out; omega))
            have zY3 := Nat.lt_of_lt_of_le zY2 k3.size
            clear t3 k3 hs3 K3 HT2 HR2 HX2 HB2 q0 q1 q2 q3 RT2 zY2
            have RT3 := hide HX3.out.route
            rw [Nat.zero_add] at RT3
            have K4 := hide (rput_any a4 c4 l x.r pa pc ca cc ra rc w3 (by have := HP.out.2.1; omega) RT3.out.2 HR3.out)
            rw [rtV_eq] at K4
            go_wp2_with fail
            refine kept_load_intro _ _ _ (by rfl) (run_loadR_at RT3.out) ?_
            go_wp2_with fail
            refine K4.out.mono ?_
            rintro e w4 ⟨⟨v, rfl, o4⟩, b4⟩
            obtain ⟨a5, c5, rfl, r5⟩ := o4.rd b4
            have HR4 := hide r5
            have HT4 := hide (HT3.out.later b4)
            have HX4 := hide (HX3.out.below b4)
            have HB4 : Hid (Below w.heap.size w w4) := HB3.out.trans (b4.mono HB3.out.size)
            have HP4 : Hid (RisesR (putL x.r l) ∧ (putL x.r l).length ≤ k + 1 ∧ smallRs (putL x.r l)) := ⟨rises_put x.r l HP.out.1, by have := put_length_rises x.r l HP.out.1; have := HP.out.2.1; omega, small_put HSZ.out HP.out.2.2 HP.out.1⟩
            clear o4 r5 b4 K4 HT3 HR3 HX3 HB3 RT3
            generalize putL x.r l = l2 at *
            go_wp2_with fail
            go_meet
            exact ⟨l2, a5, c5, rfl, HT4, HR4, HP4, HB4, HX4⟩
        case rest =>
          obtain ⟨l2, a5, c5, e4, HT3, HR3, HP3, HB3, HX3⟩ := hcut
          subst e4
          obtain ⟨w3, hw3⟩ : ∃ w3 : World, w3 = wc := ⟨wc, rfl⟩
          subst hw3
          clear HT2 HR2 HX2 HB2 HP q0 HSZ zY2
          have HX3c := hide HX3.out.1
          obtain ⟨m, hm⟩ : ∃ m, m = l2.length := ⟨_, rfl⟩
          have HM := hide hm
          have hm51 : m ≤ 51 := by rw [hm]; have := HP3.out.2.1; omega
          rw [← hm]
          clear hm
          go_wp2_with fail
          go_loopw [8, 9, 10, 11] (fun s8 s9 s10 s11 wq => ∃ (j : Nat) (a8 : Option Addr) (c8 : Nat) (a9 : Option Addr) (c9 : Nat) (aA : Option Addr) (cA : Nat), j ≤ m ∧ s11 = .int .i64 j ∧ s8 = .slice a8 (ofL x.peer (l2.take j)).length c8 ∧ s9 = .slice a9 (whatL x.A x.L (l2.take j)).length c9 ∧ s10 = .slice aA (allR (l2.take j)).length cA ∧ Hid (Tri w3 w3.heap.size wq (.slice a8 (ofL x.peer (l2.take j)).length c8) (.slice a9 (whatL x.A x.L (l2.take j)).length c9) (.slice aA (allR (l2.take j)).length cA) (ofL x.peer (l2.take j)) (whatL x.A x.L (l2.take j)) (allR (l2.take j))) ∧ Hid (Below w3.heap.size w3 wq)) (fun _ _ _ s11 _ => m - (intOf s11).toNat)
          case atStart => exact ⟨0, none, 0, none, 0, none, 0, Nat.zero_le _, rfl, rfl, rfl, rfl, Tri.start w3, Below.refl _ _⟩
          case round =>
            obtain ⟨j, a8, c8, a9, c9, aA, cA, hj, rfl, rfl, rfl, rfl, HTR, HBL⟩ := hrel
            by_cases hjm : j < m
            · have hjl : j < l2.length := by rw [← HM.out]; exact hjm
              obtain ⟨g5, o5, rfl, hc5⟩ := HR3.out (by omega)
              obtain ⟨pa5, pc5, ca5, cc5, ra5, rc5, rt5⟩ := hc5 j _ (List.getElem?_eq_getElem hjl)
              have HRT := hide rt5
              have HRR := hide (rt5.below HBL.out)
              have HTK : Hid (l2.take (j + 1) = l2.take j ++ [l2[j]]) := List.take_succ_eq_append_getElem hjl
              clear rt5 hc5
              have HLO : Hid ((ofL x.peer (l2.take j)).length ≤ 51 ∧ (whatL x.A x.L (l2.take j)).length ≤ 51) := by
                have e1 := List.length_filter_le (fun y : Rt => decide (y.peer = x.peer)) (l2.take j)
                have e2 := List.length_filter_le (fun y : Rt => decide (y.A = x.A) && decide (y.L = x.L)) (l2.take j)
                have e3 := List.length_take_le j l2
                unfold ofL whatL
                exact ⟨by omega, by omega⟩
              generalize l2[j] = y at *
              have hj0 : (0 : Int) ≤ (j : Int) := Int.natCast_nonneg _
              have hjn : (j : Int) < (m : Int) := by omega
              have p0 : wr.cell? ⟨g5, o5 + j * 11, none⟩ = some (.int .u32 (y.A : Int)) := HRR.out.1 0 _ rfl
              have p1 : wr.cell? ⟨g5, o5 + j * 11 + 1, none⟩ = some (.int .i64 y.L) := HRR.out.1 1 _ rfl
              have p2 : wr.cell? ⟨g5, o5 + j * 11 + 2, none⟩ = some (.int .i64 y.peer) := HRR.out.1 2 _ rfl
              have zg5 := World.block_lt_of_cell? wr _ p0
              simp only at zg5
              have HXr := hide (HX3.out.below HBL.out)
              have q1 : wr.cell? ⟨Y, 1, none⟩ = some (.int .i64 x.peer) := HXr.out.1 1 _ rfl
              have q2 : wr.cell? ⟨Y, 2, none⟩ = some (.int .u32 (x.A : Int)) := HXr.out.1 2 _ rfl
              have q3 : wr.cell? ⟨Y, 3, none⟩ = some (.int .i64 x.L) := HXr.out.1 3 _ rfl
              have zY := World.block_lt_of_cell? wr _ q1
              simp only at zY
              go_wp2_with fail
              go_quiet (fail)
              go_upto_if 77 with fail
              have HTd := hide (HTR.out.later (below_drewN (Below.refl _ wr) nq))
              have HBd : Hid (Below w3.heap.size w3 (wr.drewN nq)) := below_drewN HBL.out nq
              generalize wr.drewN nq = wd at *
              clear p0 p1 p2 zg5 q1 q2 q3 zY HTR HBL HRR HXr
              have HOF : Hid (ofL x.peer (l2.take (j + 1)) = if y.peer = x.peer then ofL x.peer (l2.take j) ++ [y] else ofL x.peer (l2.take j)) := by show _ = _; rw [HTK.out, ofL_snoc]
              have HWF : Hid (whatL x.A x.L (l2.take (j + 1)) = if y.A = x.A ∧ y.L = x.L then whatL x.A x.L (l2.take j) ++ [y] else whatL x.A x.L (l2.take j)) := by show _ = _; rw [HTK.out, whatL_snoc]
              go_cut [8] from 64 to 123 (fun s8 wc => ∃ (a8' : Option Addr) (c8' : Nat), s8 = .slice a8' (ofL x.peer (l2.take (j + 1))).length c8' ∧ Hid (Tri w3 w3.heap.size wc (.slice a8' (ofL x.peer (l2.take (j + 1))).length c8') (.slice a9 (whatL x.A x.L (l2.take j)).length c9) (.slice aA (allR (l2.take j)).length cA) (ofL x.peer (l2.take (j + 1))) (whatL x.A x.L (l2.take j)) (allR (l2.take j))) ∧ Hid (Below w3.heap.size w3 wc))
              case first =>
                by_cases hpe : y.peer = x.peer
                · have f1 : (y.peer == x.peer) = true := by simpa using hpe
                  have HRd := hide (HRT.out.below HBd.out)
                  have zd := World.block_lt_of_cell? wd _ (HRd.out.1 0 _ rfl)
                  simp only at zd
                  obtain ⟨a', c', w5, hr5, t5, b5⟩ := HTd.out.of_more (r := y) (pc := pc5) (cc := cc5) (rc := rc5) HRT.out.2 (by have := HLO.out.1; omega)
                  have HR5 := hide hr5
                  have HOE : Hid (ofL x.peer (l2.take (j + 1)) = ofL x.peer (l2.take j) ++ [y]) := by show _ = _; rw [HOF.out, if_pos hpe]
                  have HLE : Hid ((ofL x.peer (l2.take (j + 1))).length = (ofL x.peer (l2.take j)).length + 1) := by show List.length _ = _; rw [HOE.out]; simp
                  have HT5 : Hid (Tri w3 w3.heap.size w5 (.slice a' (ofL x.peer (l2.take (j + 1))).length c') (.slice a9 (whatL x.A x.L (l2.take j)).length c9) (.slice aA (allR (l2.take j)).length cA) (ofL x.peer (l2.take (j + 1))) (whatL x.A x.L (l2.take j)) (allR (l2.take j))) := by rw [HLE.out, HOE.out]; exact t5
                  have HB5 : Hid (Below w3.heap.size w3 w5) := HBd.out.trans b5
                  clear hr5 t5 b5 hpe HTd HBd
                  go_wp2_with fail
                  refine kept_load_intro _ _ _ (by rfl) (run_loadR_at HRd.out) ?_
                  clear HRd zd
                  go_wp2_with fail
                  refine keptR_one_intro _ _ _ (by rfl) (run_one _ _ _ _ _ _ _ _) ?_
                  go_wp2_with fail
                  refine kept_app_intro _ _ _ _ _ _ (w' := w5) (by rfl) (by rfl) (by exact HR5.out) ?_
                  clear HR5
                  go_wp2_with fail
                  go_meet
                  exact ⟨a', c', by rw [HLE.out], HT5, HB5⟩
                · have f1 : (y.peer == x.peer) = false := by simpa using hpe
                  have HOE : Hid (ofL x.peer (l2.take (j + 1)) = ofL x.peer (l2.take j)) := by show _ = _; rw [HOF.out, if_neg hpe]
                  clear hpe
                  go_wp2_with fail
                  go_meet
                  exact ⟨a8, c8, by rw [HOE.out], by rw [HOE.out]; exact HTd, HBd⟩
              case rest =>
                obtain ⟨b8, d8, e8, HT5, HB5⟩ := hcut
                subst e8
                obtain ⟨w5, hw5⟩ : ∃ w5 : World, w5 = wc := ⟨wc, rfl⟩
                subst hw5
                clear HTd HBd HOF
                go_wp2_with fail
                refine region_mix (fun W => Below w5.heap.size w5 W) (fun _ => false) (by kernel_rfl) (by kernel_rfl) (by kernel_rfl) (Below.refl _ _).drew ?_
                iterate 7 refine mix_q (by rfl) (by rfl) (fun w9 h9 => (by
                  have h8 := HB5.out.trans (h9.mono HB5.out.size)
                  have p0 : w9.cell? ⟨g5, o5 + j * 11, none⟩ = some (.int .u32 (y.A : Int)) := (HRT.out.below h8).1 0 _ rfl
                  have p1 : w9.cell? ⟨g5, o5 + j * 11 + 1, none⟩ = some (.int .i64 y.L) := (HRT.out.below h8).1 1 _ rfl
                  have q2 : w9.cell? ⟨Y, 2, none⟩ = some (.int .u32 (x.A : Int)) := (HX3.out.below h8).1 2 _ rfl
                  have q3 : w9.cell? ⟨Y, 3, none⟩ = some (.int .i64 x.L) := (HX3.out.below h8).1 3 _ rfl
                  clear h8 h9
                  go_simp; first | done | rfl)) (by go_simp; first | done | rfl) ?_
                refine mix_q (by rfl) (by rfl) (fun w9 h9 => exec_eqP (by rfl) (by rfl)) (by go_simp; first | done | rfl) ?_
                refine ⟨fun _ h => (by cases h), ?_⟩
                have HT6 := hide (HT5.out.later (Below.refl _ _).drew)
                have HB6 : Hid (Below w3.heap.size w3 w5.drew) := HB5.out.trans ((Below.refl _ _).drew.mono HB5.out.size)
                clear HT5 HB5
                generalize w5.drew = w6 at *
                go_upto_if 92 with fail
                go_cut [9] from 64 to 123 (fun s9 wc => ∃ (a9' : Option Addr) (c9' : Nat), s9 = .slice a9' (whatL x.A x.L (l2.take (j + 1))).length c9' ∧ Hid (Tri w3 w3.heap.size wc (.slice b8 (ofL x.peer (l2.take (j + 1))).length d8) (.slice a9' (whatL x.A x.L (l2.take (j + 1))).length c9') (.slice aA (allR (l2.take j)).length cA) (ofL x.peer (l2.take (j + 1))) (whatL x.A x.L (l2.take (j + 1))) (allR (l2.take j))) ∧ Hid (Below w3.heap.size w3 wc))
                case first =>
                  by_cases hpe : y.A = x.A ∧ y.L = x.L
                  · have f1 : (decide (y.A = x.A) && decide (y.L = x.L)) = true := by rw [decide_eq_true hpe.1, decide_eq_true hpe.2]; rfl
                    have HRd := hide (HRT.out.below HB6.out)
                    have zd := World.block_lt_of_cell? w6 _ (HRd.out.1 0 _ rfl)
                    simp only at zd
                    obtain ⟨a', c', w7, hr7, t7, b7⟩ := HT6.out.what_more (r := y) (pc := pc5) (cc := cc5) (rc := rc5) HRT.out.2 (by have := HLO.out.2; omega)
                    have HR7 := hide hr7
                    have HOE : Hid (whatL x.A x.L (l2.take (j + 1)) = whatL x.A x.L (l2.take j) ++ [y]) := by show _ = _; rw [HWF.out, if_pos hpe]
                    have HLE : Hid ((whatL x.A x.L (l2.take (j + 1))).length = (whatL x.A x.L (l2.take j)).length + 1) := by show List.length _ = _; rw [HOE.out]; simp
                    have HT7 : Hid (Tri w3 w3.heap.size w7 (.slice b8 (ofL x.peer (l2.take (j + 1))).length d8) (.slice a' (whatL x.A x.L (l2.take (j + 1))).length c') (.slice aA (allR (l2.take j)).length cA) (ofL x.peer (l2.take (j + 1))) (whatL x.A x.L (l2.take (j + 1))) (allR (l2.take j))) := by rw [HLE.out, HOE.out]; exact t7
                    have HB7 : Hid (Below w3.heap.size w3 w7) := HB6.out.trans b7
                    clear hr7 t7 b7 hpe HT6 HB6
                    rw [f1]
                    go_wp2_with fail
                    refine kept_load_intro _ _ _ (by rfl) (run_loadR_at HRd.out) ?_
                    clear HRd zd
                    go_wp2_with fail
                    refine keptR_one_intro _ _ _ (by rfl) (run_one _ _ _ _ _ _ _ _) ?_
                    go_wp2_with fail
                    refine kept_app_intro _ _ _ _ _ _ (w' := w7) (by rfl) (by rfl) (by exact HR7.out) ?_
                    clear HR7
                    go_wp2_with fail
                    go_meet
                    exact ⟨a', c', by rw [HLE.out], HT7, HB7⟩
                  · have f1 : (decide (y.A = x.A) && decide (y.L = x.L)) = false := by
                      cases hz : (decide (y.A = x.A) && decide (y.L = x.L)) with
                      | false => rfl
                      | true => simp only [Bool.and_eq_true, decide_eq_true_eq] at hz; exact absurd hz hpe
                    have HOE : Hid (whatL x.A x.L (l2.take (j + 1)) = whatL x.A x.L (l2.take j)) := by show _ = _; rw [HWF.out, if_neg hpe]
                    clear hpe
                    rw [f1]
                    go_wp2_with fail
                    go_meet
                    exact ⟨a9, c9, by rw [HOE.out], by rw [HOE.out]; exact HT6, HB6⟩
                case rest =>
                  obtain ⟨b9', d9, e9, HT7, HB7⟩ := hcut
                  subst e9
                  obtain ⟨w7, hw7⟩ : ∃ w7 : World, w7 = wc := ⟨wc, rfl⟩
                  subst hw7
                  clear HT6 HB6 HWF HLO
                  have HLA : Hid ((allR (l2.take j)).length ≤ 51) := by
                    show List.length _ ≤ _
                    have e1 := allR_length (l2.take j)
                    have e3 := List.length_take_le j l2
                    omega
                  go_wp2_with fail
                  by_cases hj00 : j = 0
                  · have HAE : Hid (allR (l2.take (j + 1)) = allR (l2.take j) ++ [kp y]) := by show _ = _; rw [HTK.out, hj00]; rfl
                    have e0 : ((j : Int) == 0) = true := by rw [hj00]; rfl
                    have e0n : (j == 0) = true := by rw [hj00]; rfl
                    have HJ0 := hide hj00
                    clear hj00
                    refine region_mix (fun W => Below w7.heap.size w7 W) (fun _ => false) (by kernel_rfl) (by kernel_rfl) (by kernel_rfl) (Below.refl _ _).drew ?_
                    iterate 3 refine mix_q (by rfl) (by rfl) (fun w9 h9 => (by clear h9; go_simp; first | done | rfl)) (by go_simp; first | done | rfl) ?_
                    iterate 12 refine mix_s (by rfl) (by rfl) (by go_simp; first | done | rfl) ?_
                    refine mix_q (by rfl) (by rfl) (fun w9 h9 => (by clear h9; go_simp; first | done | rfl)) (by go_simp; first | done | rfl) ?_
                    refine ⟨fun _ h => (by cases h), ?_⟩
                    have HT8 := hide (HT7.out.later (Below.refl _ _).drew)
                    have HB8 : Hid (Below w3.heap.size w3 w7.drew) := HB7.out.trans ((Below.refl _ _).drew.mono HB7.out.size)
                    clear HT7 HB7 e0 e0n
                    generalize w7.drew = w8 at *
                    have HRd := hide (HRT.out.below HB8.out)
                    have p0 : w8.cell? ⟨g5, o5 + j * 11, none⟩ = some (.int .u32 (y.A : Int)) := HRd.out.1 0 _ rfl
                    have p1 : w8.cell? ⟨g5, o5 + j * 11 + 1, none⟩ = some (.int .i64 y.L) := HRd.out.1 1 _ rfl
                    have zd := World.block_lt_of_cell? w8 _ p0
                    simp only at zd
                    obtain ⟨a', c', w9, hr9, t9, b9⟩ := HT8.out.all_more (p := kp y) (by have := HLA.out; omega)
                    have HR9 : Hid ((Builtin.append_ #[44, 44] 44 #[.slice aA (allR (l2.take j)).length cA, .slice (some ⟨w8.heap.size, 0, none⟩) 1 1]).run Try.prog (w8.alloc (.cells #[.int .u32 (y.A : Int), .int .i64 y.L] 29)) = .ok (.slice a' ((allR (l2.take j)).length + 1) c') w9) := hr9
                    have HLE : Hid ((allR (l2.take (j + 1))).length = (allR (l2.take j)).length + 1) := by show List.length _ = _; rw [HAE.out]; simp
                    have HT9 : Hid (Tri w3 w3.heap.size w9 (.slice b8 (ofL x.peer (l2.take (j + 1))).length d8) (.slice b9' (whatL x.A x.L (l2.take (j + 1))).length d9) (.slice a' (allR (l2.take (j + 1))).length c') (ofL x.peer (l2.take (j + 1))) (whatL x.A x.L (l2.take (j + 1))) (allR (l2.take (j + 1)))) := by rw [HLE.out, HAE.out]; exact t9
                    have HB9 : Hid (Below w3.heap.size w3 w9) := HB8.out.trans b9
                    clear hr9 t9 b9 HRd
                    go_wp2_with fail
                    refine kept_app_intro _ _ _ _ _ _ (w' := w9) (by rfl) (by rfl) (by exact HR9.out) ?_
                    clear HR9 p0 p1 zd HT8 HB8
                    go_wp2
                    exact ⟨⟨j + 1, b8, d8, b9', d9, a', c', by omega, by go_num, rfl, rfl, by rw [HLE.out], HT9, HB9⟩, by simp [intOf]; omega⟩
                  · obtain ⟨q, hq⟩ : ∃ q : Nat, q = j - 1 := ⟨_, rfl⟩
                    have hq1 : (j : Int) - 1 = (q : Int) := by omega
                    have hqn : (q : Int) < (m : Int) := by omega
                    have hq0 : (0 : Int) ≤ (q : Int) := Int.natCast_nonneg _
                    have hwq : IntKind.i64.wrap (q : Int) = (q : Int) := by rw [IntKind.wrap_i64]; omega
                    have hql : q < l2.length := by omega
                    obtain ⟨g6, o6, ea6, hc6⟩ := HR3.out (by omega)
                    obtain ⟨pa6, pc6, ca6, cc6, ra6, rc6, rt6⟩ := hc6 q _ (List.getElem?_eq_getElem hql)
                    have HZT : Hid (RtAt w3 g5 (o5 + q * 11) l2[q] pa6 pc6 ca6 cc6 ra6 rc6) := by
                      injection ea6 with ea6
                      injection ea6 with e1 e2
                      rw [e1, e2]
                      exact rt6
                    have HTQ : Hid (l2.take j = l2.take q ++ [l2[q]]) := by
                      show _ = _
                      rw [show j = q + 1 from by omega]
                      exact List.take_succ_eq_append_getElem hql
                    have HAM : Hid (allR (l2.take (j + 1)) = if kp l2[q] = kp y then allR (l2.take j) else allR (l2.take j) ++ [kp y]) := by
                      show _ = _
                      rw [HTK.out, HTQ.out, allR_more]
                    have e0 : ((j : Int) == 0) = false := by simp; omega
                    have e0n : (j == 0) = false := by simp; omega
                    clear rt6 hc6 ea6 hq hj00 HTQ
                    generalize l2[q] = z at *
                    refine region_mix (fun W => Below w7.heap.size w7 W) (fun _ => false) (by kernel_rfl) (by kernel_rfl) (by kernel_rfl) (Below.refl _ _).drew ?_
                    iterate 14 refine mix_q (by rfl) (by rfl) (fun w9 h9 => (by
                      have h8 := HB7.out.trans (h9.mono HB7.out.size)
                      have p0 : w9.cell? ⟨g5, o5 + j * 11, none⟩ = some (.int .u32 (y.A : Int)) := (HRT.out.below h8).1 0 _ rfl
                      have p1 : w9.cell? ⟨g5, o5 + j * 11 + 1, none⟩ = some (.int .i64 y.L) := (HRT.out.below h8).1 1 _ rfl
                      have r0 : w9.cell? ⟨g5, o5 + q * 11, none⟩ = some (.int .u32 (z.A : Int)) := (HZT.out.below h8).1 0 _ rfl
                      have r1 : w9.cell? ⟨g5, o5 + q * 11 + 1, none⟩ = some (.int .i64 z.L) := (HZT.out.below h8).1 1 _ rfl
                      clear h8 h9
                      go_simp; first | done | rfl)) (by go_simp; first | done | rfl) ?_
                    obtain ⟨nz, hnz⟩ : ∃ nz, nz = !(decide (z.A = y.A) && decide (z.L = y.L)) := ⟨_, rfl⟩
                    have HNZ := hide hnz
                    clear hnz
                    refine mix_q (v := .bool nz) (by rfl) (by rfl) (fun w9 h9 => by rw [HNZ.out]; exact exec_neP (by rfl) (by rfl)) (by go_simp; first | done | rfl) ?_
                    refine mix_q (by rfl) (by rfl) (fun w9 h9 => (by clear h9; go_simp; first | done | rfl)) (by go_simp; first | done | rfl) ?_
                    refine ⟨fun _ h => (by cases h), ?_⟩
                    have HT8 := hide (HT7.out.later (Below.refl _ _).drew)
                    have HB8 : Hid (Below w3.heap.size w3 w7.drew) := HB7.out.trans ((Below.refl _ _).drew.mono HB7.out.size)
                    clear HT7 HB7 e0 e0n
                    generalize w7.drew = w8 at *
                    by_cases hz : z.A = y.A ∧ z.L = y.L
                    · have f1 : (decide (z.A = y.A) && decide (z.L = y.L)) = true := by rw [decide_eq_true hz.1, decide_eq_true hz.2]; rfl
                      have HAE : Hid (allR (l2.take (j + 1)) = allR (l2.take j)) := by show _ = _; rw [HAM.out, if_pos (show kp z = kp y by unfold kp; rw [hz.1, hz.2])]
                      have f2 : nz = false := by rw [HNZ.out, f1]; rfl
                      clear hz HAM f1
                      rw [f2]
                      go_wp2
                      exact ⟨⟨j + 1, b8, d8, b9', d9, aA, cA, by omega, by go_num, rfl, rfl, by rw [HAE.out], by rw [HAE.out]; exact HT8, HB8⟩, by simp [intOf]; omega⟩
                    · have f1 : (decide (z.A = y.A) && decide (z.L = y.L)) = false := by
                        cases hy : (decide (z.A = y.A) && decide (z.L = y.L)) with
                        | false => rfl
                        | true => simp only [Bool.and_eq_true, decide_eq_true_eq] at hy; exact absurd hy hz
                      have HAE : Hid (allR (l2.take (j + 1)) = allR (l2.take j) ++ [kp y]) := by show _ = _; rw [HAM.out, if_neg (show ¬ kp z = kp y from fun e => hz ⟨congrArg Prod.fst e, congrArg Prod.snd e⟩)]
                      have f2 : nz = true := by rw [HNZ.out, f1]; rfl
                      clear hz HAM f1
                      rw [f2]
                      have HRd := hide (HRT.out.below HB8.out)
                      have p0 : w8.cell? ⟨g5, o5 + j * 11, none⟩ = some (.int .u32 (y.A : Int)) := HRd.out.1 0 _ rfl
                      have p1 : w8.cell? ⟨g5, o5 + j * 11 + 1, none⟩ = some (.int .i64 y.L) := HRd.out.1 1 _ rfl
                      have zd := World.block_lt_of_cell? w8 _ p0
                      simp only at zd
                      obtain ⟨a', c', w9, hr9, t9, b9⟩ := HT8.out.all_more (p := kp y) (by have := HLA.out; omega)
                      have HR9 : Hid ((Builtin.append_ #[44, 44] 44 #[.slice aA (allR (l2.take j)).length cA, .slice (some ⟨w8.heap.size, 0, none⟩) 1 1]).run Try.prog (w8.alloc (.cells #[.int .u32 (y.A : Int), .int .i64 y.L] 29)) = .ok (.slice a' ((allR (l2.take j)).length + 1) c') w9) := hr9
                      have HLE : Hid ((allR (l2.take (j + 1))).length = (allR (l2.take j)).length + 1) := by show List.length _ = _; rw [HAE.out]; simp
                      have HT9 : Hid (Tri w3 w3.heap.size w9 (.slice b8 (ofL x.peer (l2.take (j + 1))).length d8) (.slice b9' (whatL x.A x.L (l2.take (j + 1))).length d9) (.slice a' (allR (l2.take (j + 1))).length c') (ofL x.peer (l2.take (j + 1))) (whatL x.A x.L (l2.take (j + 1))) (allR (l2.take (j + 1)))) := by rw [HLE.out, HAE.out]; exact t9
                      have HB9 : Hid (Below w3.heap.size w3 w9) := HB8.out.trans b9
                      clear hr9 t9 b9 HRd
                      go_wp2_with fail
                      refine kept_app_intro _ _ _ _ _ _ (w' := w9) (by rfl) (by rfl) (by exact HR9.out) ?_
                      clear HR9 p0 p1 zd HT8 HB8
                      go_wp2
                      exact ⟨⟨j + 1, b8, d8, b9', d9, a', c', by omega, by go_num, rfl, rfl, by rw [HLE.out], HT9, HB9⟩, by simp [intOf]; omega⟩
            · have djm : decide ((j : Int) < (m : Int)) = false := decide_eq_false (by omega)
              have hjm2 : j = m := by omega
              have HTK : Hid (l2.take j = l2) := by show _ = _; rw [hjm2, HM.out]; exact List.take_length
              rw [HTK.out] at HTR ⊢
              clear hjm2
              obtain ⟨r8, _, e8, s8⟩ := HTR.out.of.rd HBL.out
              obtain ⟨r9, _, e9, s9⟩ := HTR.out.what.rd HBL.out
              obtain ⟨rA, _, eA, sA⟩ := OwnPx.rd HTR.out.all
              have H8 : Hid (RtsRd wr a8 (ofL x.peer l2)) := by injection e8 with e8 _ _; rw [e8]; exact s8
              have H9 : Hid (RtsRd wr a9 (whatL x.A x.L l2)) := by injection e9 with e9 _ _; rw [e9]; exact s9
              have HA : Hid (PxRd wr aA (allR l2)) := by injection eA with eA _ _; rw [eA]; exact sA
              have HT4 := hide (HT3.out.later HBL.out)
              have HX4 := hide (HX3.out.below HBL.out)
              have HB4 : Hid (Below w.heap.size w wr) := HB3.out.trans (HBL.out.mono HB3.out.size)
              have HR4 := hide (HR3.out.below HBL.out)
              clear e8 s8 e9 s9 eA sA HTR HBL HTK HT3 HX3c HX3 HB3 HR3
              have q1 : wr.cell? ⟨Y, 1, none⟩ = some (.int .i64 x.peer) := HX4.out.1 1 _ rfl
              have q2 : wr.cell? ⟨Y, 2, none⟩ = some (.int .u32 (x.A : Int)) := HX4.out.1 2 _ rfl
              have q3 : wr.cell? ⟨Y, 3, none⟩ = some (.int .i64 x.L) := HX4.out.1 3 _ rfl
              have zY := World.block_lt_of_cell? wr _ q1
              simp only at zY
              go_wp2_with fail
              refine (get_any b l2 x.A x.L x.peer wr HT4.out).mono ?_
              rintro e w5 ⟨⟨pa9, pc9, ca9, cc9, ra9, rc9, rr, rfl, lk⟩, b5⟩
              have HLK := hide lk
              have H85 := hide (H8.out.below b5)
              have H95 := hide (H9.out.below b5)
              have HA5 := hide (HA.out.below b5)
              have HT5 := hide (HT4.out.later b5)
              have HX5 := hide (HX4.out.below b5)
              have HR5 := hide (HR4.out.below b5)
              have HB5 : Hid (Below w.heap.size w w5) := HB4.out.trans (b5.mono HB4.out.size)
              clear lk b5 q1 q2 q3 zY djm H8 H9 HA HT4 HX4 HR4 HB4
              rw [rtV_eq]
              go_wp2_with fail
              refine kept_alloc_intro _ (run_allocR _) ?_
              go_wp2_with fail
              refine kept_store_intro _ _ _ (.agg (rtC pa9 pc9 ca9 cc9 ra9 rc9 rr)) (by rfl) (by rfl) (run_storeR (Bl.new w5 zR) rfl (RC.rt _ _ _ _ _ _ _)) ?_
              have b6 : Below w5.heap.size w5 ((w5.alloc (.cells zR 36)).setCells w5.heap.size 0 (rtC pa9 pc9 ca9 cc9 ra9 rc9 rr).toList) := below_puts ((Below.refl _ _).alloc (Nat.le_refl _) _) (Nat.le_refl _) _
              have HZ6 : Hid (Bl ((w5.alloc (.cells zR 36)).setCells w5.heap.size 0 (rtC pa9 pc9 ca9 cc9 ra9 rc9 rr).toList) w5.heap.size (rtC pa9 pc9 ca9 cc9 ra9 rc9 rr)) := (Bl.new w5 zR).put rfl
              generalize (w5.alloc (.cells zR 36)).setCells w5.heap.size 0 (rtC pa9 pc9 ca9 cc9 ra9 rc9 rr).toList = w6 at *
              have HLA : Hid (AtRd w6 pa9 ca9 ra9 rr.att) := HLK.out.1.below b6
              have H86 := hide (H85.out.below b6)
              have H96 := hide (H95.out.below b6)
              have HA6 := hide (HA5.out.below b6)
              have HT6 := hide (HT5.out.later b6)
              have HX6 := hide (HX5.out.below b6)
              have HR6 := hide (HR5.out.below b6)
              have HB6 : Hid (Below w.heap.size w w6) := HB5.out.trans (b6.mono HB5.out.size)
              clear b6 H85 H95 HA5 HT5 HX5 HR5 HB5
              generalize w5.heap.size = Z at *
              have HEQ : Hid (∀ y ∈ whatL x.A x.L l2, y.peer = x.peer → y = rr) := fun y hy hp => by
                obtain ⟨h1, h2, h3⟩ := (mem_what x.A x.L l2 y).1 hy
                have hg : gone x.A x.L x.peer y = true := by unfold gone; rw [decide_eq_true h2, decide_eq_true h3, decide_eq_true hp]; rfl
                rcases HLK.out.2.2 with ⟨_, k1, k2⟩ | ⟨_, _, k2⟩
                · have e1 := getK_some HP3.out.1 h1 hg
                  have e2 := getK_some HP3.out.1 k1 k2
                  rw [e1] at e2
                  exact Option.some.inj e2
                · rw [k2 y h1] at hg; cases hg
              have HANY : Hid (((whatL x.A x.L l2).any fun y => decide (y.peer = x.peer)) = there x.A x.L x.peer l2) := by
                show _ = _
                unfold whatL there gone
                rw [List.any_filter]
              obtain ⟨mw, hmw⟩ : ∃ mw, mw = (whatL x.A x.L l2).length := ⟨_, rfl⟩
              have HMW := hide hmw
              have hmw51 : mw ≤ 51 := by rw [hmw]; have := List.length_filter_le (fun y : Rt => decide (y.A = x.A) && decide (y.L = x.L)) l2; have := HM.out; unfold whatL; omega
              rw [← hmw]
              clear hmw
              go_wp2_with fail
              go_loopw [14, 15] (fun s14 s15 wq => ∃ j : Nat, j ≤ mw ∧ s15 = .int .i64 j ∧ s14 = .bool (((whatL x.A x.L l2).take j).any fun y => decide (y.peer = x.peer)) ∧ Hid (Below w6.heap.size w6 wq)) (fun _ s15 _ => mw - (intOf s15).toNat)
              case atStart => exact ⟨0, Nat.zero_le _, rfl, rfl, Below.refl _ _⟩
              case round =>
                obtain ⟨j, hj, rfl, rfl, HBL⟩ := hrel
                by_cases hjm : j < mw
                · have hjl : j < (whatL x.A x.L l2).length := by rw [← HMW.out]; exact hjm
                  obtain ⟨g7, o7, rfl, hc7⟩ := H96.out (by omega)
                  obtain ⟨pa7, pc7, ca7, cc7, ra7, rc7, rt7⟩ := hc7 j _ (List.getElem?_eq_getElem hjl)
                  have HRT := hide rt7
                  have HYM : Hid ((whatL x.A x.L l2)[j] ∈ whatL x.A x.L l2) := List.getElem_mem _
                  have HTK : Hid ((whatL x.A x.L l2).take (j + 1) = (whatL x.A x.L l2).take j ++ [(whatL x.A x.L l2)[j]]) := List.take_succ_eq_append_getElem hjl
                  clear rt7 hc7
                  generalize (whatL x.A x.L l2)[j] = y at *
                  have HSY : Hid (sizeA y.att ≤ 100000) := HP3.out.2.2 y ((mem_what x.A x.L l2 y).1 HYM.out).1
                  have hj0 : (0 : Int) ≤ (j : Int) := Int.natCast_nonneg _
                  have hjn : (j : Int) < (mw : Int) := by omega
                  have HRR := hide (HRT.out.below HBL.out)
                  have p2 : wr.cell? ⟨g7, o7 + j * 11 + 2, none⟩ = some (.int .i64 y.peer) := HRR.out.1 2 _ rfl
                  have zg7 := World.block_lt_of_cell? wr _ p2
                  simp only at zg7
                  have q1 : wr.cell? ⟨Y, 1, none⟩ = some (.int .i64 x.peer) := (HX6.out.below HBL.out).1 1 _ rfl
                  have zY := World.block_lt_of_cell? wr _ q1
                  simp only at zY
                  go_wp2_with fail
                  go_quiet (fail)
                  have HBd : Hid (Below w6.heap.size w6 (wr.drewN nq)) := below_drewN HBL.out nq
                  generalize wr.drewN nq = wd at *
                  clear p2 zg7 q1 zY HBL HRR
                  by_cases hpe : y.peer = x.peer
                  · have f1 : (y.peer == x.peer) = true := by simpa using hpe
                    have HYR : Hid (y = rr) := HEQ.out y HYM.out hpe
                    have HAN : Hid (true = ((whatL x.A x.L l2).take (j + 1)).any fun y => decide (y.peer = x.peer)) := by show _ = _; rw [HTK.out, List.any_append]; simp [hpe]
                    clear hpe
                    go_wp2_with fail
                    refine region_mix (fun W => Below wd.heap.size wd W) (fun q => q == 5) (by kernel_rfl) (by kernel_rfl) (by kernel_rfl) (Below.refl _ _).drew ?_
                    iterate 3 refine mix_q (by rfl) (by rfl) (fun w9 h9 => (by clear h9; go_simp; first | done | rfl)) (by go_simp; first | done | rfl) ?_
                    refine mix_q (by rfl) (by rfl) (fun w9 h9 => exec_loadR_at (by rfl) (HRT.out.below (HBd.out.trans (h9.mono HBd.out.size)))) (by go_simp; first | done | rfl) ?_
                    refine mix_q (by rfl) (by rfl) (fun w9 h9 => exec_loadR (by rfl) (HZ6.out.below (HBd.out.trans (h9.mono HBd.out.size))) (RC.rt _ _ _ _ _ _ _)) (by go_simp; first | done | rfl) ?_
                    refine mix_l (by rfl) (by rfl) (by rfl) ?_
                    go_simp
                    refine (samer_any pa7 pc7 ca7 cc7 ra7 rc7 pa9 pc9 ca9 cc9 ra9 rc9 y rr wd.drew HSY.out HLK.out.2.1 (HRT.out.below (HBd.out.trans ((Below.refl _ _).drew.mono HBd.out.size))).2 (HLA.out.below (HBd.out.trans ((Below.refl _ _).drew.mono HBd.out.size)))).mono ?_
                    rintro e wf ⟨rfl, bf0⟩
                    have bf : Below wd.heap.size wd wf := (Below.refl _ _).drew.trans bf0
                    refine ⟨bf, ?_⟩
                    rw [show eqRt y rr = true by rw [HYR.out, eqRt_self]]
                    refine mix_q (by rfl) (by rfl) (fun w9 h9 => (by clear h9; go_simp; first | done | rfl)) (by go_simp; first | done | rfl) ?_
                    refine ⟨fun _ h => (by cases h), ?_⟩
                    have HBf : Hid (Below w6.heap.size w6 wf) := HBd.out.trans (bf.mono HBd.out.size)
                    clear bf0 bf HBd
                    go_wp2
                    exact ⟨⟨j + 1, by omega, by go_num, by rw [← HAN.out], HBf⟩, by simp [intOf]; omega⟩
                  · have f1 : (y.peer == x.peer) = false := by simpa using hpe
                    have HAN : Hid ((((whatL x.A x.L l2).take j).any fun y => decide (y.peer = x.peer)) = ((whatL x.A x.L l2).take (j + 1)).any fun y => decide (y.peer = x.peer)) := by show _ = _; rw [HTK.out, List.any_append]; simp [hpe]
                    clear hpe
                    go_wp2
                    exact ⟨⟨j + 1, by omega, by go_num, by rw [HAN.out], HBd⟩, by simp [intOf]; omega⟩
                · have djm : decide ((j : Int) < (mw : Int)) = false := decide_eq_false (by omega)
                  have hjm2 : j = mw := by omega
                  have HTW : Hid ((((whatL x.A x.L l2).take j).any fun y => decide (y.peer = x.peer)) = there x.A x.L x.peer l2) := by show _ = _; rw [hjm2, HMW.out, List.take_length]; exact HANY.out
                  rw [HTW.out]
                  clear hjm2 HTW HANY HEQ HLK HZ6 HLA
                  have H87 := hide (H86.out.below HBL.out)
                  have H97 := hide (H96.out.below HBL.out)
                  have HA7 := hide (HA6.out.below HBL.out)
                  have HT7 := hide (HT6.out.later HBL.out)
                  have HX7 := hide (HX6.out.below HBL.out)
                  have HR7 := hide (HR6.out.below HBL.out)
                  have HB7 : Hid (Below w.heap.size w wr) := HB6.out.trans (HBL.out.mono HB6.out.size)
                  clear H86 H96 HA6 HT6 HX6 HR6 HB6 HBL
                  obtain ⟨w7, hw7⟩ : ∃ w7 : World, w7 = wr := ⟨_, rfl⟩
                  rw [← hw7] at H87 H97 HA7 HT7 HX7 HR7 HB7 ⊢
                  clear hw7
                  have K8 := hide (len_any b l2 w7 HT7.out)
                  rw [← HM.out] at K8
                  generalize there x.A x.L x.peer l2 = zz at *
                  have hz1 : (zz != zz) = false := by simp
                  go_wp2_with fail
                  refine K8.out.mono ?_
                  rintro e w8 ⟨rfl, rfl⟩
                  clear K8 djm
                  have q1 : w8.cell? ⟨Y, 1, none⟩ = some (.int .i64 x.peer) := HX7.out.1 1 _ rfl
                  have zY := World.block_lt_of_cell? w8 _ q1
                  simp only at zY
                  go_wp2_with fail
                  refine (of_any b l2 x.peer w8 HT7.out HP3.out.1 (by have := HM.out; omega)).mono ?_
                  rintro e w9 ⟨⟨v, rfl, o9⟩, b9⟩
                  obtain ⟨aO, cO, rfl, rO⟩ := o9.rd
                  have HKO : Hid (smallRs (ofL x.peer l2)) := fun y hy => (o9.ok y hy).1
                  have HRO := hide rO
                  have H89 := hide (H87.out.below b9)
                  have H99 := hide (H97.out.below b9)
                  have HA9 := hide (HA7.out.below b9)
                  have HT9 := hide (HT7.out.later b9)
                  have HX9 := hide (HX7.out.below b9)
                  have HR9 := hide (HR7.out.below b9)
                  have HB9 : Hid (Below w.heap.size w w9) := HB7.out.trans (b9.mono HB7.out.size)
                  have HLO : Hid ((ofL x.peer l2).length ≤ 100000) := by show _ ≤ _; have := List.length_filter_le (fun y : Rt => decide (y.peer = x.peer)) l2; have := HM.out; unfold ofL; omega
                  clear o9 rO b9 q1 zY H87 H97 HA7 HT7 HX7 HR7 HB7
                  go_wp2_with fail
                  refine (samers_any aO a8 cO c8 (ofL x.peer l2) (ofL x.peer l2) w9 HLO.out HRO.out H89.out HKO.out HKO.out).mono ?_
                  rintro e wb ⟨rfl, bb⟩
                  rw [eqRts_self]
                  have H9b := hide (H99.out.below bb)
                  have HAb := hide (HA9.out.below bb)
                  have HTb := hide (HT9.out.later bb)
                  have HXb := hide (HX9.out.below bb)
                  have HRb := hide (HR9.out.below bb)
                  have HBb : Hid (Below w.heap.size w wb) := HB9.out.trans (bb.mono HB9.out.size)
                  clear bb HRO H89 H99 HA9 HT9 HX9 HR9 HB9 HKO HLO
                  have q2 : wb.cell? ⟨Y, 2, none⟩ = some (.int .u32 (x.A : Int)) := HXb.out.1 2 _ rfl
                  have q3 : wb.cell? ⟨Y, 3, none⟩ = some (.int .i64 x.L) := HXb.out.1 3 _ rfl
                  have zY := World.block_lt_of_cell? wb _ q2
                  simp only at zY
                  go_wp2_with fail
                  refine (for_any b l2 x.A x.L wb HTb.out HP3.out.1 (by have := HM.out; omega)).mono ?_
                  rintro e wd ⟨⟨v, rfl, od⟩, bd⟩
                  obtain ⟨aF, cF, rfl, rF⟩ := od.rd
                  have HKF : Hid (smallRs (whatL x.A x.L l2)) := fun y hy => (od.ok y hy).1
                  have HRF := hide rF
                  have H9d := hide (H9b.out.below bd)
                  have HAd := hide (HAb.out.below bd)
                  have HTd := hide (HTb.out.later bd)
                  have HRd := hide (HRb.out.below bd)
                  have HBd : Hid (Below w.heap.size w wd) := HBb.out.trans (bd.mono HBb.out.size)
                  have KF := hide (samers_any aF a9 cF c9 (whatL x.A x.L l2) (whatL x.A x.L l2) wd (by have := HMW.out; omega) HRF.out H9d.out HKF.out HKF.out)
                  rw [← HMW.out, eqRts_self] at KF
                  rw [← HMW.out]
                  clear od rF bd q2 q3 zY H9b HAb HTb HXb HRb HBb
                  go_wp2_with fail
                  refine KF.out.mono ?_
                  rintro e we ⟨rfl, be⟩
                  have HAe := hide (HAd.out.below be)
                  have HTe := hide (HTd.out.later be)
                  have HRe := hide (HRd.out.below be)
                  have HBe : Hid (Below w.heap.size w we) := HBd.out.trans (be.mono HBd.out.size)
                  clear be KF HRF H9d HKF HAd HTd HRd HBd
                  go_wp2_with fail
                  refine (prefixes_any b l2 we HTe.out HP3.out.1 (by have := HM.out; omega)).mono ?_
                  rintro e wf ⟨⟨aP, cP, rfl, rP⟩, bf⟩
                  have HRP := hide rP
                  have HAf := hide (HAe.out.below bf)
                  have HTf := hide (HTe.out.later bf)
                  have HRf := hide (HRe.out.below bf)
                  have HBf : Hid (Below w.heap.size w wf) := HBe.out.trans (bf.mono HBe.out.size)
                  have HLP : Hid ((allR l2).length ≤ 100000) := by show _ ≤ _; have := allR_length l2; have := HM.out; omega
                  clear rP bf HAe HTe HRe HBe
                  go_wp2_with fail
                  refine (samepx_self aP aA cP cA (allR l2) wf HLP.out HRP.out HAf.out).mono ?_
                  rintro e wg ⟨rfl, bg⟩
                  have HTg := hide (HTf.out.later bg)
                  have HRg := hide (HRf.out.below bg)
                  have HBg : Hid (Below w.heap.size w wg) := HBf.out.trans (bg.mono HBf.out.size)
                  clear bg HRP HAf HTf HRf HBf HLP
                  go_wp2
                  exact ⟨⟨k + 1, l2, a5, c5, by omega, by go_num, by rw [HM.out], HTg, HRg, HP3, HBg⟩, by simp [intOf]; omega⟩
    · have dk : decide ((k : Int) < (n0 : Int)) = false := decide_eq_false (by omega)
      go_wp2_with fail
      refine (answers_any wr).mono ?_
      rintro e w1 ⟨rfl, b1⟩
      have HB1 : Hid (Below w.heap.size w w1) := HB.out.trans (b1.mono HB.out.size)
      clear b1 HB HT HR HP
      go_wp2
      go_ret
      exact ⟨rfl, HB1.out⟩
end
theorem adjinPlays_walk (a0 : Option Addr) (c0 : Nat) (l0 : List Ak) (w : World) (B0 : ∀ x ∈ l0, BigR x.r) (R0 : AksRd w a0 l0) :
    Calls Try.prog 3 #[.slice a0 l0.length c0] w fun e w' => e = .returned (.bool true) ∧ Below w.heap.size w w' := by
  by_cases h : 50 < l0.length
  · exact adjinPlays_great a0 c0 _ w h
  · exact adjinPlays_small a0 c0 l0 w _ rfl (by omega) B0 R0
end Go.Proofs.Ytjlmkaeepeamkaa
