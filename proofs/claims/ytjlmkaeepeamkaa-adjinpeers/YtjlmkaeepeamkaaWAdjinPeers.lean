/- AdjinPeers' walk (written by tools/gen_wpeers.py). -/
import Derived.Test.YtjlmkaeepeamkaaAjP
namespace Go.Proofs.Ytjlmkaeepeamkaa
open Go.RowKit
set_option maxRecDepth 100000

section
attribute [local go_sem ↓] keptR_load keptR_store keptR_box keptR_alloc keptR_build kept_app
set_option maxHeartbeats 1600000 in
theorem adjinPeers_great (a0 : Option Addr) (c0 n0 : Nat) (a1 : Option Addr) (c1 n1 : Nat) (w : World) (h : 30 < n0 ∨ 30 < n1) :
    Calls Try.prog 6 #[.slice a0 n0 c0, .slice a1 n1 c1] w fun e w' => e = .returned (.bool true) ∧ Below w.heap.size w w' := by
  by_cases h0 : 30 < n0
  · have h1 : (30 : Int) < (n0 : Int) := by omega
    clear h h0
    go_enter Try.func6, Try.ntmps6
    go_wp2_with fail
    refine (answers_any w).mono ?_
    rintro e w1 ⟨rfl, b1⟩
    have HB1 := hide b1
    clear b1
    go_wp2
    go_ret
    exact ⟨rfl, HB1.out⟩
  · have h1 : decide ((30 : Int) < (n0 : Int)) = false := decide_eq_false (by omega)
    have h2 : (30 : Int) < (n1 : Int) := by omega
    clear h h0
    go_enter Try.func6, Try.ntmps6
    go_wp2_with fail
    refine (answers_any w).mono ?_
    rintro e w1 ⟨rfl, b1⟩
    have HB1 := hide b1
    clear b1
    go_wp2
    go_ret
    exact ⟨rfl, HB1.out⟩
set_option maxHeartbeats 25600000 in
theorem adjinPeers_small (a0 : Option Addr) (c0 : Nat) (l0 : List Rt) (a1 : Option Addr) (c1 : Nat) (l1 : List Rt) (w : World) (n0 n1 : Nat) (hn0 : n0 = l0.length) (hn1 : n1 = l1.length) (h0 : n0 ≤ 30) (h1 : n1 ≤ 30) (B0 : ∀ x ∈ l0, BigR x) (R0' : RtsRd w a0 l0) (B1 : ∀ x ∈ l1, BigR x) (R1' : RtsRd w a1 l1) :
    Calls Try.prog 6 #[.slice a0 n0 c0, .slice a1 n1 c1] w fun e w' => e = .returned (.bool true) ∧ Below w.heap.size w w' := by
  have HN0 := hide hn0
  have HN1 := hide hn1
  have BIG0 := hide B0
  have BIG1 := hide B1
  have R0 := hide R0'
  have R1 := hide R1'
  have d0 : decide ((30 : Int) < (n0 : Int)) = false := decide_eq_false (by omega)
  have d1 : decide ((30 : Int) < (n1 : Int)) = false := decide_eq_false (by omega)
  clear hn0 hn1 B0 B1 R0' R1'
  go_enter Try.func6, Try.ntmps6
  go_wp2_with fail
  refine (new_any w).mono ?_
  rintro e wA ⟨rfl, tA, bA⟩
  obtain ⟨b, hb⟩ : ∃ b, b = w.heap.size := ⟨_, rfl⟩
  rw [← hb] at tA ⊢
  have HTA := hide tA
  have HBA := hide bA
  have HB0 := hide hb
  clear tA bA hb
  go_wp2_with fail
  refine (new_any wA).mono ?_
  rintro e wB ⟨rfl, tB, bB⟩
  obtain ⟨b2, hb2⟩ : ∃ b2, b2 = wA.heap.size := ⟨_, rfl⟩
  rw [← hb2] at tB ⊢
  have HTB : Hid (Tab wB b [] ∧ Tab wB b2 []) := ⟨HTA.out.later bB, tB⟩
  have HBBb : Hid (Below w.heap.size w wB) := HBA.out.trans (bB.mono HBA.out.size)
  have HBB : Hid (w.heap.size ≤ b ∧ b + 2 ≤ b2) := ⟨by have := HB0.out; omega, by have := HTA.out.lt; omega⟩
  clear tB bB hb2 HTA HBA HB0 d0 d1
  go_wp2_with fail
  go_loopw [7] (fun i wq => ∃ (k : Nat) (l : List Rt), k ≤ n0 ∧ i = .int .i64 k ∧ Hid (Tab wq b l ∧ Tab wq b2 l) ∧ Hid (RisesR l ∧ l.length ≤ k ∧ ∀ y ∈ l, y.peer = 1) ∧ Hid (Below w.heap.size w wq)) (fun i _ => n0 - (intOf i).toNat)
  case atStart => exact ⟨0, [], Nat.zero_le _, rfl, HTB, ⟨List.Pairwise.nil, Nat.le_refl _, fun y hy => absurd hy (List.not_mem_nil (a := y))⟩, HBBb⟩
  case round =>
    obtain ⟨k, l, hk, rfl, HT, HP, HB⟩ := hrel
    by_cases hlt : k < n0
    · obtain ⟨g, off, rfl, hc⟩ := R0.out (by rw [← HN0.out]; omega)
      obtain ⟨pa, pc, ca, cc, ra, rc, rt⟩ := hc k _ (List.getElem?_eq_getElem (show k < l0.length by rw [← HN0.out]; exact hlt))
      have HBG : Hid (BigR (l0[k]'(by rw [← HN0.out]; exact hlt))) := BIG0.out _ (List.getElem_mem _)
      have HA0 := hide rt.2
      have RR := hide (rt.below HB.out)
      clear rt hc
      generalize l0[k]'_ = x at *
      have hk0 : (0 : Int) ≤ (k : Int) := Int.natCast_nonneg _
      have hkn : (k : Int) < (n0 : Int) := by omega
      have zg := World.block_lt_of_cell? wr _ (RR.out.1 0 _ rfl)
      simp only at zg
      cases hsm : smallR x with
      | false =>
        have HSM := hide hsm
        clear hsm
        have K1 := hide (small_is (pc := pc) (cc := cc) (rc := rc) wr HBG.out RR.out.2 HSM.out)
        rw [rtV_eq] at K1
        go_wp2_with fail
        refine kept_load_intro _ _ _ (by rfl) (run_loadR_at RR.out) ?_
        go_wp2_with fail
        refine K1.out.mono ?_
        rintro e w1 ⟨rfl, b1⟩
        have HB1 : Hid (Below w.heap.size w w1) := HB.out.trans (b1.mono HB.out.size)
        have HT1 : Hid (Tab w1 b l ∧ Tab w1 b2 l) := ⟨HT.out.1.later b1, HT.out.2.later b1⟩
        have HP1 : Hid (RisesR l ∧ l.length ≤ k + 1 ∧ ∀ y ∈ l, y.peer = 1) := ⟨HP.out.1, by have := HP.out.2.1; omega, HP.out.2.2⟩
        clear b1 HB HT HP RR HBG K1
        go_wp2
        exact ⟨⟨k + 1, l, by omega, by go_num, HT1, HP1, HB1⟩, by simp [intOf]; omega⟩
      | true =>
        have HSZ : Hid (sizeA x.att ≤ 100000) := by show _ ≤ _; have := of_decide_eq_true hsm; omega
        have K1 := hide (small_is (pc := pc) (cc := cc) (rc := rc) wr HBG.out RR.out.2 hsm)
        rw [rtV_eq] at K1
        clear hsm
        go_wp2_with fail
        refine kept_load_intro _ _ _ (by rfl) (run_loadR_at RR.out) ?_
        go_wp2_with fail
        refine K1.out.mono ?_
        rintro e w1 ⟨rfl, b1⟩
        have HB1 : Hid (Below w.heap.size w w1) := HB.out.trans (b1.mono HB.out.size)
        have HT1 : Hid (Tab w1 b l ∧ Tab w1 b2 l) := ⟨HT.out.1.later b1, HT.out.2.later b1⟩
        have RR1 := hide (RR.out.below b1)
        have zg1 := Nat.lt_of_lt_of_le zg b1.size
        clear b1 HB HT RR HBG K1 zg
        go_wp2_with fail
        refine kept_load_intro _ _ _ (by rfl) (run_loadR_at RR1.out) ?_
        go_wp2_with fail
        refine kept_alloc_intro _ (run_allocR _) ?_
        go_wp2_with fail
        refine kept_store_intro _ _ _ (.agg (rtC pa pc ca cc ra rc x)) (by rfl) (by rfl) (run_storeR (Bl.new w1 zR) rfl (RC.rt _ _ _ _ _ _ _)) ?_
        have b2' : Below w1.heap.size w1 ((w1.alloc (.cells zR 36)).setCells w1.heap.size 0 (rtC pa pc ca cc ra rc x).toList) := below_puts ((Below.refl _ _).alloc (Nat.le_refl _) _) (Nat.le_refl _) _
        have HZ2 : Hid (Bl ((w1.alloc (.cells zR 36)).setCells w1.heap.size 0 (rtC pa pc ca cc ra rc x).toList) w1.heap.size (rtC pa pc ca cc ra rc x)) := (Bl.new w1 zR).put rfl
        generalize (w1.alloc (.cells zR 36)).setCells w1.heap.size 0 (rtC pa pc ca cc ra rc x).toList = w2 at *
        have p2 : w2.cell? ⟨w1.heap.size, 2, none⟩ = some (.int .i64 x.peer) := HZ2.out.cell 2 rfl
        have f2 := HZ2.out.frozen 2
        have z2 := HZ2.out.lt
        have HZ3 : Hid (Bl (w2.setCell ⟨w1.heap.size, 2, none⟩ (.int .i64 1)) w1.heap.size (rtC pa pc ca cc ra rc { x with peer := 1 })) := HZ2.out.set 2 _
        have b3 : Below w1.heap.size w1 (w2.setCell ⟨w1.heap.size, 2, none⟩ (.int .i64 1)) := b2'.setCell (Nat.le_refl _) _
        go_wp2_with fail
        clear p2 f2 z2 b2' HZ2
        generalize w2.setCell ⟨w1.heap.size, 2, none⟩ (.int .i64 1) = w3 at *
        have HT3 : Hid (Tab w3 b l ∧ Tab w3 b2 l) := ⟨HT1.out.1.later b3, HT1.out.2.later b3⟩
        have HB3 : Hid (Below w.heap.size w w3) := HB1.out.trans (b3.mono HB1.out.size)
        have hZb : b < w1.heap.size ∧ b2 < w1.heap.size := ⟨by have := HT1.out.1.lt; omega, by have := HT1.out.2.lt; omega⟩
        clear b3 HT1 HB1 RR1 zg1
        generalize w1.heap.size = Z at *
        generalize hx1 : ({ x with peer := 1 } : Rt) = x1 at *
        have HX1 : Hid (x1.peer = 1 ∧ x1.att = x.att) := by rw [← hx1]; exact ⟨rfl, rfl⟩
        clear hx1
        refine kept_load_intro _ _ _ (by rfl) (run_loadR HZ3.out (RC.rt _ _ _ _ _ _ _)) ?_
        have K4 := hide (put_any b l pa pc ca cc ra rc x1 w3 HT3.out.1 (by rw [HX1.out.2]; exact HSZ.out) (by rw [HX1.out.2]; exact HA0.out.below HB3.out))
        rw [rtV_eq] at K4
        go_wp2_with fail
        refine K4.out.mono ?_
        rintro e w4 ⟨rfl, t4, k4⟩
        have HT4 : Hid (Tab w4 b (putL x1 l) ∧ Tab w4 b2 l) := ⟨t4.perm (put_perm x1 l HP.out.1), HT3.out.2.keeps k4 (fun y hy e => by have := HBB.out; omega)⟩
        have HZ4 : Hid (Bl w4 Z (rtC pa pc ca cc ra rc x1)) := HZ3.out.keeps k4 (by omega)
        have HB4 : Hid (Below w.heap.size w w4) := HB3.out.trans (k4.below w.heap.size HB3.out.size (fun y hy => by have := HBB.out; omega))
        clear t4 k4 K4 HT3 HZ3 HB3
        go_wp2_with fail
        refine kept_load_intro _ _ _ (by rfl) (run_loadR HZ4.out (RC.rt _ _ _ _ _ _ _)) ?_
        have K5 := hide (put_any b2 l pa pc ca cc ra rc x1 w4 HT4.out.2 (by rw [HX1.out.2]; exact HSZ.out) (by rw [HX1.out.2]; exact HA0.out.below HB4.out))
        rw [rtV_eq] at K5
        go_wp2_with fail
        refine K5.out.mono ?_
        rintro e w5 ⟨rfl, t5, k5⟩
        have HT5 : Hid (Tab w5 b (putL x1 l) ∧ Tab w5 b2 (putL x1 l)) := ⟨HT4.out.1.other HT4.out.2 (by have := HBB.out; omega) (by have := HBB.out; omega) k5, t5.perm (put_perm x1 l HP.out.1)⟩
        have HB5 : Hid (Below w.heap.size w w5) := HB4.out.trans (k5.below w.heap.size HB4.out.size (fun y hy => by have := HBB.out; omega))
        have HP5 : Hid (RisesR (putL x1 l) ∧ (putL x1 l).length ≤ k + 1 ∧ ∀ y ∈ putL x1 l, y.peer = 1) := ⟨rises_put x1 l HP.out.1, by have := put_length_rises x1 l HP.out.1; have := HP.out.2.1; omega, fun y hy => by
          rcases (mem_put x1 y l HP.out.1).1 hy with rfl | ⟨hy, _⟩
          · exact HX1.out.1
          · exact HP.out.2.2 y hy⟩
        clear t5 k5 K5 HT4 HZ4 HB4 HP
        go_wp2
        exact ⟨⟨k + 1, putL x1 l, by omega, by go_num, HT5, HP5, HB5⟩, by simp [intOf]; omega⟩
    · have dk : decide ((k : Int) < (n0 : Int)) = false := decide_eq_false (by omega)
      have HPm : Hid (RisesR l ∧ l.length ≤ 30 ∧ ∀ y ∈ l, y.peer = 1) := ⟨HP.out.1, by have := HP.out.2.1; omega, HP.out.2.2⟩
      clear HTB HBBb HP hk
      obtain ⟨m, hm⟩ : ∃ m, m = l := ⟨_, rfl⟩
      rw [← hm] at HPm HT
      clear hm
      obtain ⟨wC, hwC⟩ : ∃ wC, wC = wr := ⟨_, rfl⟩
      rw [← hwC] at HT HB ⊢
      clear hwC
      go_wp2_with fail
      clear dk
      go_loopw [9] (fun i wq => ∃ (k : Nat) (l : List Rt), k ≤ n1 ∧ i = .int .i64 k ∧ Hid (Tab wq b l ∧ Tab wq b2 m) ∧ Hid (RisesR l ∧ l.length ≤ 30 + k ∧ ofL 1 l = ofL 1 m) ∧ Hid (Below w.heap.size w wq)) (fun i _ => n1 - (intOf i).toNat)
      case atStart => exact ⟨0, m, Nat.zero_le _, rfl, HT, ⟨HPm.out.1, HPm.out.2.1, rfl⟩, HB⟩
      case round =>
        clear HT HB hlt
        obtain ⟨k, l, hk, rfl, HT, HP, HB⟩ := hrel
        by_cases hlt : k < n1
        · obtain ⟨g, off, rfl, hc⟩ := R1.out (by rw [← HN1.out]; omega)
          obtain ⟨pa, pc, ca, cc, ra, rc, rt⟩ := hc k _ (List.getElem?_eq_getElem (show k < l1.length by rw [← HN1.out]; exact hlt))
          have HBG : Hid (BigR (l1[k]'(by rw [← HN1.out]; exact hlt))) := BIG1.out _ (List.getElem_mem _)
          have HA0 := hide rt.2
          have RR := hide (rt.below HB.out)
          clear rt hc
          generalize l1[k]'_ = x at *
          have hk0 : (0 : Int) ≤ (k : Int) := Int.natCast_nonneg _
          have hkn : (k : Int) < (n1 : Int) := by omega
          have zg := World.block_lt_of_cell? wr _ (RR.out.1 0 _ rfl)
          simp only at zg
          cases hsm : smallR x with
          | false =>
            have HSM := hide hsm
            clear hsm
            have K1 := hide (small_is (pc := pc) (cc := cc) (rc := rc) wr HBG.out RR.out.2 HSM.out)
            rw [rtV_eq] at K1
            go_wp2_with fail
            refine kept_load_intro _ _ _ (by rfl) (run_loadR_at RR.out) ?_
            go_wp2_with fail
            refine K1.out.mono ?_
            rintro e w1 ⟨rfl, b1⟩
            have HB1 : Hid (Below w.heap.size w w1) := HB.out.trans (b1.mono HB.out.size)
            have HT1 : Hid (Tab w1 b l ∧ Tab w1 b2 m) := ⟨HT.out.1.later b1, HT.out.2.later b1⟩
            have HP1 : Hid (RisesR l ∧ l.length ≤ 30 + (k + 1) ∧ ofL 1 l = ofL 1 m) := ⟨HP.out.1, by have := HP.out.2.1; omega, HP.out.2.2⟩
            clear b1 HB HT HP RR HBG K1
            go_wp2
            exact ⟨⟨k + 1, l, by omega, by go_num, HT1, HP1, HB1⟩, by simp [intOf]; omega⟩
          | true =>
            have HSZ : Hid (sizeA x.att ≤ 100000) := by show _ ≤ _; have := of_decide_eq_true hsm; omega
            have K1 := hide (small_is (pc := pc) (cc := cc) (rc := rc) wr HBG.out RR.out.2 hsm)
            rw [rtV_eq] at K1
            clear hsm
            go_wp2_with fail
            refine kept_load_intro _ _ _ (by rfl) (run_loadR_at RR.out) ?_
            go_wp2_with fail
            refine K1.out.mono ?_
            rintro e w1 ⟨rfl, b1⟩
            have HB1 : Hid (Below w.heap.size w w1) := HB.out.trans (b1.mono HB.out.size)
            have HT1 : Hid (Tab w1 b l ∧ Tab w1 b2 m) := ⟨HT.out.1.later b1, HT.out.2.later b1⟩
            have RR1 := hide (RR.out.below b1)
            have zg1 := Nat.lt_of_lt_of_le zg b1.size
            clear b1 HB HT RR HBG K1 zg
            go_wp2_with fail
            refine kept_load_intro _ _ _ (by rfl) (run_loadR_at RR1.out) ?_
            go_wp2_with fail
            refine kept_alloc_intro _ (run_allocR _) ?_
            go_wp2_with fail
            refine kept_store_intro _ _ _ (.agg (rtC pa pc ca cc ra rc x)) (by rfl) (by rfl) (run_storeR (Bl.new w1 zR) rfl (RC.rt _ _ _ _ _ _ _)) ?_
            have b2' : Below w1.heap.size w1 ((w1.alloc (.cells zR 36)).setCells w1.heap.size 0 (rtC pa pc ca cc ra rc x).toList) := below_puts ((Below.refl _ _).alloc (Nat.le_refl _) _) (Nat.le_refl _) _
            have HZ2 : Hid (Bl ((w1.alloc (.cells zR 36)).setCells w1.heap.size 0 (rtC pa pc ca cc ra rc x).toList) w1.heap.size (rtC pa pc ca cc ra rc x)) := (Bl.new w1 zR).put rfl
            generalize (w1.alloc (.cells zR 36)).setCells w1.heap.size 0 (rtC pa pc ca cc ra rc x).toList = w2 at *
            have p2 : w2.cell? ⟨w1.heap.size, 2, none⟩ = some (.int .i64 x.peer) := HZ2.out.cell 2 rfl
            have f2 := HZ2.out.frozen 2
            have z2 := HZ2.out.lt
            have HZ3 : Hid (Bl (w2.setCell ⟨w1.heap.size, 2, none⟩ (.int .i64 2)) w1.heap.size (rtC pa pc ca cc ra rc { x with peer := 2 })) := HZ2.out.set 2 _
            have b3 : Below w1.heap.size w1 (w2.setCell ⟨w1.heap.size, 2, none⟩ (.int .i64 2)) := b2'.setCell (Nat.le_refl _) _
            go_wp2_with fail
            clear p2 f2 z2 b2' HZ2
            generalize w2.setCell ⟨w1.heap.size, 2, none⟩ (.int .i64 2) = w3 at *
            have HT3 : Hid (Tab w3 b l ∧ Tab w3 b2 m) := ⟨HT1.out.1.later b3, HT1.out.2.later b3⟩
            have HB3 : Hid (Below w.heap.size w w3) := HB1.out.trans (b3.mono HB1.out.size)
            have hZb : b < w1.heap.size ∧ b2 < w1.heap.size := ⟨by have := HT1.out.1.lt; omega, by have := HT1.out.2.lt; omega⟩
            clear b3 HT1 HB1 RR1 zg1
            generalize w1.heap.size = Z at *
            generalize hx1 : ({ x with peer := 2 } : Rt) = x1 at *
            have HX1 : Hid (x1.peer = 2 ∧ x1.att = x.att) := by rw [← hx1]; exact ⟨rfl, rfl⟩
            clear hx1
            refine kept_load_intro _ _ _ (by rfl) (run_loadR HZ3.out (RC.rt _ _ _ _ _ _ _)) ?_
            have K4 := hide (put_any b l pa pc ca cc ra rc x1 w3 HT3.out.1 (by rw [HX1.out.2]; exact HSZ.out) (by rw [HX1.out.2]; exact HA0.out.below HB3.out))
            rw [rtV_eq] at K4
            go_wp2_with fail
            refine K4.out.mono ?_
            rintro e w4 ⟨rfl, t4, k4⟩
            have HT4 : Hid (Tab w4 b (putL x1 l) ∧ Tab w4 b2 m) := ⟨t4.perm (put_perm x1 l HP.out.1), HT3.out.2.keeps k4 (fun y hy e => by have := HBB.out; omega)⟩
            have HZ4 : Hid (Bl w4 Z (rtC pa pc ca cc ra rc x1)) := HZ3.out.keeps k4 (by omega)
            have HB4 : Hid (Below w.heap.size w w4) := HB3.out.trans (k4.below w.heap.size HB3.out.size (fun y hy => by have := HBB.out; omega))
            clear t4 k4 K4 HT3 HZ3 HB3
            have HP5 : Hid (RisesR (putL x1 l) ∧ (putL x1 l).length ≤ 30 + (k + 1) ∧ ofL 1 (putL x1 l) = ofL 1 m) := ⟨rises_put x1 l HP.out.1, by have := put_length_rises x1 l HP.out.1; have := HP.out.2.1; omega, by rw [of_put 1 x1 l HP.out.1 (by rw [HX1.out.1]; decide)]; exact HP.out.2.2⟩
            clear HZ4 HP
            go_wp2
            exact ⟨⟨k + 1, putL x1 l, by omega, by go_num, HT4, HP5, HB4⟩, by simp [intOf]; omega⟩
        · have dk : decide ((k : Int) < (n1 : Int)) = false := decide_eq_false (by omega)
          have HPn : Hid (RisesR l ∧ l.length ≤ 60 ∧ ofL 1 l = ofL 1 m) := ⟨HP.out.1, by have := HP.out.2.1; omega, HP.out.2.2⟩
          clear HP hk
          obtain ⟨wD, hwD⟩ : ∃ wD, wD = wr := ⟨_, rfl⟩
          rw [← hwD] at HT HB ⊢
          clear hwD
          go_wp2_with fail
          clear dk
          go_loopw [11] (fun i wq => ∃ (k : Nat) (l : List Rt), k ≤ n0 ∧ i = .int .i64 k ∧ Hid (Tab wq b l ∧ Tab wq b2 m) ∧ Hid (RisesR l ∧ l.length ≤ 60 ∧ ofL 1 l = ofL 1 m) ∧ Hid (Below w.heap.size w wq)) (fun i _ => n0 - (intOf i).toNat)
          case atStart => exact ⟨0, l, Nat.zero_le _, rfl, HT, HPn, HB⟩
          case round =>
            clear HT HB hlt HPn
            obtain ⟨k, l, hk, rfl, HT, HP, HB⟩ := hrel
            by_cases hlt : k < n0
            · obtain ⟨g, off, rfl, hc⟩ := R0.out (by rw [← HN0.out]; omega)
              obtain ⟨pa, pc, ca, cc, ra, rc, rt⟩ := hc k _ (List.getElem?_eq_getElem (show k < l0.length by rw [← HN0.out]; exact hlt))
              have RR := hide (rt.below HB.out)
              clear rt hc
              generalize l0[k]'_ = x at *
              have hk0 : (0 : Int) ≤ (k : Int) := Int.natCast_nonneg _
              have hkn : (k : Int) < (n0 : Int) := by omega
              have q0 : wr.cell? ⟨g, off + k * 11, none⟩ = some (.int .u32 (x.A : Int)) := RR.out.1 0 _ rfl
              have q1 : wr.cell? ⟨g, off + k * 11 + 1, none⟩ = some (.int .i64 x.L) := RR.out.1 1 _ rfl
              have zg := World.block_lt_of_cell? wr _ q0
              simp only at zg
              go_wp2_with fail
              refine (drop_any b l x.A x.L 2 wr HT.out.1).mono ?_
              rintro e w1 ⟨rfl, t1, k1⟩
              have HT1 : Hid (Tab w1 b (dropL x.A x.L 2 l) ∧ Tab w1 b2 m) := ⟨t1, HT.out.2.keeps k1 (fun y hy e => by have := HBB.out; omega)⟩
              have HB1 : Hid (Below w.heap.size w w1) := HB.out.trans (k1.below w.heap.size HB.out.size (fun y hy => by have := HBB.out; omega))
              have HP1 : Hid (RisesR (dropL x.A x.L 2 l) ∧ (dropL x.A x.L 2 l).length ≤ 60 ∧ ofL 1 (dropL x.A x.L 2 l) = ofL 1 m) := ⟨rises_drop _ _ _ l HP.out.1, by have := dropL_length x.A x.L 2 l; have := HP.out.2.1; omega, by rw [of_drop 1 x.A x.L 2 l (by decide)]; exact HP.out.2.2⟩
              clear t1 k1 HT HP HB RR q0 q1 zg
              go_wp2
              exact ⟨⟨k + 1, dropL x.A x.L 2 l, by omega, by go_num, HT1, HP1, HB1⟩, by simp [intOf]; omega⟩
            · have dk : decide ((k : Int) < (n0 : Int)) = false := decide_eq_false (by omega)
              obtain ⟨wE, hwE⟩ : ∃ wE, wE = wr := ⟨_, rfl⟩
              rw [← hwE] at HT HB ⊢
              clear hwE hk
              go_wp2_with fail
              refine (answers_any wE).mono ?_
              rintro e w1 ⟨rfl, b1⟩
              have HT1 : Hid (Tab w1 b l ∧ Tab w1 b2 m) := ⟨HT.out.1.later b1, HT.out.2.later b1⟩
              have HB1 : Hid (Below w.heap.size w w1) := HB.out.trans (b1.mono HB.out.size)
              clear b1 HT HB dk
              go_wp2_with fail
              refine (of_any b l 1 w1 HT1.out.1 HP.out.1 (by have := HP.out.2.1; omega)).mono ?_
              rintro e w2 ⟨⟨v, rfl, o2⟩, b2'⟩
              rw [HP.out.2.2] at o2
              obtain ⟨a2, c2, rfl, r2⟩ := o2.rd
              have HR2 := hide r2
              have HK2 : Hid (smallRs (ofL 1 m)) := fun y hy => (o2.ok y hy).1
              have HT2 := hide (HT1.out.2.later b2')
              have HB2 : Hid (Below w.heap.size w w2) := HB1.out.trans (b2'.mono HB1.out.size)
              clear o2 r2 b2' HT1 HB1
              have hlm : (ofL 1 m).length ≤ 100000 := by have := List.length_filter_le (fun x : Rt => decide (x.peer = 1)) m; have := HPm.out.2.1; unfold ofL; omega
              go_wp2_with fail
              refine (of_any b2 m 1 w2 HT2.out HPm.out.1 (by have := HPm.out.2.1; omega)).mono ?_
              rintro e w3 ⟨⟨v, rfl, o3⟩, b3⟩
              obtain ⟨a3, c3, rfl, r3⟩ := o3.rd
              have HR3 := hide r3
              have HR23 := hide (HR2.out.below b3)
              have HT3 := hide (HT2.out.later b3)
              have HB3 : Hid (Below w.heap.size w w3) := HB2.out.trans (b3.mono HB2.out.size)
              have HLM := hide hlm
              clear o3 r3 b3 HT2 HB2 hlm HR2
              go_wp2_with fail
              refine (samers_any a2 a3 c2 c3 (ofL 1 m) (ofL 1 m) w3 HLM.out HR23.out HR3.out HK2.out HK2.out).mono ?_
              rintro e w4 ⟨rfl, b4⟩
              rw [eqRts_self]
              have HT4 := hide (HT3.out.later b4)
              have HB4 : Hid (Below w.heap.size w w4) := HB3.out.trans (b4.mono HB3.out.size)
              clear b4 HT3 HB3 HR3 HR23
              have HE : Hid (ofL 2 m = []) := List.filter_eq_nil_iff.2 fun y hy => by rw [HPm.out.2.2 y hy]; decide
              go_wp2_with fail
              refine (of_any b2 m 2 w4 HT4.out HPm.out.1 (by have := HPm.out.2.1; omega)).mono ?_
              rintro e w5 ⟨⟨v, rfl, o5⟩, b5⟩
              obtain ⟨a5, c5, rfl, _⟩ := o5.rd
              have HB5 : Hid (Below w.heap.size w w5) := HB4.out.trans (b5.mono HB4.out.size)
              clear o5 b5 HT4 HB4
              have e5 : (ofL 2 m).length = 0 := by rw [HE.out]; rfl
              rw [e5]
              clear e5
              go_wp2
              go_ret
              exact ⟨rfl, HB5.out⟩
end
theorem adjinPeers_walk (a0 : Option Addr) (c0 : Nat) (l0 : List Rt) (a1 : Option Addr) (c1 : Nat) (l1 : List Rt) (w : World) (B0 : ∀ x ∈ l0, BigR x) (R0 : RtsRd w a0 l0) (B1 : ∀ x ∈ l1, BigR x) (R1 : RtsRd w a1 l1) :
    Calls Try.prog 6 #[.slice a0 l0.length c0, .slice a1 l1.length c1] w fun e w' => e = .returned (.bool true) ∧ Below w.heap.size w w' := by
  by_cases h : 30 < l0.length ∨ 30 < l1.length
  · exact adjinPeers_great a0 c0 _ a1 c1 _ w h
  · exact adjinPeers_small a0 c0 l0 a1 c1 l1 w _ _ rfl rfl (by omega) (by omega) B0 R0 B1 R1
end Go.Proofs.Ytjlmkaeepeamkaa
