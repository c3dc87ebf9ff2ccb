/- PathLong's walk. -/
import Derived.Test.YtnfokbpnjhhiiaaPthAn
import Derived.Test.YtnfokbpnjhhiiaaPthX
import Derived.Test.YtnfokbpnjhhiiaaPthBk
import Derived.Test.YtnfokbpnjhhiiaaPthLg
namespace Go.Proofs.Ytnfokbpnjhhiiaa
open Go.RowKit
set_option maxRecDepth 100000

section
attribute [local go_sem ↓] kept_appendI kept_appendS
set_option maxHeartbeats 6400000 in
theorem long_nat (n0 n1 k m : Nat) (sb : Bool) (w : World) (h0 : n0 < 256) (h1 : n1 < 256) (hk : n0 % 70 = k) (hm : n1 % 9 = m) :
    Calls Try.prog 7 #[.int .u8 (n0 : Int), .int .u8 (n1 : Int), .bool sb] w fun e w' => e = .returned (.bool true) ∧ Below w.heap.size w w' := by
  have hk70 : k < 70 := by omega
  have hm9 : m < 9 := by omega
  have r0 : Int.tmod (n0 : Int) 70 = (k : Int) := by rw [Int.tmod_eq_emod_of_nonneg (by omega)]; omega
  have r1 : Int.tmod (n1 : Int) 9 = (m : Int) := by rw [Int.tmod_eq_emod_of_nonneg (by omega)]; omega
  have w0 : IntKind.u8.wrap (k : Int) = (k : Int) := by rw [IntKind.wrap_u8]; omega
  have w1 : IntKind.u8.wrap (m : Int) = (m : Int) := by rw [IntKind.wrap_u8]; omega
  clear hk hm
  go_enter Try.func7, Try.ntmps7
  go_wp2
  go_loopw [9, 10] (fun v t wq => ∃ (a : Nat) (acc : List (Bool × List Int)), t = .int .i64 (a : Int) ∧ a ≤ 80 ∧ Hid (LongSt sb k (m + 1) a acc) ∧ Hid (OwnPath wq w.heap.size v acc) ∧ Hid (Below w.heap.size w wq)) (fun _ t _ => k - (intOf t).toNat)
  case atStart => exact ⟨0, [], rfl, by omega, LongSt.nil _ _ _, OwnPath.nil _ _, Below.refl _ _⟩
  case round =>
    obtain ⟨a, acc, rfl, ha80, HL, HO, HB⟩ := hrel
    obtain ⟨wo, hwo⟩ : ∃ wo : World, wo = wr := ⟨wr, rfl⟩
    subst hwo
    by_cases hlt : a < k
    · obtain ⟨c, hc⟩ : ∃ c, c = min (m + 1) (k - a) := ⟨_, rfl⟩
      have hsz := HL.out.size (by omega) (by omega) hk70
      have HL2 := hide (HL.out.step hlt (by omega) (by omega) hc)
      have ha0 : (a : Int) < (k : Int) := by omega
      have hc1 : 1 ≤ c := by omega
      have hc9 : c ≤ 9 := by omega
      have hcm : c ≤ m + 1 := by omega
      have hck : a + c ≤ k := by omega
      have HCE : Hid (c = m + 1 ∨ a + c = k) := by show c = m + 1 ∨ a + c = k; omega
      clear hc
      have HQ0 : Hid (SegSt wo (wo.alloc (.cells #[.bool sb, .slice none 0 0] 38)) wo.heap.size sb (.slice none 0 0) (upTo 0)) := segSt_new wo sb
      go_wp2
      go_loopw [12] (fun j wq => ∃ q : Nat, q ≤ c ∧ j = .int .i64 q ∧ Hid (∃ u, SegSt wo wq wo.heap.size sb u (upTo q))) (fun j _ => c - (intOf j).toNat)
      case atStart => exact ⟨0, Nat.zero_le _, rfl, ⟨_, HQ0.out⟩⟩
      case round =>
        clear HQ0
        obtain ⟨q, hq, rfl, HQ⟩ := hrel
        obtain ⟨u, hs⟩ := HQ.out
        have hz : wo.heap.size < wr.heap.size := by have := World.block_lt_of_cell? wr _ hs.c0; simpa using this
        have q0 := hs.c0
        have q1 := hs.c1
        have z1 := hs.fz 1
        have HSS := hide hs
        clear hs HQ
        by_cases hqc : q < c
        · have e1 : (q : Int) < (m : Int) + 1 := by omega
          have e2 : (a : Int) + (q : Int) < (k : Int) := by omega
          obtain ⟨g3, c3, w3, hr3, t1, tz, hs3⟩ := HSS.out.more ((q : Int) + 1) (by rw [upTo_length]; omega)
          rw [upTo_length] at hr3 hs3
          rw [← upTo_succ] at hs3
          have HR3 := hide hr3
          have HS3 := hide hs3
          have hz3 : wo.heap.size < w3.heap.size := by have := World.block_lt_of_cell? w3 _ t1; simpa using this
          clear hr3 hs3
          go_wp2_with fail
          refine kept_appendI_intro _ _ u (.slice (some ⟨wr.heap.size, 0, none⟩) 1 1) (.slice (some ⟨g3, 0, none⟩) (q + 1) c3) (w' := w3) (by rfl) (by rfl) (by exact HR3.out) ?_
          go_wp2
          exact ⟨⟨q + 1, by omega, by go_num, ⟨_, HS3.out⟩⟩, by simp [intOf]; omega⟩
        · have hq2 : q = c := by omega
          subst hq2
          have HO2 := hide (HO.out.later HSS.out.bel)
          have hB2 := HB.out.size
          obtain ⟨v9, w9, hr9, ho9, hb9⟩ := HO2.out.snoc (b := sb) (own_base HSS.out.own (by omega)) (own_one HSS.out.own) (by omega) (by omega) wr.heap.size rfl
          have HB9 := hide ((HB.out.trans (HSS.out.bel.mono hB2)).trans hb9)
          have HR9 := hide hr9
          have HO9 := hide ho9
          clear hr9 ho9 hb9
          by_cases hqm : q < m + 1
          · have e1 : (q : Int) < (m : Int) + 1 := by omega
            have e2 : decide ((a : Int) + (q : Int) < (k : Int)) = false := decide_eq_false (by have := HCE.out; omega)
            go_wp2_with fail
            refine kept_appendS_intro _ _ _ (.slice (some ⟨wr.heap.size, 0, none⟩) 1 1) v9 (w' := w9) (by rfl) (by rfl) (by exact HR9.out) ?_
            go_wp2
            exact ⟨⟨a + (m + 1), acc ++ [(sb, upTo q)], by go_num, by have := (HL2.out.size (by omega) (by omega) hk70).1; omega, HL2, HO9, HB9⟩, by simp [intOf]; omega⟩
          · have e1 : decide ((q : Int) < (m : Int) + 1) = false := decide_eq_false (by omega)
            go_wp2_with fail
            refine kept_appendS_intro _ _ _ (.slice (some ⟨wr.heap.size, 0, none⟩) 1 1) v9 (w' := w9) (by rfl) (by rfl) (by exact HR9.out) ?_
            go_wp2
            exact ⟨⟨a + (m + 1), acc ++ [(sb, upTo q)], by go_num, by have := (HL2.out.size (by omega) (by omega) hk70).1; omega, HL2, HO9, HB9⟩, by simp [intOf]; omega⟩
    · have hsz := HL.out.size (by omega) (by omega) hk70
      have hgd := HL.out.end_good hlt
      have hsum : acc.length + sumP acc ≤ 100000 := by omega
      have HSZ : Hid (acc.length ≤ 1000000 ∧ ∀ s ∈ acc, s.2.length ≤ 1000000) := ⟨by omega, fun s hs9 => by have := sumP_mem acc s hs9; omega⟩
      obtain ⟨ap, cp, rfl, hrd⟩ := HO.out.rd HSZ.out.1 HSZ.out.2
      have HD := hide hrd
      have K1 := hide (encode_any ap cp acc wo hsum hrd)
      have K3 : Hid (∀ w1, PthRd w1 ap acc → Calls Try.prog 11 #[.slice ap acc.length cp] w1 fun e w' => e = .returned (.bool (goodP acc)) ∧ Below w1.heap.size w1 w') := fun w1 h1 => good_any ap cp acc w1 hsum h1
      have K4 : Hid (∀ w1, PthRd w1 ap acc → Calls Try.prog 20 #[.slice ap acc.length cp] w1 fun e w' => e = .returned (.int .i64 (lenP acc : Int)) ∧ Below w1.heap.size w1 w') := fun w1 h1 => len_any ap cp acc w1 hsum h1
      have K5 : Hid (∀ w1 a2 c2, PthRd w1 ap acc → PthRd w1 a2 acc → Calls Try.prog 16 #[.slice ap acc.length cp, .slice a2 acc.length c2] w1 fun e w' => e = .returned (.bool true) ∧ ∃ m, w' = w1.drewN m) := fun w1 a2 c2 h1 h2 => by
        have := samepath_any ap a2 cp c2 acc acc w1 hsum (by omega) h1 h2
        rwa [eqP_self] at this
      rw [hgd] at K3
      have ha0 : decide ((a : Int) < (k : Int)) = false := decide_eq_false (by omega)
      clear hrd HO
      by_cases hk64 : k ≤ 64
      · have hg : goodP acc = true := by rw [hgd]; exact decide_eq_true hk64
        have hge : encPath acc = encSegs acc := by unfold encPath; rw [hg]; rfl
        have hel : (encSegs acc).length ≤ 1000 := by rw [encSegs_length]; omega
        have HLT := hide (encSegs_lt acc (fun s hs => (goodP_seg hg hs).2.1))
        have HBK := hide (enc_back hg)
        rw [hge] at K1
        rw [decide_eq_true hk64] at K3
        have i64 : (k : Int) ≤ 64 := by omega
        have j64 : decide ((64 : Int) < (k : Int)) = false := decide_eq_false (by omega)
        clear hg hge hgd
        generalize hna : acc.length = na at *
        have HNA := hide hna
        clear hna
        cases sb with
        | true =>
          have hln := HL.out.end_set hlt (by omega)
          rw [hln] at K4
          have hquo : ((k : Int) + ((m : Int) + 1) - 1) / ((m : Int) + 1) = ((k + (m + 1) - 1) / (m + 1) : Nat) := by
            rw [show (k : Int) + ((m : Int) + 1) - 1 = ((k + (m + 1) - 1 : Nat) : Int) from by omega, show (m : Int) + 1 = ((m + 1 : Nat) : Int) from by omega]
            exact (Int.natCast_ediv _ _).symm
          have hne : ¬ ((m : Int) + 1 = 0) := by omega
          have hxb : (k + (m + 1) - 1) / (m + 1) ≤ 100 := by
            have := Nat.div_le_self (k + (m + 1) - 1) (m + 1)
            omega
          generalize (k + (m + 1) - 1) / (m + 1) = xx at *
          clear HL hln
          go_wp2_with fail
          refine K1.out.mono ?_
          rintro e w1 ⟨v1, rfl, ho1, hb1⟩
          obtain ⟨a1, c1, rfl, hc1, hrw1⟩ := own_rw ho1 (by omega)
          have HB1 : Hid (Below w.heap.size w w1) := HB.out.trans (hb1.mono HB.out.size)
          have HD1 := hide (HD.out.below hb1)
          have HRW := hide hrw1
          have HC1 := hide hc1
          clear ho1 hb1 hrw1 hc1 K1 HB HD
          generalize hee : (encSegs acc).length = el at *
          have HEE := hide hee
          clear hee
          go_wp2_with fail
          refine (pdecode_any a1 el c1 (fun i => (encSegs acc).getD i 0) _ (by omega) HC1.out (fun j hj => getD_lt HLT.out j (by rw [HEE.out]; exact hj)) HRW.out).mono ?_
          rw [HBK.out]
          rintro e w2 ⟨⟨v2, rfl, ho2⟩, hb2⟩
          obtain ⟨a2, c2, rfl, hrd2⟩ := ho2.rd (by rw [HNA.out]; exact HSZ.out.1) HSZ.out.2
          have HB2 : Hid (Below w.heap.size w w2) := HB1.out.trans (hb2.mono HB1.out.size)
          have HD2 := hide (HD1.out.below hb2)
          have HE2 := hide hrd2
          clear ho2 hb2 hrd2 HB1 HD1 HRW HC1 HBK
          rw [HNA.out]
          go_wp2_with fail
          refine (answers_any _).mono ?_
          rintro e w3 ⟨rfl, hb3⟩
          have HB3 : Hid (Below w.heap.size w w3) := HB2.out.trans (hb3.mono HB2.out.size)
          have HD3 := hide (HD2.out.below hb3)
          have HE3 := hide (HE2.out.below hb3)
          clear hb3 HB2 HD2 HE2
          go_wp2_with fail
          refine (K3.out _ HD3.out).mono ?_
          rintro e w4 ⟨rfl, hb4⟩
          have HB4 : Hid (Below w.heap.size w w4) := HB3.out.trans (hb4.mono HB3.out.size)
          have HD4 := hide (HD3.out.below hb4)
          have HE4 := hide (HE3.out.below hb4)
          clear hb4 HB3 HD3 HE3 K3
          go_wp2_with fail
          refine (K4.out _ HD4.out).mono ?_
          rintro e w5 ⟨rfl, hb5⟩
          have HB5 : Hid (Below w.heap.size w w5) := HB4.out.trans (hb5.mono HB4.out.size)
          have HD5 := hide (HD4.out.below hb5)
          have HE5 := hide (HE4.out.below hb5)
          clear hb5 HB4 HD4 HE4 K4
          go_wp2_with fail
          refine (K5.out _ a2 c2 HD5.out HE5.out).mono ?_
          rintro e w6 ⟨rfl, m6, rfl⟩
          go_wp2
          go_ret
          exact ⟨rfl, below_drewN HB5.out m6⟩
        | false =>
          have hln := HL.out.end_seq hlt
          rw [hln] at K4
          clear HL hln
          go_wp2_with fail
          refine K1.out.mono ?_
          rintro e w1 ⟨v1, rfl, ho1, hb1⟩
          obtain ⟨a1, c1, rfl, hc1, hrw1⟩ := own_rw ho1 (by omega)
          have HB1 : Hid (Below w.heap.size w w1) := HB.out.trans (hb1.mono HB.out.size)
          have HD1 := hide (HD.out.below hb1)
          have HRW := hide hrw1
          have HC1 := hide hc1
          clear ho1 hb1 hrw1 hc1 K1 HB HD
          generalize hee : (encSegs acc).length = el at *
          have HEE := hide hee
          clear hee
          go_wp2_with fail
          refine (pdecode_any a1 el c1 (fun i => (encSegs acc).getD i 0) _ (by omega) HC1.out (fun j hj => getD_lt HLT.out j (by rw [HEE.out]; exact hj)) HRW.out).mono ?_
          rw [HBK.out]
          rintro e w2 ⟨⟨v2, rfl, ho2⟩, hb2⟩
          obtain ⟨a2, c2, rfl, hrd2⟩ := ho2.rd (by rw [HNA.out]; exact HSZ.out.1) HSZ.out.2
          have HB2 : Hid (Below w.heap.size w w2) := HB1.out.trans (hb2.mono HB1.out.size)
          have HD2 := hide (HD1.out.below hb2)
          have HE2 := hide hrd2
          clear ho2 hb2 hrd2 HB1 HD1 HRW HC1 HBK
          rw [HNA.out]
          go_wp2_with fail
          refine (answers_any _).mono ?_
          rintro e w3 ⟨rfl, hb3⟩
          have HB3 : Hid (Below w.heap.size w w3) := HB2.out.trans (hb3.mono HB2.out.size)
          have HD3 := hide (HD2.out.below hb3)
          have HE3 := hide (HE2.out.below hb3)
          clear hb3 HB2 HD2 HE2
          go_wp2_with fail
          refine (K3.out _ HD3.out).mono ?_
          rintro e w4 ⟨rfl, hb4⟩
          have HB4 : Hid (Below w.heap.size w w4) := HB3.out.trans (hb4.mono HB3.out.size)
          have HD4 := hide (HD3.out.below hb4)
          have HE4 := hide (HE3.out.below hb4)
          clear hb4 HB3 HD3 HE3 K3
          go_wp2_with fail
          refine (K4.out _ HD4.out).mono ?_
          rintro e w5 ⟨rfl, hb5⟩
          have HB5 : Hid (Below w.heap.size w w5) := HB4.out.trans (hb5.mono HB4.out.size)
          have HD5 := hide (HD4.out.below hb5)
          have HE5 := hide (HE4.out.below hb5)
          clear hb5 HB4 HD4 HE4 K4
          go_wp2_with fail
          refine (K5.out _ a2 c2 HD5.out HE5.out).mono ?_
          rintro e w6 ⟨rfl, m6, rfl⟩
          go_wp2
          go_ret
          exact ⟨rfl, below_drewN HB5.out m6⟩
      · have hg : goodP acc = false := by rw [hgd]; exact decide_eq_false hk64
        have hge : encPath acc = [] := by unfold encPath; rw [hg]; rfl
        have hel : ([] : List Nat).length ≤ 1000 := by simp
        have HLT : Hid (∀ x ∈ ([] : List Nat), x < 256) := by show ∀ x ∈ ([] : List Nat), x < 256; simp
        have HBK : Hid (segsRun (fun i => ([] : List Nat).getD i 0) ([] : List Nat).length 0 [] = some []) := segsRun_end (by simp)
        rw [hge] at K1
        rw [decide_eq_false hk64] at K3
        have i64 : decide ((k : Int) ≤ 64) = false := decide_eq_false (by omega)
        have j64 : (64 : Int) < (k : Int) := by omega
        clear hg hge hgd K5
        generalize hna : acc.length = na at *
        clear hna
        cases sb with
        | true =>
          have hln := HL.out.end_set hlt (by omega)
          rw [hln] at K4
          have hquo : ((k : Int) + ((m : Int) + 1) - 1) / ((m : Int) + 1) = ((k + (m + 1) - 1) / (m + 1) : Nat) := by
            rw [show (k : Int) + ((m : Int) + 1) - 1 = ((k + (m + 1) - 1 : Nat) : Int) from by omega, show (m : Int) + 1 = ((m + 1 : Nat) : Int) from by omega]
            exact (Int.natCast_ediv _ _).symm
          have hne : ¬ ((m : Int) + 1 = 0) := by omega
          have hxb : (k + (m + 1) - 1) / (m + 1) ≤ 100 := by
            have := Nat.div_le_self (k + (m + 1) - 1) (m + 1)
            omega
          generalize (k + (m + 1) - 1) / (m + 1) = xx at *
          clear HL hln
          go_wp2_with fail
          refine K1.out.mono ?_
          rintro e w1 ⟨v1, rfl, ho1, hb1⟩
          obtain ⟨a1, c1, rfl, hc1, hrw1⟩ := own_rw ho1 (by omega)
          have HB1 : Hid (Below w.heap.size w w1) := HB.out.trans (hb1.mono HB.out.size)
          have HD1 := hide (HD.out.below hb1)
          have HRW := hide hrw1
          have HC1 := hide hc1
          clear ho1 hb1 hrw1 hc1 K1 HB HD
          generalize hee : ([] : List Nat).length = el at *
          have HEE := hide hee
          clear hee
          go_wp2_with fail
          refine (pdecode_any a1 el c1 (fun i => ([] : List Nat).getD i 0) _ (by omega) HC1.out (fun j hj => getD_lt HLT.out j (by rw [HEE.out]; exact hj)) HRW.out).mono ?_
          rw [HBK.out]
          rintro e w2 ⟨⟨v2, rfl, ho2⟩, hb2⟩
          obtain ⟨a2, c2, rfl, hrd2⟩ := ho2.rd (by simp) (by simp)
          have HB2 : Hid (Below w.heap.size w w2) := HB1.out.trans (hb2.mono HB1.out.size)
          have HD2 := hide (HD1.out.below hb2)
          have HE2 := hide hrd2
          clear ho2 hb2 hrd2 HB1 HD1 HRW HC1 HBK
          rw [show ([] : List (Bool × List Int)).length = 0 from rfl]
          go_wp2_with fail
          refine (answers_any _).mono ?_
          rintro e w3 ⟨rfl, hb3⟩
          have HB3 : Hid (Below w.heap.size w w3) := HB2.out.trans (hb3.mono HB2.out.size)
          have HD3 := hide (HD2.out.below hb3)
          have HE3 := hide (HE2.out.below hb3)
          clear hb3 HB2 HD2 HE2
          go_wp2_with fail
          refine (K3.out _ HD3.out).mono ?_
          rintro e w4 ⟨rfl, hb4⟩
          have HB4 : Hid (Below w.heap.size w w4) := HB3.out.trans (hb4.mono HB3.out.size)
          have HD4 := hide (HD3.out.below hb4)
          have HE4 := hide (HE3.out.below hb4)
          clear hb4 HB3 HD3 HE3 K3
          go_wp2_with fail
          refine (K4.out _ HD4.out).mono ?_
          rintro e w5 ⟨rfl, hb5⟩
          have HB5 : Hid (Below w.heap.size w w5) := HB4.out.trans (hb5.mono HB4.out.size)
          have HD5 := hide (HD4.out.below hb5)
          have HE5 := hide (HE4.out.below hb5)
          clear hb5 HB4 HD4 HE4 K4
          go_wp2
          go_ret
          exact ⟨rfl, HB5.out⟩
        | false =>
          have hln := HL.out.end_seq hlt
          rw [hln] at K4
          clear HL hln
          go_wp2_with fail
          refine K1.out.mono ?_
          rintro e w1 ⟨v1, rfl, ho1, hb1⟩
          obtain ⟨a1, c1, rfl, hc1, hrw1⟩ := own_rw ho1 (by omega)
          have HB1 : Hid (Below w.heap.size w w1) := HB.out.trans (hb1.mono HB.out.size)
          have HD1 := hide (HD.out.below hb1)
          have HRW := hide hrw1
          have HC1 := hide hc1
          clear ho1 hb1 hrw1 hc1 K1 HB HD
          generalize hee : ([] : List Nat).length = el at *
          have HEE := hide hee
          clear hee
          go_wp2_with fail
          refine (pdecode_any a1 el c1 (fun i => ([] : List Nat).getD i 0) _ (by omega) HC1.out (fun j hj => getD_lt HLT.out j (by rw [HEE.out]; exact hj)) HRW.out).mono ?_
          rw [HBK.out]
          rintro e w2 ⟨⟨v2, rfl, ho2⟩, hb2⟩
          obtain ⟨a2, c2, rfl, hrd2⟩ := ho2.rd (by simp) (by simp)
          have HB2 : Hid (Below w.heap.size w w2) := HB1.out.trans (hb2.mono HB1.out.size)
          have HD2 := hide (HD1.out.below hb2)
          have HE2 := hide hrd2
          clear ho2 hb2 hrd2 HB1 HD1 HRW HC1 HBK
          rw [show ([] : List (Bool × List Int)).length = 0 from rfl]
          go_wp2_with fail
          refine (answers_any _).mono ?_
          rintro e w3 ⟨rfl, hb3⟩
          have HB3 : Hid (Below w.heap.size w w3) := HB2.out.trans (hb3.mono HB2.out.size)
          have HD3 := hide (HD2.out.below hb3)
          have HE3 := hide (HE2.out.below hb3)
          clear hb3 HB2 HD2 HE2
          go_wp2_with fail
          refine (K3.out _ HD3.out).mono ?_
          rintro e w4 ⟨rfl, hb4⟩
          have HB4 : Hid (Below w.heap.size w w4) := HB3.out.trans (hb4.mono HB3.out.size)
          have HD4 := hide (HD3.out.below hb4)
          have HE4 := hide (HE3.out.below hb4)
          clear hb4 HB3 HD3 HE3 K3
          go_wp2_with fail
          refine (K4.out _ HD4.out).mono ?_
          rintro e w5 ⟨rfl, hb5⟩
          have HB5 : Hid (Below w.heap.size w w5) := HB4.out.trans (hb5.mono HB4.out.size)
          have HD5 := hide (HD4.out.below hb5)
          have HE5 := hide (HE4.out.below hb5)
          clear hb5 HB4 HD4 HE4 K4
          go_wp2
          go_ret
          exact ⟨rfl, HB5.out⟩
end
theorem pathLong_walk (a0 a1 : Int) (a2 : Bool) (w0 : (Lit.int .u8 a0).wf = true) (w1 : (Lit.int .u8 a1).wf = true) (w : World) :
    Calls Try.prog 7 #[.int .u8 a0, .int .u8 a1, .bool a2] w fun e w' => e = .returned (.bool true) ∧ Below w.heap.size w w' := by
  have hb : ∀ n : Int, (Lit.int .u8 n).wf = true → 0 ≤ n ∧ n < 256 := by
    intro n h
    simp [Lit.wf, IntKind.min, IntKind.max, IntKind.bits, IntKind.signed] at h
    omega
  have h0 := hb a0 w0
  have h1 := hb a1 w1
  obtain ⟨n0, rfl⟩ := Int.eq_ofNat_of_zero_le h0.1
  obtain ⟨n1, rfl⟩ := Int.eq_ofNat_of_zero_le h1.1
  exact long_nat n0 n1 _ _ a2 w (by omega) (by omega) rfl rfl
end Go.Proofs.Ytnfokbpnjhhiiaa
