/- PathBack's walk. -/
import Derived.Test.YtnfokbpnjhhiiaaPthAn
import Derived.Test.YtnfokbpnjhhiiaaPthX
import Derived.Test.YtnfokbpnjhhiiaaPthSl
import Derived.Test.YtnfokbpnjhhiiaaPthFr
import Derived.Test.YtnfokbpnjhhiiaaPthBk
import Derived.Test.YtnfokbpnjhhiiaaPthSm
import Derived.Test.YtnfokbpnjhhiiaaSmB
namespace Go.Proofs.Ytnfokbpnjhhiiaa
open Go.RowKit
set_option maxRecDepth 100000

set_option maxHeartbeats 1600000 in
theorem back_good (a : Option Addr) (c n : Nat) (ss : List (Bool × List Int)) (w : World) (hn : ss.length = n) (hz : sizeP ss) (h : PthRd w a ss) (hs : smallP ss = true) (hg : goodP ss = true) :
    Calls Try.prog 3 #[.slice a n c] w fun e w' => e = .returned (.bool true) ∧ Below w.heap.size w w' := by
  have hl := smallP_sum hs
  have hge : encPath ss = encSegs ss := by unfold encPath; rw [hg]; rfl
  have hs64 := goodP_sum hg
  have hl64 := goodP_len hg
  have hel : (encSegs ss).length ≤ 1000 := by rw [encSegs_length]; omega
  have HLT := hide (encSegs_lt ss (fun s hs => (goodP_seg hg hs).2.1))
  have HBK := hide (enc_back hg)
  have K0 := hide (small_any a c ss w hz.1 hz.2 h)
  have K1 := hide (encode_any a c ss w hl h)
  have K2 : Hid (∀ w1, Below w.heap.size w w1 → Calls Try.prog 11 #[.slice a ss.length c] w1 fun e w' => e = .returned (.bool (goodP ss)) ∧ Below w1.heap.size w1 w') := fun w1 hb => good_any a c ss w1 hl (h.below hb)
  have K3 : Hid (∀ w1, Below w.heap.size w w1 → Calls Try.prog 12 #[.slice a ss.length c] w1 fun e w' => e = .returned (.bool (goodP ss)) ∧ w' = w1) := fun w1 hb => rgood_any a c ss w1 hl (h.below hb)
  have K4 : Hid (∀ w1, Below w.heap.size w w1 → Calls Try.prog 14 #[.slice a ss.length c] w1 fun e w' => ∃ v, e = .returned v ∧ w'.ownsRow w1.heap.size 5 1 v (encPath ss).length (bcells (encPath ss)) ∧ Below w1.heap.size w1 w') := fun w1 hb => rpath_any a c ss w1 hl (h.below hb)
  have K5 : Hid (∀ w1 a2 c2, Below w.heap.size w w1 → PthRd w1 a2 ss → Calls Try.prog 16 #[.slice a ss.length c, .slice a2 ss.length c2] w1 fun e w' => e = .returned (.bool true) ∧ ∃ m, w' = w1.drewN m) := fun w1 a2 c2 hb h2 => by
    have := samepath_any a a2 c c2 ss ss w1 hl (by omega) (h.below hb) h2
    rwa [eqP_self] at this
  have HSZ : Hid (ss.length ≤ 1000000 ∧ ∀ s ∈ ss, s.2.length ≤ 1000000) := ⟨by omega, fun s hs9 => by have := sumP_mem ss s hs9; omega⟩
  rw [hs] at K0
  rw [hg] at K2 K3
  rw [hge] at K1 K4
  rw [hn] at K0 K1 K2 K3 K4 K5
  clear h hz hs hl hg hs64 hl64 hge
  go_enter Try.func3, Try.ntmps3
  go_wp2_with fail
  refine K0.out.mono ?_
  rintro e w0 ⟨rfl, rfl⟩
  clear K0
  obtain ⟨wz, hwz⟩ : ∃ wz : World, wz = w0 := ⟨w0, rfl⟩
  subst hwz
  go_wp2_with fail
  refine K1.out.mono ?_
  rintro e w1 ⟨v1, rfl, ho1, hb1⟩
  obtain ⟨a1, c1, rfl, hc1, hrw1⟩ := own_rw ho1 (by omega)
  have HO1 := hide ho1
  have HB1 := hide hb1
  have HRW := hide hrw1
  have HC1 := hide hc1
  clear ho1 hb1 K1 hrw1 hc1
  generalize hee : (encSegs ss).length = el at *
  have HEE := hide hee
  clear hee
  go_wp2_with fail
  refine (K2.out _ HB1.out).mono ?_
  rintro e w2 ⟨rfl, hb2⟩
  have HB2 : Hid (Below _ _ w2) := HB1.out.trans (hb2.mono HB1.out.size)
  have HO2 := hide (own_later HO1.out hb2)
  have HRW2 := hide (HRW.out.below hb2)
  clear hb2 HB1 HO1 HRW K2
  go_wp2_with fail
  refine (K3.out _ HB2.out).mono ?_
  rintro e w3 ⟨rfl, rfl⟩
  go_wp2_with fail
  refine (K4.out _ HB2.out).mono ?_
  rintro e w4 ⟨v4, rfl, ho4, hb4⟩
  have HB4 : Hid (Below _ _ w4) := HB2.out.trans (hb4.mono HB2.out.size)
  have HO4 := hide (own_later HO2.out hb4)
  have HRW4 := hide (HRW2.out.below hb4)
  have HV4 := hide ho4
  clear hb4 ho4 HB2 HO2 HRW2 K4
  go_wp2_with fail
  refine (sameb_any (bs := encSegs ss) (by rw [HEE.out]; exact HO4.out) (by rw [HEE.out]; exact HV4.out) (by rw [HEE.out]; omega)).mono ?_
  rintro e w5 ⟨rfl, m5, rfl⟩
  have HB5 := hide (below_drewN HB4.out m5)
  have HRW5 := hide (HRW4.out.below (below_drewN (Below.refl _ _) m5))
  generalize w4.drewN m5 = w5 at *
  clear HB4 HO4 HV4 HRW4
  go_wp2_with fail
  refine (K3.out _ HB5.out).mono ?_
  rintro e w6 ⟨rfl, rfl⟩
  clear K3
  go_wp2_with fail
  refine (pdecode_any a1 el c1 (fun i => (encSegs ss).getD i 0) _ (by omega) HC1.out (fun j hj => getD_lt HLT.out j (by rw [HEE.out]; exact hj)) HRW5.out).mono ?_
  have hbk := HBK.out
  rw [hbk]
  clear hbk
  rintro e w7 ⟨⟨v7, rfl, ho7⟩, hb7⟩
  obtain ⟨a7, c7, rfl, hrd7⟩ := ho7.rd HSZ.out.1 HSZ.out.2
  rw [hn]
  have HD7 := hide hrd7
  have HB7 : Hid (Below _ _ w7) := HB5.out.trans (hb7.mono HB5.out.size)
  clear hrd7 hb7 ho7 HB5 HRW5
  go_wp2_with fail
  refine (answers_any _).mono ?_
  rintro e w8 ⟨rfl, hb8⟩
  have HD8 := hide (HD7.out.below hb8)
  have HB8 : Hid (Below _ _ w8) := HB7.out.trans (hb8.mono HB7.out.size)
  clear hb8 HD7 HB7
  go_wp2_with fail
  refine (K5.out _ a7 c7 HB8.out HD8.out).mono ?_
  rintro e w9 ⟨rfl, m9, rfl⟩
  go_wp2
  go_ret
  exact ⟨rfl, below_drewN HB8.out m9⟩
set_option maxHeartbeats 1600000 in
theorem back_bad (a : Option Addr) (c n : Nat) (ss : List (Bool × List Int)) (w : World) (hn : ss.length = n) (hz : sizeP ss) (h : PthRd w a ss) (hs : smallP ss = true) (hg : goodP ss = false) :
    Calls Try.prog 3 #[.slice a n c] w fun e w' => e = .returned (.bool true) ∧ Below w.heap.size w w' := by
  have hl := smallP_sum hs
  have hge : encPath ss = [] := by unfold encPath; rw [hg]; rfl
  have K0 := hide (small_any a c ss w hz.1 hz.2 h)
  have K1 := hide (encode_any a c ss w hl h)
  have K2 : Hid (∀ w1, Below w.heap.size w w1 → Calls Try.prog 11 #[.slice a ss.length c] w1 fun e w' => e = .returned (.bool (goodP ss)) ∧ Below w1.heap.size w1 w') := fun w1 hb => good_any a c ss w1 hl (h.below hb)
  have K3 : Hid (∀ w1, Below w.heap.size w w1 → Calls Try.prog 12 #[.slice a ss.length c] w1 fun e w' => e = .returned (.bool (goodP ss)) ∧ w' = w1) := fun w1 hb => rgood_any a c ss w1 hl (h.below hb)
  have K4 : Hid (∀ w1, Below w.heap.size w w1 → Calls Try.prog 14 #[.slice a ss.length c] w1 fun e w' => ∃ v, e = .returned v ∧ w'.ownsRow w1.heap.size 5 1 v (encPath ss).length (bcells (encPath ss)) ∧ Below w1.heap.size w1 w') := fun w1 hb => rpath_any a c ss w1 hl (h.below hb)
  rw [hs] at K0
  rw [hg] at K2 K3
  rw [hge] at K1 K4
  rw [hn] at K0 K1 K2 K3 K4
  clear h hz hs hl hg hge hn
  go_enter Try.func3, Try.ntmps3
  go_wp2_with fail
  refine K0.out.mono ?_
  rintro e w0 ⟨rfl, rfl⟩
  clear K0
  obtain ⟨wz, hwz⟩ : ∃ wz : World, wz = w0 := ⟨w0, rfl⟩
  subst hwz
  go_wp2_with fail
  refine K1.out.mono ?_
  rintro e w1 ⟨v1, rfl, ho1, hb1⟩
  obtain ⟨a1, c1, rfl⟩ := own_shape ho1
  have HO1 := hide ho1
  have HB1 := hide hb1
  clear ho1 hb1 K1
  rw [show ([] : List Nat).length = 0 from rfl]
  go_wp2_with fail
  refine (K2.out _ HB1.out).mono ?_
  rintro e w2 ⟨rfl, hb2⟩
  have HB2 : Hid (Below _ _ w2) := HB1.out.trans (hb2.mono HB1.out.size)
  have HO2 := hide (own_later HO1.out hb2)
  clear hb2 HB1 HO1 K2
  go_wp2_with fail
  refine (K3.out _ HB2.out).mono ?_
  rintro e w3 ⟨rfl, rfl⟩
  go_wp2_with fail
  refine (K4.out _ HB2.out).mono ?_
  rintro e w4 ⟨v4, rfl, ho4, hb4⟩
  have HB4 : Hid (Below _ _ w4) := HB2.out.trans (hb4.mono HB2.out.size)
  have HO4 := hide (own_later HO2.out hb4)
  have HV4 := hide ho4
  clear hb4 ho4 HB2 HO2 K4
  go_wp2_with fail
  refine (sameb_any (bs := []) HO4.out HV4.out (by simp)).mono ?_
  rintro e w5 ⟨rfl, m5, rfl⟩
  have HB5 := hide (below_drewN HB4.out m5)
  generalize w4.drewN m5 = w5 at *
  clear HB4 HO4 HV4
  go_wp2_with fail
  refine (K3.out _ HB5.out).mono ?_
  rintro e w6 ⟨rfl, rfl⟩
  clear K3
  go_wp2_with fail
  refine (answers_any _).mono ?_
  rintro e w8 ⟨rfl, hb8⟩
  have HB8 : Hid (Below _ _ w8) := HB5.out.trans (hb8.mono HB5.out.size)
  clear hb8 HB5
  go_wp2
  go_ret
  exact ⟨rfl, HB8.out⟩
set_option maxHeartbeats 400000 in
theorem back_great (a : Option Addr) (c n : Nat) (ss : List (Bool × List Int)) (w : World) (hn : ss.length = n) (hz : sizeP ss) (h : PthRd w a ss) (hs : smallP ss = false) :
    Calls Try.prog 3 #[.slice a n c] w fun e w' => e = .returned (.bool true) ∧ Below w.heap.size w w' := by
  have K0 := hide (small_any a c ss w hz.1 hz.2 h)
  rw [hs, hn] at K0
  clear h hz hs hn
  go_enter Try.func3, Try.ntmps3
  go_wp2_with fail
  refine K0.out.mono ?_
  rintro e w0 ⟨rfl, rfl⟩
  go_wp2_with fail
  refine (answers_any _).mono ?_
  rintro e w3 ⟨rfl, hb3⟩
  have HB3 := hide hb3
  clear hb3
  go_wp2
  go_ret
  exact ⟨rfl, HB3.out⟩
theorem pathBack_walk (a : Option Addr) (c : Nat) (ss : List (Bool × List Int)) (w : World) (_hc : ss.length ≤ c) (hz : sizeP ss) (h : PthRd w a ss) :
    Calls Try.prog 3 #[.slice a ss.length c] w fun e w' => e = .returned (.bool true) ∧ Below w.heap.size w w' := by
  cases hs : smallP ss with
  | true =>
    cases hg : goodP ss with
    | true => exact back_good a c _ ss w rfl hz h hs hg
    | false => exact back_bad a c _ ss w rfl hz h hs hg
  | false => exact back_great a c _ ss w rfl hz h hs
end Go.Proofs.Ytnfokbpnjhhiiaa
