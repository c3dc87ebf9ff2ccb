/- PathPrepends' walk. -/
import Derived.Test.YtnfokbpnjhhiiaaPthAn
import Derived.Test.YtnfokbpnjhhiiaaPthX
import Derived.Test.YtnfokbpnjhhiiaaPthQy
import Derived.Test.YtnfokbpnjhhiiaaPthBm
import Derived.Test.YtnfokbpnjhhiiaaPthFr
namespace Go.Proofs.Ytnfokbpnjhhiiaa
open Go.RowKit
set_option maxRecDepth 100000

section
attribute [local go_sem ↓] Go.wp_at_zero Go.wp_at_succ kept_appendI kept_appendS
set_option maxHeartbeats 6400000 in
theorem preps_small (a : Option Addr) (c n : Nat) (ss : List (Bool × List Int)) (z : Int) (w : World) (hn : ss.length = n) (hlc : n ≤ c) (hz : sizeP ss) (h : PthRd w a ss) (hs : smallP ss = true) :
    Calls Try.prog 6 #[.slice a n c, .int .i64 z] w fun e w' => e = .returned (.bool true) ∧ Below w.heap.size w w' := by
  have hl3 : n + sumP ss < 3000 := by have := of_decide_eq_true hs; omega
  have K0 := hide (small_any a c ss w hz.1 hz.2 h)
  rw [hs, hn] at K0
  have H := hide h
  have HN := hide hn
  clear h hz hs hn
  go_enter Try.func6, Try.ntmps6
  go_wp2_with fail
  refine K0.out.mono ?_
  rintro e w0 ⟨rfl, hw0⟩
  subst hw0
  clear K0
  go_wp2
  go_loopw [5, 6] (fun v i wq => ∃ k : Nat, k ≤ n ∧ i = .int .i64 k ∧ Hid (OwnPath wq w0.heap.size v (ss.take k)) ∧ Hid (Below w0.heap.size w0 wq)) (fun _ i _ => n - (intOf i).toNat)
  case atStart => exact ⟨0, Nat.zero_le _, rfl, OwnPath.nil _ _, Below.refl _ _⟩
  case round =>
    obtain ⟨k, hk, rfl, HO, HB⟩ := hrel
    by_cases hlt : k < n
    · have hkp : k < ss.length := by rw [HN.out]; exact hlt
      obtain ⟨b, off, hae, hc⟩ := H.out.cells (by omega)
      subst hae
      obtain ⟨e0, a1, c1, e1, hr⟩ := hc k ss[k] (List.getElem?_eq_getElem hkp)
      have z0 := World.block_lt_of_cell? w0 _ e0
      simp only at z0
      have HT : Hid (ss.take (k + 1) = ss.take k ++ [ss[k]]) := by show ss.take (k + 1) = _; rw [List.take_succ_eq_append_getElem hkp]
      have hll : (ss[k]).2.length ≤ 3000 := by have := sumP_mem ss _ (List.getElem_mem hkp); omega
      have d0 : wr.cell? ⟨b, off + k * 2, none⟩ = some (.bool (ss[k]).1) := by rw [HB.out.cell (p := ⟨b, off + k * 2, none⟩) z0]; exact e0
      have d1 : wr.cell? ⟨b, off + k * 2 + 1, none⟩ = some (.slice a1 (ss[k]).2.length c1) := by rw [HB.out.cell (p := ⟨b, off + k * 2 + 1, none⟩) z0]; exact e1
      have z1 : b < wr.heap.size := Nat.lt_of_lt_of_le z0 HB.out.size
      have z2 : b < wr.heap.size + 1 := by omega
      have HI := hide (hr.below HB.out)
      have hat : (ss.take k).length ≤ 100000 := by rw [List.length_take]; omega
      generalize hsk : ss[k] = sg at *
      clear hsk hr hc e0 e1
      obtain ⟨b1, zs⟩ := sg
      simp only at d0 d1 hll HI
      generalize hzl : zs.length = l at d0 d1 hll
      have HZE := hide hzl
      clear hzl
      have wl : IntKind.i64.wrap ((l : Int) + 3) = (l : Int) + 3 := by rw [IntKind.wrap_i64]; omega
      have hmk : ∀ w, (Instr.makeSlice 36 (.int .i64 0) (.int .i64 ((l : Int) + 3))).run Try.prog w = .ok (.slice (some ⟨w.heap.size, 0, none⟩) 0 (l + 3)) (w.alloc (.cells (icells (List.replicate (l + 3) 0)).toArray 3)) := fun w => by
        have := run_make_some (l + 3) (by omega) w
        rw [show ((l + 3 : Nat) : Int) = (l : Int) + 3 from by omega] at this
        exact this
      have HST : Hid (∃ a9 c9 w5 v6 w6, (Builtin.append_ #[36, 36] 36 #[.slice (some ⟨wr.heap.size, 0, none⟩) 0 (l + 3), .slice a1 l c1]).run Try.prog (wr.alloc (.cells (icells (List.replicate (l + 3) 0)).toArray 3)).drew = .ok (.slice a9 l c9) w5 ∧ w5.cell? ⟨b, off + k * 2, none⟩ = some (.bool b1) ∧ b < w5.heap.size ∧ (Builtin.append_ #[22, 22] 22 #[u5, .slice (some ⟨w5.heap.size, 0, none⟩) 1 1]).run Try.prog (w5.alloc (.cells #[.bool b1, .slice a9 l c9] 38)) = .ok v6 w6 ∧ OwnPath w6 w0.heap.size v6 (ss.take (k + 1)) ∧ Below w0.heap.size w0 w6) := by
        have hb0 : Below wr.heap.size wr (wr.alloc (.cells (icells (List.replicate (l + 3) 0)).toArray 3)).drew := ((Below.refl _ _).alloc (Nat.le_refl _) _).drew
        have hbs := HB.out.size
        obtain ⟨v5, w5, hr5, ho5, hb5⟩ := app_ird (n := 0) (ys := []) zs a1 c1 rfl (own_room wr (l + 3) (by omega)).drew hb0.size (by rw [HZE.out]; omega) (HI.out.below hb0)
        obtain ⟨a9, c9, rfl⟩ := own_shape ho5
        have e9 : (([] : List Int) ++ zs).length = l := HZE.out
        rw [e9, HZE.out] at hr5
        rw [e9, List.nil_append] at ho5
        have hb1 : Below wr.heap.size wr w5 := hb0.trans hb5
        have hB5 : Below w0.heap.size w0 w5 := HB.out.trans (hb1.mono hbs)
        obtain ⟨v6, w6, hr6, ho6, hb6⟩ := (HO.out.later hb1).snoc (b := b1) (zs := zs) (u := .slice a9 l c9) (by rw [HZE.out]; exact own_base ho5 hbs) rfl hB5.size hat w5.heap.size rfl
        exact ⟨a9, c9, w5, v6, w6, hr5, by rw [hb1.cell (p := ⟨b, off + k * 2, none⟩) z1]; exact d0, Nat.lt_of_lt_of_le z1 hb1.size, hr6, by rw [HT.out]; exact ho6, hB5.trans hb6⟩
      obtain ⟨a9, c9, w5, v6, w6, hr5, x0, x1, hr6, ho6, hb6⟩ := HST.out
      have HR5 := hide hr5
      have HR6 := hide hr6
      have HO6 := hide ho6
      have HB6 := hide hb6
      clear hr5 hr6 ho6 hb6 HST HO HB HI HT
      have hk0 : (0 : Int) ≤ (k : Int) := Int.natCast_nonneg _
      have hk1 : (k : Int) < (n : Int) := by omega
      go_wp2_with fail
      go_region_with (first
        | (refine kept_appendI_intro _ _ _ _ (.slice a9 l c9) (w' := w5) (by rfl) (by rfl) (by exact HR5.out) ?_)
        | (refine kept_appendS_intro _ _ _ (.slice (some ⟨w5.heap.size, 0, none⟩) 1 1) v6 (w' := w6) (by rfl) (by rfl) (by exact HR6.out) ?_))
      all_goals go_wp2
      all_goals exact ⟨⟨k + 1, by omega, by go_num, HO6, HB6⟩, by simp [intOf]; omega⟩
    · have hkl : ss.take k = ss := List.take_of_length_le (by rw [HN.out]; omega)
      rw [hkl] at HO
      clear hkl
      obtain ⟨wo, hwo⟩ : ∃ wo : World, wo = wr := ⟨wr, rfl⟩
      subst hwo
      have HSZ : Hid (ss.length ≤ 1000000 ∧ ∀ s ∈ ss, s.2.length ≤ 1000000) := ⟨by rw [HN.out]; omega, fun s hs9 => by have := sumP_mem ss s hs9; omega⟩
      obtain ⟨ai, ci, hv, hrdi⟩ := HO.out.rd HSZ.out.1 HSZ.out.2
      have hci : n ≤ ci := by
        have h9 := HO.out
        rw [hv] at h9
        have := h9.cap
        rw [HN.out] at this
        exact this
      rw [HN.out] at hv
      subst hv
      have hk0 : decide ((k : Int) < (n : Int)) = false := decide_eq_false (by omega)
      have HSP : Hid (n + sumP ss ≤ 50000) := by show n + sumP ss ≤ 50000; omega
      have HQL : Hid ((prepP z ss).length ≤ 3001 ∧ sumP (prepP z ss) ≤ 3001) := by
        have h1 := prepP_len z ss
        have h2 := prepP_sum z ss
        rw [HN.out] at h1
        exact ⟨by omega, by omega⟩
      have HQS : Hid ((prepP z ss).length ≤ 1000000 ∧ ∀ s ∈ prepP z ss, s.2.length ≤ 1000000) := ⟨by have := HQL.out; omega, fun s hs9 => by have := sumP_mem _ s hs9; have := HQL.out; omega⟩
      have HDI := hide hrdi
      have KP : Hid (∀ w1 a1 c1, n ≤ c1 → PthRd w1 a1 ss → Calls Try.prog 24 #[.slice a1 n c1, .int .i64 z] w1 fun e w' => ∃ v, e = .returned v ∧ OwnPath w' w1.heap.size v (prepP z ss) ∧ Below w1.heap.size w1 w') := fun w1 a1 c1 hc1 h1 => by
        have := prepend_any a1 c1 ss z w1 (by rw [HN.out]; exact HSP.out) (by rw [HN.out]; exact hc1) h1
        rw [HN.out] at this
        exact this
      have KS : Hid (∀ w1, PthRd w1 ai ss → PthRd w1 a ss → Calls Try.prog 16 #[.slice ai n ci, .slice a n c] w1 fun e w' => e = .returned (.bool true) ∧ ∃ m, w' = w1.drewN m) := fun w1 h1 h2 => by
        have := samepath_any ai a ci c ss ss w1 (by have := HSP.out; have := HN.out; omega) (by have := HSP.out; omega) h1 h2
        rw [eqP_self, HN.out] at this
        exact this
      have KR : Hid (∀ w1, PthRd w1 a ss → Calls Try.prog 25 #[.slice a n c, .int .i64 z] w1 fun e w' => PrepRes w1 w' (prepP z ss) e) := fun w1 h1 => by
        have := rprep_any a c ss z w1 (by rw [HN.out]; omega) (by rw [HN.out]; exact hlc) h1
        rw [HN.out] at this
        exact this
      have KL : Hid (∀ w1, PthRd w1 a ss → Calls Try.prog 20 #[.slice a n c] w1 fun e w' => e = .returned (.int .i64 (lenP ss : Int)) ∧ Below w1.heap.size w1 w') := fun w1 h1 => by
        have := len_any a c ss w1 (by have := HSP.out; have := HN.out; omega) h1
        rw [HN.out] at this
        exact this
      have HLP := hide (lenP_prep z ss)
      have hlb : lenP ss ≤ 10000 := by
        have := lenP_take ss ss.length
        rw [List.take_length, HN.out] at this
        omega
      clear hrdi HO
      go_wp2_with fail
      refine (KP.out _ ai ci hci HDI.out).mono ?_
      rintro e w1 ⟨vq, rfl, hoq, hb1⟩
      obtain ⟨G, C, rfl, _⟩ := Bump.of_own hoq (prepP_pos z ss)
      have HOQ := hide hoq
      have HB1 := hide hb1
      have HP1 : Hid (PthRd w1 a ss) := H.out.below (HB.out.trans (hb1.mono HB.out.size))
      clear hoq hb1
      have HPP := hide (prepP_pos z ss)
      obtain ⟨ns, hns⟩ : ∃ ns : Nat → Nat, ns = fun i => ((prepP z ss).getD i (false, [])).2.length := ⟨_, rfl⟩
      have HNS : Hid (∀ i, i < (prepP z ss).length → ns i ≤ 4000) := fun i hi => by
        rw [hns]
        show ((prepP z ss).getD i (false, [])).2.length ≤ 4000
        have hs : (prepP z ss)[i]? = some (prepP z ss)[i] := List.getElem?_eq_getElem hi
        have hd : (prepP z ss).getD i (false, []) = (prepP z ss)[i] := by simp [List.getD_eq_getElem?_getD, hs]
        rw [hd]
        have := sumP_mem _ _ (List.getElem_mem hi)
        have := HQL.out
        omega
      have HNE := hide hns
      clear hns
      go_wp2_with fail
      refine (KS.out _ (HDI.out.below HB1.out) HP1.out).mono ?_
      rintro e w2 ⟨rfl, m2, rfl⟩
      have hd2 : Below w1.heap.size w1 (w1.drewN m2) := below_drewN (Below.refl _ _) m2
      have HOQ2 := hide (HOQ.out.later hd2)
      have HB2 : Hid (Below wo.heap.size wo (w1.drewN m2)) := HB1.out.trans (hd2.mono HB1.out.size)
      have HP2 := hide (HP1.out.below hd2)
      generalize w1.drewN m2 = w2 at *
      clear hd2 HOQ HB1 HP1
      go_wp2_with fail
      refine (KR.out _ HP2.out).mono ?_
      rintro e w3 ⟨⟨a3, c3, rfl, hrd3⟩, hb3⟩
      have HOQ3 := hide (HOQ2.out.later hb3)
      have HB3 : Hid (Below wo.heap.size wo w3) := HB2.out.trans (hb3.mono HB2.out.size)
      have HD3 := hide hrd3
      clear hrd3 hb3 HOQ2 HB2 HP2 KR
      have HS3 : Hid (Calls Try.prog 16 #[.slice (some ⟨G, 0, none⟩) (prepP z ss).length C, .slice a3 (prepP z ss).length c3] w3 fun e w' => e = .returned (.bool true) ∧ ∃ m, w' = w3.drewN m) := by
        obtain ⟨aq, cq, e9, hrq⟩ := HOQ3.out.rd HQS.out.1 HQS.out.2
        simp only [Value.slice.injEq, true_and] at e9
        obtain ⟨rfl, rfl⟩ := e9
        have := samepath_any (some ⟨G, 0, none⟩) a3 C c3 (prepP z ss) (prepP z ss) w3 (by have := HQL.out; omega) (by have := HQL.out; omega) hrq HD3.out
        rw [eqP_self] at this
        exact this
      generalize hnp : (prepP z ss).length = np at *
      have HNP := hide hnp
      clear hnp
      go_wp2_with fail
      refine HS3.out.mono ?_
      rintro e w4 ⟨rfl, m4, rfl⟩
      have hd4 : Below w3.heap.size w3 (w3.drewN m4) := below_drewN (Below.refl _ _) m4
      have HOQ4 := hide (HOQ3.out.later hd4)
      have HB4 : Hid (Below wo.heap.size wo (w3.drewN m4)) := HB3.out.trans (hd4.mono HB3.out.size)
      generalize w3.drewN m4 = w4 at *
      have HBM : Hid (Bump w4 wo.heap.size G np ns) := by
        show Bump _ _ _ _ _
        rw [HNE.out]
        obtain ⟨G9, C9, e9, hb9⟩ := Bump.of_own HOQ4.out (by rw [HNP.out]; exact HPP.out)
        simp only [Value.slice.injEq, Option.some.injEq, Addr.mk.injEq, and_true] at e9
        obtain ⟨rfl, _, rfl⟩ := e9
        rw [HNP.out] at hb9
        exact hb9
      clear hd4 HOQ3 HB3 HS3 HD3 HOQ4
      have hnp2 : np ≤ 3001 := HQL.out.1
      go_wp2
      go_loopw [8] (fun i wq => ∃ q : Nat, q ≤ np ∧ i = .int .i64 q ∧ Hid (Bump wq wo.heap.size G np ns) ∧ Hid (Below wo.heap.size wo wq)) (fun i _ => np - (intOf i).toNat)
      case atStart => exact ⟨0, Nat.zero_le _, rfl, HBM, HB4⟩
      case round =>
        clear HBM HB4
        obtain ⟨q, hq, rfl, HBM, HB4⟩ := hrel
        by_cases hqn : q < np
        · have hq0 : (0 : Int) ≤ (q : Int) := Int.natCast_nonneg _
          have hq1 : (q : Int) < (np : Int) := by omega
          have hnsq := HNS.out q hqn
          go_wp2
          go_loopw [9] (fun i wq => ∃ j : Nat, j ≤ ns q ∧ i = .int .i64 j ∧ Hid (Bump wq wo.heap.size G np ns) ∧ Hid (Below wo.heap.size wo wq)) (fun i _ => ns q - (intOf i).toNat)
          case atStart => exact ⟨0, Nat.zero_le _, rfl, HBM, HB4⟩
          case round =>
            clear HBM HB4
            obtain ⟨j, hj, rfl, HBM, HB4⟩ := hrel
            obtain ⟨a', c', t1, t2⟩ := HBM.out q hqn
            have HT2 := hide t2
            clear t2
            have zG := World.block_lt_of_cell? wr _ t1
            simp only at zG
            by_cases hjn : j < ns q
            · obtain ⟨g, rfl, hgB, hgG, ⟨x, hx⟩, hz⟩ := HT2.out j hjn
              have hj0 : (0 : Int) ≤ (j : Int) := Int.natCast_nonneg _
              have hj1 : (j : Int) < (ns q : Int) := by omega
              have zg := World.block_lt_of_cell? wr _ hx
              simp only at zg
              have HBM2 := hide (fun y => HBM.out.set g j x y hgG hx)
              have HB5 := hide (fun y => HB4.out.setCell (p := ⟨g, j, none⟩) hgB y)
              have HGG := hide hgG
              clear hgG HBM HB4
              go_wp2
              exact ⟨⟨j + 1, by omega, by go_num, HBM2.out _, HB5.out _⟩, by simp [intOf]; omega⟩
            · have hj1 : decide ((j : Int) < (ns q : Int)) = false := decide_eq_false (by omega)
              go_wp2
              exact ⟨⟨q + 1, by omega, by go_num, HBM, HB4⟩, by simp [intOf]; omega⟩
        · have hq1 : decide ((q : Int) < (np : Int)) = false := decide_eq_false (by omega)
          clear HBM
          go_wp2_with fail
          refine (answers_any _).mono ?_
          rintro e w5 ⟨rfl, hb5⟩
          have HB5 : Hid (Below wo.heap.size wo w5) := HB4.out.trans (hb5.mono HB4.out.size)
          clear hb5 HB4
          go_wp2_with fail
          refine (KS.out _ (HDI.out.below HB5.out) (H.out.below (HB.out.trans (HB5.out.mono HB.out.size)))).mono ?_
          rintro e w6 ⟨rfl, m6, rfl⟩
          have HB6 : Hid (Below w0.heap.size w0 (w5.drewN m6)) := below_drewN (HB.out.trans (HB5.out.mono HB.out.size)) m6
          generalize w5.drewN m6 = w6 at *
          clear HB5 KS
          go_wp2_with fail
          refine (KP.out _ a c hlc (H.out.below HB6.out)).mono ?_
          rintro e w7 ⟨v7, rfl, ho7, hb7⟩
          have HB7 : Hid (Below w0.heap.size w0 w7) := HB6.out.trans (hb7.mono HB6.out.size)
          obtain ⟨a7, c7, rfl, hrd7⟩ := ho7.rd (by rw [HNP.out]; exact HQS.out.1) HQS.out.2
          have K7 := hide (len_any a7 c7 (prepP z ss) w7 (by rw [HNP.out]; have := HQL.out; omega) hrd7)
          rw [HNP.out] at K7
          rw [HNP.out]
          clear ho7 hb7 hrd7 HB6 KP
          go_wp2_with fail
          refine K7.out.mono ?_
          rw [HLP.out]
          rintro e w8 ⟨rfl, hb8⟩
          have HB8 : Hid (Below w0.heap.size w0 w8) := HB7.out.trans (hb8.mono HB7.out.size)
          clear hb8 HB7 K7
          go_wp2_with fail
          refine (KL.out _ (H.out.below HB8.out)).mono ?_
          rintro e w9 ⟨rfl, hb9⟩
          have HB9 : Hid (Below w0.heap.size w0 w9) := HB8.out.trans (hb9.mono HB8.out.size)
          clear hb9 HB8 KL
          go_wp2
          go_ret
          exact ⟨by simp, HB9.out⟩
end
set_option maxHeartbeats 400000 in
theorem preps_great (a : Option Addr) (c n : Nat) (ss : List (Bool × List Int)) (z : Int) (w : World) (hn : ss.length = n) (hz : sizeP ss) (h : PthRd w a ss) (hs : smallP ss = false) :
    Calls Try.prog 6 #[.slice a n c, .int .i64 z] w fun e w' => e = .returned (.bool true) ∧ Below w.heap.size w w' := by
  have K0 := hide (small_any a c ss w hz.1 hz.2 h)
  rw [hs, hn] at K0
  clear h hz hs hn
  go_enter Try.func6, Try.ntmps6
  go_wp2_with fail
  refine K0.out.mono ?_
  rintro e w0 ⟨rfl, rfl⟩
  go_wp2_with fail
  refine (answers_any _).mono ?_
  rintro e w3 ⟨rfl, hb3⟩
  have HB3 := hide hb3
  clear hb3
  go_wp2
  go_ret
  exact ⟨rfl, HB3.out⟩
theorem pathPrepends_walk (a : Option Addr) (c : Nat) (ss : List (Bool × List Int)) (z : Int) (w : World) (hc : ss.length ≤ c) (hz : sizeP ss) (h : PthRd w a ss) (_hw : (Lit.int IntKind.i64 z).wf = true) :
    Calls Try.prog 6 #[.slice a ss.length c, .int .i64 z] w fun e w' => e = .returned (.bool true) ∧ Below w.heap.size w w' := by
  cases hs : smallP ss with
  | true => exact preps_small a c _ ss z w rfl hc hz h hs
  | false => exact preps_great a c _ ss z w rfl hz h hs
end Go.Proofs.Ytnfokbpnjhhiiaa
