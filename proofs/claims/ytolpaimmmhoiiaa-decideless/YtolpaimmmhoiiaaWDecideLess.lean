/- The walk of DecideLess. -/
import Derived.Test.YtolpaimmmhoiiaaDdS
namespace Go.Proofs.Ytolpaimmmhoiiaa
open Go.RowKit
set_option maxRecDepth 100000

/-- None of the first k tells a Med above 0. -/
def Low (all : List Rt) (k : Nat) : Prop := ∀ (j : Nat) (r : Rt), j < k → all[j]? = some r → r.att.med ≤ 0
theorem fine_less {all : List Rt} {k : Nat} (hk : k < all.length) (h : ∀ (j : Nat) (r : Rt), all[j]? = some r → FineR r) : ∀ (j : Nat) (r : Rt), (lessR k all)[j]? = some r → FineR r := fun j r hr => by
  rw [lessR_at hk j] at hr
  exact h _ r hr
theorem two_none {n : Int} {ok : Bool} (h : bestV none = .tuple #[.int .i64 n, .bool ok]) : n = 0 ∧ ok = false := by
  have h9 : Value.tuple #[.int .i64 0, .bool false] = .tuple #[.int .i64 n, .bool ok] := h
  simp only [Value.tuple.injEq, Array.mk.injEq, List.cons.injEq, Value.int.injEq, Value.bool.injEq, true_and, and_true] at h9
  exact ⟨h9.1.symm, h9.2.symm⟩
theorem two_some {j : Nat} {n : Int} {ok : Bool} (h : bestV (some j) = .tuple #[.int .i64 n, .bool ok]) : n = (j : Int) ∧ ok = true := by
  have h9 : Value.tuple #[.int .i64 (j : Int), .bool true] = .tuple #[.int .i64 n, .bool ok] := h
  simp only [Value.tuple.injEq, Array.mk.injEq, List.cons.injEq, Value.int.injEq, Value.bool.injEq, true_and, and_true] at h9
  exact ⟨h9.1.symm, h9.2.symm⟩
set_option maxHeartbeats 6400000 in
theorem decideLess_walk (num : Int) (ai : Option Addr) (ci : Nat) (infos : List Inf) (al : Option Addr) (cl : Nat) (all : List Rt) (zt : Int) (w : World) (hid : ∀ x ∈ infos, x.id < 4294967296) (I : InfsRd w ai infos) (hm : all.length ≤ 1152921504606846976) (hb : ∀ x ∈ all, BigR x) (hcap : all.length ≤ cl) (R : RtsRd w al all) (hz0 : 0 ≤ zt) (hz1 : zt < 256) :
    Calls Try.prog 5 #[.int .i64 num, .slice ai infos.length ci, .slice al all.length cl, .int .u8 zt] w fun e w' => e = .returned (.bool true) ∧ Below w.heap.size w w' := by
  have KS := hide (smallD_any al cl all w hm hb R)
  have KA : Hid (∀ W, Calls Try.prog 9 #[] W fun e w' => e = .returned (.bool true) ∧ Below W.heap.size W w') := answersD_any
  have KB : Hid (∀ W, Below w.heap.size w W → infos.length ≤ 20 → (all.length < 3000 ∧ ∀ (j : Nat) (r : Rt), all[j]? = some r → FineR r) → Calls Try.prog 10 #[.int .i64 num, .slice ai infos.length ci, .slice al all.length cl] W fun e w' => e = .returned (bestV (bestB num infos all)) ∧ Below W.heap.size W w') := fun W h9 hl hf => pbest_any num ai ci infos al cl all W (by omega) ⟨fitQ_of (by omega) hid hf.2, R.below h9, I.below h9⟩
  have KT : Hid (∀ W k a c, Below w.heap.size w W → RtsRd W a (lessR k all) → k < all.length → infos.length ≤ 20 → (all.length < 3000 ∧ ∀ (j : Nat) (r : Rt), all[j]? = some r → FineR r) → Calls Try.prog 10 #[.int .i64 num, .slice ai infos.length ci, .slice a (lessR k all).length c] W fun e w' => e = .returned (bestV (bestB num infos (lessR k all))) ∧ Below W.heap.size W w') := fun W k a c h9 hr hk hl hf => pbest_any num ai ci infos a c (lessR k all) W (by rw [lessR_length hk]; omega) ⟨fitQ_of (by omega) hid (fine_less hk hf.2), hr, I.below h9⟩
  have HTB : Hid (∀ k, k < all.length → Low all all.length → bestB num infos all ≠ some k → (bestB num infos all = none ∧ bestB num infos (lessR k all) = none) ∨ ∃ n m, bestB num infos all = some n ∧ bestB num infos (lessR k all) = some m ∧ n = if k < n then m + 1 else m) := fun k hk hu hne => less_best hk (fun j r hr => hu j r (List.getElem?_eq_some_iff.1 hr).1 hr) hne
  have HBL : Hid (∀ n, bestB num infos all = some n → n < all.length) := fun n h => steps_lt (best_first h).1
  have HBT : Hid (∀ k n, k < all.length → bestB num infos (lessR k all) = some n → n < all.length) := fun k n hk h => by
    have := steps_lt (best_first h).1
    rw [lessR_length hk] at this
    omega
  have HR := hide R
  clear hid I hm hb R
  obtain ⟨P, hP⟩ : ∃ P, P = (all.length < 3000 ∧ ∀ (j : Nat) (r : Rt), all[j]? = some r → FineR r) := ⟨_, rfl⟩
  rw [← hP] at KS KB KT
  have HPE := hide hP
  clear hP
  obtain ⟨m, hm⟩ : ∃ m, m = all.length := ⟨_, rfl⟩
  rw [← hm] at KS KB hcap HTB HBL HBT KT ⊢
  have HM := hide hm
  clear hm
  generalize bestB num infos all = bb at *
  generalize infos.length = ni at *
  obtain ⟨Z, rfl⟩ := Int.eq_ofNat_of_zero_le hz0
  have hZ : Z < 256 := by omega
  clear hz0 hz1
  go_enter Try.func5, Try.ntmps5
  go_wp2_with fail
  refine KS.out.mono ?_
  rintro e w1 ⟨⟨z, rfl, hz⟩, b1⟩
  have HZ := hide hz
  have HB1 := hide b1
  clear hz b1 KS
  cases z with
  | false =>
    go_wp2_with fail
    refine (KA.out _).mono ?_
    rintro e w2 ⟨rfl, b2⟩
    have HB2 : Hid (Below w.heap.size w w2) := HB1.out.trans (b2.mono HB1.out.size)
    clear b2
    go_wp2
    go_ret
    exact ⟨rfl, HB2.out⟩
  | true =>
    have HP := hide (HZ.out rfl)
    clear HZ
    have HFN : Hid (m < 3000) := by
      have h := HP.out
      rw [HPE.out, ← HM.out] at h
      exact h.1
    by_cases h0 : m < 2
    · have f0 : (m : Int) < 2 := by omega
      go_wp2_with fail
      refine (KA.out _).mono ?_
      rintro e w2 ⟨rfl, b2⟩
      have HB2 : Hid (Below w.heap.size w w2) := HB1.out.trans (b2.mono HB1.out.size)
      clear b2
      go_wp2
      go_ret
      exact ⟨rfl, HB2.out⟩
    · have f0 : decide ((m : Int) < 2) = false := decide_eq_false (by omega)
      have f00 : decide (m < 2) = false := decide_eq_false h0
      by_cases hl : ni ≤ 20
      · have f1 : decide (20 < ni) = false := decide_eq_false (by omega)
        have f2 : decide ((20 : Int) < (ni : Int)) = false := decide_eq_false (by omega)
        have hm3 := HFN.out
        have HRW := hide (HR.out.below HB1.out)
        have hmp : 0 < m := by omega
        obtain ⟨g, o, rfl, hc⟩ := HRW.out (by rw [← HM.out]; exact hmp)
        have HC := hide hc
        clear hc
        go_wp2_with fail
        go_loop [9] (fun i => ∃ k : Nat, k ≤ m ∧ i = .int .i64 k ∧ Hid (Low all k)) (fun i => m - (intOf i).toNat)
        case atStart => exact ⟨0, Nat.zero_le _, rfl, fun j r h => absurd h (by omega)⟩
        case round =>
          obtain ⟨k, hk, rfl, HU⟩ := hrel
          have hk0 : (0 : Int) ≤ (k : Int) := Int.natCast_nonneg _
          by_cases hlt : k < m
          · have hkm : (k : Int) < (m : Int) := by omega
            have hkl : k < all.length := by rw [← HM.out]; exact hlt
            obtain ⟨_, _, _, _, _, _, rt1⟩ := HC.out k _ (List.getElem?_eq_getElem hkl)
            have c1 : w1.cell? ⟨g, o + k * 11 + 6, none⟩ = some (.int .i64 (all[k]).att.med) := rt1.1 6 _ rfl
            have zg := World.block_lt_of_cell? w1 _ c1
            simp only at zg
            have HU2 : Hid ((all[k]).att.med ≤ 0 → Low all (k + 1)) := fun hle j r hj hr => by
              by_cases e : j = k
              · subst e
                rw [List.getElem?_eq_getElem hkl] at hr
                cases hr
                exact hle
              · exact HU.out j r (by omega) hr
            clear rt1
            generalize (all[k]).att.med = p1 at *
            by_cases hp : 0 < p1
            · go_wp2_with fail
              refine (KA.out _).mono ?_
              rintro e w3 ⟨rfl, b3⟩
              have HB4 : Hid (Below w.heap.size w w3) := HB1.out.trans (b3.mono HB1.out.size)
              clear b3
              go_wp2
              go_ret
              exact ⟨rfl, HB4.out⟩
            · have HU3 := hide (HU2.out (by omega))
              have fp : decide (0 < p1) = false := decide_eq_false hp
              clear hp HU2
              go_wp2
              exact ⟨⟨k + 1, by omega, by go_num, HU3⟩, by simp [intOf]; omega⟩
          · have hkm : k = m := by omega
            have jlt : decide (k < m) = false := decide_eq_false hlt
            have jlt2 : decide ((k : Int) < (m : Int)) = false := decide_eq_false (by omega)
            have HUA : Hid (Low all m) := by rw [hkm] at HU; exact HU
            have HBW := HB1
            obtain ⟨kk, hkk⟩ : ∃ kk, kk = Z % m := ⟨_, rfl⟩
            have hkkm : kk < m := by rw [hkk]; exact Nat.mod_lt _ hmp
            have hrem : Int.tmod (Z : Int) (m : Int) = (kk : Int) := by
              rw [Int.tmod_eq_emod_of_nonneg (by omega), hkk]
              exact (Int.natCast_emod Z m).symm
            have hrem2 : Int.emod (Z : Int) (m : Int) = (kk : Int) := by
              rw [hkk]
              exact (Int.natCast_emod Z m).symm
            have wz : IntKind.i64.wrap (Z : Int) = (Z : Int) := by rw [IntKind.wrap_i64]; omega
            have wk : IntKind.i64.wrap (kk : Int) = (kk : Int) := by rw [IntKind.wrap_i64]; omega
            have hmne : ¬ (m : Int) = 0 := by omega
            have K1 := hide (KB.out w1 HBW.out hl HP.out)
            obtain ⟨n, ok, hv⟩ := bestV_two bb
            have HV := hide hv
            rw [hv] at K1
            clear hv hkk KB
            go_wp2_with fail
            refine K1.out.mono ?_
            rintro e w4 ⟨rfl, b4⟩
            have HB4 : Hid (Below w.heap.size w w4) := HBW.out.trans (b4.mono HBW.out.size)
            have hb4 : Below w1.heap.size w1 w4 := b4
            obtain ⟨b, off, xs, eal, hrows, hcells⟩ := rows_of (HRW.out.below hb4) (by rw [← HM.out]; exact hmp)
            have ebo : b = g ∧ off = o := by
              injection eal with e1
              injection e1 with e2 e3
              exact ⟨e2.symm, e3.symm⟩
            obtain ⟨rfl, rfl⟩ := ebo
            by_cases hkn : (kk : Int) = n
            · have fkn : ((kk : Int) == n) = true := by simpa using hkn
              clear hrows hcells eal hb4
              subst hkn
              go_wp2_with fail
              refine (KA.out _).mono ?_
              rintro e w12 ⟨rfl, b12⟩
              have HB12 : Hid (Below w.heap.size w w12) := HB4.out.trans (b12.mono HB4.out.size)
              clear b12
              go_wp2
              go_ret
              exact ⟨rfl, HB12.out⟩
            have fkn : ((kk : Int) == n) = false := by simpa using hkn
            have hbn : bb ≠ some kk := fun e => by
              have x1 := HV.out
              rw [e] at x1
              exact hkn (two_some x1).1.symm
            have HTR : Hid (∀ W : World, Below w4.heap.size w4 W → ∃ v6 w6 a c w10, (Builtin.append_ #[23, 23] 23 #[.slice (some ⟨W.heap.size, 0, none⟩) 0 0, .slice (some ⟨b, off, none⟩) kk cl]).run Try.prog (W.alloc (.cells #[] 41)) = .ok v6 w6 ∧ (Builtin.append_ #[23, 23] 23 #[v6, .slice (some (if cl = kk + 1 then ⟨b, off, none⟩ else ⟨b, off + (kk + 1) * 11, none⟩)) (m - (kk + 1)) (cl - (kk + 1))]).run Try.prog w6 = .ok (.slice a (lessR kk all).length c) w10 ∧ RtsRd w10 a (lessR kk all) ∧ Below W.heap.size W w6 ∧ Below W.heap.size W w10) := fun W hW => by
              rw [HM.out]
              exact less_rows hrows hcells (by rw [← HM.out]; exact hkkm) (by rw [← HM.out]; omega) W hW cl cl (cl - (kk + 1)) (by rw [← HM.out]; exact hcap)
            have HFR : Hid (∀ W, (Instr.sliceAt 23 (.slice (some ⟨b, off, none⟩) m cl) (some (.int .i64 ((kk : Int) + 1))) none none).run Try.prog W = .ok (.slice (some (if cl = kk + 1 then ⟨b, off, none⟩ else ⟨b, off + (kk + 1) * 11, none⟩)) (m - (kk + 1)) (cl - (kk + 1))) W) := fun W => run_from W b off m cl (kk + 1) (by omega)
            have HTI : Hid (∀ W, (Instr.sliceAt 23 (.slice (some ⟨b, off, none⟩) m cl) none (some (.int .i64 (kk : Int))) none).run Try.prog W = .ok (.slice (some ⟨b, off, none⟩) kk cl) W) := fun W => run_till W b off m cl kk (by omega)
            clear hb4 eal hrows hcells HC
            obtain ⟨n2, ok2, hv2⟩ := bestV_two (bestB num infos (lessR kk all))
            have HV2 := hide hv2
            have KT2 := hide (fun W a c h1 h2 => KT.out W kk a c h1 h2 hkkm hl HP.out)
            rw [hv2] at KT2
            have HTB2 := hide (HTB.out kk hkkm HUA.out hbn)
            have HTN := hide (fun n h => HBT.out kk n hkkm h)
            have wk1 : IntKind.i64.wrap ((kk : Int) + 1) = (kk : Int) + 1 := by rw [IntKind.wrap_i64]; omega
            clear hv2 KT HTB HBT
            generalize bestB num infos (lessR kk all) = bt at *
            generalize lessR kk all = tr at *
            go_wp2_with fail
            generalize hAA : (if cl = kk + 1 then (⟨b, off, none⟩ : Addr) else ⟨b, off + (kk + 1) * 11, none⟩) = AA at *
            clear hAA
            refine region_ord (fun w' => Below w4.heap.size w4 w') (fun k => k == 2 || k == 6 || k == 11 || k == 12) [0, 1, 3, 4, 5, 7, 8, 9, 10, 2, 6, 11, 12, 13, 14, 15, 16, 17] (by kernel_rfl) (by kernel_rfl) rfl (by kernel_rfl) (Below.refl _ _).drew ?_
            refine ord_q (by rfl) (by rfl) (by rfl) (fun w9 h9 => (by go_simp; first | done | rfl)) (by go_simp; first | done | rfl) ?_
            refine ord_q (by rfl) (by rfl) (by rfl) (fun w9 h9 => (by go_simp; first | done | rfl)) (by go_simp; first | done | rfl) ?_
            refine ord_q (by rfl) (by rfl) (by rfl) (fun w9 h9 => (by go_simp; first | done | rfl)) (by go_simp; first | done | rfl) ?_
            refine ord_q (by rfl) (by rfl) (by rfl) (fun w9 h9 => (by go_simp; first | done | rfl)) (by go_simp; first | done | rfl) ?_
            refine ord_q (by rfl) (by rfl) (by rfl) (fun w9 h9 => exec_till (by rfl) (by rfl) (HTI.out w9)) (by go_simp; first | done | rfl) ?_
            refine ord_q (by rfl) (by rfl) (by rfl) (fun w9 h9 => (by go_simp; first | done | rfl)) (by go_simp; first | done | rfl) ?_
            refine ord_q (by rfl) (by rfl) (by rfl) (fun w9 h9 => (by go_simp; first | done | rfl)) (by go_simp; first | done | rfl) ?_
            refine ord_q (by rfl) (by rfl) (by rfl) (fun w9 h9 => (by go_simp; first | done | rfl)) (by go_simp; first | done | rfl) ?_
            refine ord_q (by rfl) (by rfl) (by rfl) (fun w9 h9 => exec_from (by rfl) (by rfl) (HFR.out w9)) (by go_simp; first | done | rfl) ?_
            obtain ⟨v6, w6, a10, c10, w10, hr6, hr10, hrd10, hb6, hb10⟩ := HTR.out w4.drew (Below.refl _ _).drew
            have hs4 : w4.drew.heap.size = w4.heap.size := by simp
            refine ord_l (by rfl) (by rfl) (by rfl) ?_
            refine wp_build0 _ _ (run_norows _) ?_
            refine ⟨(Below.refl _ _).drew.alloc (by simp) _, ?_⟩
            refine ord_l (by rfl) (by rfl) (by rfl) ?_
            refine wp_app _ _ _ _ _ (by rfl) (by rfl) hr6 ?_
            have hbw6 : Below w4.heap.size w4 w6 := Below.trans (Below.refl _ _).drew (hb6.mono (by rw [hs4]; exact Nat.le_refl _))
            refine ⟨hbw6, ?_⟩
            refine ord_l (by rfl) (by rfl) (by rfl) ?_
            refine wp_app _ _ _ _ _ (by rfl) (by rfl) hr10 ?_
            have hbw10 : Below w4.heap.size w4 w10 := Below.trans (Below.refl _ _).drew (hb10.mono (by rw [hs4]; exact Nat.le_refl _))
            refine ⟨hbw10, ?_⟩
            have HB10 : Hid (Below w.heap.size w w10) := HB4.out.trans (hbw10.mono HB4.out.size)
            have K2 := hide (KT2.out w10 a10 c10 HB10.out hrd10)
            have HBQ10 := hide hbw10
            clear hr6 hr10 hrd10 hb6 hb10 hbw6 hbw10 KT2 HTR HFR HTI hs4
            generalize tr.length = ltr at *
            refine ord_l (by rfl) (by rfl) (by rfl) ?_
            go_simp
            refine K2.out.mono ?_
            rintro e w11 ⟨rfl, b11⟩
            refine ⟨HBQ10.out.trans (b11.mono HBQ10.out.size), ?_⟩
            have HB11 : Hid (Below w.heap.size w w11) := HB10.out.trans (b11.mono HB10.out.size)
            clear b11 K2
            repeat refine ord_q (by rfl) (by rfl) (by rfl) (fun w9 h9 => (by go_simp; first | done | rfl)) (by go_simp; first | done | rfl) ?_
            refine ⟨fun _ h => (by cases h), ?_⟩
            rcases HTB2.out with ⟨e1, e2⟩ | ⟨q1, q2, e1, e2, e3⟩
            · have x1 := HV.out
              have x2 := HV2.out
              rw [e1] at x1
              rw [e2] at x2
              obtain ⟨rfl, rfl⟩ := two_none x1
              obtain ⟨rfl, rfl⟩ := two_none x2
              have j0 : decide ((kk : Int) < 0) = false := decide_eq_false (by omega)
              clear x1 x2 e1 e2 HV HV2 hbn HTB2 HTN
              go_wp2_with fail
              refine (KA.out _).mono ?_
              rintro e w12 ⟨rfl, b12⟩
              have HB12 : Hid (Below w.heap.size w w12) := HB11.out.trans (b12.mono HB11.out.size)
              clear b12
              go_wp2
              go_ret
              exact ⟨rfl, HB12.out⟩
            · have x1 := HV.out
              have x2 := HV2.out
              rw [e1] at x1
              rw [e2] at x2
              obtain ⟨rfl, rfl⟩ := two_some x1
              obtain ⟨rfl, rfl⟩ := two_some x2
              have hq2 := HTN.out q2 e2
              clear x1 x2 e1 e2 HV HV2 hbn HTB2 HTN
              by_cases hlq : kk < q1
              · rw [if_pos hlq] at e3
                subst e3
                have j1 : (kk : Int) < ((q2 + 1 : Nat) : Int) := by omega
                have jq : ((q2 + 1 : Nat) : Int) = (q2 : Int) + 1 := by omega
                have wq : IntKind.i64.wrap ((q2 : Int) + 1) = (q2 : Int) + 1 := by rw [IntKind.wrap_i64]; omega
                go_wp2_with fail
                refine (KA.out _).mono ?_
                rintro e w12 ⟨rfl, b12⟩
                have HB12 : Hid (Below w.heap.size w w12) := HB11.out.trans (b12.mono HB11.out.size)
                clear b12
                go_wp2
                go_ret
                exact ⟨rfl, HB12.out⟩
              · rw [if_neg hlq] at e3
                subst e3
                have j1 : decide ((kk : Int) < (q1 : Int)) = false := decide_eq_false (by omega)
                have j2 : decide (kk < q1) = false := decide_eq_false hlq
                go_wp2_with fail
                refine (KA.out _).mono ?_
                rintro e w12 ⟨rfl, b12⟩
                have HB12 : Hid (Below w.heap.size w w12) := HB11.out.trans (b12.mono HB11.out.size)
                clear b12
                go_wp2
                go_ret
                exact ⟨rfl, HB12.out⟩
      · have f3 : (20 : Int) < (ni : Int) := by omega
        go_wp2_with fail
        refine (KA.out _).mono ?_
        rintro e w2 ⟨rfl, b2⟩
        have HB2 : Hid (Below w.heap.size w w2) := HB1.out.trans (b2.mono HB1.out.size)
        clear b2
        go_wp2
        go_ret
        exact ⟨rfl, HB2.out⟩
end Go.Proofs.Ytolpaimmmhoiiaa
