/- The walk of DecideOrder. -/
import Derived.Test.YtolpaimmmhoiiaaDdS
namespace Go.Proofs.Ytolpaimmmhoiiaa
open Go.RowKit
set_option maxRecDepth 100000

/-- Of the first k none has another one's peer. -/
def Unl (all : List Rt) (k : Nat) : Prop := ∀ (i j : Nat) (a b : Rt), i < k → j < i → all[i]? = some a → all[j]? = some b → a.peer ≠ b.peer
theorem Unl.all {all : List Rt} (h : Unl all all.length) : ∀ (i j : Nat) (a b : Rt), all[i]? = some a → all[j]? = some b → a.peer = b.peer → i = j := fun i j a b ha hb he => by
  have hi := (List.getElem?_eq_some_iff.1 ha).1
  have hj := (List.getElem?_eq_some_iff.1 hb).1
  rcases Nat.lt_trichotomy i j with h1 | h1 | h1
  · exact absurd he.symm (h j i b a hj h1 hb ha)
  · exact h1
  · exact absurd he (h i j a b hi h1 ha hb)
theorem fine_turn {all : List Rt} {k : Nat} (hk : k < all.length) (h : ∀ (j : Nat) (r : Rt), all[j]? = some r → FineR r) : ∀ (j : Nat) (r : Rt), (turnR k all)[j]? = some r → FineR r := fun j r hr => by
  have hj : j < all.length := by
    have := (List.getElem?_eq_some_iff.1 hr).1
    rwa [turnR_length] at this
  rw [turnR_at hk hj] at hr
  exact h _ r hr
theorem two_none {n : Int} {ok : Bool} (h : bestV none = .tuple #[.int .i64 n, .bool ok]) : n = 0 ∧ ok = false := by
  have h9 : Value.tuple #[.int .i64 0, .bool false] = .tuple #[.int .i64 n, .bool ok] := h
  simp only [Value.tuple.injEq, Array.mk.injEq, List.cons.injEq, Value.int.injEq, Value.bool.injEq, true_and, and_true] at h9
  exact ⟨h9.1.symm, h9.2.symm⟩
theorem two_some {j : Nat} {n : Int} {ok : Bool} (h : bestV (some j) = .tuple #[.int .i64 n, .bool ok]) : n = (j : Int) ∧ ok = true := by
  have h9 : Value.tuple #[.int .i64 (j : Int), .bool true] = .tuple #[.int .i64 n, .bool ok] := h
  simp only [Value.tuple.injEq, Array.mk.injEq, List.cons.injEq, Value.int.injEq, Value.bool.injEq, true_and, and_true] at h9
  exact ⟨h9.1.symm, h9.2.symm⟩
set_option maxHeartbeats 6400000 in
theorem decideOrder_walk (num : Int) (ai : Option Addr) (ci : Nat) (infos : List Inf) (al : Option Addr) (cl : Nat) (all : List Rt) (zt : Int) (w : World) (hid : ∀ x ∈ infos, x.id < 4294967296) (I : InfsRd w ai infos) (hm : all.length ≤ 1152921504606846976) (hb : ∀ x ∈ all, BigR x) (hcap : all.length ≤ cl) (R : RtsRd w al all) (hz0 : 0 ≤ zt) (hz1 : zt < 256) :
    Calls Try.prog 4 #[.int .i64 num, .slice ai infos.length ci, .slice al all.length cl, .int .u8 zt] w fun e w' => e = .returned (.bool true) ∧ Below w.heap.size w w' := by
  have KS := hide (smallD_any al cl all w hm hb R)
  have KA : Hid (∀ W, Calls Try.prog 9 #[] W fun e w' => e = .returned (.bool true) ∧ Below W.heap.size W w') := answersD_any
  have KB : Hid (∀ W, Below w.heap.size w W → infos.length ≤ 20 → (all.length < 3000 ∧ ∀ (j : Nat) (r : Rt), all[j]? = some r → FineR r) → Calls Try.prog 10 #[.int .i64 num, .slice ai infos.length ci, .slice al all.length cl] W fun e w' => e = .returned (bestV (bestB num infos all)) ∧ Below W.heap.size W w') := fun W h9 hl hf => pbest_any num ai ci infos al cl all W (by omega) ⟨fitQ_of (by omega) hid hf.2, R.below h9, I.below h9⟩
  have KT : Hid (∀ W k a c, Below w.heap.size w W → RtsRd W a (turnR k all) → k < all.length → infos.length ≤ 20 → (all.length < 3000 ∧ ∀ (j : Nat) (r : Rt), all[j]? = some r → FineR r) → Calls Try.prog 10 #[.int .i64 num, .slice ai infos.length ci, .slice a (turnR k all).length c] W fun e w' => e = .returned (bestV (bestB num infos (turnR k all))) ∧ Below W.heap.size W w') := fun W k a c h9 hr hk hl hf => pbest_any num ai ci infos a c (turnR k all) W (by rw [turnR_length]; omega) ⟨fitQ_of (by omega) hid (fine_turn hk hf.2), hr, I.below h9⟩
  have HTB : Hid (∀ k, k < all.length → Unl all all.length → (bestB num infos all = none ∧ bestB num infos (turnR k all) = none) ∨ ∃ n m, bestB num infos all = some n ∧ bestB num infos (turnR k all) = some m ∧ n = (m + k) % all.length) := fun k hk hu => turn_best hk hu.all
  have HBL : Hid (∀ n, bestB num infos all = some n → n < all.length) := fun n h => steps_lt (best_first h).1
  have HBT : Hid (∀ k n, bestB num infos (turnR k all) = some n → n < all.length) := fun k n h => by
    have := steps_lt (best_first h).1
    rwa [turnR_length] at this
  have HR := hide R
  clear hid I hm hb R
  obtain ⟨P, hP⟩ : ∃ P, P = (all.length < 3000 ∧ ∀ (j : Nat) (r : Rt), all[j]? = some r → FineR r) := ⟨_, rfl⟩
  rw [← hP] at KS KB KT
  have HPE := hide hP
  clear hP
  obtain ⟨m, hm⟩ : ∃ m, m = all.length := ⟨_, rfl⟩
  rw [← hm] at KS KB hcap HTB HBL HBT KT ⊢
  have HM := hide hm
  clear hm
  generalize bestB num infos all = bb at *
  generalize infos.length = ni at *
  obtain ⟨Z, rfl⟩ := Int.eq_ofNat_of_zero_le hz0
  have hZ : Z < 256 := by omega
  clear hz0 hz1
  go_enter Try.func4, Try.ntmps4
  go_wp2_with fail
  refine KS.out.mono ?_
  rintro e w1 ⟨⟨z, rfl, hz⟩, b1⟩
  have HZ := hide hz
  have HB1 := hide b1
  clear hz b1 KS
  cases z with
  | false =>
    go_wp2_with fail
    refine (KA.out _).mono ?_
    rintro e w2 ⟨rfl, b2⟩
    have HB2 : Hid (Below w.heap.size w w2) := HB1.out.trans (b2.mono HB1.out.size)
    clear b2
    go_wp2
    go_ret
    exact ⟨rfl, HB2.out⟩
  | true =>
    have HP := hide (HZ.out rfl)
    clear HZ
    have HFN : Hid (m < 3000) := by
      have h := HP.out
      rw [HPE.out, ← HM.out] at h
      exact h.1
    by_cases h0 : m = 0
    · have f0 : ((m : Int) == 0) = true := by simp [h0]
      subst h0
      go_wp2_with fail
      refine (KA.out _).mono ?_
      rintro e w2 ⟨rfl, b2⟩
      have HB2 : Hid (Below w.heap.size w w2) := HB1.out.trans (b2.mono HB1.out.size)
      clear b2
      go_wp2
      go_ret
      exact ⟨rfl, HB2.out⟩
    · have f0 : ((m : Int) == 0) = false := by simp; omega
      have f00 : (m == 0) = false := by simpa using h0
      by_cases hl : ni ≤ 20
      · have f1 : decide (20 < ni) = false := decide_eq_false (by omega)
        have f2 : decide ((20 : Int) < (ni : Int)) = false := decide_eq_false (by omega)
        have hm3 := HFN.out
        have HRW := hide (HR.out.below HB1.out)
        have hmp : 0 < m := by omega
        obtain ⟨g, o, rfl, hc⟩ := HRW.out (by rw [← HM.out]; exact hmp)
        have HC := hide hc
        clear hc
        go_wp2_with fail
        go_loopw [9] (fun i wq => ∃ k : Nat, k ≤ m ∧ i = .int .i64 k ∧ Hid (Unl all k) ∧ Hid (Below w1.heap.size w1 wq)) (fun i _ => m - (intOf i).toNat)
        case atStart => exact ⟨0, Nat.zero_le _, rfl, fun i j a b h => absurd h (by omega), Below.refl _ _⟩
        case round =>
          obtain ⟨k, hk, rfl, HU, HBK⟩ := hrel
          obtain ⟨wo, hwo⟩ : ∃ wo : World, wo = wr := ⟨wr, rfl⟩
          subst hwo
          have hk0 : (0 : Int) ≤ (k : Int) := Int.natCast_nonneg _
          by_cases hlt : k < m
          · have hkm : (k : Int) < (m : Int) := by omega
            have hkl : k < all.length := by rw [← HM.out]; exact hlt
            go_wp2_with fail
            go_loopw [10] (fun i wq => ∃ q : Nat, q ≤ k ∧ i = .int .i64 q ∧ Hid (∀ (j : Nat) (b : Rt), j < q → all[j]? = some b → (all[k]).peer ≠ b.peer) ∧ Hid (Below w1.heap.size w1 wq)) (fun i _ => k - (intOf i).toNat)
            case atStart => exact ⟨0, Nat.zero_le _, rfl, fun j b h => absurd h (by omega), HBK⟩
            case round =>
              obtain ⟨q, hq, rfl, HQ, HBQ⟩ := hrel
              have hq0 : (0 : Int) ≤ (q : Int) := Int.natCast_nonneg _
              by_cases hqk : q < k
              · have hqi : (q : Int) < (k : Int) := by omega
                have hql : q < all.length := by omega
                have hqm : (q : Int) < (m : Int) := by omega
                obtain ⟨_, _, _, _, _, _, rt1⟩ := HC.out k _ (List.getElem?_eq_getElem hkl)
                obtain ⟨_, _, _, _, _, _, rt2⟩ := HC.out q _ (List.getElem?_eq_getElem hql)
                have c1 : wr.cell? ⟨g, o + k * 11 + 2, none⟩ = some (.int .i64 (all[k]).peer) := (rt1.below HBQ.out).1 2 _ rfl
                have c2 : wr.cell? ⟨g, o + q * 11 + 2, none⟩ = some (.int .i64 (all[q]).peer) := (rt2.below HBQ.out).1 2 _ rfl
                have zg := World.block_lt_of_cell? wr _ c1
                simp only at zg
                have HQ2 : Hid ((all[k]).peer ≠ (all[q]).peer → ∀ (j : Nat) (b : Rt), j < q + 1 → all[j]? = some b → (all[k]).peer ≠ b.peer) := fun hne j b hj hb => by
                  by_cases e : j = q
                  · subst e
                    rw [List.getElem?_eq_getElem hql] at hb
                    cases hb
                    exact hne
                  · exact HQ.out j b (by omega) hb
                clear rt1 rt2
                obtain ⟨p1, hp1⟩ : ∃ p1, p1 = (all[k]).peer := ⟨_, rfl⟩
                obtain ⟨p2, hp2⟩ : ∃ p2, p2 = (all[q]).peer := ⟨_, rfl⟩
                rw [← hp1] at c1
                rw [← hp2] at c2
                rw [← hp1, ← hp2] at HQ2
                have HP1 := hide hp1
                clear hp1 hp2
                go_wp2_with fail
                refine region_mix (fun w' => Below wr.heap.size wr w') (fun _ => false) (by kernel_rfl) (by kernel_rfl) (by kernel_rfl) (Below.refl _ _).drew ?_
                repeat refine mix_q (by rfl) (by rfl) (fun w9 h9 => (by have C1 := c1; have C2 := c2; rw [← h9.cell (p := ⟨g, o + k * 11 + 2, none⟩) zg] at C1; rw [← h9.cell (p := ⟨g, o + q * 11 + 2, none⟩) zg] at C2; go_simp; first | done | rfl)) (by go_simp; first | done | rfl) ?_
                refine ⟨fun _ h => (by cases h), ?_⟩
                have HB3 : Hid (Below w1.heap.size w1 wr.drew) := HBQ.out.drew
                by_cases hpp : p1 = p2
                · have fp : (p1 == p2) = true := by simpa using hpp
                  subst hpp
                  go_wp2_with fail
                  refine (KA.out _).mono ?_
                  rintro e w3 ⟨rfl, b3⟩
                  have HB4 : Hid (Below w.heap.size w w3) := HB1.out.trans ((HB3.out.trans (b3.mono HB3.out.size)).mono HB1.out.size)
                  clear b3
                  go_wp2
                  go_ret
                  exact ⟨rfl, HB4.out⟩
                · have fp : (p1 == p2) = false := by simpa using hpp
                  have HQ3 : Hid (∀ (j : Nat) (b : Rt), j < q + 1 → all[j]? = some b → (all[k]).peer ≠ b.peer) := by
                    show ∀ (j : Nat) (b : Rt), _
                    rw [← HP1.out]
                    exact HQ2.out hpp
                  clear hpp HQ2
                  go_wp2
                  exact ⟨⟨q + 1, by omega, by go_num, HQ3, HB3⟩, by simp [intOf]; omega⟩
              · have hqe : q = k := by omega
                subst hqe
                have HU2 : Hid (Unl all (q + 1)) := fun i j a b hi hj ha hb => by
                  by_cases e : i = q
                  · subst e
                    rw [List.getElem?_eq_getElem hkl] at ha
                    cases ha
                    exact HQ.out j b hj hb
                  · exact HU.out i j a b (by omega) hj ha hb
                go_wp2
                exact ⟨⟨q + 1, by omega, by go_num, HU2, HBQ⟩, by simp [intOf]; omega⟩
          · have hkm : k = m := by omega
            have jlt : decide (k < m) = false := decide_eq_false hlt
            have jlt2 : decide ((k : Int) < (m : Int)) = false := decide_eq_false (by omega)
            have HUA : Hid (Unl all m) := by rw [hkm] at HU; exact HU
            have HBW : Hid (Below w.heap.size w wo) := HB1.out.trans (HBK.out.mono HB1.out.size)
            obtain ⟨kk, hkk⟩ : ∃ kk, kk = Z % m := ⟨_, rfl⟩
            have hkkm : kk < m := by rw [hkk]; exact Nat.mod_lt _ hmp
            have hrem : Int.tmod (Z : Int) (m : Int) = (kk : Int) := by
              rw [Int.tmod_eq_emod_of_nonneg (by omega), hkk]
              exact (Int.natCast_emod Z m).symm
            have hrem2 : Int.emod (Z : Int) (m : Int) = (kk : Int) := by
              rw [hkk]
              exact (Int.natCast_emod Z m).symm
            have wz : IntKind.i64.wrap (Z : Int) = (Z : Int) := by rw [IntKind.wrap_i64]; omega
            have wk : IntKind.i64.wrap (kk : Int) = (kk : Int) := by rw [IntKind.wrap_i64]; omega
            have hmne : ¬ (m : Int) = 0 := by omega
            have K1 := hide (KB.out wo HBW.out hl HP.out)
            obtain ⟨n, ok, hv⟩ := bestV_two bb
            have HV := hide hv
            rw [hv] at K1
            clear hv hkk KB
            go_wp2_with fail
            refine K1.out.mono ?_
            rintro e w4 ⟨rfl, b4⟩
            have HB4 : Hid (Below w.heap.size w w4) := HBW.out.trans (b4.mono HBW.out.size)
            have hb4 : Below w1.heap.size w1 w4 := HBK.out.trans (b4.mono HBK.out.size)
            obtain ⟨b, off, xs, eal, hrows, hcells⟩ := rows_of (HRW.out.below hb4) (by rw [← HM.out]; exact hmp)
            have ebo : b = g ∧ off = o := by
              injection eal with e1
              injection e1 with e2 e3
              exact ⟨e2.symm, e3.symm⟩
            obtain ⟨rfl, rfl⟩ := ebo
            have HTR : Hid (∀ W : World, Below w4.heap.size w4 W → ∃ v6 w6 a c w10, (Builtin.append_ #[23, 23] 23 #[.slice (some ⟨W.heap.size, 0, none⟩) 0 0, .slice (some ⟨b, off + kk * 11, none⟩) (m - kk) (cl - kk)]).run Try.prog (W.alloc (.cells #[] 41)) = .ok v6 w6 ∧ (Builtin.append_ #[23, 23] 23 #[v6, .slice (some ⟨b, off, none⟩) kk cl]).run Try.prog w6 = .ok (.slice a (turnR kk all).length c) w10 ∧ RtsRd w10 a (turnR kk all) ∧ Below W.heap.size W w6 ∧ Below W.heap.size W w10) := fun W hW => by
              rw [HM.out]
              exact turn_rows hrows hcells (by rw [← HM.out]; exact hkkm) (by rw [← HM.out]; omega) W hW (cl - kk) cl
            have HFR : Hid (∀ W, (Instr.sliceAt 23 (.slice (some ⟨b, off, none⟩) m cl) (some (.int .i64 (kk : Int))) none none).run Try.prog W = .ok (.slice (some ⟨b, off + kk * 11, none⟩) (m - kk) (cl - kk)) W) := fun W => by
              have h := run_from W b off m cl kk (by omega)
              rw [if_neg (by omega)] at h
              exact h
            have HTI : Hid (∀ W, (Instr.sliceAt 23 (.slice (some ⟨b, off, none⟩) m cl) none (some (.int .i64 (kk : Int))) none).run Try.prog W = .ok (.slice (some ⟨b, off, none⟩) kk cl) W) := fun W => run_till W b off m cl kk (by omega)
            clear b4 hb4 K1 eal hrows hcells HBK HC
            obtain ⟨n2, ok2, hv2⟩ := bestV_two (bestB num infos (turnR kk all))
            have HV2 := hide hv2
            have KT2 := hide (fun W a c h1 h2 => KT.out W kk a c h1 h2 hkkm hl HP.out)
            rw [hv2] at KT2
            have HTB2 := hide (HTB.out kk hkkm HUA.out)
            have HTN := hide (HBT.out kk)
            clear hv2 KT HTB HBT
            generalize bestB num infos (turnR kk all) = bt at *
            generalize turnR kk all = tr at *
            go_wp2_with fail
            refine region_ord (fun w' => Below w4.heap.size w4 w') (fun k => k == 2 || k == 6 || k == 10 || k == 11) [0, 1, 3, 4, 5, 7, 8, 9, 2, 6, 10, 11, 12, 13, 14, 15, 16] (by kernel_rfl) (by kernel_rfl) rfl (by kernel_rfl) (Below.refl _ _).drew ?_
            refine ord_q (by rfl) (by rfl) (by rfl) (fun w9 h9 => (by go_simp; first | done | rfl)) (by go_simp; first | done | rfl) ?_
            refine ord_q (by rfl) (by rfl) (by rfl) (fun w9 h9 => (by go_simp; first | done | rfl)) (by go_simp; first | done | rfl) ?_
            refine ord_q (by rfl) (by rfl) (by rfl) (fun w9 h9 => (by go_simp; first | done | rfl)) (by go_simp; first | done | rfl) ?_
            refine ord_q (by rfl) (by rfl) (by rfl) (fun w9 h9 => (by go_simp; first | done | rfl)) (by go_simp; first | done | rfl) ?_
            refine ord_q (by rfl) (by rfl) (by rfl) (fun w9 h9 => exec_from (by rfl) (by rfl) (HFR.out w9)) (by go_simp; first | done | rfl) ?_
            refine ord_q (by rfl) (by rfl) (by rfl) (fun w9 h9 => (by go_simp; first | done | rfl)) (by go_simp; first | done | rfl) ?_
            refine ord_q (by rfl) (by rfl) (by rfl) (fun w9 h9 => (by go_simp; first | done | rfl)) (by go_simp; first | done | rfl) ?_
            refine ord_q (by rfl) (by rfl) (by rfl) (fun w9 h9 => exec_till (by rfl) (by rfl) (HTI.out w9)) (by go_simp; first | done | rfl) ?_
            obtain ⟨v6, w6, a10, c10, w10, hr6, hr10, hrd10, hb6, hb10⟩ := HTR.out w4.drew (Below.refl _ _).drew
            have hs4 : w4.drew.heap.size = w4.heap.size := by simp
            refine ord_l (by rfl) (by rfl) (by rfl) ?_
            refine wp_build0 _ _ (run_norows _) ?_
            refine ⟨(Below.refl _ _).drew.alloc (by simp) _, ?_⟩
            refine ord_l (by rfl) (by rfl) (by rfl) ?_
            refine wp_app _ _ _ _ _ (by rfl) (by rfl) hr6 ?_
            have hbw6 : Below w4.heap.size w4 w6 := Below.trans (Below.refl _ _).drew (hb6.mono (by rw [hs4]; exact Nat.le_refl _))
            refine ⟨hbw6, ?_⟩
            refine ord_l (by rfl) (by rfl) (by rfl) ?_
            refine wp_app _ _ _ _ _ (by rfl) (by rfl) hr10 ?_
            have hbw10 : Below w4.heap.size w4 w10 := Below.trans (Below.refl _ _).drew (hb10.mono (by rw [hs4]; exact Nat.le_refl _))
            refine ⟨hbw10, ?_⟩
            have HB10 : Hid (Below w.heap.size w w10) := HB4.out.trans (hbw10.mono HB4.out.size)
            have K2 := hide (KT2.out w10 a10 c10 HB10.out hrd10)
            have HBQ10 := hide hbw10
            clear hr6 hr10 hrd10 hb6 hb10 hbw6 hbw10 KT2 HTR HFR HTI hs4
            generalize tr.length = ltr at *
            refine ord_l (by rfl) (by rfl) (by rfl) ?_
            go_simp
            refine K2.out.mono ?_
            rintro e w11 ⟨rfl, b11⟩
            refine ⟨HBQ10.out.trans (b11.mono HBQ10.out.size), ?_⟩
            have HB11 : Hid (Below w.heap.size w w11) := HB10.out.trans (b11.mono HB10.out.size)
            clear b11 K2
            repeat refine ord_q (by rfl) (by rfl) (by rfl) (fun w9 h9 => (by go_simp; first | done | rfl)) (by go_simp; first | done | rfl) ?_
            refine ⟨fun _ h => (by cases h), ?_⟩
            go_wp2_with fail
            refine (KA.out _).mono ?_
            rintro e w12 ⟨rfl, b12⟩
            have HB12 : Hid (Below w.heap.size w w12) := HB11.out.trans (b12.mono HB11.out.size)
            clear b12
            rcases HTB2.out with ⟨e1, e2⟩ | ⟨q1, q2, e1, e2, e3⟩
            · have x1 := HV.out
              have x2 := HV2.out
              rw [e1] at x1
              rw [e2] at x2
              obtain ⟨rfl, rfl⟩ := two_none x1
              obtain ⟨rfl, rfl⟩ := two_none x2
              clear x1 x2 e1 e2 HV HV2
              go_wp2
              go_ret
              exact ⟨rfl, HB12.out⟩
            · have x1 := HV.out
              have x2 := HV2.out
              rw [e1] at x1
              rw [e2] at x2
              obtain ⟨rfl, rfl⟩ := two_some x1
              obtain ⟨rfl, rfl⟩ := two_some x2
              have hq1 := HBL.out q1 e1
              have hq2 := HTN.out q2 e2
              have wq : IntKind.i64.wrap ((q2 : Int) + (kk : Int)) = (q2 : Int) + (kk : Int) := by rw [IntKind.wrap_i64]; omega
              have hsum : (q2 : Int) + (kk : Int) = ((q2 + kk : Nat) : Int) := by omega
              have hr9 : Int.tmod ((q2 : Int) + (kk : Int)) (m : Int) = (q1 : Int) := by
                rw [hsum, Int.tmod_eq_emod_of_nonneg (by omega), e3]
                exact (Int.natCast_emod (q2 + kk) m).symm
              have wq1 : IntKind.i64.wrap (q1 : Int) = (q1 : Int) := by rw [IntKind.wrap_i64]; omega
              clear x1 x2 e1 e2 HV HV2 e3 hsum
              go_wp2
              go_ret
              exact ⟨rfl, HB12.out⟩
      · have f3 : (20 : Int) < (ni : Int) := by omega
        go_wp2_with fail
        refine (KA.out _).mono ?_
        rintro e w2 ⟨rfl, b2⟩
        have HB2 : Hid (Below w.heap.size w w2) := HB1.out.trans (b2.mono HB1.out.size)
        clear b2
        go_wp2
        go_ret
        exact ⟨rfl, HB2.out⟩
end Go.Proofs.Ytolpaimmmhoiiaa
