/- The document's Best. -/
import Derived.Test.YtolpaimmmhoiiaaDcE
namespace Go.Proofs.Ytolpaimmmhoiiaa
open Go.RowKit
set_option maxRecDepth 100000

def jsI (js : List Nat) : List Int := js.map fun (j : Nat) => (j : Int)
theorem jsI_get {js : List Nat} {q j : Nat} (h : js[q]? = some j) : (jsI js)[q]? = some (j : Int) := by simp [jsI, h]
/-- A row of numbers of the call's own. -/
def OwnJ (w : World) (B : Nat) (v : Value) (js : List Nat) : Prop := w.ownsRow B 3 1 v js.length (icells (jsI js))
theorem OwnJ.nil (w : World) (B : Nat) : OwnJ w B (.slice none 0 0) [] := own_nil _ _ _ _
theorem OwnJ.later {w w' : World} {B : Nat} {v : Value} {js : List Nat} (h : OwnJ w B v js) (hb : Below w.heap.size w w') : OwnJ w' B v js := own_later h hb
theorem OwnJ.rd {w : World} {B : Nat} {v : Value} {js : List Nat} (h : OwnJ w B v js) : ∃ a c, v = .slice a js.length c ∧ IRd w a (jsI js) := by
  have h1 : w.ownsRow B 3 1 v (jsI js).length (icells (jsI js)) := by
    have e : (jsI js).length = js.length := by simp [jsI]
    rw [e]
    exact h
  obtain ⟨a, c, e, hr⟩ := own_ird h1
  exact ⟨a, c, by rw [e]; simp [jsI], hr⟩
theorem OwnJ.snoc {w : World} {B : Nat} {v : Value} {js : List Nat} (h : OwnJ w B v js) (j : Nat) (hB : B ≤ w.heap.size) (hl : js.length ≤ 10000) :
    ∃ v' w', (Builtin.append_ #[45, 45] 45 #[v, .slice (some ⟨w.heap.size, 0, none⟩) 1 1]).run Try.prog (w.alloc (.cells #[.int .i64 (j : Int)] 3)) = .ok v' w' ∧ OwnJ w' B v' (js ++ [j]) ∧ Below B w w' := by
  obtain ⟨v', w', hr, h2, h3, _, _⟩ := app_more elemInt (w := w.alloc (.cells #[.int .i64 (j : Int)] 3)) (World.ownsRow.alloc h _) (by simp; omega) ⟨w.heap.size, 0, none⟩ 1 1 (icells [(j : Int)]) rfl (fun i u hu => by
    rw [Addr.add_mid, Nat.zero_add, World.cell?_alloc_mark]
    simpa [icells] using hu) (icells_one _) (by omega)
  refine ⟨v', w', hr, ?_, ((Below.refl _ _).alloc hB _).trans h3⟩
  unfold OwnJ
  have e : jsI (js ++ [j]) = jsI js ++ [(j : Int)] := by simp [jsI]
  rw [e, icells_app]
  simpa using h2
theorem filter_snoc (p : Nat → Bool) (l : List Nat) (x : Nat) : (l ++ [x]).filter p = l.filter p ++ if p x = true then [x] else [] := by
  rw [List.filter_append]
  cases h : p x <;> simp [h]
def bestV : Option Nat → Value
  | none => .tuple #[.int .i64 0, .bool false]
  | some j => .tuple #[.int .i64 (j : Int), .bool true]
/-- Those among the first k that may be used. -/
def freeK (num : Int) (all : List Rt) (k : Nat) : List Nat := (List.range k).filter fun j => match all[j]? with
  | some r => !hasP r.att.path num
  | none => false
theorem freeK_yes {num : Int} {all : List Rt} {k : Nat} {r : Rt} (h : all[k]? = some r) (hh : hasP r.att.path num = false) : freeK num all (k + 1) = freeK num all k ++ [k] := by
  unfold freeK
  rw [List.range_succ, List.filter_append]
  simp [h, hh]
theorem freeK_no {num : Int} {all : List Rt} {k : Nat} {r : Rt} (h : all[k]? = some r) (hh : hasP r.att.path num = true) : freeK num all (k + 1) = freeK num all k := by
  unfold freeK
  rw [List.range_succ, List.filter_append]
  simp [h, hh]
theorem freeK_length (num : Int) (all : List Rt) (k : Nat) : (freeK num all k).length ≤ k := by
  unfold freeK
  have := List.length_filter_le (fun j => match all[j]? with
    | some r => !hasP r.att.path num
    | none => false) (List.range k)
  simpa using this
theorem stepsB_end (num : Int) (infos : List Inf) (all : List Rt) (js : List Nat) (s : Nat) (h : stepsB num infos all js s = []) : ∀ (d : Nat), stepsB num infos all js (s + d) = []
  | 0 => h
  | d + 1 => by
    show stepB (s + d) num infos all (stepsB num infos all js (s + d)) = []
    rw [stepsB_end num infos all js s h d]
    rfl
theorem stepsB_length (num : Int) (infos : List Inf) (all : List Rt) (js : List Nat) : ∀ (s : Nat), (stepsB num infos all js s).length ≤ js.length
  | 0 => Nat.le_refl _
  | s + 1 => Nat.le_trans (stepB_length _ _ _ _ _) (stepsB_length num infos all js s)
set_option maxHeartbeats 6400000 in
theorem best_any (num : Int) (ai : Option Addr) (ci : Nat) (infos : List Inf) (al : Option Addr) (cl : Nat) (all : List Rt) (w : World) (ha : all.length ≤ 3000) (hi : infos.length ≤ 100000) (hid : ∀ x ∈ infos, x.id < 4294967296) (hf : ∀ r ∈ all, fitR r) (R : RtsRd w al all) (I : InfsRd w ai infos) :
    Calls Try.prog 11 #[.int .i64 num, .slice ai infos.length ci, .slice al all.length cl] w fun e w' => e = .returned (bestV (bestB num infos all)) ∧ Below w.heap.size w w' := by
  have HR := hide R
  have HI := hide I
  have HF := hide hf
  have HID := hide hid
  have HHI := hide hi
  have HAL := hide ha
  clear R I hf hid hi
  obtain ⟨n, hn⟩ : ∃ n, n = all.length := ⟨_, rfl⟩
  obtain ⟨ni, hni⟩ : ∃ ni, ni = infos.length := ⟨_, rfl⟩
  rw [← hn] at ha ⊢
  rw [← hni]
  have HN := hide hn
  have HNI := hide hni
  clear hn hni
  obtain ⟨bb, hbb⟩ : ∃ bb, bb = bestB num infos all := ⟨_, rfl⟩
  rw [← hbb]
  have HB0 := hide hbb
  clear hbb
  go_enter Try.func11, Try.ntmps11
  go_wp2
  go_loopw [8, 9] (fun v i wq => ∃ k : Nat, k ≤ n ∧ i = .int .i64 k ∧ Hid (OwnJ wq w.heap.size v (freeK num all k)) ∧ Hid (Below w.heap.size w wq)) (fun _ i _ => n - (intOf i).toNat)
  case atStart => exact ⟨0, Nat.zero_le _, rfl, OwnJ.nil _ _, Below.refl _ _⟩
  case round =>
    obtain ⟨k, hk, rfl, HO, HB⟩ := hrel
    by_cases hlt : k < n
    · have hkl : k < all.length := by rw [← HN.out]; exact hlt
      obtain ⟨g, o, rfl, hc⟩ := HR.out (by omega)
      obtain ⟨pa, pc, ca, cc, ra, rc, rt⟩ := hc k _ (List.getElem?_eq_getElem hkl)
      have HG : Hid (all[k]? = some all[k]) := List.getElem?_eq_getElem hkl
      have HS : Hid (fitR all[k]) := HF.out _ (List.getElem_mem hkl)
      generalize all[k] = r at *
      have RT := hide (rt.below HB.out)
      have c4 : wr.cell? ⟨g, o + k * 11 + 4, none⟩ = some (.slice pa r.att.path.length pc) := RT.out.1 4 _ rfl
      have K := hide (rhas_any pa pc num r.att.path wr (by have := HS.out.1; omega) RT.out.2.path)
      clear hc rt
      have hk0 : (0 : Int) ≤ (k : Int) := Int.natCast_nonneg _
      have hkn : (k : Int) < (n : Int) := by omega
      cases hh : hasP r.att.path num with
      | true =>
        rw [hh] at K
        have HE := hide (freeK_no HG.out hh)
        clear hh
        go_wp2_with fail
        refine K.out.mono ?_
        rintro e w1 ⟨rfl, rfl⟩
        clear K
        go_wp2
        exact ⟨⟨k + 1, by omega, by go_num, by rw [HE.out]; exact HO, HB⟩, by simp [intOf]; omega⟩
      | false =>
        rw [hh] at K
        have HE := hide (freeK_yes HG.out hh)
        clear hh
        go_wp2_with fail
        refine K.out.mono ?_
        rintro e w1 ⟨rfl, rfl⟩
        clear K
        obtain ⟨v2, w2, hr2, ho2, hb2⟩ := HO.out.snoc k HB.out.size (by have := freeK_length num all k; omega)
        have HR2 := hide hr2
        have HO2 : Hid (OwnJ w2 w.heap.size v2 (freeK num all (k + 1))) := by rw [HE.out]; exact ho2
        have HB2 : Hid (Below w.heap.size w w2) := HB.out.trans hb2
        clear hr2 ho2 hb2 c4
        go_wp2_with ((with_reducible refine wpl_append _ _ 45 _ (.slice (some ⟨w1.heap.size, 0, none⟩) 1 1) _ ?_ ?_ HR2.out ?_); (· rfl); (· rfl))
        exact ⟨⟨k + 1, by omega, by go_num, HO2, HB2⟩, by simp [intOf]; omega⟩
    · have hkn : k = n := by omega
      subst hkn
      have HS0 : Hid (freeK num all k = freeB num all) := by show _ = _; unfold freeB; rw [← HN.out]; rfl
      rw [HS0.out] at HO
      have HLT : Hid (∀ j ∈ freeB num all, j < all.length) := fun j hj => freeB_lt hj
      have HLL : Hid ((freeB num all).length ≤ 3000) := by
        show _ ≤ _
        rw [← HS0.out]
        have := freeK_length num all k
        omega
      have HBB : Hid (bb = (stepsB num infos all (freeB num all) 9).head?) := HB0.out
      generalize freeB num all = js0 at *
      clear HS0 HB0
      go_wp2
      go_loopw [8, 10] (fun v i wq => ∃ s : Nat, s ≤ 9 ∧ i = .int .i64 s ∧ Hid (OwnJ wq w.heap.size v (stepsB num infos all js0 s)) ∧ Hid (Below w.heap.size w wq)) (fun _ i _ => 9 - (intOf i).toNat)
      case atStart => exact ⟨0, by omega, rfl, HO, HB⟩
      case round =>
        clear HO HB
        obtain ⟨s, hs, rfl, HO, HB⟩ := hrel
        have HJL : Hid (∀ j ∈ stepsB num infos all js0 s, j < all.length) := fun j hj => HLT.out j (stepsB_sub s hj)
        have hjl : (stepsB num infos all js0 s).length ≤ 3000 := Nat.le_trans (stepsB_length num infos all js0 s) HLL.out
        have HEN : Hid (∀ d, stepsB num infos all js0 s = [] → stepsB num infos all js0 (s + d) = []) := fun d h => stepsB_end num infos all js0 s h d
        have HST : Hid (stepsB num infos all js0 (s + 1) = stepB s num infos all (stepsB num infos all js0 s)) := rfl
        have HNI9 : Hid (s = 9 → stepsB num infos all js0 9 = stepsB num infos all js0 s) := fun h => by rw [h]
        generalize stepsB num infos all js0 s = js at *
        obtain ⟨a, c, rfl, rd⟩ := HO.out.rd
        have RD := hide rd
        clear rd
        obtain ⟨n2, hn2⟩ : ∃ n2, n2 = js.length := ⟨_, rfl⟩
        rw [← hn2] at hjl HO ⊢
        have HN2 := hide hn2
        clear hn2
        have hs0 : (0 : Int) ≤ (s : Int) := Int.natCast_nonneg _
        match js, HJL, HEN, HST, HNI9, HO, RD, HN2 with
        | [], HJL, HEN, HST, HNI9, HO, RD, HN2 =>
          obtain rfl : n2 = 0 := HN2.out
          have hbb : Hid (bb = none) := by
            show _ = _
            have h9 := HEN.out (9 - s) rfl
            have e9 : s + (9 - s) = 9 := by omega
            rw [e9] at h9
            rw [HBB.out, h9]
            rfl
          have HBF := hide HB.out
          clear HJL HEN HST HNI9 HO RD HBB HB
          by_cases hs9 : s < 9
          · have hs8 : (s : Int) < 9 := by omega
            go_wp2
            refine bodyPost_ret (v := .tuple #[.int .i64 0, .bool false]) (by simp [results, Try.results11, go_sem]) rfl ⟨by rw [hbb.out]; rfl, HBF.out⟩
          · have hs8 : ¬ (s : Int) < 9 := by omega
            go_wp2
            refine bodyPost_ret (v := .tuple #[.int .i64 0, .bool false]) (by simp [results, Try.results11, go_sem]) rfl ⟨by rw [hbb.out]; rfl, HBF.out⟩
        | j0 :: jl, HJL, HEN, HST, HNI9, HO, RD, HN2 =>
          obtain ⟨b, off, rfl, hc⟩ := RD.out (by simp [jsI])
          have HC := hide hc
          have c0 : wr.cell? ⟨b, off, none⟩ = some (.int .i64 (j0 : Int)) := hc 0 _ rfl
          have hn20 : 0 < n2 := by have := HN2.out; simp at this; omega
          have hn2i : (0 : Int) < (n2 : Int) := by omega
          clear hc
          by_cases hs9 : s < 9
          · have hs8 : (s : Int) < 9 := by omega
            have K : Hid (∀ (W : World) (q j : Nat), (j0 :: jl)[q]? = some j → Below wr.heap.size wr W → Calls Try.prog 19 #[.int .i64 (s : Int), .int .i64 num, .slice ai ni ci, .slice al k cl, .slice (some ⟨b, off, none⟩) n2 c, .int .i64 (j : Int)] W fun e w' => e = .returned (.int .i64 (scoreJ s num infos all (j0 :: jl) j)) ∧ Below W.heap.size W w') := fun W q j hq hW => by
              have hjm := HJL.out j (List.mem_of_getElem? hq)
              have hb9 := HB.out.trans (hW.mono HB.out.size)
              have h9 := score_any s hs9 num ai ci infos al cl all (some ⟨b, off, none⟩) c (j0 :: jl) j all[j] W (List.getElem?_eq_getElem hjm) HAL.out HHI.out HID.out (HF.out _ (List.getElem_mem hjm)) (by rw [← HN2.out]; omega) HJL.out (HR.out.below hb9) (RD.out.below hW) (HI.out.below hb9)
              rw [← HN.out, ← HNI.out, ← HN2.out] at h9
              have e9 : scoreJ s num infos all (j0 :: jl) j = scoreR s num infos (pickL all (j0 :: jl)) all[j] := by unfold scoreJ; rw [List.getElem?_eq_getElem hjm]
              rw [e9]
              exact h9
            have HST2 : Hid (stepsB num infos all js0 (s + 1) = (j0 :: jl).filter fun j => scoreJ s num infos all (j0 :: jl) j == leastB (scoreJ s num infos all (j0 :: jl)) (j0 :: jl) (scoreJ s num infos all (j0 :: jl) j0)) := HST.out
            clear HJL HEN HST HNI9 HBB HLT HLL HF HAL HID HHI
            generalize scoreJ s num infos all (j0 :: jl) = f at *
            have HCC : Hid (∀ (q j : Nat), (j0 :: jl)[q]? = some j → wr.cell? ⟨b, off + q, none⟩ = some (.int .i64 (j : Int))) := fun q j hq => HC.out q _ (jsI_get hq)
            have HZB : Hid (b < wr.heap.size) := World.block_lt_of_cell? wr _ c0
            have HJ0 : Hid ((j0 :: jl)[0]? = some j0) := rfl
            generalize j0 :: jl = js at *
            clear HC
            have K0 := hide (K.out wr 0 j0 HJ0.out (Below.refl _ _))
            obtain ⟨wo, hwo⟩ : ∃ wo : World, wo = wr := ⟨wr, rfl⟩
            subst hwo
            go_wp2_with fail
            refine K0.out.mono ?_
            rintro e w1 ⟨rfl, b1⟩
            have HB1 := hide b1
            clear b1 K0 c0
            go_wp2_with fail
            go_loopw [12, 13] (fun m i wq => ∃ q : Nat, q ≤ n2 ∧ i = .int .i64 q ∧ m = .int .i64 (leastB f (js.take q) (f j0)) ∧ Hid (Below wo.heap.size wo wq)) (fun _ i _ => n2 - (intOf i).toNat)
            case atStart => exact ⟨0, Nat.zero_le _, rfl, rfl, HB1⟩
            case round =>
              clear HB1
              obtain ⟨q, hq, rfl, rfl, HB1⟩ := hrel
              have hq0 : (0 : Int) ≤ (q : Int) := Int.natCast_nonneg _
              by_cases hq2 : q < n2
              · have hql : q < js.length := by rw [← HN2.out]; exact hq2
                have hg : js[q]? = some js[q] := List.getElem?_eq_getElem hql
                have ht : js.take (q + 1) = js.take q ++ [js[q]] := by rw [List.take_succ_eq_append_getElem hql]
                have HLE := hide (leastB_snoc f js[q] (js.take q) (f j0))
                rw [← ht] at HLE
                have cq : wr.cell? ⟨b, off + q, none⟩ = some (.int .i64 (js[q] : Int)) := by
                  rw [HB1.out.cell (p := ⟨b, off + q, none⟩) HZB.out]
                  exact HCC.out q _ hg
                have K1 := hide (K.out wr q js[q] hg HB1.out)
                have hqn : (q : Int) < (n2 : Int) := by omega
                clear ht hg
                generalize js[q] = j at *
                generalize leastB f (js.take q) (f j0) = m at *
                generalize f j = fj at *
                go_wp2_with fail
                refine K1.out.mono ?_
                rintro e w2 ⟨rfl, b2⟩
                have HB2 : Hid (Below wo.heap.size wo w2) := HB1.out.trans (b2.mono HB1.out.size)
                clear b2 K1 cq
                by_cases hm : fj < m
                · have HL9 : Hid (leastB f (js.take (q + 1)) (f j0) = fj) := by show _ = _; rw [HLE.out, if_pos hm]
                  clear HLE
                  go_wp2
                  exact ⟨⟨q + 1, by omega, by go_num, by rw [HL9.out], HB2⟩, by simp [intOf]; omega⟩
                · have HL9 : Hid (leastB f (js.take (q + 1)) (f j0) = m) := by show _ = _; rw [HLE.out, if_neg hm]
                  have fm : decide (fj < m) = false := decide_eq_false hm
                  clear HLE hm
                  go_wp2
                  exact ⟨⟨q + 1, by omega, by go_num, by rw [HL9.out], HB2⟩, by simp [intOf]; omega⟩
              · have hqe : q = n2 := by omega
                subst hqe
                have ht : js.take q = js := by rw [HN2.out]; exact List.take_length
                rw [ht]
                clear ht
                generalize leastB f js (f j0) = mn at *
                obtain ⟨wp, hwp⟩ : ∃ wp : World, wp = wr := ⟨wr, rfl⟩
                subst hwp
                go_wp2_with fail
                go_loopw [11, 15] (fun v i wq => ∃ t : Nat, t ≤ q ∧ i = .int .i64 t ∧ Hid (OwnJ wq wp.heap.size v ((js.take t).filter fun j => f j == mn)) ∧ Hid (Below wp.heap.size wp wq)) (fun _ i _ => q - (intOf i).toNat)
                case atStart => exact ⟨0, Nat.zero_le _, rfl, OwnJ.nil _ _, Below.refl _ _⟩
                case round =>
                  obtain ⟨t, ht, rfl, HO4, HB4⟩ := hrel
                  have ht0 : (0 : Int) ≤ (t : Int) := Int.natCast_nonneg _
                  have HB5 : Hid (Below wo.heap.size wo wr) := HB1.out.trans (HB4.out.mono HB1.out.size)
                  by_cases htq : t < q
                  · have htl : t < js.length := by rw [← HN2.out]; exact htq
                    have hg : js[t]? = some js[t] := List.getElem?_eq_getElem htl
                    have hta : js.take (t + 1) = js.take t ++ [js[t]] := by rw [List.take_succ_eq_append_getElem htl]
                    have cq : wr.cell? ⟨b, off + t, none⟩ = some (.int .i64 (js[t] : Int)) := by
                      rw [HB5.out.cell (p := ⟨b, off + t, none⟩) HZB.out]
                      exact HCC.out t _ hg
                    have K1 := hide (K.out wr t js[t] hg HB5.out)
                    have htn : (t : Int) < (q : Int) := by omega
                    have HFI : Hid ((js.take (t + 1)).filter (fun j => f j == mn) = (js.take t).filter (fun j => f j == mn) ++ if f js[t] == mn then [js[t]] else []) := by
                      show _ = _
                      rw [hta, filter_snoc]
                    have HTL : Hid (((js.take t).filter fun j => f j == mn).length ≤ 3000) := by
                      show _ ≤ _
                      have := List.length_filter_le (fun j => f j == mn) (js.take t)
                      have := List.length_take_le t js
                      omega
                    clear hta hg
                    generalize js[t] = j at *
                    go_wp2_with fail
                    refine K1.out.mono ?_
                    rintro e w2 ⟨rfl, b2⟩
                    have HB6 : Hid (Below wp.heap.size wp w2) := HB4.out.trans (b2.mono HB4.out.size)
                    have HO6 := hide (HO4.out.later b2)
                    have cq2 : w2.cell? ⟨b, off + t, none⟩ = some (.int .i64 (j : Int)) := by
                      rw [b2.cell (p := ⟨b, off + t, none⟩) (by have := HB5.out.size; have := HZB.out; simp only; omega)]
                      exact cq
                    clear b2 K1 cq HO4 HB4
                    generalize f j = fj at *
                    by_cases hm : fj = mn
                    · have fm : (fj == mn) = true := by simpa using hm
                      rw [fm] at HFI
                      obtain ⟨v3, w3, hr3, ho3, hb3⟩ := HO6.out.snoc j HB6.out.size (by have := HTL.out; omega)
                      have HR3 := hide hr3
                      have HO7 : Hid (OwnJ w3 wp.heap.size v3 ((js.take (t + 1)).filter fun j => f j == mn)) := by
                        show OwnJ _ _ _ _
                        rw [HFI.out]
                        exact ho3
                      have HB7 : Hid (Below wp.heap.size wp w3) := HB6.out.trans hb3
                      clear hr3 ho3 hb3 hm HFI HO6
                      go_wp2_with ((with_reducible refine wpl_append _ _ 45 _ (.slice (some ⟨w2.heap.size, 0, none⟩) 1 1) _ ?_ ?_ HR3.out ?_); (· rfl); (· rfl))
                      exact ⟨⟨t + 1, by omega, by go_num, HO7, HB7⟩, by simp [intOf]; omega⟩
                    · have fm : (fj == mn) = false := by simpa using hm
                      rw [fm] at HFI
                      have HO7 : Hid (OwnJ w2 wp.heap.size u11 ((js.take (t + 1)).filter fun j => f j == mn)) := by
                        show OwnJ _ _ _ _
                        rw [HFI.out]
                        simpa using HO6.out
                      clear hm HFI HO6
                      go_wp2
                      exact ⟨⟨t + 1, by omega, by go_num, HO7, HB6⟩, by simp [intOf]; omega⟩
                  · have hte : t = q := by omega
                    subst hte
                    have htt : js.take t = js := by rw [HN2.out]; exact List.take_length
                    rw [htt, ← HST2.out] at HO4
                    have HO8 : Hid (OwnJ wr w.heap.size u11 (stepsB num infos all js0 (s + 1))) := own_base HO4.out (Nat.le_trans HB.out.size HB1.out.size)
                    have HB8 : Hid (Below w.heap.size w wr) := HB.out.trans (HB5.out.mono HB.out.size)
                    clear htt HO4
                    go_wp2
                    exact ⟨⟨s + 1, by omega, by go_num, HO8, HB8⟩, by simp [intOf]; omega⟩
          · have hs8 : ¬ (s : Int) < 9 := by omega
            have hbb : Hid (bb = some j0) := by
              show _ = _
              rw [HBB.out, HNI9.out (by omega)]
              rfl
            have hn2e : ¬ n2 = 0 := by omega
            have HBF := hide HB.out
            clear HJL HEN HST HNI9 HO RD HBB HB
            go_wp2
            refine bodyPost_ret (v := .tuple #[.int .i64 (j0 : Int), .bool true]) (by simp [results, Try.results11, go_sem]) rfl ⟨by rw [hbb.out]; rfl, HBF.out⟩
end Go.Proofs.Ytolpaimmmhoiiaa
