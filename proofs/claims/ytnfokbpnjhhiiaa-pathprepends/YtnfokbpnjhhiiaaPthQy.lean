/- The program's Prepend where the number goes into the first segment; Prepend of any path. -/
import Derived.Test.YtnfokbpnjhhiiaaPthQp
namespace Go.Proofs.Ytnfokbpnjhhiiaa
open Go.RowKit
set_option maxRecDepth 100000

section
attribute [local go_sem ↓] Go.wp_at_zero Go.wp_at_succ kept_appendI kept_appendS
attribute [local go_sem] run_store_func
set_option maxHeartbeats 6400000 in
theorem prepend_one (b off n0 c0 : Nat) (z : Int) (a0 : Option Addr) (zs : List Int) (w : World) (HN0 : Hid (zs.length = n0)) (hn0 : n0 ≤ 254) (h0 : w.cell? ⟨b, off, none⟩ = some (.bool false)) (h1 : w.cell? ⟨b, off + 1, none⟩ = some (.slice a0 n0 c0)) (HI : Hid (IRd w a0 zs)) :
    Calls Try.prog 24 #[.slice (some ⟨b, off, none⟩) 1 1, .int .i64 z] w fun e w' => ∃ v, e = .returned v ∧ OwnPath w' w.heap.size v [(false, [z] ++ zs)] ∧ Below w.heap.size w w' := by
  have hbl := World.block_lt_of_cell? w _ h0
  simp only at hbl
  have hbl1 : b < w.heap.size + 1 := by omega
  have hbl2 : b < w.heap.size + 1 + 1 := by omega
  have hbl3 : b < w.heap.size + 1 + 1 + 1 := by omega
  have hbl4 : b < w.heap.size + 1 + 1 + 1 + 1 := by omega
  have HM := hide (prep_meets false a0 n0 c0 z w)
  rw [show (!false && decide (n0 ≤ 254)) = true from by rw [decide_eq_true hn0]; rfl] at HM
  unfold prepW at HM
  go_enter Try.func24, Try.ntmps24
  go_wp2_with fail
  go_region_with (first
    | (go_at_call 35; refine (fromTo_any 0 254 _).mono ?_; rintro e w9 ⟨rfl, rfl⟩)
    | (go_at_call 34; refine HM.out.mono ?_; rintro e w8 ⟨rfl, hb8, ho8⟩; have HB8 := hide hb8; have HO8 := hide ho8; clear hb8 ho8))
  all_goals (
    obtain ⟨v9, w9, hr9, ho9, hb9⟩ := app_ird (n := 1) (ys := [z]) zs a0 c0 rfl HO8.out HB8.out.size (by rw [HN0.out]; omega) (HI.out.below HB8.out)
    obtain ⟨a9, c9, rfl⟩ := own_shape ho9
    have e9 : ([z] ++ zs).length = n0 + 1 := by rw [List.length_append, HN0.out]; simp; omega
    rw [e9, HN0.out] at hr9
    have HR9 := hide hr9
    have hBs : w.heap.size ≤ w9.heap.size := Nat.le_trans HB8.out.size hb9.size
    have k1 : w8.cell? ⟨b, off + 1, none⟩ = some (.slice a0 n0 c0) := by rw [HB8.out.cell (p := ⟨b, off + 1, none⟩) hbl]; exact h1
    have hb8l : b < w8.heap.size := Nat.lt_of_lt_of_le hbl HB8.out.size
    have HOP := hide (own_path_one (w := w9) (zs := [z] ++ zs) false ho9 hBs)
    rw [e9] at HOP
    have HBL : Hid (Below w.heap.size w (w9.alloc (.cells #[.bool false, .slice a9 (n0 + 1) c9] 38))) := (HB8.out.trans hb9).alloc hBs _
    clear hr9 ho9 hb9 HO8 HM e9
    go_wp2_with fail
    refine kept_appendI_intro _ _ _ _ (.slice a9 (n0 + 1) c9) (w' := w9) (by rfl) (by rfl) (by exact HR9.out) ?_
    clear HR9
    go_wp2
    go_loop [6, 35] (fun v i => i = .int .i64 0 ∧ v = .slice (some ⟨w9.heap.size, 0, none⟩) 1 1) (fun _ i => 0 - (intOf i).toNat)
    case atStart => exact ⟨rfl, rfl⟩
    case round =>
      obtain ⟨rfl, rfl⟩ := hrel
      go_wp2
      go_ret
      exact ⟨_, rfl, HOP.out, HBL.out⟩)
set_option maxHeartbeats 6400000 in
theorem prepend_yes (b off c n0 c0 : Nat) (z : Int) (a0 : Option Addr) (zs : List Int) (r : List (Bool × List Int)) (w : World) (hl0 : r.length + sumP r ≤ 50000) (HN0 : Hid (zs.length = n0)) (hn0 : n0 ≤ 254) (hrc : r.length + 1 ≤ c) (hc1 : ¬ c = 1) (HRS : Hid (PthRd w (some ⟨b, off + 2, none⟩) r)) (h0 : w.cell? ⟨b, off, none⟩ = some (.bool false)) (h1 : w.cell? ⟨b, off + 1, none⟩ = some (.slice a0 n0 c0)) (HI : Hid (IRd w a0 zs)) :
    Calls Try.prog 24 #[.slice (some ⟨b, off, none⟩) (r.length + 1) c, .int .i64 z] w fun e w' => ∃ v, e = .returned v ∧ OwnPath w' w.heap.size v ([(false, [z] ++ zs)] ++ r) ∧ Below w.heap.size w w' := by
  have hbl := World.block_lt_of_cell? w _ h0
  simp only at hbl
  have hbl1 : b < w.heap.size + 1 := by omega
  have hbl2 : b < w.heap.size + 1 + 1 := by omega
  have hbl3 : b < w.heap.size + 1 + 1 + 1 := by omega
  have hbl4 : b < w.heap.size + 1 + 1 + 1 + 1 := by omega
  have HL0 := hide hl0
  clear hl0
  generalize hnr : r.length = nr at *
  have HNR := hide hnr
  clear hnr
  have hnrb : nr ≤ 50000 := by have := HL0.out; omega
  have hn : 0 < nr + 1 := by omega
  have jn : (0 : Int) < (nr : Int) + 1 := by omega
  have j2 : (1 : Int) ≤ (nr : Int) + 1 := by omega
  have j3 : (nr : Int) + 1 ≤ (c : Int) := by omega
  have HM := hide (prep_meets false a0 n0 c0 z w)
  rw [show (!false && decide (n0 ≤ 254)) = true from by rw [decide_eq_true hn0]; rfl] at HM
  unfold prepW at HM
  go_enter Try.func24, Try.ntmps24
  go_wp2_with fail
  go_region_with (first
    | (go_at_call 35; refine (fromTo_any 0 254 _).mono ?_; rintro e w9 ⟨rfl, rfl⟩)
    | (go_at_call 34; refine HM.out.mono ?_; rintro e w8 ⟨rfl, hb8, ho8⟩; have HB8 := hide hb8; have HO8 := hide ho8; clear hb8 ho8))
  all_goals (
    obtain ⟨v9, w9, hr9, ho9, hb9⟩ := app_ird (n := 1) (ys := [z]) zs a0 c0 rfl HO8.out HB8.out.size (by rw [HN0.out]; omega) (HI.out.below HB8.out)
    obtain ⟨a9, c9, rfl⟩ := own_shape ho9
    have e9 : ([z] ++ zs).length = n0 + 1 := by rw [List.length_append, HN0.out]; simp; omega
    rw [e9, HN0.out] at hr9
    have HR9 := hide hr9
    have hBs : w.heap.size ≤ w9.heap.size := Nat.le_trans HB8.out.size hb9.size
    have k1 : w8.cell? ⟨b, off + 1, none⟩ = some (.slice a0 n0 c0) := by rw [HB8.out.cell (p := ⟨b, off + 1, none⟩) hbl]; exact h1
    have hb8l : b < w8.heap.size := Nat.lt_of_lt_of_le hbl HB8.out.size
    have HOP := hide (own_path_one (w := w9) (zs := [z] ++ zs) false ho9 hBs)
    rw [e9] at HOP
    have HBL : Hid (Below w.heap.size w (w9.alloc (.cells #[.bool false, .slice a9 (n0 + 1) c9] 38))) := (HB8.out.trans hb9).alloc hBs _
    clear hr9 ho9 hb9 HO8 HM e9
    go_wp2_with fail
    refine kept_appendI_intro _ _ _ _ (.slice a9 (n0 + 1) c9) (w' := w9) (by rfl) (by rfl) (by exact HR9.out) ?_
    clear HR9
    go_wp2
    go_loopw [6, 35] (fun v i wq => ∃ k : Nat, k ≤ nr ∧ i = .int .i64 k ∧ Hid (OwnPath wq w.heap.size v ([(false, [z] ++ zs)] ++ r.take k)) ∧ Hid (Below w.heap.size w wq)) (fun _ i _ => nr - (intOf i).toNat)
    case atStart => exact ⟨0, Nat.zero_le _, rfl, by show OwnPath _ _ _ _; rw [List.take_zero, List.append_nil]; exact HOP.out, HBL⟩
    case round =>
      clear HOP HBL
      obtain ⟨k, hk, rfl, HO, HB⟩ := hrel
      by_cases hlt : k < nr
      · have hkp : k < r.length := by rw [HNR.out]; exact hlt
        obtain ⟨Bx, Ox, hae, hc⟩ := HRS.out.cells (by omega)
        cases hae
        obtain ⟨e0, a1, c1, e1, hr⟩ := hc k r[k] (List.getElem?_eq_getElem hkp)
        have z0 := World.block_lt_of_cell? w _ e0
        simp only at z0
        have HT : Hid ([(false, [z] ++ zs)] ++ r.take (k + 1) = [(false, [z] ++ zs)] ++ r.take k ++ [r[k]]) := by show [(false, [z] ++ zs)] ++ r.take (k + 1) = _; rw [List.take_succ_eq_append_getElem hkp, ← List.append_assoc]
        have hll : (r[k]).2.length ≤ 100000 := by have := sumP_mem r _ (List.getElem_mem hkp); have := HL0.out; omega
        have hat : ([(false, [z] ++ zs)] ++ r.take k).length ≤ 100000 := by
          have := HL0.out
          simp only [List.length_append, List.length_take, List.length_cons, List.length_nil]
          omega
        have d0 : wr.cell? ⟨b, off + 2 + k * 2, none⟩ = some (.bool (r[k]).1) := by rw [HB.out.cell (p := ⟨b, off + 2 + k * 2, none⟩) z0]; exact e0
        have d1 : wr.cell? ⟨b, off + 2 + k * 2 + 1, none⟩ = some (.slice a1 (r[k]).2.length c1) := by rw [HB.out.cell (p := ⟨b, off + 2 + k * 2 + 1, none⟩) z0]; exact e1
        have HCL : Hid (∀ w3, Below wr.heap.size wr w3 → Calls Try.prog 36 #[.slice a1 (r[k]).2.length c1] w3 fun e w' => ∃ v, e = .returned v ∧ w'.ownsRow w3.heap.size 3 1 v (r[k]).2.length (icells (r[k]).2) ∧ Below w3.heap.size w3 w') := fun w3 hb3 => clone_any a1 c1 (r[k]).2 w3 hll ((hr.below HB.out).below hb3)
        generalize hsk : r[k] = sg at *
        clear hsk hr hc e0 e1
        obtain ⟨b1, ys⟩ := sg
        simp only at d0 d1 HCL hll
        have HZL : Hid (ys.length = ys.length) := rfl
        generalize hzl : ys.length = l at d0 d1 HCL hll
        have HZE := hide hzl
        clear hzl HZL
        have hk0 : (0 : Int) ≤ (k : Int) := Int.natCast_nonneg _
        have hk1 : (k : Int) < (nr : Int) := by omega
        have z1 : b < wr.heap.size := Nat.lt_of_lt_of_le z0 HB.out.size
        have HBS := hide HB.out.size
        have HC2 : Hid (Calls Try.prog 36 #[.slice a1 l c1] (wr.alloc (.cells #[.bool b1, .slice a1 l c1] 38)).drew fun e w5 => ∃ a9 c9 v6 w6, e = .returned (.slice a9 l c9) ∧ w5.cell? ⟨wr.heap.size, 0, none⟩ = some (.bool b1) ∧ wr.heap.size < w5.heap.size ∧ (Builtin.append_ #[22, 22] 22 #[u6, .slice (some ⟨w5.heap.size, 0, none⟩) 1 1]).run Try.prog (w5.alloc (.cells #[.bool b1, .slice a9 l c9] 38)) = .ok v6 w6 ∧ OwnPath w6 w.heap.size v6 ([(false, [z] ++ zs)] ++ r.take (k + 1)) ∧ Below w.heap.size w w6) := by
          have hb0 : Below wr.heap.size wr (wr.alloc (.cells #[.bool b1, .slice a1 l c1] 38)).drew := ((Below.refl _ _).alloc (Nat.le_refl _) _).drew
          have hbs := HB.out.size
          have hb0s := hb0.size
          refine (HCL.out _ hb0).mono ?_
          rintro e w5 ⟨v5, rfl, ho5, hb5⟩
          obtain ⟨a9, c9, rfl⟩ := own_shape ho5
          have hB5 : Below w.heap.size w w5 := (HB.out.trans (hb0.mono hbs)).trans (hb5.mono (by omega))
          obtain ⟨v6, w6, hr6, ho6, hb6⟩ := ((HO.out.later hb0).later hb5).snoc (b := b1) (zs := ys) (u := .slice a9 l c9) (by rw [HZE.out]; exact own_base ho5 (by omega)) rfl hB5.size hat w5.heap.size rfl
          refine ⟨a9, c9, v6, w6, rfl, ?_, ?_, hr6, ?_, hB5.trans hb6⟩
          · rw [hb5.cell (p := ⟨wr.heap.size, 0, none⟩) (by simp)]; simp [go_sem]
          · have := hb5.size; simp at this; omega
          · rw [HT.out]; exact ho6
        go_wp2_with fail
        go_region_with (first
          | (go_at_call 36; refine HC2.out.mono ?_; rintro e w5 ⟨a9, c9, v6, w6, rfl, r0, hz5, hr6, ho6, hb6⟩; have HR6 := hide hr6; have HO6 := hide ho6; have HB6 := hide hb6; clear hr6 ho6 hb6)
          | (refine kept_appendS_intro _ _ _ (.slice (some ⟨w5.heap.size, 0, none⟩) 1 1) v6 (w' := w6) (by rfl) (by rfl) (by exact HR6.out) ?_))
        all_goals go_wp2
        all_goals exact ⟨⟨k + 1, by omega, by go_num, HO6, HB6⟩, by simp [intOf]; omega⟩
      · have hkl : r.take k = r := List.take_of_length_le (by rw [HNR.out]; omega)
        rw [hkl] at HO
        go_wp2
        go_ret
        exact ⟨_, rfl, HO.out, HB.out⟩)
end
theorem prepend_any (a : Option Addr) (c : Nat) (ss : List (Bool × List Int)) (z : Int) (w : World) (hl : ss.length + sumP ss ≤ 50000) (hlc : ss.length ≤ c) (h : PthRd w a ss) :
    Calls Try.prog 24 #[.slice a ss.length c, .int .i64 z] w fun e w' => ∃ v, e = .returned v ∧ OwnPath w' w.heap.size v (prepP z ss) ∧ Below w.heap.size w w' := by
  cases ss with
  | nil => exact prepend_none a c z w
  | cons s r =>
    obtain ⟨b, off, rfl, hc⟩ := h.cells (by simp)
    obtain ⟨h0, a0, c0, h1, hi⟩ := hc 0 s (by simp)
    simp only [Nat.zero_mul, Nat.add_zero] at h0 h1
    by_cases hs : s.1 = false ∧ s.2.length ≤ 254
    · rw [show prepP z (s :: r) = [(false, [z] ++ s.2)] ++ r from by rw [prepP, if_pos hs]; rfl]
      rw [hs.1] at h0
      by_cases hc1 : c = 1
      · subst hc1
        have hr : r = [] := by
          cases r with
          | nil => rfl
          | cons x y => simp at hlc
        subst hr
        exact prepend_one b off _ c0 z a0 s.2 w rfl hs.2 h0 h1 hi
      · have hr : PthRd w (some ⟨b, off + 2, none⟩) r := ⟨fun _ => ⟨b, off + 2, rfl, fun i x hx => by
            have := hc (i + 1) x (by simpa using hx)
            rwa [show off + (i + 1) * 2 = off + 2 + i * 2 from by omega] at this⟩, by have := h.small; simp only [List.length_cons] at this; omega, fun x hx => h.smalls x (List.mem_cons_of_mem _ hx)⟩
        exact prepend_yes b off c _ c0 z a0 s.2 r w (by simp only [List.length_cons, sumP] at hl; omega) rfl hs.2 (by simpa using hlc) hc1 hr h0 h1 hi
    · rw [show prepP z (s :: r) = [(false, [z])] ++ (s :: r) from by rw [prepP, if_neg hs]; rfl]
      refine prepend_not b off c s.2.length c0 z s.1 a0 (s :: r) w hl (by simp) h h0 h1 ?_
      cases hk : s.1 with
      | true => rfl
      | false => rw [decide_eq_false (fun h9 => hs ⟨hk, h9⟩)]; rfl
end Go.Proofs.Ytnfokbpnjhhiiaa
