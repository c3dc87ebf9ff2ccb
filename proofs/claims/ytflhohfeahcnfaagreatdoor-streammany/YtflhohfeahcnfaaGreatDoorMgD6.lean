/- The program's Decode of a NOTIFICATION. -/
import Derived.Test.YtflhohfeahcnfaaGreatDoorMgN
import Derived.Test.YtflhohfeahcnfaaGreatDoorMgC
namespace Go.Proofs.YtflhohfeahcnfaaGreatDoor
open Go.RowKit
set_option maxRecDepth 100000

theorem Fr.lay12 {t0 t1 t2 t3 t4 t5 t6 t7 t8 t9 t10 t11 : Nat} {b a : Act} (h : Fr [t0, t1, t2, t3, t4, t5, t6, t7, t8, t9, t10, t11] b a) (hsz : ∀ s ∈ [t0, t1, t2, t3, t4, t5, t6, t7, t8, t9, t10, t11], s < b.tmps.size) :
    ∃ x0 x1 x2 x3 x4 x5 x6 x7 x8 x9 x10 x11, a = ((((((((((((b.put (some t0) x0).put (some t1) x1).put (some t2) x2).put (some t3) x3).put (some t4) x4).put (some t5) x5).put (some t6) x6).put (some t7) x7).put (some t8) x8).put (some t9) x9).put (some t10) x10).put (some t11) x11) := by
  have get : ∀ t, t ∈ [t0, t1, t2, t3, t4, t5, t6, t7, t8, t9, t10, t11] → ∃ x, a.tmps[t]? = some x := fun t ht => ⟨_, Array.getElem?_eq_getElem (by rw [h.size]; exact hsz t ht)⟩
  obtain ⟨x0, h0⟩ := get t0 (by simp)
  obtain ⟨x1, h1⟩ := get t1 (by simp)
  obtain ⟨x2, h2⟩ := get t2 (by simp)
  obtain ⟨x3, h3⟩ := get t3 (by simp)
  obtain ⟨x4, h4⟩ := get t4 (by simp)
  obtain ⟨x5, h5⟩ := get t5 (by simp)
  obtain ⟨x6, h6⟩ := get t6 (by simp)
  obtain ⟨x7, h7⟩ := get t7 (by simp)
  obtain ⟨x8, h8⟩ := get t8 (by simp)
  obtain ⟨x9, h9⟩ := get t9 (by simp)
  obtain ⟨x10, h10⟩ := get t10 (by simp)
  obtain ⟨x11, h11⟩ := get t11 (by simp)
  refine ⟨x0, x1, x2, x3, x4, x5, x6, x7, x8, x9, x10, x11, Fr.eq (b := b) (l := [(t0, x0), (t1, x1), (t2, x2), (t3, x3), (t4, x4), (t5, x5), (t6, x6), (t7, x7), (t8, x8), (t9, x9), (t10, x10), (t11, x11)]) (c := b) rfl h.defers h.size h.out fun p hp => ?_⟩
  simp only [List.mem_cons, List.not_mem_nil, or_false] at hp
  rcases hp with rfl | rfl | rfl | rfl | rfl | rfl | rfl | rfl | rfl | rfl | rfl | rfl <;> assumption
section
attribute [local go_sem ↓] keptM_load keptM_store keptM_alloc keptM_build
set_option maxHeartbeats 4000000 in
theorem dec_note (g o n cp : Nat) (bs : List Nat) (w : World) (hn : bs.length = n) (hn21 : 21 ≤ n) (hl : n ≤ 5000) (hcap : n ≤ cp) (h : BRd w (some ⟨g, o, none⟩) bs) (hS : SaidM w) (hr : headM bs = (n, 0, 0, [])) (hk3 : bs.getD 18 0 = 3) :
    Calls Tryz.prog 10 #[.slice (some ⟨g, o, none⟩) n cp] w fun e w' => (∃ a8 c8 a9 c9, e = .returned (.tuple #[.agg (msgC 3 (bs.getD 19 0 : Int) (bs.getD 20 0 : Int) (.slice a8 (n - 19 - 2) c8)), .agg #[.int .i64 0, .int .i64 0, .slice a9 0 c9]]) ∧ w'.ownsRow w.heap.size 5 1 (.slice a8 (n - 19 - 2) c8) (n - 19 - 2) (bcells (bs.drop 21))) ∧ Below w.heap.size w w' := by
  have KH := head_dW (some ⟨g, o, none⟩) cp bs w (by omega) (by omega) h hS _ hr
  rw [hn] at KH
  have HK := hide KH
  obtain ⟨g', o', e9, hc⟩ := h.1.2 (by omega)
  cases e9
  have c18 : w.cell? ⟨g, o + 18, none⟩ = some (.int .u8 3) := by rw [hc 18 (by omega)]; show some (Value.int .u8 ((bs.getD 18 0 : Nat) : Int)) = _; rw [hk3]; rfl
  have zg := World.block_lt_of_cell? w _ c18
  simp only at zg
  have hcp19 : ¬ cp = 19 := by omega
  have hni : ¬ ((n : Int) < 19) := by omega
  have H29 : Hid (21 ≤ n ∧ n ≤ 5000) := ⟨hn21, hl⟩
  have HX19 : Hid (∀ X, Below w.heap.size w X → X.cell? ⟨g, o + 19, none⟩ = some (.int .u8 (bs.getD 19 0 : Int)) ∧ X.cell? ⟨g, o + 19 + 1, none⟩ = some (.int .u8 (bs.getD 20 0 : Int)) ∧ BRd X (if cp - 19 = 2 then some ⟨g, o + 19, none⟩ else some ⟨g, o + 19 + 2, none⟩) (bs.drop 21)) := fun X hX => by
    refine ⟨?_, ?_, ?_⟩
    · rw [hX.cell (p := ⟨g, o + 19, none⟩) zg]; exact hc 19 (by omega)
    · rw [hX.cell (p := ⟨g, o + 19 + 1, none⟩) zg]; exact hc 20 (by omega)
    · have h19 := brd_drop (k := 19) (h.below hX) (by omega)
      have := brd_sub (a := if cp - 19 = 2 then some ⟨g, o + 19, none⟩ else some ⟨g, o + 19 + 2, none⟩) (k := 2) (l := n - 21) (c := cp - 19) h19 (by rw [List.length_drop]; omega) (by rw [List.length_drop]; omega) rfl
      rwa [List.drop_drop, List.take_of_length_le (by rw [List.length_drop]; omega)] at this
  have hx256 : bs.getD 19 0 < 256 := getD_lt256 h.2 19
  have hy256 : bs.getD 20 0 < 256 := getD_lt256 h.2 20
  have hdl : (bs.drop 21).length = n - 19 - 2 := by rw [List.length_drop]; omega
  have HDL := hide hdl
  clear KH h hS hcap hr hn hk3 hc hl hn21 hdl
  simp only at HK
  generalize bs.getD 19 0 = x at *
  generalize bs.getD 20 0 = y at *
  generalize bs.drop 21 = d at *
  go_enter Tryz.func10, Tryz.ntmps10
  go_wp2_with (refine keptM_alloc_intro _ (run_allocM w) ?_)
  show Calls Tryz.prog 23 #[.slice (some ⟨g, o, none⟩) n cp] (dW w) _
  with_reducible refine HK.out.mono ?_
  rintro e w1 ⟨a9, c9, rfl, HO, HB⟩
  have HH := hide (h6_of a9 0 c9 HB.out zg c18)
  go_wp2_with fail
  generalize (w1.alloc (.cells #[.int .i64 0, .int .i64 0, .slice a9 0 c9] 38)) = W at *
  refine m_region _ W g o n cp 3 ⟨_, _, _, rfl⟩ ⟨_, _, _, rfl⟩ ⟨_, _, _, rfl⟩ ⟨_, _, _, rfl⟩ ⟨_, _, _, rfl⟩ ⟨_, _, _, rfl⟩ ⟨_, _, _, rfl⟩ ⟨_, _, _, rfl⟩ ⟨_, _, _, rfl⟩ ⟨_, _, _, rfl⟩ rfl (by kernel_rfl)
    ⟨by kernel_rfl, by kernel_rfl⟩ ⟨by kernel_rfl, by kernel_rfl⟩ ⟨by kernel_rfl, by kernel_rfl⟩ ⟨by kernel_rfl, by kernel_rfl⟩ ⟨by kernel_rfl, by kernel_rfl⟩ ⟨by kernel_rfl, by kernel_rfl⟩ ⟨by kernel_rfl, by kernel_rfl⟩ (by kernel_rfl) (by kernel_rfl) (by kernel_rfl) (by kernel_rfl)
    rfl rfl (by have := H29.out.1; omega) (by have := H29.out.2; omega) (by omega) HH.out.c18 ?_
  intro a W6 hfr h6 h7 bY hb6
  rw [if_neg hcp19] at h7
  obtain ⟨x0, x1, x2, x3, x4, x5, x6, rfl⟩ := hfr.lay9m (by exact (by decide : ∀ s ∈ [29, 30, 31, 32, 33, 34, 35, 6, 7], s < 75)) h6 h7
  have HD : Hid (D6 w W6 w1.heap.size W.heap.size (msgC 3 0 0 (.slice none 0 0)) (.slice a9 0 c9)) := HH.out.d6 bY hb6
  have hsz := HH.out.le
  have y0 : W6.cell? ⟨W.heap.size, 0, none⟩ = some (.int .i64 3) := range_of HD.out.bY 0 _ rfl
  have zY : W.heap.size < W6.heap.size := HD.out.hs
  clear hfr h6 h7 bY hb6
  simp only [Act.put, List.setIfInBounds_toArray, List.set_cons_zero, List.set_cons_succ]
  go_wp2_with fail
  obtain ⟨q19, q20, qd⟩ := HX19.out W6 HD.out.bel
  refine n_region _ W6 W.heap.size g (o + 19) (n - 19) (cp - 19) x y d ⟨_, _, _, rfl⟩ ⟨_, _, _, rfl⟩ ⟨_, _, _, rfl⟩ ⟨_, _, _, rfl⟩ ⟨_, _, _, rfl⟩ ⟨_, _, _, rfl⟩ ⟨_, _, _, rfl⟩ ⟨_, _, _, rfl⟩ ⟨_, _, _, rfl⟩ ⟨_, _, _, rfl⟩ ⟨_, _, _, rfl⟩ ⟨_, _, _, rfl⟩ ⟨_, _, _, rfl⟩ rfl (by kernel_rfl)
    ⟨by kernel_rfl, by kernel_rfl⟩ ⟨by kernel_rfl, by kernel_rfl⟩ ⟨by kernel_rfl, by kernel_rfl⟩ ⟨by kernel_rfl, by kernel_rfl⟩ ⟨by kernel_rfl, by kernel_rfl⟩ ⟨by kernel_rfl, by kernel_rfl⟩ ⟨by kernel_rfl, by kernel_rfl⟩ ⟨by kernel_rfl, by kernel_rfl⟩ ⟨by kernel_rfl, by kernel_rfl⟩ ⟨by kernel_rfl, by kernel_rfl⟩ ⟨by kernel_rfl, by kernel_rfl⟩ (by kernel_rfl) (by kernel_rfl) (by kernel_rfl)
    rfl rfl rfl (by have := H29.out; omega) (by have := H29.out; omega) hx256 hy256 q19 q20 (by have := HD.out.hX; have := HD.out.hY; omega) HD.out.bY HDL.out (fun X hX => (HX19.out X (HD.out.bel.trans (hX.mono HD.out.bel.size))).2.2) ?_
  intro a W8 W9 a8 c8 hfr hb8 ho8 hk9 b9 z9
  obtain ⟨y0', y1', y2', y3', y4', y5', y6', y7', y8', y9', y10', y11', rfl⟩ := hfr.lay12 (by exact (by decide : ∀ s ∈ [56, 57, 58, 59, 60, 61, 62, 63, 64, 65, 66, 67], s < 75))
  have zx : w1.heap.size ≠ W.heap.size ∧ w.heap.size + 2 ≤ w1.heap.size ∧ w1.heap.size < W.heap.size := by have := HD.out.hX; have := HD.out.hY; omega
  have keepB : ∀ j, j < W6.heap.size → j ≠ W.heap.size → W9.heap[j]? = W6.heap[j]? := fun j hj hne => by rw [hk9.block j (by have := hb8.size; omega) hne, hb8.block j hj]
  have H9M : Hid (W9.heap[w.heap.size]? = some (.cells zM 40 (0, 0))) := by show _ = _; rw [keepB _ (by omega) (by omega)]; exact HD.out.bM
  have H9N : Hid (W9.heap[w.heap.size + 1]? = some (.cells #[.int .i64 0, .int .i64 0, .slice none 0 0] 38 (0, 0))) := by show _ = _; rw [keepB _ (by omega) (by omega)]; exact HD.out.bN
  have H9X : Hid (W9.heap[w1.heap.size]? = some (.cells #[.int .i64 0, .int .i64 0, .slice a9 0 c9] 38 (0, 0))) := by show _ = _; rw [keepB _ (by omega) (by omega)]; exact HD.out.bX
  have H9Y := hide b9
  have B9 : Hid (Below w.heap.size w W9) := HD.out.bel.trans ((hb8.mono HD.out.bel.size).trans (hk9.below _ (by have := HD.out.bel.size; have := hb8.size; omega) (fun x e => by omega)))
  have HOW9 : Hid (W9.ownsRow W6.heap.size 5 1 (.slice a8 (n - 19 - 2) c8) (n - 19 - 2) (bcells d)) := own_keep ho8 hk9 (fun x hx => by omega)
  have zXx : w1.heap.size < W9.heap.size := (Array.getElem?_eq_some_iff.1 H9X.out).1
  have zYx : W.heap.size < W9.heap.size := (Array.getElem?_eq_some_iff.1 b9).1
  have x9 : W9.cell? ⟨w1.heap.size, 0, none⟩ = some (.int .i64 0) := by have := range_of H9X.out 0 _ rfl; simpa using this
  clear hfr hb8 ho8 hk9 b9 z9 keepB q19 q20 qd
  simp only [Act.put, List.setIfInBounds_toArray, List.set_cons_zero, List.set_cons_succ]
  go_wp2_with fail
  refine out_region _ W9 w.heap.size (w.heap.size + 1) 40 zM (msgC 3 (x : Int) (y : Int) (.slice a8 (n - 19 - 2) c8)) #[.int .i64 0, .int .i64 0, .slice none 0 0] #[.int .i64 0, .int .i64 0, .slice a9 0 c9] 73 74 _ _ ⟨_, _, _, rfl⟩ ⟨_, _, _, rfl⟩ ⟨_, _, _, rfl⟩ ⟨_, _, _, rfl⟩ rfl (by kernel_rfl) (by kernel_rfl) (by kernel_rfl) (by kernel_rfl) (by kernel_rfl) (by kernel_rfl) (by kernel_rfl) (by kernel_rfl)
    (fun ty po af W' hW => run_of_loadM (MC.msg 3 (x : Int) (y : Int) a8 (n - 19 - 2) c8) (g := W.heap.size) (by rfl) (range_of (by rw [hW.block _ zYx (by omega)]; exact H9Y.out)))
    (fun ty po af W' hW => run_of_loadN (g := w1.heap.size) (by rfl) (by
      rw [hW.block _ zXx (by omega)]; exact H9X.out)) rfl rfl (show 73 < 75 by decide) (show 74 < 75 by decide) (by decide) H9M.out H9N.out (by omega) rfl rfl infoM infoN (MC.msg 3 (x : Int) (y : Int) a8 (n - 19 - 2) c8).2 (by simp [Value.oneCell']) ?_
  simp only [Act.put, List.setIfInBounds_toArray, List.set_cons_zero, List.set_cons_succ]
  have HRM : Hid (((({ W9 with drawn := W9.drawn + 1 } : World).setCells w.heap.size 0 (msgC 3 (x : Int) (y : Int) (.slice a8 (n - 19 - 2) c8)).toList).setCells (w.heap.size + 1) 0 (#[Value.int .i64 0, .int .i64 0, .slice a9 0 c9] : Array Value).toList).rangeAt w.heap.size 0 (msgC 3 (x : Int) (y : Int) (.slice a8 (n - 19 - 2) c8)).toList) := bx_apart (bx_set (w := { W9 with drawn := W9.drawn + 1 }) H9M.out (Nat.le_refl _)) (by omega)
  have HRN : Hid (((({ W9 with drawn := W9.drawn + 1 } : World).setCells w.heap.size 0 (msgC 3 (x : Int) (y : Int) (.slice a8 (n - 19 - 2) c8)).toList).setCells (w.heap.size + 1) 0 (#[Value.int .i64 0, .int .i64 0, .slice a9 0 c9] : Array Value).toList).rangeAt (w.heap.size + 1) 0 (#[Value.int .i64 0, .int .i64 0, .slice a9 0 c9] : Array Value).toList) :=
    bx_set (C0 := #[.int .i64 0, .int .i64 0, .slice none 0 0]) (t := 38) (by rw [heap_sets (by omega)]; exact H9N.out) (by simp)
  have HKe : Hid (Keeps (fun x => x = w.heap.size ∨ x = w.heap.size + 1) W9 ((({ W9 with drawn := W9.drawn + 1 } : World).setCells w.heap.size 0 (msgC 3 (x : Int) (y : Int) (.slice a8 (n - 19 - 2) c8)).toList).setCells (w.heap.size + 1) 0 (#[Value.int .i64 0, .int .i64 0, .slice a9 0 c9] : Array Value).toList)) :=
    (Keeps.setCells (w := W9) (w1 := { W9 with drawn := W9.drawn + 1 }) ⟨rfl, rfl, rfl, Nat.le_refl _, fun _ _ _ => rfl⟩ _ 0 _ (.inl (.inl rfl))).setCells _ 0 _ (.inl (.inr rfl))
  generalize ((({ W9 with drawn := W9.drawn + 1 } : World).setCells w.heap.size 0 (msgC 3 (x : Int) (y : Int) (.slice a8 (n - 19 - 2) c8)).toList).setCells (w.heap.size + 1) 0 (#[Value.int .i64 0, .int .i64 0, .slice a9 0 c9] : Array Value).toList) = WE at *
  go_wp2_with fail
  refine bodyPost_ret (v := .tuple #[.agg (msgC 3 (x : Int) (y : Int) (.slice a8 (n - 19 - 2) c8)), .agg #[.int .i64 0, .int .i64 0, .slice a9 0 c9]]) (res_cells2 Tryz.results10 _ WE w.heap.size (w.heap.size + 1) (msgC 3 (x : Int) (y : Int) (.slice a8 (n - 19 - 2) c8)) _ rfl rfl HRM.out HRN.out Tryz.underlying40 rfl infoM Tryz.underlying38 rfl infoN) rfl ?_
  exact ⟨⟨a8, c8, ⟨a9, c9, rfl⟩, own_low (own_keep HOW9.out HKe.out (fun x hx => by have := HD.out.hY; have := HD.out.hs; omega)) (by have := HD.out.bel.size; omega)⟩, B9.out.trans (HKe.out.below _ B9.out.size (fun x e => by omega))⟩
end
end Go.Proofs.YtflhohfeahcnfaaGreatDoor
