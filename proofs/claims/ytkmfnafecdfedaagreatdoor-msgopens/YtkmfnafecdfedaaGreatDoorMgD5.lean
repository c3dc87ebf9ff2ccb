/- The program's Decode of an OPEN. -/
import Derived.Test.YtkmfnafecdfedaaGreatDoorMgD4
namespace Go.Proofs.YtkmfnafecdfedaaGreatDoor
open Go.RowKit
set_option maxRecDepth 100000

/-- What Decode answers of an OPEN whose body tells r. -/
def DoIs (w w' : World) (e : Ending) (r : (Nat × Nat × List Nat) ⊕ (Int × Nat × Nat × Cp)) : Prop := match r with
  | .inl (k, s, d) => BadIs w w' e k s d
  | .inr (a, h, i, c) => e = .returned (.tuple #[.agg (openMsg 1 (openC a h i c)), .agg #[.int .i64 0, .int .i64 0, .slice none 0 0]])
section
attribute [local go_sem ↓] keptM_load keptM_store keptM_alloc keptM_build keptO_store
set_option maxHeartbeats 4000000 in
theorem dec_open_bad (g o n cp : Nat) (bs : List Nat) (w : World) (hn : bs.length = n) (hn29 : 29 ≤ n) (hl : n ≤ 5000) (hcap : n ≤ cp) (h : BRd w (some ⟨g, o, none⟩) bs) (hS : SaidM w) (hr : headM bs = (n, 0, 0, [])) (hk1 : bs.getD 18 0 = 1) (k s : Nat) (d : List Nat) (hk : k ≠ 0) (ho : openR (bs.drop 19) = .inl (k, s, d)) :
    Calls Tryz.prog 7 #[.slice (some ⟨g, o, none⟩) n cp] w fun e w' => BadIs w w' e k s d ∧ Below w.heap.size w w' := by
  have KH := head_dW (some ⟨g, o, none⟩) cp bs w (by omega) (by omega) h hS _ hr
  rw [hn] at KH
  have HK := hide KH
  obtain ⟨g', o', e9, hc⟩ := h.1.2 (by omega)
  cases e9
  have c18 : w.cell? ⟨g, o + 18, none⟩ = some (.int .u8 1) := by rw [hc 18 (by omega)]; show some (Value.int .u8 ((bs.getD 18 0 : Nat) : Int)) = _; rw [hk1]; rfl
  have zg := World.block_lt_of_cell? w _ c18
  simp only at zg
  have KO : Hid (∀ X, Below w.heap.size w X → Calls Tryz.prog 22 #[.slice (some ⟨g, o + 19, none⟩) (n - 19) (cp - 19)] X fun e w' => OpIs X w' e (openR (bs.drop 19)) ∧ Below X.heap.size X w') := fun X hX =>
    readopen_any g (o + 19) (n - 19) (cp - 19) (bs.drop 19) X (by rw [List.length_drop, hn]) (by omega) (by omega) (by omega) (brd_drop (h.below hX) (by omega))
  have hcp19 : ¬ cp = 19 := by omega
  have hni : ¬ ((n : Int) < 19) := by omega
  have H29 : Hid (29 ≤ n ∧ n ≤ 5000) := ⟨hn29, hl⟩
  clear KH h hS hcap hr hn hk1 hc hl hn29
  simp only at HK
  rw [ho] at KO
  unfold OpIs NoteIs at KO
  unfold BadIs NoteIs
  simp only at KO
  have hkz : ((k : Int) != 0) = true := by simp; omega
  clear ho
  generalize d.length = dl at *
  go_enter Tryz.func7, Tryz.ntmps7
  go_wp2_with (refine keptM_alloc_intro _ (run_allocM w) ?_)
  show Calls Tryz.prog 20 #[.slice (some ⟨g, o, none⟩) n cp] (dW w) _
  with_reducible refine HK.out.mono ?_
  rintro e w1 ⟨a9, c9, rfl, HO, HB⟩
  have HH := hide (h6_of a9 0 c9 HB.out zg c18)
  go_wp2_with fail
  generalize (w1.alloc (.cells #[.int .i64 0, .int .i64 0, .slice a9 0 c9] 38)) = W at *
  refine m_region _ W g o n cp 1 ⟨_, _, _, rfl⟩ ⟨_, _, _, rfl⟩ ⟨_, _, _, rfl⟩ ⟨_, _, _, rfl⟩ ⟨_, _, _, rfl⟩ ⟨_, _, _, rfl⟩ ⟨_, _, _, rfl⟩ ⟨_, _, _, rfl⟩ ⟨_, _, _, rfl⟩ ⟨_, _, _, rfl⟩ rfl (by kernel_rfl)
    ⟨by kernel_rfl, by kernel_rfl⟩ ⟨by kernel_rfl, by kernel_rfl⟩ ⟨by kernel_rfl, by kernel_rfl⟩ ⟨by kernel_rfl, by kernel_rfl⟩ ⟨by kernel_rfl, by kernel_rfl⟩ ⟨by kernel_rfl, by kernel_rfl⟩ ⟨by kernel_rfl, by kernel_rfl⟩ (by kernel_rfl) (by kernel_rfl) (by kernel_rfl) (by kernel_rfl)
    rfl rfl (by have := H29.out.1; omega) (by have := H29.out.2; omega) (by omega) HH.out.c18 ?_
  intro a W6 hfr h6 h7 bY hb6
  rw [if_neg hcp19] at h7
  obtain ⟨x0, x1, x2, x3, x4, x5, x6, rfl⟩ := hfr.lay9m (by exact (by decide : ∀ s ∈ [29, 30, 31, 32, 33, 34, 35, 6, 7], s < 75)) h6 h7
  have HD : Hid (D6 w W6 w1.heap.size W.heap.size (msgC 1 0 0 (.slice none 0 0)) (.slice a9 0 c9)) := HH.out.d6 bY hb6
  have hsz := HH.out.le
  have y0 : W6.cell? ⟨W.heap.size, 0, none⟩ = some (.int .i64 1) := range_of HD.out.bY 0 _ rfl
  have zY : W.heap.size < W6.heap.size := HD.out.hs
  clear hfr h6 h7 bY hb6
  simp only [Act.put, List.setIfInBounds_toArray, List.set_cons_zero, List.set_cons_succ]
  go_wp2_with fail
  with_reducible refine (KO.out W6 HD.out.bel).mono ?_
  rintro e w7 ⟨hop, hb7⟩
  obtain ⟨u, rfl, a8, c8, rfl, ho⟩ := hop
  obtain ⟨W8, hst, b8, o8, z8, k8⟩ := store_open (w := w7) (Y := W.heap.size) (k := 1) (O := zO) OC.zero (by rw [hb7.block _ zY]; exact HD.out.bY)
  have hX8 : W8.heap[w1.heap.size]? = some (.cells #[.int .i64 0, .int .i64 0, .slice a9 0 c9] 38 (0, 0)) := by
    rw [o8 _ (by have := HD.out.hY; omega), hb7.block _ (by have := HD.out.hY; omega)]; exact HD.out.bX
  have hX := range_of hX8
  have zX8 : w1.heap.size < W8.heap.size := (Array.getElem?_eq_some_iff.1 hX8).1
  have r0 : W8.cell? ⟨w1.heap.size, 0, none⟩ = some (.int .i64 0) := by have := hX 0 _ rfl; simpa using this
  have r1 : W8.cell? ⟨w1.heap.size, 1, none⟩ = some (.int .i64 0) := by have := hX 1 _ rfl; simpa using this
  have r2 : W8.cell? ⟨w1.heap.size, 2, none⟩ = some (.slice a9 0 c9) := by have := hX 2 _ rfl; simpa using this
  have ff : ∀ j, W8.frozen? ⟨w1.heap.size, j, none⟩ = false := fun j => by simp [World.frozen?, hX8]
  have f0 := ff 0
  have f1 := ff 1
  have f2 := ff 2
  have HST := hide hst
  have zx : w1.heap.size ≠ W.heap.size ∧ w.heap.size + 2 ≤ w1.heap.size ∧ w1.heap.size < W.heap.size := by have := HD.out.hX; have := HD.out.hY; omega
  have h9M : (W8.setCells w1.heap.size 0 [.int .i64 (k : Int), .int .i64 (s : Int), .slice a8 dl c8]).heap[w.heap.size]? = some (.cells zM 40 (0, 0)) := by
    rw [heap_sets (by omega), o8 _ (by omega), hb7.block _ (by omega)]; exact HD.out.bM
  have h9N : (W8.setCells w1.heap.size 0 [.int .i64 (k : Int), .int .i64 (s : Int), .slice a8 dl c8]).heap[w.heap.size + 1]? = some (.cells #[.int .i64 0, .int .i64 0, .slice none 0 0] 38 (0, 0)) := by
    rw [heap_sets (by omega), o8 _ (by omega), hb7.block _ (by omega)]; exact HD.out.bN
  have h9X : (W8.setCells w1.heap.size 0 [.int .i64 (k : Int), .int .i64 (s : Int), .slice a8 dl c8]).heap[w1.heap.size]? = some (.cells #[.int .i64 (k : Int), .int .i64 (s : Int), .slice a8 dl c8] 38 (0, 0)) := bx_put (C := #[.int .i64 (k : Int), .int .i64 (s : Int), .slice a8 dl c8]) hX8 rfl
  have h9Y : (W8.setCells w1.heap.size 0 [.int .i64 (k : Int), .int .i64 (s : Int), .slice a8 dl c8]).heap[W.heap.size]? = some (.cells (openMsg 1 zO) 40 (0, 0)) := by
    rw [heap_sets (by omega)]; exact b8
  have k9 : Keeps (fun x => x = W.heap.size ∨ x = w1.heap.size) w7 (W8.setCells w1.heap.size 0 [.int .i64 (k : Int), .int .i64 (s : Int), .slice a8 dl c8]) := (k8.mono (fun x _ e => .inl e)).setCells _ 0 _ (.inl (.inr rfl))
  have b9 : Below w.heap.size w (W8.setCells w1.heap.size 0 [.int .i64 (k : Int), .int .i64 (s : Int), .slice a8 dl c8]) := (HD.out.bel.trans (hb7.mono HD.out.bel.size)).trans (k9.below _ (by have := HD.out.bel.size; have := hb7.size; omega) (fun x e => by omega))
  have z9 : (W8.setCells w1.heap.size 0 [.int .i64 (k : Int), .int .i64 (s : Int), .slice a8 dl c8]).heap.size = w7.heap.size := by
    have : ∀ (vs : List Value) (o : Nat) (w : World), (w.setCells w1.heap.size o vs).heap.size = w.heap.size := by
      intro vs
      induction vs with
      | nil => intro o w; rfl
      | cons v r ih => intro o w; rw [World.setCells, ih]; simp
    rw [this, z8]
  have HOW9 : Hid ((W8.setCells w1.heap.size 0 [.int .i64 (k : Int), .int .i64 (s : Int), .slice a8 dl c8]).ownsRow W6.heap.size 5 1 (.slice a8 dl c8) dl (bcells d)) := own_keep ho k9 (fun x hx => by omega)
  have x9 : (W8.setCells w1.heap.size 0 [.int .i64 (k : Int), .int .i64 (s : Int), .slice a8 dl c8]).cell? ⟨w1.heap.size, 0, none⟩ = some (.int .i64 (k : Int)) := by have := range_of h9X 0 _ rfl; simpa using this
  have H9M := hide h9M
  have H9N := hide h9N
  have H9X := hide h9X
  have H9Y := hide h9Y
  have B9 := hide b9
  have Z9 := hide z9
  have zXx : w1.heap.size < (W8.setCells w1.heap.size 0 [.int .i64 (k : Int), .int .i64 (s : Int), .slice a8 dl c8]).heap.size := (Array.getElem?_eq_some_iff.1 h9X).1
  have zYx : W.heap.size < (W8.setCells w1.heap.size 0 [.int .i64 (k : Int), .int .i64 (s : Int), .slice a8 dl c8]).heap.size := (Array.getElem?_eq_some_iff.1 h9Y).1
  clear h9M h9N h9X h9Y b9 z9 hst b8 o8 z8 k8 hX8 hX k9 ff hb7
  obtain ⟨W9, hW9⟩ : ∃ W9, W9 = W8.setCells w1.heap.size 0 [.int .i64 (k : Int), .int .i64 (s : Int), .slice a8 dl c8] := ⟨_, rfl⟩
  rw [← hW9] at H9M H9N H9X H9Y B9 Z9 x9 zXx zYx HOW9
  go_wp2_with (refine keptO_store_intro _ _ (.pointer (some ⟨W.heap.size, 1, none⟩)) (.agg zO) (by rfl) (by rfl) HST.out ?_)
  show Code.wp _ _ _ _ (W8.setCells w1.heap.size 0 [.int .i64 (k : Int), .int .i64 (s : Int), .slice a8 dl c8])
  rw [← hW9]
  clear hW9
  refine out_region _ W9 w.heap.size (w.heap.size + 1) 40 zM zM #[.int .i64 0, .int .i64 0, .slice none 0 0] #[.int .i64 (k : Int), .int .i64 (s : Int), .slice a8 dl c8] 71 72 _ _ ⟨_, _, _, rfl⟩ ⟨_, _, _, rfl⟩ ⟨_, _, _, rfl⟩ ⟨_, _, _, rfl⟩ rfl (by kernel_rfl) (by kernel_rfl) (by kernel_rfl) (by kernel_rfl) (by kernel_rfl) (by kernel_rfl) (by kernel_rfl) (by kernel_rfl)
    (fun ty po af W' _ => run_of_build W') (fun ty po af W' hW => run_of_loadN (g := w1.heap.size) (by rfl) (by
      rw [hW.block _ zXx (by omega)]; exact H9X.out)) rfl rfl (show 71 < 75 by decide) (show 72 < 75 by decide) (by decide) H9M.out H9N.out (by omega) rfl rfl infoM infoN MC.zero.2 (by simp [Value.oneCell']) ?_
  simp only [Act.put, List.setIfInBounds_toArray, List.set_cons_zero, List.set_cons_succ]
  have HRM : Hid (((({ W9 with drawn := W9.drawn + 1 } : World).setCells w.heap.size 0 zM.toList).setCells (w.heap.size + 1) 0 (#[Value.int .i64 (k : Int), .int .i64 (s : Int), .slice a8 dl c8] : Array Value).toList).rangeAt w.heap.size 0 zM.toList) := bx_apart (bx_set (w := { W9 with drawn := W9.drawn + 1 }) H9M.out (Nat.le_of_eq (MC.zero.1.trans MC.zero.1.symm))) (by omega)
  have HRN : Hid (((({ W9 with drawn := W9.drawn + 1 } : World).setCells w.heap.size 0 zM.toList).setCells (w.heap.size + 1) 0 (#[Value.int .i64 (k : Int), .int .i64 (s : Int), .slice a8 dl c8] : Array Value).toList).rangeAt (w.heap.size + 1) 0 (#[Value.int .i64 (k : Int), .int .i64 (s : Int), .slice a8 dl c8] : Array Value).toList) :=
    bx_set (C0 := #[.int .i64 0, .int .i64 0, .slice none 0 0]) (t := 38) (by rw [heap_sets (by omega)]; exact H9N.out) (by simp)
  have HKe : Hid (Keeps (fun x => x = w.heap.size ∨ x = w.heap.size + 1) W9 ((({ W9 with drawn := W9.drawn + 1 } : World).setCells w.heap.size 0 zM.toList).setCells (w.heap.size + 1) 0 (#[Value.int .i64 (k : Int), .int .i64 (s : Int), .slice a8 dl c8] : Array Value).toList)) :=
    (Keeps.setCells (w := W9) (w1 := { W9 with drawn := W9.drawn + 1 }) ⟨rfl, rfl, rfl, Nat.le_refl _, fun _ _ _ => rfl⟩ _ 0 _ (.inl (.inl rfl))).setCells _ 0 _ (.inl (.inr rfl))
  generalize ((({ W9 with drawn := W9.drawn + 1 } : World).setCells w.heap.size 0 zM.toList).setCells (w.heap.size + 1) 0 (#[Value.int .i64 (k : Int), .int .i64 (s : Int), .slice a8 dl c8] : Array Value).toList) = WE at *
  go_wp2_with fail
  refine bodyPost_ret (v := .tuple #[.agg zM, .agg #[.int .i64 (k : Int), .int .i64 (s : Int), .slice a8 dl c8]]) (res_cells2 Tryz.results7 _ WE w.heap.size (w.heap.size + 1) zM _ rfl rfl HRM.out HRN.out Tryz.underlying40 rfl infoM Tryz.underlying38 rfl infoN) rfl ⟨⟨_, rfl, a8, c8, rfl, own_low (own_keep HOW9.out HKe.out (fun x hx => by omega)) (by have := HD.out.bel.size; omega)⟩, B9.out.trans (HKe.out.below _ B9.out.size (fun x e => by omega))⟩
set_option maxHeartbeats 4000000 in
theorem dec_open_good (g o n cp : Nat) (bs : List Nat) (w : World) (hn : bs.length = n) (hn29 : 29 ≤ n) (hl : n ≤ 5000) (hcap : n ≤ cp) (h : BRd w (some ⟨g, o, none⟩) bs) (hS : SaidM w) (hr : headM bs = (n, 0, 0, [])) (hk1 : bs.getD 18 0 = 1) (AV : Int) (hh ii : Nat) (cc : Cp) (ho : openR (bs.drop 19) = .inr (AV, hh, ii, cc)) :
    Calls Tryz.prog 7 #[.slice (some ⟨g, o, none⟩) n cp] w fun e w' => e = .returned (.tuple #[.agg (openMsg 1 (openC AV hh ii cc)), .agg #[.int .i64 0, .int .i64 0, .slice none 0 0]]) ∧ Below w.heap.size w w' := by
  have KH := head_dW (some ⟨g, o, none⟩) cp bs w (by omega) (by omega) h hS _ hr
  rw [hn] at KH
  have HK := hide KH
  obtain ⟨g', o', e9, hc⟩ := h.1.2 (by omega)
  cases e9
  have c18 : w.cell? ⟨g, o + 18, none⟩ = some (.int .u8 1) := by rw [hc 18 (by omega)]; show some (Value.int .u8 ((bs.getD 18 0 : Nat) : Int)) = _; rw [hk1]; rfl
  have zg := World.block_lt_of_cell? w _ c18
  simp only at zg
  have KO : Hid (∀ X, Below w.heap.size w X → Calls Tryz.prog 22 #[.slice (some ⟨g, o + 19, none⟩) (n - 19) (cp - 19)] X fun e w' => OpIs X w' e (openR (bs.drop 19)) ∧ Below X.heap.size X w') := fun X hX =>
    readopen_any g (o + 19) (n - 19) (cp - 19) (bs.drop 19) X (by rw [List.length_drop, hn]) (by omega) (by omega) (by omega) (brd_drop (h.below hX) (by omega))
  have hcp19 : ¬ cp = 19 := by omega
  have hni : ¬ ((n : Int) < 19) := by omega
  have H29 : Hid (29 ≤ n ∧ n ≤ 5000) := ⟨hn29, hl⟩
  clear KH h hS hcap hr hn hk1 hc hl hn29
  simp only at HK
  rw [ho] at KO
  unfold OpIs at KO
  simp only at KO
  clear ho
  go_enter Tryz.func7, Tryz.ntmps7
  go_wp2_with (refine keptM_alloc_intro _ (run_allocM w) ?_)
  show Calls Tryz.prog 20 #[.slice (some ⟨g, o, none⟩) n cp] (dW w) _
  with_reducible refine HK.out.mono ?_
  rintro e w1 ⟨a9, c9, rfl, HO, HB⟩
  have HH := hide (h6_of a9 0 c9 HB.out zg c18)
  go_wp2_with fail
  generalize (w1.alloc (.cells #[.int .i64 0, .int .i64 0, .slice a9 0 c9] 38)) = W at *
  refine m_region _ W g o n cp 1 ⟨_, _, _, rfl⟩ ⟨_, _, _, rfl⟩ ⟨_, _, _, rfl⟩ ⟨_, _, _, rfl⟩ ⟨_, _, _, rfl⟩ ⟨_, _, _, rfl⟩ ⟨_, _, _, rfl⟩ ⟨_, _, _, rfl⟩ ⟨_, _, _, rfl⟩ ⟨_, _, _, rfl⟩ rfl (by kernel_rfl)
    ⟨by kernel_rfl, by kernel_rfl⟩ ⟨by kernel_rfl, by kernel_rfl⟩ ⟨by kernel_rfl, by kernel_rfl⟩ ⟨by kernel_rfl, by kernel_rfl⟩ ⟨by kernel_rfl, by kernel_rfl⟩ ⟨by kernel_rfl, by kernel_rfl⟩ ⟨by kernel_rfl, by kernel_rfl⟩ (by kernel_rfl) (by kernel_rfl) (by kernel_rfl) (by kernel_rfl)
    rfl rfl (by have := H29.out.1; omega) (by have := H29.out.2; omega) (by omega) HH.out.c18 ?_
  intro a W6 hfr h6 h7 bY hb6
  rw [if_neg hcp19] at h7
  obtain ⟨x0, x1, x2, x3, x4, x5, x6, rfl⟩ := hfr.lay9m (by exact (by decide : ∀ s ∈ [29, 30, 31, 32, 33, 34, 35, 6, 7], s < 75)) h6 h7
  have HD : Hid (D6 w W6 w1.heap.size W.heap.size (msgC 1 0 0 (.slice none 0 0)) (.slice a9 0 c9)) := HH.out.d6 bY hb6
  have hsz := HH.out.le
  have y0 : W6.cell? ⟨W.heap.size, 0, none⟩ = some (.int .i64 1) := range_of HD.out.bY 0 _ rfl
  have zY : W.heap.size < W6.heap.size := HD.out.hs
  clear hfr h6 h7 bY hb6
  simp only [Act.put, List.setIfInBounds_toArray, List.set_cons_zero, List.set_cons_succ]
  go_wp2_with fail
  with_reducible refine (KO.out W6 HD.out.bel).mono ?_
  rintro e w7 ⟨hop, hb7⟩
  subst hop
  obtain ⟨W8, hst, b8, o8, z8, k8⟩ := store_open (w := w7) (Y := W.heap.size) (k := 1) (O := (openC AV hh ii cc)) (OC.made AV hh ii cc) (by rw [hb7.block _ zY]; exact HD.out.bY)
  have hX8 : W8.heap[w1.heap.size]? = some (.cells #[.int .i64 0, .int .i64 0, .slice a9 0 c9] 38 (0, 0)) := by
    rw [o8 _ (by have := HD.out.hY; omega), hb7.block _ (by have := HD.out.hY; omega)]; exact HD.out.bX
  have hX := range_of hX8
  have zX8 : w1.heap.size < W8.heap.size := (Array.getElem?_eq_some_iff.1 hX8).1
  have r0 : W8.cell? ⟨w1.heap.size, 0, none⟩ = some (.int .i64 0) := by have := hX 0 _ rfl; simpa using this
  have r1 : W8.cell? ⟨w1.heap.size, 1, none⟩ = some (.int .i64 0) := by have := hX 1 _ rfl; simpa using this
  have r2 : W8.cell? ⟨w1.heap.size, 2, none⟩ = some (.slice a9 0 c9) := by have := hX 2 _ rfl; simpa using this
  have ff : ∀ j, W8.frozen? ⟨w1.heap.size, j, none⟩ = false := fun j => by simp [World.frozen?, hX8]
  have f0 := ff 0
  have f1 := ff 1
  have f2 := ff 2
  have HST := hide hst
  have zx : w1.heap.size ≠ W.heap.size ∧ w.heap.size + 2 ≤ w1.heap.size ∧ w1.heap.size < W.heap.size := by have := HD.out.hX; have := HD.out.hY; omega
  have h9M : (W8.setCells w1.heap.size 0 [.int .i64 0, .int .i64 0, .slice none 0 0]).heap[w.heap.size]? = some (.cells zM 40 (0, 0)) := by
    rw [heap_sets (by omega), o8 _ (by omega), hb7.block _ (by omega)]; exact HD.out.bM
  have h9N : (W8.setCells w1.heap.size 0 [.int .i64 0, .int .i64 0, .slice none 0 0]).heap[w.heap.size + 1]? = some (.cells #[.int .i64 0, .int .i64 0, .slice none 0 0] 38 (0, 0)) := by
    rw [heap_sets (by omega), o8 _ (by omega), hb7.block _ (by omega)]; exact HD.out.bN
  have h9X : (W8.setCells w1.heap.size 0 [.int .i64 0, .int .i64 0, .slice none 0 0]).heap[w1.heap.size]? = some (.cells #[.int .i64 0, .int .i64 0, .slice none 0 0] 38 (0, 0)) := bx_put (C := #[.int .i64 0, .int .i64 0, .slice none 0 0]) hX8 rfl
  have h9Y : (W8.setCells w1.heap.size 0 [.int .i64 0, .int .i64 0, .slice none 0 0]).heap[W.heap.size]? = some (.cells (openMsg 1 (openC AV hh ii cc)) 40 (0, 0)) := by
    rw [heap_sets (by omega)]; exact b8
  have k9 : Keeps (fun x => x = W.heap.size ∨ x = w1.heap.size) w7 (W8.setCells w1.heap.size 0 [.int .i64 0, .int .i64 0, .slice none 0 0]) := (k8.mono (fun x _ e => .inl e)).setCells _ 0 _ (.inl (.inr rfl))
  have b9 : Below w.heap.size w (W8.setCells w1.heap.size 0 [.int .i64 0, .int .i64 0, .slice none 0 0]) := (HD.out.bel.trans (hb7.mono HD.out.bel.size)).trans (k9.below _ (by have := HD.out.bel.size; have := hb7.size; omega) (fun x e => by omega))
  have z9 : (W8.setCells w1.heap.size 0 [.int .i64 0, .int .i64 0, .slice none 0 0]).heap.size = w7.heap.size := by
    have : ∀ (vs : List Value) (o : Nat) (w : World), (w.setCells w1.heap.size o vs).heap.size = w.heap.size := by
      intro vs
      induction vs with
      | nil => intro o w; rfl
      | cons v r ih => intro o w; rw [World.setCells, ih]; simp
    rw [this, z8]
  have x9 : (W8.setCells w1.heap.size 0 [.int .i64 0, .int .i64 0, .slice none 0 0]).cell? ⟨w1.heap.size, 0, none⟩ = some (.int .i64 0) := by have := range_of h9X 0 _ rfl; simpa using this
  have H9M := hide h9M
  have H9N := hide h9N
  have H9X := hide h9X
  have H9Y := hide h9Y
  have B9 := hide b9
  have Z9 := hide z9
  have zXx : w1.heap.size < (W8.setCells w1.heap.size 0 [.int .i64 0, .int .i64 0, .slice none 0 0]).heap.size := (Array.getElem?_eq_some_iff.1 h9X).1
  have zYx : W.heap.size < (W8.setCells w1.heap.size 0 [.int .i64 0, .int .i64 0, .slice none 0 0]).heap.size := (Array.getElem?_eq_some_iff.1 h9Y).1
  clear h9M h9N h9X h9Y b9 z9 hst b8 o8 z8 k8 hX8 hX k9 ff hb7
  obtain ⟨W9, hW9⟩ : ∃ W9, W9 = W8.setCells w1.heap.size 0 [.int .i64 0, .int .i64 0, .slice none 0 0] := ⟨_, rfl⟩
  rw [← hW9] at H9M H9N H9X H9Y B9 Z9 x9 zXx zYx 
  go_wp2_with (refine keptO_store_intro _ _ (.pointer (some ⟨W.heap.size, 1, none⟩)) (.agg (openC AV hh ii cc)) (by rfl) (by rfl) HST.out ?_)
  show Code.wp _ _ _ _ (W8.setCells w1.heap.size 0 [.int .i64 0, .int .i64 0, .slice none 0 0])
  rw [← hW9]
  clear hW9
  refine out_region _ W9 w.heap.size (w.heap.size + 1) 40 zM (openMsg 1 (openC AV hh ii cc)) #[.int .i64 0, .int .i64 0, .slice none 0 0] #[.int .i64 0, .int .i64 0, .slice none 0 0] 73 74 _ _ ⟨_, _, _, rfl⟩ ⟨_, _, _, rfl⟩ ⟨_, _, _, rfl⟩ ⟨_, _, _, rfl⟩ rfl (by kernel_rfl) (by kernel_rfl) (by kernel_rfl) (by kernel_rfl) (by kernel_rfl) (by kernel_rfl) (by kernel_rfl) (by kernel_rfl)
    (fun ty po af W' hW => run_of_loadM (MC.openMsg 1 (OC.made AV hh ii cc)) (g := W.heap.size) (by rfl) (range_of (by rw [hW.block _ zYx (by omega)]; exact H9Y.out))) (fun ty po af W' hW => run_of_loadN (g := w1.heap.size) (by rfl) (by
      rw [hW.block _ zXx (by omega)]; exact H9X.out)) rfl rfl (show 73 < 75 by decide) (show 74 < 75 by decide) (by decide) H9M.out H9N.out (by omega) (by rw [(MC.openMsg 1 (OC.made AV hh ii cc)).1, MC.zero.1]) rfl (by rw [infoM, (MC.openMsg 1 (OC.made AV hh ii cc)).1]) infoN (MC.openMsg 1 (OC.made AV hh ii cc)).2 (by simp [Value.oneCell']) ?_
  simp only [Act.put, List.setIfInBounds_toArray, List.set_cons_zero, List.set_cons_succ]
  have HRM : Hid (((({ W9 with drawn := W9.drawn + 1 } : World).setCells w.heap.size 0 (openMsg 1 (openC AV hh ii cc)).toList).setCells (w.heap.size + 1) 0 (#[Value.int .i64 0, .int .i64 0, .slice none 0 0] : Array Value).toList).rangeAt w.heap.size 0 (openMsg 1 (openC AV hh ii cc)).toList) := bx_apart (bx_set (w := { W9 with drawn := W9.drawn + 1 }) H9M.out (Nat.le_of_eq ((MC.openMsg 1 (OC.made AV hh ii cc)).1.trans MC.zero.1.symm))) (by omega)
  have HRN : Hid (((({ W9 with drawn := W9.drawn + 1 } : World).setCells w.heap.size 0 (openMsg 1 (openC AV hh ii cc)).toList).setCells (w.heap.size + 1) 0 (#[Value.int .i64 0, .int .i64 0, .slice none 0 0] : Array Value).toList).rangeAt (w.heap.size + 1) 0 (#[Value.int .i64 0, .int .i64 0, .slice none 0 0] : Array Value).toList) :=
    bx_set (C0 := #[.int .i64 0, .int .i64 0, .slice none 0 0]) (t := 38) (by rw [heap_sets (by omega)]; exact H9N.out) (by simp)
  have HKe : Hid (Keeps (fun x => x = w.heap.size ∨ x = w.heap.size + 1) W9 ((({ W9 with drawn := W9.drawn + 1 } : World).setCells w.heap.size 0 (openMsg 1 (openC AV hh ii cc)).toList).setCells (w.heap.size + 1) 0 (#[Value.int .i64 0, .int .i64 0, .slice none 0 0] : Array Value).toList)) :=
    (Keeps.setCells (w := W9) (w1 := { W9 with drawn := W9.drawn + 1 }) ⟨rfl, rfl, rfl, Nat.le_refl _, fun _ _ _ => rfl⟩ _ 0 _ (.inl (.inl rfl))).setCells _ 0 _ (.inl (.inr rfl))
  generalize ((({ W9 with drawn := W9.drawn + 1 } : World).setCells w.heap.size 0 (openMsg 1 (openC AV hh ii cc)).toList).setCells (w.heap.size + 1) 0 (#[Value.int .i64 0, .int .i64 0, .slice none 0 0] : Array Value).toList) = WE at *
  go_wp2_with fail
  refine bodyPost_ret (v := .tuple #[.agg (openMsg 1 (openC AV hh ii cc)), .agg #[.int .i64 0, .int .i64 0, .slice none 0 0]]) (res_cells2 Tryz.results7 _ WE w.heap.size (w.heap.size + 1) (openMsg 1 (openC AV hh ii cc)) _ rfl rfl HRM.out HRN.out Tryz.underlying40 rfl (by rw [infoM, (MC.openMsg 1 (OC.made AV hh ii cc)).1]) Tryz.underlying38 rfl infoN) rfl ⟨rfl, B9.out.trans (HKe.out.below _ B9.out.size (fun x e => by omega))⟩
end
/-- Decode of an OPEN whose head is right. -/
theorem dec_open_any (g o n cp : Nat) (bs : List Nat) (w : World) (hn : bs.length = n) (hn29 : 29 ≤ n) (hl : n ≤ 5000) (hcap : n ≤ cp) (h : BRd w (some ⟨g, o, none⟩) bs) (hS : SaidM w) (hr : headM bs = (n, 0, 0, [])) (hk1 : bs.getD 18 0 = 1) :
    Calls Tryz.prog 7 #[.slice (some ⟨g, o, none⟩) n cp] w fun e w' => DoIs w w' e (openR (bs.drop 19)) ∧ Below w.heap.size w w' := by
  unfold DoIs
  cases ho : openR (bs.drop 19) with
  | inl x =>
    obtain ⟨k, s, d⟩ := x
    have hk : k ≠ 0 := by
      intro e
      subst e
      unfold openR at ho
      repeat' split at ho
      all_goals simp at ho
    exact dec_open_bad g o n cp bs w hn hn29 hl hcap h hS hr hk1 k s d hk ho
  | inr x =>
    obtain ⟨AV, hh, ii, cc⟩ := x
    exact dec_open_good g o n cp bs w hn hn29 hl hcap h hS hr hk1 AV hh ii cc ho
end Go.Proofs.YtkmfnafecdfedaaGreatDoor
