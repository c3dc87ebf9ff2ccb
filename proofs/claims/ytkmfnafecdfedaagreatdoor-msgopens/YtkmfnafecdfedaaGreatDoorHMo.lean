/- The program's readOpen. -/
import Derived.Test.YtkmfnafecdfedaaGreatDoorMgO
import Derived.Test.YtkmfnafecdfedaaGreatDoorHMd
import Derived.Test.YtkmfnafecdfedaaGreatDoorMgE3
namespace Go.Proofs.YtkmfnafecdfedaaGreatDoor
open Go.RowKit
set_option maxRecDepth 100000

/-- What readOpen answers. -/
def OpIs (w w' : World) (e : Ending) (r : (Nat × Nat × List Nat) ⊕ (Int × Nat × Nat × Cp)) : Prop := match r with
  | .inl (k, s, d) => ∃ u, e = .returned (.tuple #[.agg zO, u]) ∧ NoteIs w.heap.size w' u k s d
  | .inr (a, h, i, c) => e = .returned (.tuple #[.agg (openC a h i c), .agg #[.int .i64 0, .int .i64 0, .slice none 0 0]])
theorem nt_of {W : World} {X : Nat} (h : W.heap[X]? = some (.cells #[.int .i64 0, .int .i64 0, .slice none 0 0] 38 (0, 0))) : NtBox W X := by
  have hr := range_of h
  have hf : ∀ j, W.frozen? ⟨X, j, none⟩ = false := fun j => by simp [World.frozen?, h]
  exact ⟨(Array.getElem?_eq_some_iff.1 h).1, by have := hr 0 _ rfl; simpa using this, by have := hr 1 _ rfl; simpa using this, by have := hr 2 _ rfl; simpa using this, hf 0, hf 1, hf 2⟩
/-- The two boxes of the answers stand. -/
structure OW (w W : World) : Prop where
  bO : W.heap[w.heap.size]? = some (.cells zO 28 (0, 0))
  bN : W.heap[w.heap.size + 1]? = some (.cells #[.int .i64 0, .int .i64 0, .slice none 0 0] 38 (0, 0))
  bel : Below w.heap.size w W
theorem OW.later {w W W' : World} (h : OW w W) (hb : Below W.heap.size W W') : OW w W' :=
  ⟨by rw [hb.block _ (Array.getElem?_eq_some_iff.1 h.bO).1]; exact h.bO, by rw [hb.block _ (Array.getElem?_eq_some_iff.1 h.bN).1]; exact h.bN, h.bel.trans (hb.mono h.bel.size)⟩
theorem OW.made (w : World) : OW w ((w.alloc (.cells zO 28)).alloc (.cells #[.int .i64 0, .int .i64 0, .slice none 0 0] 38)) := by
  refine ⟨?_, ?_, ((Below.refl _ _).alloc (Nat.le_refl _) _).alloc (by simp) _⟩
  · unfold World.alloc
    simp only
    rw [Array.getElem?_push_lt (by simp), Array.getElem_push_eq]
  · unfold World.alloc
    simp only
    have : w.heap.size + 1 = (w.heap.push (.cells zO 28)).size := by simp
    rw [this, Array.getElem?_push_size]
/-- What stands behind both stores. -/
structure OEnd (w W5 : World) (k s : Nat) (d : List Nat) (a9 : Option Addr) (n c9 : Nat) : Prop where
  rO : (W5.setCells (w.heap.size + 1) 0 [.int .i64 (k : Int), .int .i64 (s : Int), .slice a9 n c9]).rangeAt w.heap.size 0 zO.toList
  rN : (W5.setCells (w.heap.size + 1) 0 [.int .i64 (k : Int), .int .i64 (s : Int), .slice a9 n c9]).rangeAt (w.heap.size + 1) 0 [.int .i64 (k : Int), .int .i64 (s : Int), .slice a9 n c9]
  own : (W5.setCells (w.heap.size + 1) 0 [.int .i64 (k : Int), .int .i64 (s : Int), .slice a9 n c9]).ownsRow w.heap.size 5 1 (.slice a9 n c9) n (bcells d)
  bel : Below w.heap.size w (W5.setCells (w.heap.size + 1) 0 [.int .i64 (k : Int), .int .i64 (s : Int), .slice a9 n c9])
theorem open_end (w W : World) (hW : OW w W) (k s : Nat) (a : Option Addr) (cap n : Nat) (d : List Nat) (hn : d.length = n) (hl : n ≤ 50000) (h : BRd W a d) :
    Calls Tryz.prog 21 #[.int .i64 (k : Int), .int .i64 (s : Int), .slice a n cap] W fun e w3 => ∃ a9 c9 W5, e = .returned (.agg #[.int .i64 (k : Int), .int .i64 (s : Int), .slice a9 n c9]) ∧ Hid ((Instr.storeAt 28 (.pointer (some ⟨w.heap.size, 0, none⟩)) (.agg zO)).run Tryz.prog w3 = .ok () W5) ∧ Hid (NtBox W5 (w.heap.size + 1)) ∧ Hid (OEnd w W5 k s d a9 n c9) := by
  subst hn
  refine (noteof_any k s a cap d W hl h).mono ?_
  rintro e w3 ⟨u, rfl, ⟨a9, c9, rfl, ho⟩, hb⟩
  have h3 := hW.later hb
  have h5 : (w3.setCells w.heap.size 0 zO.toList).heap[w.heap.size]? = some (.cells zO 28 (0, 0)) := bx_put h3.bO rfl
  have h6 : (w3.setCells w.heap.size 0 zO.toList).heap[w.heap.size + 1]? = some (.cells #[.int .i64 0, .int .i64 0, .slice none 0 0] 38 (0, 0)) := by rw [heap_sets (by omega)]; exact h3.bN
  have hk : Keeps (fun x => x = w.heap.size ∨ x = w.heap.size + 1) w3 ((w3.setCells w.heap.size 0 zO.toList).setCells (w.heap.size + 1) 0 [.int .i64 (k : Int), .int .i64 (s : Int), .slice a9 d.length c9]) := ((Keeps.refl _ _).setCells _ 0 _ (.inl (.inl rfl))).setCells _ 0 _ (.inl (.inr rfl))
  have hsz : w.heap.size + 1 < W.heap.size := (Array.getElem?_eq_some_iff.1 hW.bN).1
  refine ⟨a9, c9, _, rfl, run_storeO h3.bO rfl OC.zero, nt_of h6, ⟨bx_apart (range_of h5) (by omega), ?_, ?_, ?_⟩⟩
  · exact bx_set (C0 := #[.int .i64 0, .int .i64 0, .slice none 0 0]) (C := #[.int .i64 (k : Int), .int .i64 (s : Int), .slice a9 d.length c9]) h6 (by simp)
  · exact own_low (own_keep ho hk (fun x hx => by omega)) (by omega)
  · exact h3.bel.trans (hk.below _ h3.bel.size (fun x e => by omega))
section
attribute [local go_sem ↓] keptO_store keptO_alloc keptO_build
set_option maxHeartbeats 4000000 in
theorem readopen_ver (g o n c x : Nat) (w : World) (hn : 10 ≤ n) (h0 : w.cell? ⟨g, o, none⟩ = some (.int .u8 (x : Int))) (hx : x ≠ 4) :
    Calls Tryz.prog 22 #[.slice (some ⟨g, o, none⟩) n c] w fun e w' => OpIs w w' e (.inl (2, 1, [0, 4])) ∧ Below w.heap.size w w' := by
  have zg := World.block_lt_of_cell? w _ h0
  simp only at zg
  have hne : ((x : Int) != 4) = true := by simp; omega
  have HW : Hid (OW w ((w.alloc (.cells zO 28)).alloc (.cells #[.int .i64 0, .int .i64 0, .slice none 0 0] 38))) := OW.made w
  have c0 : ((w.alloc (.cells zO 28)).alloc (.cells #[.int .i64 0, .int .i64 0, .slice none 0 0] 38)).cell? ⟨g, o, none⟩ = some (.int .u8 (x : Int)) := by rw [HW.out.bel.cell (p := ⟨g, o, none⟩) zg]; exact h0
  have hz2 : ((w.alloc (.cells zO 28)).alloc (.cells #[.int .i64 0, .int .i64 0, .slice none 0 0] 38)).heap.size = w.heap.size + 1 + 1 := by simp
  have hcells : (#[.int .u8 (((4 : Nat) : Int) / 256), .int .u8 (((4 : Nat) : Int) % 256)] : Array Value) = #[.int .u8 0, .int .u8 4] := rfl
  have hb2 := brd_two ((w.alloc (.cells zO 28)).alloc (.cells #[.int .i64 0, .int .i64 0, .slice none 0 0] 38)) 4 (by decide)
  have hw2 := HW.out.later ((Below.refl _ _).alloc (Nat.le_refl _) (.cells #[.int .u8 0, .int .u8 4] 5))
  rw [hcells, hz2] at hb2
  have KE := hide (open_end w _ hw2 2 1 (some ⟨w.heap.size + 1 + 1, 0, none⟩) 2 2 [0, 4] rfl (by decide) hb2)
  unfold OpIs NoteIs
  simp only
  clear hb2 hw2
  go_enter Tryz.func22, Tryz.ntmps22
  go_wp2_with (first | (refine keptO_alloc_intro _ (run_allocO w) ?_) | (refine keptO_build0_intro _ (run_build0O _) ?_))
  refine (number_two 4 _ (by decide)).mono ?_
  rintro e w2 ⟨rfl, rfl⟩
  go_wp2_with fail
  refine KE.out.mono ?_
  rintro e w3 ⟨a9, c9, W5, rfl, HST, HX, HF⟩
  obtain ⟨_, r0, r1, r2, f0, f1, f2⟩ := HX.out
  go_wp2_with (refine keptO_store_intro _ _ (.pointer (some ⟨w.heap.size, 0, none⟩)) (.agg zO) (by rfl) (by rfl) HST.out ?_)
  refine bodyPost_ret (v := .tuple #[.agg zO, .agg #[.int .i64 2, .int .i64 1, .slice a9 2 c9]]) (res_cells2 Tryz.results22 _ _ w.heap.size (w.heap.size + 1) zO #[.int .i64 2, .int .i64 1, .slice a9 2 c9] rfl rfl HF.out.rO HF.out.rN Tryz.underlying28 rfl infoO Tryz.underlying38 rfl infoN) rfl ⟨?_, HF.out.bel⟩
  exact ⟨_, rfl, a9, c9, rfl, HF.out.own⟩
set_option maxHeartbeats 4000000 in
theorem readopen_fit (g o n c : Nat) (bs : List Nat) (w : World) (hn : bs.length = n) (hn10 : 10 ≤ n) (hl : n ≤ 5000) (hcap : n ≤ c) (h : BRd w (some ⟨g, o, none⟩) bs) (h4 : bs.getD 0 0 = 4) (hfit : bs.getD 9 0 ≠ n - 10) :
    Calls Tryz.prog 22 #[.slice (some ⟨g, o, none⟩) n c] w fun e w' => OpIs w w' e (.inl (2, 0, [])) ∧ Below w.heap.size w w' := by
  obtain ⟨g', o', e9, hc⟩ := h.1.2 (by omega)
  cases e9
  have h0 : w.cell? ⟨g, o, none⟩ = some (.int .u8 4) := by have := hc 0 (by omega); rw [Nat.add_zero] at this; rw [this]; show some (Value.int .u8 ((bs.getD 0 0 : Nat) : Int)) = _; rw [h4]; rfl
  have zg := World.block_lt_of_cell? w _ h0
  simp only at zg
  have HW : Hid (OW w ((w.alloc (.cells zO 28)).alloc (.cells #[.int .i64 0, .int .i64 0, .slice none 0 0] 38))) := OW.made w
  have c0 : ((w.alloc (.cells zO 28)).alloc (.cells #[.int .i64 0, .int .i64 0, .slice none 0 0] 38)).cell? ⟨g, o, none⟩ = some (.int .u8 4) := by rw [HW.out.bel.cell (p := ⟨g, o, none⟩) zg]; exact h0
  have hdl : (bs.drop 9).length = n - 9 := by rw [List.length_drop]; omega
  have hc9 : ¬ c = 9 := by omega
  have hcut := mcut_any (some ⟨g, o + 9, none⟩) (c - 9) 1 (bs.drop 9) ((w.alloc (.cells zO 28)).alloc (.cells #[.int .i64 0, .int .i64 0, .slice none 0 0] 38)) (by omega) (by omega) (by omega) (by omega) ((brd_drop h (by omega)).below HW.out.bel)
  rw [hdl] at hcut
  have hnum : numB ((bs.drop 9).take 1) = bs.getD 9 0 := by
    have : (bs.drop 9).take 1 = [bs.getD 9 0] := by
      apply List.ext_getElem?
      intro i
      match i with
      | 0 => rw [List.getElem?_take_of_lt (by omega), List.getElem?_drop, List.getElem?_eq_getElem (by omega)]; simp [List.getD_eq_getElem?_getD, List.getElem?_eq_getElem (show 9 < bs.length by omega)]
      | i + 1 => simp; omega
    rw [this]; simp [numB]
  have KC : Hid (Calls Tryz.prog 39 #[.slice (some ⟨g, o + 9, none⟩) (n - 9) (c - 9), .int .i64 1] ((w.alloc (.cells zO 28)).alloc (.cells #[.int .i64 0, .int .i64 0, .slice none 0 0] 38)) fun e w' => ∃ v q aq cq ok, e = .returned (.tuple #[v, .slice aq q cq, .bool ok]) ∧ (ok = false ∨ 0 < q) ∧ ∃ m, w' = ((w.alloc (.cells zO 28)).alloc (.cells #[.int .i64 0, .int .i64 0, .slice none 0 0] 38)).drewN m) := by
    refine hcut.mono ?_
    rintro e w' ⟨hcu, hm⟩
    by_cases h2 : (bs.drop 9).length < 1 + numB ((bs.drop 9).take 1)
    · rw [cutP_no (by omega) h2] at hcu
      exact ⟨_, _, _, _, _, hcu, .inl rfl, hm⟩
    · rw [cutP_yes (by omega) h2] at hcu
      obtain ⟨ap, cp, aq, cq, e1, _, _, _, _⟩ := hcu
      refine ⟨_, _, _, _, _, e1, .inr ?_, hm⟩
      rw [List.length_drop, hdl, hnum]
      rw [hdl, hnum] at h2
      omega
  have KE : Hid (∀ m, Calls Tryz.prog 21 #[.int .i64 2, .int .i64 0, .slice none 0 0] (((w.alloc (.cells zO 28)).alloc (.cells #[.int .i64 0, .int .i64 0, .slice none 0 0] 38)).drewN m) fun e w3 => ∃ a9 c9 W5, e = .returned (.agg #[.int .i64 2, .int .i64 0, .slice a9 0 c9]) ∧ Hid ((Instr.storeAt 28 (.pointer (some ⟨w.heap.size, 0, none⟩)) (.agg zO)).run Tryz.prog w3 = .ok () W5) ∧ Hid (NtBox W5 (w.heap.size + 1)) ∧ Hid (OEnd w W5 2 0 [] a9 0 c9)) := fun m => open_end w (((w.alloc (.cells zO 28)).alloc (.cells #[.int .i64 0, .int .i64 0, .slice none 0 0] 38)).drewN m) (HW.out.later (W' := ((w.alloc (.cells zO 28)).alloc (.cells #[.int .i64 0, .int .i64 0, .slice none 0 0] 38)).drewN m) ⟨rfl, rfl, rfl, Nat.le_refl _, fun _ _ => rfl⟩) 2 0 none 0 0 [] rfl (by decide) (brd_none _ _)
  unfold OpIs NoteIs
  simp only
  have hni : (9 : Int) ≤ (n : Int) := by omega
  have hnc : (n : Int) ≤ (c : Int) := by omega
  have hn0 : (0 : Int) < (n : Int) := by omega
  clear hc h hdl hcut hnum hfit h4 hcap hl hn
  go_enter Tryz.func22, Tryz.ntmps22
  go_wp2_with (first | (refine keptO_alloc_intro _ (run_allocO w) ?_))
  with_reducible refine KC.out.mono ?_
  rintro e w1 ⟨v, q, aq, cq, ok, rfl, hq, m, rfl⟩
  rcases hq with rfl | hq
  · go_wp2_with (first | (refine keptO_build0_intro _ (run_build0O _) ?_))
    with_reducible refine (KE.out _).mono ?_
    rintro e w3 ⟨a9, c9, W5, rfl, HST, HX, HF⟩
    obtain ⟨_, r0, r1, r2, f0, f1, f2⟩ := HX.out
    go_wp2_with (refine keptO_store_intro _ _ (.pointer (some ⟨w.heap.size, 0, none⟩)) (.agg zO) (by rfl) (by rfl) HST.out ?_)
    refine bodyPost_ret (v := .tuple #[.agg zO, .agg #[.int .i64 2, .int .i64 0, .slice a9 0 c9]]) (res_cells2 Tryz.results22 _ _ w.heap.size (w.heap.size + 1) zO #[.int .i64 2, .int .i64 0, .slice a9 0 c9] rfl rfl HF.out.rO HF.out.rN Tryz.underlying28 rfl infoO Tryz.underlying38 rfl infoN) rfl ⟨?_, HF.out.bel⟩
    exact ⟨_, rfl, a9, c9, rfl, HF.out.own⟩
  · have hqi : (0 : Int) < (q : Int) := by omega
    cases ok with
    | false =>
      go_wp2_with (first | (refine keptO_build0_intro _ (run_build0O _) ?_))
      with_reducible refine (KE.out _).mono ?_
      rintro e w3 ⟨a9, c9, W5, rfl, HST, HX, HF⟩
      obtain ⟨_, r0, r1, r2, f0, f1, f2⟩ := HX.out
      go_wp2_with (refine keptO_store_intro _ _ (.pointer (some ⟨w.heap.size, 0, none⟩)) (.agg zO) (by rfl) (by rfl) HST.out ?_)
      refine bodyPost_ret (v := .tuple #[.agg zO, .agg #[.int .i64 2, .int .i64 0, .slice a9 0 c9]]) (res_cells2 Tryz.results22 _ _ w.heap.size (w.heap.size + 1) zO #[.int .i64 2, .int .i64 0, .slice a9 0 c9] rfl rfl HF.out.rO HF.out.rN Tryz.underlying28 rfl infoO Tryz.underlying38 rfl infoN) rfl ⟨?_, HF.out.bel⟩
      exact ⟨_, rfl, a9, c9, rfl, HF.out.own⟩
    | true =>
      go_wp2_with (first | (refine keptO_build0_intro _ (run_build0O _) ?_))
      with_reducible refine (KE.out _).mono ?_
      rintro e w3 ⟨a9, c9, W5, rfl, HST, HX, HF⟩
      obtain ⟨_, r0, r1, r2, f0, f1, f2⟩ := HX.out
      go_wp2_with (refine keptO_store_intro _ _ (.pointer (some ⟨w.heap.size, 0, none⟩)) (.agg zO) (by rfl) (by rfl) HST.out ?_)
      refine bodyPost_ret (v := .tuple #[.agg zO, .agg #[.int .i64 2, .int .i64 0, .slice a9 0 c9]]) (res_cells2 Tryz.results22 _ _ w.heap.size (w.heap.size + 1) zO #[.int .i64 2, .int .i64 0, .slice a9 0 c9] rfl rfl HF.out.rO HF.out.rN Tryz.underlying28 rfl infoO Tryz.underlying38 rfl infoN) rfl ⟨?_, HF.out.bel⟩
      exact ⟨_, rfl, a9, c9, rfl, HF.out.own⟩
end
end Go.Proofs.YtkmfnafecdfedaaGreatDoor
/- The program's readOpen: capabilities that are none; an AS that is wrong. -/
namespace Go.Proofs.YtkmfnafecdfedaaGreatDoor
open Go.RowKit
set_option maxRecDepth 100000

theorem num_in {w : World} {g o c k l : Nat} {bs : List Nat} (h : BRd w (some ⟨g, o, none⟩) bs) (hk : k + l ≤ bs.length) (h1 : 1 ≤ l) (h4 : l ≤ 4) : Calls Tryz.prog 38 #[.slice (some ⟨g, o + k, none⟩) l c] w fun e w' => e = .returned (.int .i64 (numB ((bs.drop k).take l) : Int)) ∧ w' = w := by
  have h2 := brd_from h k l hk
  have hl : ((bs.drop k).take l).length = l := by rw [List.length_take, List.length_drop]; omega
  obtain ⟨b2, o2, e2, hc2⟩ := h2.1.2 (by omega)
  cases e2
  exact mnumof_any g (o + k) l c ((bs.drop k).take l) w hl h4 h2.2 (fun i hi => hc2 i (by omega))
theorem cut_fits {w : World} {g o c n : Nat} {bs : List Nat} (hn : bs.length = n) (hn10 : 10 ≤ n) (hl : n ≤ 5000) (hcap : n ≤ c) (h : BRd w (some ⟨g, o, none⟩) bs) (hfit : bs.getD 9 0 = n - 10) :
    Calls Tryz.prog 39 #[.slice (some ⟨g, o + 9, none⟩) (n - 9) (c - 9), .int .i64 1] w fun e w' => ∃ ap cp aq cq m, e = .returned (.tuple #[.slice ap (n - 10) cp, .slice aq 0 cq, .bool true]) ∧ w' = w.drewN m ∧ Hid (BRd w ap (bs.drop 10)) ∧ n - 10 ≤ cp := by
  have hdl : (bs.drop 9).length = n - 9 := by rw [List.length_drop]; omega
  have hcut := mcut_any (some ⟨g, o + 9, none⟩) (c - 9) 1 (bs.drop 9) w (by omega) (by omega) (by omega) (by omega) (brd_drop h (by omega))
  rw [hdl] at hcut
  have hnum : numB ((bs.drop 9).take 1) = bs.getD 9 0 := by
    have : (bs.drop 9).take 1 = [bs.getD 9 0] := by
      apply List.ext_getElem?
      intro i
      match i with
      | 0 => rw [List.getElem?_take_of_lt (by omega), List.getElem?_drop, List.getElem?_eq_getElem (by omega)]; simp [List.getD_eq_getElem?_getD, List.getElem?_eq_getElem (show 9 < bs.length by omega)]
      | i + 1 => simp; omega
    rw [this]; simp [numB]
  refine hcut.mono ?_
  rintro e w' ⟨hcu, m, rfl⟩
  rw [cutP_yes (by omega) (by rw [hdl, hnum]; omega), hnum] at hcu
  obtain ⟨ap, cp, aq, cq, e1, h1, _, h3, _⟩ := hcu
  have hp : ((bs.drop 9).drop 1).take (bs.getD 9 0) = bs.drop 10 := by
    rw [List.drop_drop, List.take_of_length_le (by rw [List.length_drop]; omega)]
  have hq : ((bs.drop 9).drop (1 + bs.getD 9 0)).length = 0 := by rw [List.length_drop, hdl]; omega
  rw [hp] at e1 h1 h3
  rw [hq] at e1
  have hpl : (bs.drop 10).length = n - 10 := by rw [List.length_drop]; omega
  rw [hpl] at e1 h1
  exact ⟨ap, cp, aq, cq, m, e1, rfl, h3, h1⟩
section
attribute [local go_sem ↓] keptO_store keptO_alloc keptO_build
set_option maxHeartbeats 4000000 in
theorem readopen_none (g o n c : Nat) (bs : List Nat) (w : World) (hn : bs.length = n) (hn10 : 10 ≤ n) (hl : n ≤ 5000) (hcap : n ≤ c) (h : BRd w (some ⟨g, o, none⟩) bs) (h4 : bs.getD 0 0 = 4) (hfit : bs.getD 9 0 = n - 10) (hr : readC (bs.drop 10) = none) :
    Calls Tryz.prog 22 #[.slice (some ⟨g, o, none⟩) n c] w fun e w' => OpIs w w' e (.inl (2, 0, [])) ∧ Below w.heap.size w w' := by
  obtain ⟨g', o', e9, hc⟩ := h.1.2 (by omega)
  cases e9
  have h0 : w.cell? ⟨g, o, none⟩ = some (.int .u8 4) := by have := hc 0 (by omega); rw [Nat.add_zero] at this; rw [this]; show some (Value.int .u8 ((bs.getD 0 0 : Nat) : Int)) = _; rw [h4]; rfl
  have zg := World.block_lt_of_cell? w _ h0
  simp only at zg
  have HW : Hid (OW w ((w.alloc (.cells zO 28)).alloc (.cells #[.int .i64 0, .int .i64 0, .slice none 0 0] 38))) := OW.made w
  have c0 : ((w.alloc (.cells zO 28)).alloc (.cells #[.int .i64 0, .int .i64 0, .slice none 0 0] 38)).cell? ⟨g, o, none⟩ = some (.int .u8 4) := by rw [HW.out.bel.cell (p := ⟨g, o, none⟩) zg]; exact h0
  have hc9 : ¬ c = 9 := by omega
  have KC := hide (cut_fits (w := ((w.alloc (.cells zO 28)).alloc (.cells #[.int .i64 0, .int .i64 0, .slice none 0 0] 38))) hn hn10 hl hcap (h.below HW.out.bel) hfit)
  have hpl : (bs.drop 10).length = n - 10 := by rw [List.length_drop]; omega
  have KD : Hid (∀ m ap cp, n - 10 ≤ cp → BRd ((w.alloc (.cells zO 28)).alloc (.cells #[.int .i64 0, .int .i64 0, .slice none 0 0] 38)) ap (bs.drop 10) → Calls Tryz.prog 40 #[.slice ap (n - 10) cp] (((w.alloc (.cells zO 28)).alloc (.cells #[.int .i64 0, .int .i64 0, .slice none 0 0] 38)).drewN m) fun e w' => e = .returned (decV (readC (bs.drop 10))) ∧ Hid (Below w.heap.size w w') ∧ Hid (OW w w')) := fun m ap cp h1 h2 => by
    have := decc_any ap cp (bs.drop 10) (((w.alloc (.cells zO 28)).alloc (.cells #[.int .i64 0, .int .i64 0, .slice none 0 0] 38)).drewN m) (by omega) (by omega) (h2.below ⟨rfl, rfl, rfl, Nat.le_refl _, fun _ _ => rfl⟩)
    rw [hpl] at this
    refine this.mono ?_
    rintro e w' ⟨rfl, hb⟩
    have hw := (HW.out.later (W' := ((w.alloc (.cells zO 28)).alloc (.cells #[.int .i64 0, .int .i64 0, .slice none 0 0] 38)).drewN m) ⟨rfl, rfl, rfl, Nat.le_refl _, fun _ _ => rfl⟩).later hb
    exact ⟨rfl, hw.bel, hw⟩
  have KE : Hid (∀ X s, OW w X → Calls Tryz.prog 21 #[.int .i64 2, .int .i64 ((s : Nat) : Int), .slice none 0 0] X fun e w3 => ∃ a9 c9 W5, e = .returned (.agg #[.int .i64 2, .int .i64 (s : Int), .slice a9 0 c9]) ∧ Hid ((Instr.storeAt 28 (.pointer (some ⟨w.heap.size, 0, none⟩)) (.agg zO)).run Tryz.prog w3 = .ok () W5) ∧ Hid (NtBox W5 (w.heap.size + 1)) ∧ Hid (OEnd w W5 2 s [] a9 0 c9)) := fun X s hX => open_end w X hX 2 s none 0 0 [] rfl (by decide) (brd_none _ _)
  unfold OpIs NoteIs
  simp only
  have hni : (9 : Int) ≤ (n : Int) := by omega
  have hnc : (n : Int) ≤ (c : Int) := by omega
  have hn0 : (0 : Int) < (n : Int) := by omega
  simp only [hr, decV, capV, cp0, Option.getD_none, Option.isSome_none] at KD
  clear hc h hfit h4 hcap hl hn hpl hr
  go_enter Tryz.func22, Tryz.ntmps22
  go_wp2_with (first | (refine keptO_alloc_intro _ (run_allocO w) ?_))
  with_reducible refine KC.out.mono ?_
  rintro e w1 ⟨ap, cp, aq, cq, m, rfl, rfl, HP, hcp⟩
  go_wp2_with fail
  with_reducible refine (KD.out m ap cp hcp HP.out).mono ?_
  rintro e w2 ⟨rfl, HB2, HW2⟩
  go_wp2_with (first | (refine keptO_build0_intro _ (run_build0O _) ?_))
  refine (KE.out _ 0 (HW2.out.later ((Below.refl _ _).alloc (Nat.le_refl _) _))).mono ?_
  rintro e w3 ⟨a9, c9, W5, rfl, HST, HX, HF⟩
  obtain ⟨_, r0, r1, r2, f0, f1, f2⟩ := HX.out
  go_wp2_with (refine keptO_store_intro _ _ (.pointer (some ⟨w.heap.size, 0, none⟩)) (.agg zO) (by rfl) (by rfl) HST.out ?_)
  refine bodyPost_ret (v := .tuple #[.agg zO, .agg #[.int .i64 2, .int .i64 0, .slice a9 0 c9]]) (res_cells2 Tryz.results22 _ _ w.heap.size (w.heap.size + 1) zO #[.int .i64 2, .int .i64 0, .slice a9 0 c9] rfl rfl HF.out.rO HF.out.rN Tryz.underlying28 rfl infoO Tryz.underlying38 rfl infoN) rfl ⟨?_, HF.out.bel⟩
  exact ⟨_, rfl, a9, c9, rfl, HF.out.own⟩
set_option maxHeartbeats 4000000 in
theorem readopen_as (g o n c : Nat) (bs : List Nat) (w : World) (hn : bs.length = n) (hn10 : 10 ≤ n) (hl : n ≤ 5000) (hcap : n ≤ c) (h : BRd w (some ⟨g, o, none⟩) bs) (h4 : bs.getD 0 0 = 4) (hfit : bs.getD 9 0 = n - 10) (cc : Cp) (hr : readC (bs.drop 10) = some cc) (hs : asB (numB ((bs.drop 1).take 2)) cc = false) :
    Calls Tryz.prog 22 #[.slice (some ⟨g, o, none⟩) n c] w fun e w' => OpIs w w' e (.inl (2, 2, [])) ∧ Below w.heap.size w w' := by
  obtain ⟨g', o', e9, hc⟩ := h.1.2 (by omega)
  cases e9
  have h0 : w.cell? ⟨g, o, none⟩ = some (.int .u8 4) := by have := hc 0 (by omega); rw [Nat.add_zero] at this; rw [this]; show some (Value.int .u8 ((bs.getD 0 0 : Nat) : Int)) = _; rw [h4]; rfl
  have zg := World.block_lt_of_cell? w _ h0
  simp only at zg
  have HW : Hid (OW w ((w.alloc (.cells zO 28)).alloc (.cells #[.int .i64 0, .int .i64 0, .slice none 0 0] 38))) := OW.made w
  have c0 : ((w.alloc (.cells zO 28)).alloc (.cells #[.int .i64 0, .int .i64 0, .slice none 0 0] 38)).cell? ⟨g, o, none⟩ = some (.int .u8 4) := by rw [HW.out.bel.cell (p := ⟨g, o, none⟩) zg]; exact h0
  have hc9 : ¬ c = 9 := by omega
  have KC := hide (cut_fits (w := ((w.alloc (.cells zO 28)).alloc (.cells #[.int .i64 0, .int .i64 0, .slice none 0 0] 38))) hn hn10 hl hcap (h.below HW.out.bel) hfit)
  have hpl : (bs.drop 10).length = n - 10 := by rw [List.length_drop]; omega
  have KD : Hid (∀ m ap cp, n - 10 ≤ cp → BRd ((w.alloc (.cells zO 28)).alloc (.cells #[.int .i64 0, .int .i64 0, .slice none 0 0] 38)) ap (bs.drop 10) → Calls Tryz.prog 40 #[.slice ap (n - 10) cp] (((w.alloc (.cells zO 28)).alloc (.cells #[.int .i64 0, .int .i64 0, .slice none 0 0] 38)).drewN m) fun e w' => e = .returned (decV (readC (bs.drop 10))) ∧ Hid (Below w.heap.size w w') ∧ Hid (OW w w')) := fun m ap cp h1 h2 => by
    have := decc_any ap cp (bs.drop 10) (((w.alloc (.cells zO 28)).alloc (.cells #[.int .i64 0, .int .i64 0, .slice none 0 0] 38)).drewN m) (by omega) (by omega) (h2.below ⟨rfl, rfl, rfl, Nat.le_refl _, fun _ _ => rfl⟩)
    rw [hpl] at this
    refine this.mono ?_
    rintro e w' ⟨rfl, hb⟩
    have hw := (HW.out.later (W' := ((w.alloc (.cells zO 28)).alloc (.cells #[.int .i64 0, .int .i64 0, .slice none 0 0] 38)).drewN m) ⟨rfl, rfl, rfl, Nat.le_refl _, fun _ _ => rfl⟩).later hb
    exact ⟨rfl, hw.bel, hw⟩
  have KE : Hid (∀ X s, OW w X → Calls Tryz.prog 21 #[.int .i64 2, .int .i64 ((s : Nat) : Int), .slice none 0 0] X fun e w3 => ∃ a9 c9 W5, e = .returned (.agg #[.int .i64 2, .int .i64 (s : Int), .slice a9 0 c9]) ∧ Hid ((Instr.storeAt 28 (.pointer (some ⟨w.heap.size, 0, none⟩)) (.agg zO)).run Tryz.prog w3 = .ok () W5) ∧ Hid (NtBox W5 (w.heap.size + 1)) ∧ Hid (OEnd w W5 2 s [] a9 0 c9)) := fun X s hX => open_end w X hX 2 s none 0 0 [] rfl (by decide) (brd_none _ _)
  unfold OpIs NoteIs
  simp only
  have hni : (9 : Int) ≤ (n : Int) := by omega
  have hnc : (n : Int) ≤ (c : Int) := by omega
  have hn0 : (0 : Int) < (n : Int) := by omega
  have hv : asV (numB ((bs.drop 1).take 2)) cc = 0 := by unfold asV; rw [hs]; rfl
  simp only [hr, decV, capV, Option.getD_some, Option.isSome_some] at KD
  have HN : Hid (∀ X, Below w.heap.size w X → Calls Tryz.prog 38 #[.slice (some ⟨g, o + 1, none⟩) 2 (c - 1)] X fun e w' => e = .returned (.int .i64 (numB ((bs.drop 1).take 2) : Int)) ∧ w' = X) := fun X hX => num_in (h.below hX) (by omega) (by omega) (by omega)
  have HA : Hid (∀ X, Calls Tryz.prog 41 #[.int .i64 (numB ((bs.drop 1).take 2) : Int), .agg #[.bool cc.four, .int .i64 cc.as4, .bool cc.gr, .bool cc.rs, .int .i64 cc.tm, .bool cc.fam, .bool cc.fwd, .bool cc.ll, .int .i64 cc.lt]] X fun e w' => e = .returned (.tuple #[.int .i64 0, .bool false]) ∧ Below X.heap.size X w') := fun X => by
    have := readas_any (numB ((bs.drop 1).take 2)) cc X
    rw [hv, hs] at this
    exact this
  clear hc h hfit h4 hcap hl hn hpl hr hs hv
  generalize numB ((bs.drop 1).take 2) = s at *
  obtain ⟨four, as4, gr, rs, tm, fam, fwd, ll, lt⟩ := cc
  simp only at KD HA
  have hc1 : ¬ c = 1 := by omega
  go_enter Tryz.func22, Tryz.ntmps22
  go_wp2_with (first | (refine keptO_alloc_intro _ (run_allocO w) ?_))
  with_reducible refine KC.out.mono ?_
  rintro e w1 ⟨ap, cp, aq, cq, m, rfl, rfl, HP, hcp⟩
  go_wp2_with fail
  with_reducible refine (KD.out m ap cp hcp HP.out).mono ?_
  rintro e w2 ⟨rfl, HB2, HW2⟩
  have HBA : Hid (Below w.heap.size w (w2.alloc (.cells #[.bool four, .int .i64 as4, .bool gr, .bool rs, .int .i64 tm, .bool fam, .bool fwd, .bool ll, .int .i64 lt] 26))) := HB2.out.alloc HB2.out.size _
  have HWA : Hid (OW w (w2.alloc (.cells #[.bool four, .int .i64 as4, .bool gr, .bool rs, .int .i64 tm, .bool fam, .bool fwd, .bool ll, .int .i64 lt] 26))) := HW2.out.later ((Below.refl _ _).alloc (Nat.le_refl _) _)
  have KN : Hid (∀ x : Later (w2.alloc (.cells #[.bool four, .int .i64 as4, .bool gr, .bool rs, .int .i64 tm, .bool fam, .bool fwd, .bool ll, .int .i64 lt] 26)), Calls Tryz.prog 38 #[.slice (some ⟨g, o + 1, none⟩) 2 (c - 1)] x.w fun e w' => e = .returned (.int .i64 (s : Int)) ∧ ∃ y : Later (w2.alloc (.cells #[.bool four, .int .i64 as4, .bool gr, .bool rs, .int .i64 tm, .bool fam, .bool fwd, .bool ll, .int .i64 lt] 26)), w' = y.w) := fun x => calls_same x (HN.out x.w (HBA.out.trans (x.h.mono HBA.out.size)))
  have KA : Hid (∀ x : Later (w2.alloc (.cells #[.bool four, .int .i64 as4, .bool gr, .bool rs, .int .i64 tm, .bool fam, .bool fwd, .bool ll, .int .i64 lt] 26)), Calls Tryz.prog 41 #[.int .i64 (s : Int), .agg #[.bool four, .int .i64 as4, .bool gr, .bool rs, .int .i64 tm, .bool fam, .bool fwd, .bool ll, .int .i64 lt]] x.w fun e w' => e = .returned (.tuple #[.int .i64 0, .bool false]) ∧ ∃ y : Later (w2.alloc (.cells #[.bool four, .int .i64 as4, .bool gr, .bool rs, .int .i64 tm, .bool fam, .bool fwd, .bool ll, .int .i64 lt] 26)), w' = y.w) := fun x => calls_later x (HA.out x.w)
  have y0 : ∀ x : Later (w2.alloc (.cells #[.bool four, .int .i64 as4, .bool gr, .bool rs, .int .i64 tm, .bool fam, .bool fwd, .bool ll, .int .i64 lt] 26)), x.w.cell? ⟨w2.heap.size, 0, none⟩ = some (.bool four) := fun x => x.cell (by simp [go_sem])
  have y1 : ∀ x : Later (w2.alloc (.cells #[.bool four, .int .i64 as4, .bool gr, .bool rs, .int .i64 tm, .bool fam, .bool fwd, .bool ll, .int .i64 lt] 26)), x.w.cell? ⟨w2.heap.size, 1, none⟩ = some (.int .i64 as4) := fun x => x.cell (by simp [go_sem])
  have y2 : ∀ x : Later (w2.alloc (.cells #[.bool four, .int .i64 as4, .bool gr, .bool rs, .int .i64 tm, .bool fam, .bool fwd, .bool ll, .int .i64 lt] 26)), x.w.cell? ⟨w2.heap.size, 2, none⟩ = some (.bool gr) := fun x => x.cell (by simp [go_sem])
  have y3 : ∀ x : Later (w2.alloc (.cells #[.bool four, .int .i64 as4, .bool gr, .bool rs, .int .i64 tm, .bool fam, .bool fwd, .bool ll, .int .i64 lt] 26)), x.w.cell? ⟨w2.heap.size, 3, none⟩ = some (.bool rs) := fun x => x.cell (by simp [go_sem])
  have y4 : ∀ x : Later (w2.alloc (.cells #[.bool four, .int .i64 as4, .bool gr, .bool rs, .int .i64 tm, .bool fam, .bool fwd, .bool ll, .int .i64 lt] 26)), x.w.cell? ⟨w2.heap.size, 4, none⟩ = some (.int .i64 tm) := fun x => x.cell (by simp [go_sem])
  have y5 : ∀ x : Later (w2.alloc (.cells #[.bool four, .int .i64 as4, .bool gr, .bool rs, .int .i64 tm, .bool fam, .bool fwd, .bool ll, .int .i64 lt] 26)), x.w.cell? ⟨w2.heap.size, 5, none⟩ = some (.bool fam) := fun x => x.cell (by simp [go_sem])
  have y6 : ∀ x : Later (w2.alloc (.cells #[.bool four, .int .i64 as4, .bool gr, .bool rs, .int .i64 tm, .bool fam, .bool fwd, .bool ll, .int .i64 lt] 26)), x.w.cell? ⟨w2.heap.size, 6, none⟩ = some (.bool fwd) := fun x => x.cell (by simp [go_sem])
  have y7 : ∀ x : Later (w2.alloc (.cells #[.bool four, .int .i64 as4, .bool gr, .bool rs, .int .i64 tm, .bool fam, .bool fwd, .bool ll, .int .i64 lt] 26)), x.w.cell? ⟨w2.heap.size, 7, none⟩ = some (.bool ll) := fun x => x.cell (by simp [go_sem])
  have y8 : ∀ x : Later (w2.alloc (.cells #[.bool four, .int .i64 as4, .bool gr, .bool rs, .int .i64 tm, .bool fam, .bool fwd, .bool ll, .int .i64 lt] 26)), x.w.cell? ⟨w2.heap.size, 8, none⟩ = some (.int .i64 lt) := fun x => x.cell (by simp [go_sem])
  have hne := later_some (w2.alloc (.cells #[.bool four, .int .i64 as4, .bool gr, .bool rs, .int .i64 tm, .bool fam, .bool fwd, .bool ll, .int .i64 lt] 26))
  go_wp2_with fail
  refine region_later (by kernel_rfl) (by kernel_rfl) ?_
  repeat (go_big_quiet_step (first | (go_at_call 38; with_reducible exact KN.out _) | (go_at_call 41; with_reducible exact KA.out _)))
  refine wpQuiet_nil ?_
  rintro _ ⟨xq, rfl⟩
  have HWX := hide (HWA.out.later xq.h)
  go_wp2_with (first | (refine keptO_build0_intro _ (run_build0O _) ?_))
  refine (KE.out _ 2 HWX.out).mono ?_
  rintro e w3 ⟨a9, c9, W5, rfl, HST, HX, HF⟩
  obtain ⟨_, r0, r1, r2, f0, f1, f2⟩ := HX.out
  go_wp2_with (refine keptO_store_intro _ _ (.pointer (some ⟨w.heap.size, 0, none⟩)) (.agg zO) (by rfl) (by rfl) HST.out ?_)
  refine bodyPost_ret (v := .tuple #[.agg zO, .agg #[.int .i64 2, .int .i64 2, .slice a9 0 c9]]) (res_cells2 Tryz.results22 _ _ w.heap.size (w.heap.size + 1) zO #[.int .i64 2, .int .i64 2, .slice a9 0 c9] rfl rfl HF.out.rO HF.out.rN Tryz.underlying28 rfl infoO Tryz.underlying38 rfl infoN) rfl ⟨?_, HF.out.bel⟩
  exact ⟨_, rfl, a9, c9, rfl, HF.out.own⟩
end
end Go.Proofs.YtkmfnafecdfedaaGreatDoor
