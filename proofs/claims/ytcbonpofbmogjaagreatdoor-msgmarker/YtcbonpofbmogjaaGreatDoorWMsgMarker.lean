/- MsgMarker's walk. -/
import Derived.Test.YtcbonpofbmogjaaGreatDoorWMsgHead
namespace Go.Proofs.YtcbonpofbmogjaaGreatDoor
open Go.RowKit
set_option maxRecDepth 100000

theorem cell_turn (w : World) (X k : Nat) (u : Value) (j : Nat) (v : Value) (hj : w.cell? ⟨X, j, none⟩ = some v) : (w.setCell ⟨X, k, none⟩ u).cell? ⟨X, j, none⟩ = some (if k = j then u else v) := by
  by_cases e : k = j
  · subst e
    rw [if_pos rfl]
    exact World.cell?_setCell_same _ _ _ hj
  · rw [if_neg e, World.cell?_setCell_other _ _ _ _ (by intro e9; injection e9 with _ e2 _; exact e e2)]
    exact hj
/-- A byte of a row of the call's own is turned. -/
theorem brd_turn {w : World} {g i c : Nat} {bs : List Nat} (h : BRd w (some ⟨g, 0, none⟩) bs) (hi : i < bs.length) (hc : c < 256) : BRd (w.setCell ⟨g, i, none⟩ (.int .u8 (c : Int))) (some ⟨g, 0, none⟩) (bs.set i c) := by
  obtain ⟨g', o', e, hcl⟩ := h.1.2 (by omega)
  cases e
  have hcl' : ∀ j, j < bs.length → w.cell? ⟨g, j, none⟩ = some (.int .u8 (bs.getD j 0 : Int)) := fun j hj => by have := hcl j hj; rwa [Nat.zero_add] at this
  refine ⟨⟨by rw [List.length_set]; exact h.1.1, fun _ => ⟨g, 0, rfl, fun j hj => ?_⟩⟩, fun x hx => ?_⟩
  · rw [List.length_set] at hj
    rw [Nat.zero_add, cell_turn w g i _ j _ (hcl' j hj)]
    by_cases e : i = j
    · subst e
      simp [List.getD_eq_getElem?_getD, hj]
    · simp [List.getD_eq_getElem?_getD, e]
  · rcases List.mem_or_eq_of_mem_set hx with h9 | rfl
    · exact h.2 x h9
    · exact hc
theorem mark_head {bs : List Nat} {i c : Nat} (hl : 19 ≤ bs.length) (hi : i < 16) (hc : c ≠ 255) : headM (bs.set i c) = (0, 1, 1, []) := by
  refine headM_mark (by rw [List.length_set]; omega) fun e => hc ?_
  have := congrArg (fun l => l[i]?) e
  simp only [List.getElem?_take_of_lt hi, List.getElem?_replicate, if_pos hi] at this
  rw [List.getElem?_set_self (by omega)] at this
  exact Option.some.inj this
section
attribute [local go_sem ↓] keptM_store keptM_alloc kept_append
set_option maxHeartbeats 4000000 in
theorem msgMarker_walk (b0 : Option Addr) (c0 : Nat) (bs0 : List Nat) (z1 z2 : Int) (W : World) (hS : SaidM W) (_hcap : bs0.length ≤ c0) (h : BRd W b0 bs0) (hz1 : (Lit.int IntKind.u8 z1).wf = true) (hz2 : (Lit.int IntKind.u8 z2).wf = true) : Calls Tryz.prog 5 #[.slice b0 bs0.length c0, .int .u8 z1, .int .u8 z2] W fun e W' => e = .returned (.bool true) ∧ Below W.heap.size W W' := by
  obtain ⟨at_, rfl, hat⟩ : ∃ m : Nat, z1 = (m : Int) ∧ m < 256 := by
    have hw := bounds_u8 hz1
    obtain ⟨q, rfl⟩ := Int.eq_ofNat_of_zero_le hw.1
    exact ⟨q, rfl, by omega⟩
  obtain ⟨cc, rfl, hcc⟩ : ∃ m : Nat, z2 = (m : Int) ∧ m < 256 := by
    have hw := bounds_u8 hz2
    obtain ⟨q, rfl⟩ := Int.eq_ofNat_of_zero_le hw.1
    exact ⟨q, rfl, by omega⟩
  clear hz1 hz2
  by_cases h5 : bs0.length < 19 ∨ 5000 < bs0.length ∨ cc = 255
  · have KA := hide (answers_any W hS)
    clear h hS
    generalize bs0.length = n at *
    have h5b : ((n : Int) < 19) ∨ (¬ ((n : Int) < 19) ∧ (5000 : Int) < (n : Int)) ∨ (¬ ((n : Int) < 19) ∧ ¬ ((5000 : Int) < (n : Int)) ∧ cc = 255) := by omega
    clear h5
    rcases h5b with h5 | ⟨h5, h6⟩ | ⟨h5, h6, rfl⟩
    · go_enter Tryz.func5, Tryz.ntmps5
      go_wp2_with fail
      with_reducible refine KA.out.mono ?_
      rintro e w1 ⟨rfl, hb⟩
      have HB := hide hb
      go_wp2
      go_ret
      exact ⟨rfl, HB.out⟩
    · go_enter Tryz.func5, Tryz.ntmps5
      go_wp2_with fail
      with_reducible refine KA.out.mono ?_
      rintro e w1 ⟨rfl, hb⟩
      have HB := hide hb
      go_wp2
      go_ret
      exact ⟨rfl, HB.out⟩
    · go_enter Tryz.func5, Tryz.ntmps5
      go_wp2_with fail
      with_reducible refine KA.out.mono ?_
      rintro e w1 ⟨rfl, hb⟩
      have HB := hide hb
      go_wp2
      go_ret
      exact ⟨rfl, HB.out⟩
  · have hn1 : ¬ ((bs0.length : Int) < 19) := by omega
    have hn2 : ¬ ((5000 : Int) < (bs0.length : Int)) := by omega
    have hce : ((cc : Int) == 255) = false := by simp; omega
    have h19 : 19 ≤ bs0.length := by omega
    have h50 : bs0.length ≤ 5000 := by omega
    have hcc5 : cc ≠ 255 := by omega
    have hb2 : Below W.heap.size W (W.alloc (.cells #[] 5)) := (Below.refl _ _).alloc (Nat.le_refl _) _
    obtain ⟨v', w3, hr, ho, hb3⟩ := app_brd (n := 0) (ys := []) bs0 b0 c0 rfl (own_empty W) hb2.size (by omega) (h.below hb2)
    have hlen : (([] : List Nat) ++ bs0).length = bs0.length := rfl
    rw [hlen] at ho
    obtain ⟨a, c, rfl⟩ := own_shape ho
    have hbr : BRd w3 a bs0 := own_read ho rfl (by omega) h.2
    obtain ⟨g, o, rfl, hcl⟩ := hbr.1.2 (by omega)
    obtain ⟨hg, ho0, hcapc, hfz⟩ : W.heap.size ≤ g ∧ o = 0 ∧ bs0.length ≤ c ∧ ∀ j, w3.frozen? ⟨g, j, none⟩ = false := by
      rcases ho.2 with ⟨e, _⟩ | ⟨g', cap, cur, e, hg, hc', h1, _⟩
      · cases e
      · simp only [Value.slice.injEq, Option.some.injEq, Addr.mk.injEq] at e
        obtain ⟨⟨rfl, rfl, _⟩, _, rfl⟩ := e
        exact ⟨hg, rfl, h1, fun j => by simp [World.frozen?, hc']⟩
    subst ho0
    have hb3' : Below W.heap.size W w3 := hb2.trans hb3
    have hix : at_ % 16 < bs0.length := by omega
    have ci := hcl (at_ % 16) hix
    rw [Nat.zero_add] at ci
    have fi := hfz (at_ % 16)
    have hbt := brd_turn (c := cc) hbr hix hcc
    have hbt4 : Below W.heap.size W (w3.setCell ⟨g, at_ % 16, none⟩ (.int .u8 (cc : Int))) := hb3'.setCell (by exact hg) _
    have hmh : headM (bs0.set (at_ % 16) cc) = (0, 1, 1, []) := mark_head h19 (by omega) hcc5
    have hsl : (bs0.set (at_ % 16) cc).length = bs0.length := List.length_set
    have KH := head_any (some ⟨g, 0, none⟩) c (bs0.set (at_ % 16) cc) (w3.setCell ⟨g, at_ % 16, none⟩ (.int .u8 (cc : Int))) (by omega) (by omega) hbt (hS.below hbt4)
    rw [hmh, hsl] at KH
    unfold HdIs NoteIs at KH
    have KD : Hid (∀ X, Below (w3.setCell ⟨g, at_ % 16, none⟩ (.int .u8 (cc : Int))).heap.size (w3.setCell ⟨g, at_ % 16, none⟩ (.int .u8 (cc : Int))) X → Calls Tryz.prog 9 #[.slice (some ⟨g, 0, none⟩) bs0.length c] X fun e w' => BadIs X w' e 1 1 [] ∧ Below X.heap.size X w') := fun X hX =>
      dec_bad (some ⟨g, 0, none⟩) c bs0.length (bs0.set (at_ % 16) cc) X hsl (by omega) (by omega) (hbt.below hX) ((hS.below hbt4).below hX) 1 1 [] hmh (by decide)
    unfold BadIs NoteIs at KD
    have KA : Hid (∀ X, Below W.heap.size W X → Calls Tryz.prog 8 #[] X fun e w' => e = .returned (.bool true) ∧ Below X.heap.size X w') := fun X hX => answers_any X (hS.below hX)
    have HKS : Hid (∀ X a1 c1 a2 c2, Calls Tryz.prog 11 #[.agg #[.int .i64 1, .int .i64 1, .slice a1 0 c1], .agg #[.int .i64 1, .int .i64 1, .slice a2 0 c2]] X fun e w' => e = .returned (.bool true) ∧ Below X.heap.size X w') := fun X a1 c1 a2 c2 => same_notes X 1 1 [] a1 a2 c1 c2 0 rfl (by omega) (brd_none _ _) (brd_none _ _)
    have HKH := hide KH
    have HR := hide hr
    have HB4 := hide hbt4
    have zg : g < w3.heap.size := by have := World.block_lt_of_cell? w3 _ ci; simpa using this
    obtain ⟨ix, hix2⟩ : ∃ ix : Nat, ix = at_ % 16 := ⟨_, rfl⟩
    have hixi : (at_ : Int) % 16 = (ix : Int) := by omega
    have hix16 : (ix : Int) < 16 := by omega
    have hixn : (ix : Int) < (bs0.length : Int) := by omega
    have hix0 : (0 : Int) ≤ (ix : Int) := Int.natCast_nonneg _
    rw [← hix2] at HKH KD HB4 ci fi
    clear KH hr hb2 ho hb3 hlen hbr hcl hfz hb3' hbt hbt4 hmh hsl hS h hix hix2 h5 h19 h50 hcc5
    generalize bs0.getD ix 0 = oldB at *
    generalize bs0.length = n at *
    have at0 : (0 : Int) ≤ (at_ : Int) := Int.natCast_nonneg _
    have at1 : (at_ : Int) < 256 := by omega
    go_enter Tryz.func5, Tryz.ntmps5
    go_wp2_with (refine kept_append_intro _ _ _ _ (.slice (some ⟨g, 0, none⟩) n c) (w' := w3) (by rfl) (by rfl) (by exact HR.out) ?_)
    with_reducible refine HKH.out.mono ?_
    rintro e w5 ⟨⟨u, rfl, a1, c1, rfl, ho5⟩, hb5⟩
    have HBx : Hid (Below (w3.setCell ⟨g, ix, none⟩ (.int .u8 (cc : Int))).heap.size (w3.setCell ⟨g, ix, none⟩ (.int .u8 (cc : Int))) (w5.alloc (.cells #[.int .i64 1, .int .i64 1, .slice a1 0 c1] 38))) := hb5.alloc hb5.size _
    clear hb5 ho5
    go_wp2_with fail
    with_reducible refine (KD.out _ HBx.out).mono ?_
    rintro e w6 ⟨⟨u, rfl, a2, c2, rfl, ho6⟩, hb6⟩
    have HB6 := hide hb6
    clear hb6 ho6
    have x0 : w6.cell? ⟨w5.heap.size, 0, none⟩ = some (.int .i64 1) := by rw [HB6.out.cell (p := ⟨w5.heap.size, 0, none⟩) (by simp)]; simp [go_sem]
    have x1 : w6.cell? ⟨w5.heap.size, 1, none⟩ = some (.int .i64 1) := by rw [HB6.out.cell (p := ⟨w5.heap.size, 1, none⟩) (by simp)]; simp [go_sem]
    have x2 : w6.cell? ⟨w5.heap.size, 2, none⟩ = some (.slice a1 0 c1) := by rw [HB6.out.cell (p := ⟨w5.heap.size, 2, none⟩) (by simp)]; simp [go_sem]
    have hz6 : w5.heap.size < w6.heap.size := by have := HB6.out.size; simp at this; omega
    have HBW6 : Hid (Below W.heap.size W w6) := HB4.out.trans ((HBx.out.mono HB4.out.size).trans (HB6.out.mono (by have := HB4.out.size; have := HBx.out.size; omega)))
    obtain ⟨W5, hst, hx, _, hb5⟩ := store_both w6 zM MC.zero
    have HB5 := hide hb5
    have hz5 : w6.heap.size + 1 < W5.heap.size := hx.1
    obtain ⟨_, r0, r1, r2, f0, f1, f2⟩ := hx
    have HST := hide hst
    have y0 : W5.cell? ⟨w5.heap.size, 0, none⟩ = some (.int .i64 1) := by rw [hb5.cell (p := ⟨w5.heap.size, 0, none⟩) hz6]; exact x0
    have y1 : W5.cell? ⟨w5.heap.size, 1, none⟩ = some (.int .i64 1) := by rw [hb5.cell (p := ⟨w5.heap.size, 1, none⟩) hz6]; exact x1
    have y2 : W5.cell? ⟨w5.heap.size, 2, none⟩ = some (.slice a1 0 c1) := by rw [hb5.cell (p := ⟨w5.heap.size, 2, none⟩) hz6]; exact x2
    clear hst hb5 x0 x1 x2
    go_wp2_with (first | (refine keptM_alloc_intro _ (run_allocM w6) ?_) | (refine keptM_store_intro _ _ (.pointer (some ⟨w6.heap.size, 0, none⟩)) (.agg zM) (by rfl) (by rfl) HST.out ?_))
    have p0 : (((W5.setCell ⟨w6.heap.size + 1, 0, none⟩ (.int .i64 1)).setCell ⟨w6.heap.size + 1, 1, none⟩ (.int .i64 1)).setCell ⟨w6.heap.size + 1, 2, none⟩ (.slice a2 0 c2)).cell? ⟨w6.heap.size + 1, 0, none⟩ = some (.int .i64 1) := by simp [go_sem, r0]
    have p1 : (((W5.setCell ⟨w6.heap.size + 1, 0, none⟩ (.int .i64 1)).setCell ⟨w6.heap.size + 1, 1, none⟩ (.int .i64 1)).setCell ⟨w6.heap.size + 1, 2, none⟩ (.slice a2 0 c2)).cell? ⟨w6.heap.size + 1, 1, none⟩ = some (.int .i64 1) := by simp [go_sem, r1]
    have p2 : (((W5.setCell ⟨w6.heap.size + 1, 0, none⟩ (.int .i64 1)).setCell ⟨w6.heap.size + 1, 1, none⟩ (.int .i64 1)).setCell ⟨w6.heap.size + 1, 2, none⟩ (.slice a2 0 c2)).cell? ⟨w6.heap.size + 1, 2, none⟩ = some (.slice a2 0 c2) := by simp [go_sem, r2]
    have q0 : (((W5.setCell ⟨w6.heap.size + 1, 0, none⟩ (.int .i64 1)).setCell ⟨w6.heap.size + 1, 1, none⟩ (.int .i64 1)).setCell ⟨w6.heap.size + 1, 2, none⟩ (.slice a2 0 c2)).cell? ⟨w5.heap.size, 0, none⟩ = some (.int .i64 1) := by simp [go_sem, y0]
    have q1 : (((W5.setCell ⟨w6.heap.size + 1, 0, none⟩ (.int .i64 1)).setCell ⟨w6.heap.size + 1, 1, none⟩ (.int .i64 1)).setCell ⟨w6.heap.size + 1, 2, none⟩ (.slice a2 0 c2)).cell? ⟨w5.heap.size, 1, none⟩ = some (.int .i64 1) := by simp [go_sem, y1]
    have q2 : (((W5.setCell ⟨w6.heap.size + 1, 0, none⟩ (.int .i64 1)).setCell ⟨w6.heap.size + 1, 1, none⟩ (.int .i64 1)).setCell ⟨w6.heap.size + 1, 2, none⟩ (.slice a2 0 c2)).cell? ⟨w5.heap.size, 2, none⟩ = some (.slice a1 0 c1) := by simp [go_sem, y2]
    have HB7 : Hid (Below W.heap.size W (((W5.setCell ⟨w6.heap.size + 1, 0, none⟩ (.int .i64 1)).setCell ⟨w6.heap.size + 1, 1, none⟩ (.int .i64 1)).setCell ⟨w6.heap.size + 1, 2, none⟩ (.slice a2 0 c2))) := by
      have h6 := HBW6.out.size
      have h5 := HBW6.out.trans (HB5.out.mono h6)
      exact ((h5.setCell (by simp; omega) _).setCell (by simp; omega) _).setCell (by simp; omega) _
    have hz7 : w6.heap.size + 1 < (((W5.setCell ⟨w6.heap.size + 1, 0, none⟩ (.int .i64 1)).setCell ⟨w6.heap.size + 1, 1, none⟩ (.int .i64 1)).setCell ⟨w6.heap.size + 1, 2, none⟩ (.slice a2 0 c2)).heap.size := by simpa using hz5
    clear r0 r1 r2 f0 f1 f2 hz5 HB5 HST y0 y1 y2
    generalize (((W5.setCell ⟨w6.heap.size + 1, 0, none⟩ (.int .i64 1)).setCell ⟨w6.heap.size + 1, 1, none⟩ (.int .i64 1)).setCell ⟨w6.heap.size + 1, 2, none⟩ (.slice a2 0 c2)) = W7 at *
    with_reducible refine (KA.out _ HB7.out).mono ?_
    rintro e w8 ⟨rfl, hb8⟩
    have m0 : w8.cell? ⟨w6.heap.size + 1, 0, none⟩ = some (.int .i64 1) := by rw [hb8.cell (p := ⟨w6.heap.size + 1, 0, none⟩) hz7]; exact p0
    have m1 : w8.cell? ⟨w6.heap.size + 1, 1, none⟩ = some (.int .i64 1) := by rw [hb8.cell (p := ⟨w6.heap.size + 1, 1, none⟩) hz7]; exact p1
    have m2 : w8.cell? ⟨w6.heap.size + 1, 2, none⟩ = some (.slice a2 0 c2) := by rw [hb8.cell (p := ⟨w6.heap.size + 1, 2, none⟩) hz7]; exact p2
    have n0 : w8.cell? ⟨w5.heap.size, 0, none⟩ = some (.int .i64 1) := by rw [hb8.cell (p := ⟨w5.heap.size, 0, none⟩) (by show w5.heap.size < _; omega)]; exact q0
    have n1 : w8.cell? ⟨w5.heap.size, 1, none⟩ = some (.int .i64 1) := by rw [hb8.cell (p := ⟨w5.heap.size, 1, none⟩) (by show w5.heap.size < _; omega)]; exact q1
    have n2 : w8.cell? ⟨w5.heap.size, 2, none⟩ = some (.slice a1 0 c1) := by rw [hb8.cell (p := ⟨w5.heap.size, 2, none⟩) (by show w5.heap.size < _; omega)]; exact q2
    have hz8 : w6.heap.size + 1 < w8.heap.size := Nat.lt_of_lt_of_le hz7 hb8.size
    have hz9 : w5.heap.size < w8.heap.size := by omega
    have HB8 : Hid (Below W.heap.size W w8) := HB7.out.trans (hb8.mono HB7.out.size)
    clear hb8 p0 p1 p2 q0 q1 q2 hz7
    go_wp2_with fail
    with_reducible refine (HKS.out w8 a1 c1 a2 c2).mono ?_
    rintro e w9 ⟨rfl, hb9⟩
    have HB9 := hide hb9
    clear hb9
    go_wp2
    go_ret
    exact ⟨rfl, HB8.out.trans (HB9.out.mono HB8.out.size)⟩
end
end Go.Proofs.YtcbonpofbmogjaaGreatDoor
