/- The program's Encode of a KEEPALIVE and of a NOTIFICATION. -/
import Derived.Test.YtkmfnafecdfedaaGreatDoorMgE3
import Derived.Test.YtkmfnafecdfedaaGreatDoorMgM
import Derived.Deep.RegionHeld3
namespace Go.Proofs.YtkmfnafecdfedaaGreatDoor
open Go.RowKit
set_option maxRecDepth 100000

theorem Fr.lay7 {t0 t1 t2 t3 t4 t5 t6 : Nat} {b a : Act} (h : Fr [t0, t1, t2, t3, t4, t5, t6] b a) (hsz : ∀ s ∈ [t0, t1, t2, t3, t4, t5, t6], s < b.tmps.size) {v6 : Value} (h6 : a.tmps[t6]? = some v6) :
    ∃ x0 x1 x2 x3 x4 x5, a = ((((((b.put (some t0) x0).put (some t1) x1).put (some t2) x2).put (some t3) x3).put (some t4) x4).put (some t5) x5).put (some t6) v6 := by
  have get : ∀ t, t ∈ [t0, t1, t2, t3, t4, t5, t6] → ∃ x, a.tmps[t]? = some x := fun t ht => ⟨_, Array.getElem?_eq_getElem (by rw [h.size]; exact hsz t ht)⟩
  obtain ⟨x0, h0⟩ := get t0 (by simp)
  obtain ⟨x1, h1⟩ := get t1 (by simp)
  obtain ⟨x2, h2⟩ := get t2 (by simp)
  obtain ⟨x3, h3⟩ := get t3 (by simp)
  obtain ⟨x4, h4⟩ := get t4 (by simp)
  obtain ⟨x5, h5⟩ := get t5 (by simp)
  refine ⟨x0, x1, x2, x3, x4, x5, Fr.eq (b := b) (l := [(t0, x0), (t1, x1), (t2, x2), (t3, x3), (t4, x4), (t5, x5), (t6, v6)]) (c := b) rfl h.defers h.size h.out fun p hp => ?_⟩
  simp only [List.mem_cons, List.not_mem_nil, or_false] at hp
  rcases hp with rfl | rfl | rfl | rfl | rfl | rfl | rfl <;> assumption
section
attribute [local go_sem ↓] keptM_load keptM_box
/-- Encode of a message whose body is too long. -/
theorem enc_long (C : Array Value) (bl : Nat) (w : World) (hC : MC C) (hl : bl ≤ 50000) (hlong : 4096 < 19 + bl)
    (K : Hid (∀ o, Calls Tryz.prog 35 #[.agg C] (w.alloc o) fun e w' => ∃ a9 c9, e = .returned (.tuple #[.slice a9 bl c9, .bool true]) ∧ Hid (Below w.heap.size w w'))) :
    Calls Tryz.prog 19 #[.agg C] w fun e w' => e = .returned (.slice none 0 0) ∧ Below w.heap.size w w' := by
  have h1 : decide ((4096 : Int) < 19 + (bl : Int)) = true := decide_eq_true (by omega)
  have h2 : (bl : Int) ≤ 50000 := by omega
  have HL : Hid ((Instr.loadAt 40 (.pointer (some ⟨w.heap.size, 0, none⟩))).run Tryz.prog (w.alloc (.cells C 40)) = .ok (.agg C) (w.alloc (.cells C 40))) := run_loadM (range_of (heap_alloc_new w _)) hC
  clear hl hlong
  go_enter Tryz.func19, Tryz.ntmps19
  go_wp2_with (first | (refine keptM_box_intro _ (.agg C) _ (by rfl) (run_boxM C w) ?_) | (refine keptM_load_intro _ (.pointer (some ⟨w.heap.size, 0, none⟩)) (.agg C) (by rfl) HL.out ?_))
  refine (K.out _).mono ?_
  rintro e w1 ⟨a9, c9, rfl, HB⟩
  go_wp2
  go_ret
  exact ⟨rfl, HB.out⟩
set_option maxHeartbeats 4000000 in
theorem enc_good (k : Nat) (C : Array Value) (bd : List Nat) (w : World) (hC : MC C) (hC0 : C[0]? = some (.int .i64 (k : Int))) (hk : k < 256) (hl : bd.length ≤ 50000) (hshort : 19 + bd.length ≤ 4096)
    (K : Hid (∀ o, Calls Tryz.prog 35 #[.agg C] (w.alloc o) fun e w' => ∃ a9 c9, e = .returned (.tuple #[.slice a9 bd.length c9, .bool true]) ∧ Hid (BRd w' a9 bd) ∧ Hid (Below (w.alloc o).heap.size (w.alloc o) w'))) :
    Calls Tryz.prog 19 #[.agg C] w fun e w' => ∃ v, e = .returned v ∧ w'.ownsRow w.heap.size 5 1 v (ff16 ++ [(19 + bd.length) / 256, (19 + bd.length) % 256, k] ++ bd).length (bcells (ff16 ++ [(19 + bd.length) / 256, (19 + bd.length) % 256, k] ++ bd)) ∧ Below w.heap.size w w' := by
  obtain ⟨bl, hbl⟩ : ∃ bl, bl = bd.length := ⟨_, rfl⟩
  have HBL := hide hbl
  rw [← hbl] at K
  have h1 : decide ((4096 : Int) < 19 + (bl : Int)) = false := decide_eq_false (by omega)
  have h5 : (bl : Int) ≤ 5000 := by omega
  have HL5 : Hid (bl ≤ 5000) := by show bl ≤ 5000; omega
  have HL : Hid ((Instr.loadAt 40 (.pointer (some ⟨w.heap.size, 0, none⟩))).run Tryz.prog (w.alloc (.cells C 40)) = .ok (.agg C) (w.alloc (.cells C 40))) := run_loadM (range_of (heap_alloc_new w _)) hC
  have HC0 := hide hC0
  clear hbl hl hshort hC0
  go_enter Tryz.func19, Tryz.ntmps19
  go_wp2_with (first | (refine keptM_box_intro _ (.agg C) _ (by rfl) (run_boxM C w) ?_) | (refine keptM_load_intro _ (.pointer (some ⟨w.heap.size, 0, none⟩)) (.agg C) (by rfl) HL.out ?_))
  refine (K.out _).mono ?_
  rintro e w1 ⟨a9, c9, rfl, HR, HB⟩
  have k0 : w1.cell? ⟨w.heap.size, 0, none⟩ = some (.int .i64 (k : Int)) := by
    rw [HB.out.cell (p := ⟨w.heap.size, 0, none⟩) (by simp)]
    exact range_of (heap_alloc_new w _) 0 _ (by rw [Array.getElem?_toList]; exact HC0.out)
  have hz : w.heap.size < w1.heap.size := by have := HB.out.size; simp at this; omega
  have HB0 : Hid (Below w.heap.size w w1) := ((Below.refl w.heap.size w).alloc (Nat.le_refl _) _).trans (HB.out.mono (by simp))
  clear K
  go_wp2_with fail
  have hdr : Below w1.heap.size w1 { w1 with drawn := w1.drawn + 1 } := (Below.refl _ w1).drew
  refine wp_region_noPanic ?_
  refine wp_region_held (S := fun W => Below w1.heap.size w1 W) (by kernel_rfl) ?_
  refine take_slot (i := 2) (d := 22) (v := .int .i64 ((19 + bl : Nat) : Int)) rfl rfl rfl (by kernel_rfl) (by kernel_rfl) (by kernel_rfl) (fun _ _ _ _ h => h) (fun w _ => op_move _ w _ _ _ rfl (by show Value.int .i64 (19 + (bl : Int)) = _; rw [Int.natCast_add]; rfl)) hdr ?_
  simp only [Act.put, List.setIfInBounds_toArray, List.set_cons_zero, List.set_cons_succ]
  refine take_slot (i := 4) (d := 24) (v := .pointer (some ⟨w.heap.size, 0, none⟩)) rfl rfl rfl (by kernel_rfl) (by kernel_rfl) (by kernel_rfl) (fun _ _ _ _ h => h) (fun w _ => by go_simp) hdr ?_
  simp only [Act.put, List.setIfInBounds_toArray, List.set_cons_zero, List.set_cons_succ]
  refine take_slot (i := 5) (d := 25) (v := .int .i64 (k : Int)) rfl rfl rfl (by kernel_rfl) (by kernel_rfl) (by kernel_rfl) (fun _ _ _ _ h => h) (fun W hW => by
    have k1 : W.cell? ⟨w.heap.size, 0, none⟩ = some (.int .i64 (k : Int)) := by rw [hW.cell (p := ⟨w.heap.size, 0, none⟩) hz]; exact k0
    go_simp) hdr ?_
  simp only [Act.put, List.setIfInBounds_toArray, List.set_cons_zero, List.set_cons_succ]
  refine take_slot (i := 7) (d := 27) (v := .slice a9 bl c9) rfl rfl rfl (by kernel_rfl) (by kernel_rfl) (by kernel_rfl) (fun _ _ _ _ h => h) (fun w _ => op_move _ w _ _ _ rfl rfl) hdr ?_
  simp only [Act.put, List.setIfInBounds_toArray, List.set_cons_zero, List.set_cons_succ]
  refine enc_region _ w1 (19 + bl) k bd a9 c9 (by have := HL5.out; omega) hk ⟨_, _, _, rfl⟩ ⟨_, _, _, rfl⟩ ⟨_, _, _, rfl⟩ ⟨_, _, _, rfl⟩ ⟨_, _, _, rfl⟩ ⟨_, _, _, rfl⟩ ⟨_, _, _, rfl⟩
    (by kernel_rfl) (by kernel_rfl) (by kernel_rfl) (by kernel_rfl) (by kernel_rfl) (by kernel_rfl) (by kernel_rfl) (by kernel_rfl) (by kernel_rfl) (by kernel_rfl) (by kernel_rfl) (by kernel_rfl) rfl rfl rfl (by rw [← HBL.out]; rfl) HR.out (by rw [← HBL.out]; have := HL5.out; omega) ?_ _ hdr
  intro a W v hfr h2 ho hb
  obtain ⟨x0, x1, x2, x3, x4, x5, rfl⟩ := hfr.lay7 (by exact (by decide : ∀ s ∈ [20, 21, 23, 26, 28, 29, 2], s < 30)) h2
  have HO := hide (own_low ho (show w.heap.size ≤ w1.heap.size by omega))
  have HBW := hide (HB0.out.trans (hb.mono (show w.heap.size ≤ w1.heap.size by omega)))
  clear ho hb hfr
  refine NoPanic.normal ?_
  simp only [Act.put, List.setIfInBounds_toArray, List.set_cons_zero, List.set_cons_succ]
  go_wp2
  go_ret
  rw [← HBL.out]
  exact ⟨v, rfl, HO.out, HBW.out⟩
end
end Go.Proofs.YtkmfnafecdfedaaGreatDoor
