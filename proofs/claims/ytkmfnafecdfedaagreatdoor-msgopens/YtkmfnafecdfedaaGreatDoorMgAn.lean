/- The sample that every statement asks: a KEEPALIVE there and back. -/
import Derived.Test.YtkmfnafecdfedaaGreatDoorMgD3
import Derived.Test.YtkmfnafecdfedaaGreatDoorMgE4
namespace Go.Proofs.YtkmfnafecdfedaaGreatDoor
open Go.RowKit
set_option maxRecDepth 100000

def aliveB : List Nat := ff16 ++ [0, 19, 4]
theorem alive_len : aliveB.length = 19 := rfl
theorem alive_lt : ∀ x ∈ aliveB, x < 256 := by decide
theorem alive_head : headM aliveB = (19, 0, 0, []) := by decide
theorem enc_alive (w : World) : Calls Tryz.prog 19 #[.agg (msgC 4 0 0 (.slice none 0 0))] w fun e w' => ∃ a c, e = .returned (.slice (some a) 19 c) ∧ 19 ≤ c ∧ a.spot = none ∧ Hid (BRd w' (some a) aliveB) ∧ Hid (Below w.heap.size w w') := by
  refine (enc_good 4 (msgC 4 0 0 (.slice none 0 0)) [] w (MC.msg 4 0 0 none 0 0) rfl (by decide) (by decide) (by decide) (fun o => ?_)).mono ?_
  · refine (bodyof_alive (w.alloc o)).mono ?_
    rintro e w' ⟨rfl, hb⟩
    exact ⟨none, 0, rfl, brd_none _ _, hb⟩
  · rintro e w' ⟨v, rfl, ho, hb⟩
    have e1 : ff16 ++ [(19 + ([] : List Nat).length) / 256, (19 + ([] : List Nat).length) % 256, 4] ++ [] = aliveB := by decide
    rw [e1] at ho
    obtain ⟨a, c, rfl, hc, hr⟩ := own_brd ho (by rw [alive_len]; decide) alive_lt
    rw [alive_len] at hc ⊢
    obtain ⟨b, off, rfl, _⟩ := hr.1.2 (by rw [alive_len]; decide)
    exact ⟨_, c, rfl, hc, rfl, hr, hb⟩
/-- A store into the message's box, beside a Note's box. -/
theorem store_both (w : World) (C : Array Value) (hC : MC C) : ∃ W5, (Instr.storeAt 40 (.pointer (some ⟨w.heap.size, 0, none⟩)) (.agg C)).run Tryz.prog ((w.alloc (.cells zM 40)).alloc (.cells #[.int .i64 0, .int .i64 0, .slice none 0 0] 38)) = .ok () W5 ∧ NtBox W5 (w.heap.size + 1) ∧ W5.heap[w.heap.size]? = some (.cells C 40 (0, 0)) ∧ Below w.heap.size w W5 := by
  have h0 := dW_M w
  have hb : Keeps (fun x => x = w.heap.size) (dW w) ((dW w).setCells w.heap.size 0 C.toList) := (Keeps.refl _ _).setCells _ 0 _ (.inl rfl)
  refine ⟨(dW w).setCells w.heap.size 0 C.toList, run_storeM (w := dW w) h0 rfl hC, ?_, bx_put h0 hC.1, (dW_below w).trans (hb.below _ (dW_below w).size (fun x e => by omega))⟩
  have h1 : NtBox (dW w) (w.heap.size + 1) := by
    have := NtBox.made (w.alloc (.cells zM 40))
    rw [World.size_alloc] at this
    exact this
  have hk : ∀ j, ((dW w).setCells w.heap.size 0 C.toList).cell? ⟨w.heap.size + 1, j, none⟩ = (dW w).cell? ⟨w.heap.size + 1, j, none⟩ := fun j => World.cell?_of_block (heap_sets (by simp))
  have hf : ∀ j, ((dW w).setCells w.heap.size 0 C.toList).frozen? ⟨w.heap.size + 1, j, none⟩ = (dW w).frozen? ⟨w.heap.size + 1, j, none⟩ := fun j => World.frozen?_of_block (heap_sets (by simp))
  obtain ⟨z, r0, r1, r2, f0, f1, f2⟩ := h1
  exact ⟨Nat.lt_of_lt_of_le z hb.size, by rw [hk]; exact r0, by rw [hk]; exact r1, by rw [hk]; exact r2, by rw [hf]; exact f0, by rw [hf]; exact f1, by rw [hf]; exact f2⟩
section
attribute [local go_sem ↓] keptM_load keptM_store keptM_alloc keptM_build
set_option maxHeartbeats 4000000 in
theorem answers_any (w : World) (hS : SaidM w) : Calls Tryz.prog 6 #[] w fun e w' => e = .returned (.bool true) ∧ Below w.heap.size w w' := by
  have HS := hide hS
  clear hS
  go_enter Tryz.func6, Tryz.ntmps6
  go_wp2_with (refine keptM_build1_intro 0 _ (.int .i64 4) (.agg (msgC 4 0 0 (.slice none 0 0))) (by rfl) (run_buildkM 4 _) ?_)
  refine (enc_alive w).mono ?_
  rintro e w1 ⟨⟨b, o, sp⟩, c, rfl, hc, hsp, HR, HB⟩
  simp only at hsp
  subst hsp
  have HS1 := hide (HS.out.below HB.out)
  go_wp2_with fail
  refine (dec_alive b o c aliveB w1 alive_len hc HR.out HS1.out alive_head rfl).mono ?_
  rintro e w2 ⟨a9, c9, rfl, hb2⟩
  have HB2 : Hid (Below w1.heap.size w1 w2) := hb2
  clear hb2
  obtain ⟨W5, hst, hx, hy, hb5⟩ := store_both w2 (msgC 4 0 0 (.slice none 0 0)) (MC.msg 4 0 0 none 0 0)
  have HY := hide hy
  have HB5 := hide hb5
  have hz5 : w2.heap.size + 1 < W5.heap.size := hx.1
  obtain ⟨_, r0, r1, r2, f0, f1, f2⟩ := hx
  have HST := hide hst
  clear hst hy hb5
  go_wp2_with (first | (refine keptM_alloc_intro _ (run_allocM w2) ?_) | (refine keptM_store_intro _ _ (.pointer (some ⟨w2.heap.size, 0, none⟩)) (.agg (msgC 4 0 0 (.slice none 0 0))) (by rfl) (by rfl) HST.out ?_))
  have n0 : (((W5.setCell ⟨w2.heap.size + 1, 0, none⟩ (.int .i64 0)).setCell ⟨w2.heap.size + 1, 1, none⟩ (.int .i64 0)).setCell ⟨w2.heap.size + 1, 2, none⟩ (.slice a9 0 c9)).cell? ⟨w2.heap.size + 1, 0, none⟩ = some (.int .i64 0) := by simp [go_sem, r0]
  have k0 : (((W5.setCell ⟨w2.heap.size + 1, 0, none⟩ (.int .i64 0)).setCell ⟨w2.heap.size + 1, 1, none⟩ (.int .i64 0)).setCell ⟨w2.heap.size + 1, 2, none⟩ (.slice a9 0 c9)).cell? ⟨w2.heap.size, 0, none⟩ = some (.int .i64 4) := by
    have h9 : W5.cell? ⟨w2.heap.size, 0, none⟩ = some (.int .i64 4) := range_of HY.out 0 _ rfl
    simp [go_sem, h9]
  have HB7 : Hid (Below w2.heap.size w2 (((W5.setCell ⟨w2.heap.size + 1, 0, none⟩ (.int .i64 0)).setCell ⟨w2.heap.size + 1, 1, none⟩ (.int .i64 0)).setCell ⟨w2.heap.size + 1, 2, none⟩ (.slice a9 0 c9))) := ((HB5.out.setCell (by simp) _).setCell (by simp) _).setCell (by simp) _
  have hz7 : w2.heap.size + 1 < (((W5.setCell ⟨w2.heap.size + 1, 0, none⟩ (.int .i64 0)).setCell ⟨w2.heap.size + 1, 1, none⟩ (.int .i64 0)).setCell ⟨w2.heap.size + 1, 2, none⟩ (.slice a9 0 c9)).heap.size := by simpa using hz5
  clear r0 r1 r2 f0 f1 f2 hz5 HY HB5 HST
  generalize (((W5.setCell ⟨w2.heap.size + 1, 0, none⟩ (.int .i64 0)).setCell ⟨w2.heap.size + 1, 1, none⟩ (.int .i64 0)).setCell ⟨w2.heap.size + 1, 2, none⟩ (.slice a9 0 c9)) = W7 at *
  have HBA : Hid (Below w1.heap.size w1 W7) := HB2.out.trans (HB7.out.mono HB2.out.size)
  have KH := head_any (some ⟨b, o, none⟩) c aliveB W7 (by rw [alive_len]; decide) (by rw [alive_len]; exact hc) (HR.out.below HBA.out) (HS1.out.below HBA.out)
  rw [alive_head, alive_len] at KH
  refine KH.mono ?_
  clear KH
  rintro e w8 ⟨⟨u, rfl, a8, c8, rfl, _⟩, hb8⟩
  have m0 : w8.cell? ⟨w2.heap.size + 1, 0, none⟩ = some (.int .i64 0) := by rw [hb8.cell (p := ⟨w2.heap.size + 1, 0, none⟩) hz7]; exact n0
  have m1 : w8.cell? ⟨w2.heap.size, 0, none⟩ = some (.int .i64 4) := by rw [hb8.cell (p := ⟨w2.heap.size, 0, none⟩) (by show w2.heap.size < _; omega)]; exact k0
  have hz8 : w2.heap.size + 1 < w8.heap.size := Nat.lt_of_lt_of_le hz7 hb8.size
  have hz8' : w2.heap.size < w8.heap.size := by omega
  have HB8 : Hid (Below w.heap.size w w8) := HB.out.trans ((HBA.out.mono HB.out.size).trans (hb8.mono (by have := HB.out.size; have := HBA.out.size; omega)))
  clear hb8 n0 k0 hz7
  simp only at *
  go_wp2
  go_ret
  exact ⟨rfl, HB8.out.alloc (by have := HB8.out.size; omega) _⟩
end
end Go.Proofs.YtkmfnafecdfedaaGreatDoor
