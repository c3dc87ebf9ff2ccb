/- New, Read and Lasts: what they answer, and what they turn. -/
import Derived.Test.YtbecchoidglaeaaGMem
import Derived.Deep.RegionHeld3
import Derived.Deep.WholeRow
namespace Go.Proofs.Ytbecchoidglaeaa
open Go.RowKit
set_option maxRecDepth 100000

theorem Try.size93 : (Try.prog.info? 93).map (·.size) = some 64 := by kernel_rfl
theorem Try.zero93 : (Try.prog.info? 93).map (fun i => (i.zero, i.size, i.bytes)) = some (some (.agg (valsOf (fun _ => 0) 64).toArray), 64, 64) := by kernel_rfl

theorem page_load (w : World) (b o : Nat) (f : Nat → Nat) (h : w.rangeAt b o (valsOf f 64)) :
    (Instr.loadAt 93 (.pointer (some ⟨b, o, none⟩))).run Try.prog w = .ok (.agg (valsOf f 64).toArray) w :=
  run_loadAt_mid w b o 93 _ _ h Try.underlying93 rfl (by rw [Try.size93, valsOf_length])

set_option maxHeartbeats 400000 in
theorem fresh_any (cs : List Value) (w : World) : Calls Try.prog 60 #[.agg cs.toArray] w fun e w' =>
    e = .returned (.slice (some ⟨w.heap.size, 0, none⟩) 64 64) ∧ w' = w.alloc (.cells cs.toArray 93) := by
  go_enter Try.func60, Try.ntmps60
  go_wp2
  go_ret
  exact ⟨rfl, rfl⟩

set_option maxHeartbeats 400000 in
theorem read_nil (i : Int) (w : World) : Calls Try.prog 27 #[.pointer none, .int .i64 i] w fun e w' => e = .returned (.tuple #[.slice none 0 0, .int .i64 1]) ∧ w' = w := by
  go_enter Try.func27, Try.ntmps27
  go_wp2_with fail
  refine (has_nil i _).mono ?_
  rintro e w1 ⟨rfl, rfl⟩
  go_wp2
  go_ret2
  exact ⟨rfl, rfl⟩
set_option maxHeartbeats 400000 in
theorem lasts_nil (i : Int) (w : World) : Calls Try.prog 54 #[.pointer none, .int .i64 i] w fun e w' => e = .returned (.tuple #[.slice none 0 0, .int .i64 1]) ∧ w' = w := by
  go_enter Try.func54, Try.ntmps54
  go_wp2_with fail
  refine (has_nil i _).mono ?_
  rintro e w1 ⟨rfl, rfl⟩
  go_wp2
  go_ret2
  exact ⟨rfl, rfl⟩

set_option maxRecDepth 100000 in
set_option maxHeartbeats 400000 in
theorem read_in {w : World} {D N L : Nat} {v : Value} {s : St} (h : DiskIn w D N L v s) (i : Nat) (hi : i < s.n) : Calls Try.prog 27 #[.pointer (some ⟨D, 0, none⟩), .int .i64 (i : Int)] w fun e w' =>
    e = .returned (.tuple #[.slice (some ⟨w.heap.size, 0, none⟩) 64 64, .int .i64 0]) ∧ w' = w.alloc (.cells (valsOf (s.now i) 64).toArray 93) := by
  have c0 := h.c0
  have hld := page_load w N (i * 64) (s.now i) (h.gn.range i hi)
  generalize valsOf (s.now i) 64 = cs at *
  have HL := hide hld
  clear hld
  have hi0 : (0 : Int) ≤ (i : Int) := Int.natCast_nonneg _
  have hi1 : (i : Int) < (s.n : Int) := by omega
  have hh := has_in h (i : Int)
  rw [decide_eq_true ⟨hi0, hi1⟩] at hh
  have HH := hide hh
  clear hh h
  go_enter Try.func27, Try.ntmps27
  go_wp2_with fail
  refine HH.out.mono ?_
  rintro e w1 ⟨rfl, rfl⟩
  go_wp2_with ((with_reducible refine wpl_load 93 _ (.pointer (some ⟨N, i * 64, none⟩)) _ ?_ HL.out ?_); (· rfl))
  refine (fresh_any _ _).mono ?_
  rintro e w2 ⟨rfl, rfl⟩
  go_wp2
  go_ret2
  exact ⟨rfl, rfl⟩
set_option maxHeartbeats 400000 in
theorem lasts_in {w : World} {D N L : Nat} {v : Value} {s : St} (h : DiskIn w D N L v s) (i : Nat) (hi : i < s.n) : Calls Try.prog 54 #[.pointer (some ⟨D, 0, none⟩), .int .i64 (i : Int)] w fun e w' =>
    e = .returned (.tuple #[.slice (some ⟨w.heap.size, 0, none⟩) 64 64, .int .i64 0]) ∧ w' = w.alloc (.cells (valsOf (s.lasts i) 64).toArray 93) := by
  have c1 := h.c1
  have hld := page_load w L (i * 64) (s.lasts i) (h.gl.range i hi)
  generalize valsOf (s.lasts i) 64 = cs at *
  have HL := hide hld
  clear hld
  have hi0 : (0 : Int) ≤ (i : Int) := Int.natCast_nonneg _
  have hi1 : (i : Int) < (s.n : Int) := by omega
  have hh := has_in h (i : Int)
  rw [decide_eq_true ⟨hi0, hi1⟩] at hh
  have HH := hide hh
  clear hh h
  go_enter Try.func54, Try.ntmps54
  go_wp2_with fail
  refine HH.out.mono ?_
  rintro e w1 ⟨rfl, rfl⟩
  go_wp2_with ((with_reducible refine wpl_load 93 _ (.pointer (some ⟨L, i * 64, none⟩)) _ ?_ HL.out ?_); (· rfl))
  refine (fresh_any _ _).mono ?_
  rintro e w2 ⟨rfl, rfl⟩
  go_wp2
  go_ret2
  exact ⟨rfl, rfl⟩

/-! ### New -/
theorem madeCells_at (k n : Nat) (hk : k < n) : (madeCells (valsOf (fun _ => 0) 64).toArray n)[k]? = some (.int .u8 0) := by
  have hm : k % 64 < 64 := Nat.mod_lt _ (by decide)
  simp [madeCells, hk, valsOf_length]
  simp [valsOf, hm]
theorem run_make_pages (n : Nat) (hn : n ≤ 1024) (w : World) : (Instr.makeSlice 67 (.int .i64 (n : Int)) (.int .i64 (n : Int))).run Try.prog w =
    .ok (.slice (some ⟨w.heap.size, 0, none⟩) n n) (w.alloc (.cells (madeCells (valsOf (fun _ => 0) 64).toArray (n * 64)) 93)) := by
  obtain ⟨i0, hi0, hz0, hz1, hz2⟩ := info_parts Try.zero93
  have := run_make (P := Try.prog) w 67 93 i0 _ Try.underlying67 hi0 hz0 .i64 .i64 (n : Int) (n : Int) (by omega) (Int.le_refl _) (by rw [hz2]; omega) (by omega)
  simp only [Int.toNat_natCast, hz1, Value.cells] at this
  exact this
theorem Grid.made (w : World) (n : Nat) : Grid (w.alloc (.cells (madeCells (valsOf (fun _ => 0) 64).toArray (n * 64)) 93)) w.heap.size n (fun _ _ => 0) := by
  refine ⟨by simp, fun i hi j hj => ?_⟩
  have hb : (w.alloc (.cells (madeCells (valsOf (fun _ => 0) 64).toArray (n * 64)) 93)).heap[w.heap.size]? = some (.cells (madeCells (valsOf (fun _ => 0) 64).toArray (n * 64)) 93 (0, 0)) := heap_alloc_last w _
  refine ⟨?_, by rw [World.frozen?]; simp only [hb]; simp⟩
  rw [cell_of_row _ _ _ _ _ _ hb]
  exact madeCells_at _ _ (by omega)
/-- New(n). -/
def St.made (n : Nat) : St := { n := n, now := fun _ _ => 0, lasts := fun _ _ => 0, lo := [], fused := false, left := 0, down := false }
theorem made_disk (w : World) (m : Nat) (hm : m ≤ 1024) (x y : Nat) (hxy : (x = w.heap.size ∧ y = w.heap.size + 1) ∨ (x = w.heap.size + 1 ∧ y = w.heap.size)) :
    let w' := (((w.alloc (.cells (madeCells (valsOf (fun _ => 0) 64).toArray (m * 64)) 93)).alloc (.cells (madeCells (valsOf (fun _ => 0) 64).toArray (m * 64)) 93)).alloc
      (.cells #[.slice (some ⟨x, 0, none⟩) m m, .slice (some ⟨y, 0, none⟩) m m, .slice none 0 0, .bool false, .int .i64 0, .bool false] 70)).drew
    ∃ D F, Ending.returned (.pointer (some ⟨w.heap.size + 1 + 1, 0, none⟩)) = .returned (.pointer (some ⟨D, 0, none⟩)) ∧ Disk w' D (St.made m) F ∧ (∀ b, F b → w.heap.size ≤ b) ∧ Below w.heap.size w w' := by
  intro w'
  have g1 : Grid w' w.heap.size m (fun _ _ => 0) := (((Grid.made w m).alloc _).alloc _).drew
  have g2 : Grid w' (w.heap.size + 1) m (fun _ _ => 0) := by
    have := (((Grid.made (w.alloc (.cells (madeCells (valsOf (fun _ => 0) 64).toArray (m * 64)) 93)) m).alloc (.cells #[.slice (some ⟨x, 0, none⟩) m m, .slice (some ⟨y, 0, none⟩) m m, .slice none 0 0, .bool false, .int .i64 0, .bool false] 70)).drew)
    rwa [World.size_alloc] at this
  refine ⟨w.heap.size + 1 + 1, foot (w.heap.size + 1 + 1) x y (.slice none 0 0), rfl, ⟨x, y, _, ?_, rfl⟩, ?_, ?_⟩
  · refine ⟨?_, ?_, ?_, ⟨rfl, .inl ⟨rfl, rfl⟩⟩, by omega, by omega, by omega, by simp [Value.ownBlock], by simp [Value.ownBlock], by simp [Value.ownBlock], hm, fun _ h => by simp [St.made] at h, by simp [St.made], by simp [St.made]⟩
    · have := heap_alloc_last ((w.alloc (.cells (madeCells (valsOf (fun _ => 0) 64).toArray (m * 64)) 93)).alloc (.cells (madeCells (valsOf (fun _ => 0) 64).toArray (m * 64)) 93)) (.cells #[.slice (some ⟨x, 0, none⟩) m m, .slice (some ⟨y, 0, none⟩) m m, .slice none 0 0, .bool false, .int .i64 0, .bool false] 70)
      rwa [World.size_alloc, World.size_alloc] at this
    · rcases hxy with ⟨rfl, rfl⟩ | ⟨rfl, rfl⟩
      · exact g1
      · exact g2
    · rcases hxy with ⟨rfl, rfl⟩ | ⟨rfl, rfl⟩
      · exact g2
      · exact g1
  · intro b hb
    rcases hb with rfl | rfl | rfl | hb
    · omega
    · omega
    · omega
    · simp [Value.ownBlock] at hb
  · have := ((((Keeps.refl (fun b => w.heap.size ≤ b) w).alloc (.cells (madeCells (valsOf (fun _ => 0) 64).toArray (m * 64)) 93)).alloc (.cells (madeCells (valsOf (fun _ => 0) 64).toArray (m * 64)) 93)).alloc (.cells #[.slice (some ⟨x, 0, none⟩) m m, .slice (some ⟨y, 0, none⟩) m m, .slice none 0 0, .bool false, .int .i64 0, .bool false] 70)).drew
    exact this.below _ (Nat.le_refl _) (fun b hb => hb)
set_option maxRecDepth 100000 in
set_option maxHeartbeats 800000 in
theorem new_at (n : Int) (m : Nat) (hm : clamp n 1024 = (m : Int)) (hm2 : m ≤ 1024) (w : World) (hn : -9223372036854775808 ≤ n ∧ n ≤ 9223372036854775807) : Calls Try.prog 10 #[.int .i64 n] w fun e w' =>
    ∃ D F, e = .returned (.pointer (some ⟨D, 0, none⟩)) ∧ Disk w' D (St.made m) F ∧ (∀ b, F b → w.heap.size ≤ b) ∧ Below w.heap.size w w' := by
  have hc := (within_any n 1024 w hn (by omega))
  rw [hm] at hc
  have HC := hide hc
  clear hc hm
  have hmk := fun w => run_make_pages m hm2 w
  go_enter Try.func10, Try.ntmps10
  go_wp2_with fail
  refine HC.out.mono ?_
  rintro e w1 ⟨rfl, rfl⟩
  go_wp2_with fail
  go_region
  all_goals go_wp2
  all_goals go_ret
  · exact made_disk w1 m hm2 _ _ (.inl ⟨rfl, rfl⟩)
  · exact made_disk w1 m hm2 _ _ (.inr ⟨rfl, rfl⟩)
theorem new_any (n : Int) (w : World) (hn : -9223372036854775808 ≤ n ∧ n ≤ 9223372036854775807) : Calls Try.prog 10 #[.int .i64 n] w fun e w' =>
    ∃ D F, e = .returned (.pointer (some ⟨D, 0, none⟩)) ∧ Disk w' D (St.made (clamp n 1024).toNat) F ∧ (∀ b, F b → w.heap.size ≤ b) ∧ Below w.heap.size w w' :=
  new_at n _ (by unfold clamp; omega) (by unfold clamp; omega) w hn
end Go.Proofs.Ytbecchoidglaeaa
