/- Write: what it answers, and what it turns. -/
import Derived.Test.YtbecchoidglaeaaReads
import Derived.Great.BuildSlice
namespace Go.Proofs.Ytbecchoidglaeaa
open Go.RowKit
set_option maxRecDepth 100000

def zeroW : Nat × (Nat → Nat) := (0, fun _ => 0)
theorem Try.info95 : (Try.prog.info? 95).map (fun i => (i.zero, i.size, i.bytes)) = some (some (.agg (wcl zeroW).toArray), 65, 72) := by kernel_rfl
theorem Try.size95 : (Try.prog.info? 95).map (·.size) = some 65 := by kernel_rfl
theorem Try.size5 : (Try.prog.info? 5).map (·.size) = some 1 := by kernel_rfl

theorem run_alloc_write (w : World) : (Instr.alloc 95 true (.tuple #[])).run Try.prog w = .ok (.pointer (some ⟨w.heap.size, 0, none⟩)) (w.alloc (.cells (wcl zeroW).toArray 95)) := by
  obtain ⟨i0, hi0, hz0, hz1, hz2⟩ := info_parts Try.info95
  simp [Instr.alloc, zeroValue, typeInfo, hi0, hz0, newVar, newRow, Value.cells]
theorem run_build_write (k : Nat) (w : World) : (Instr.build 95 #[(0, .int .i64 (k : Int))]).run Try.prog w = .ok (.agg (wcl (k, fun _ => 0)).toArray) w := by
  kernel_rfl
theorem run_store_write (w : World) (x y : Nat × (Nat → Nat)) :
    (Instr.storeAt 95 (.pointer (some ⟨w.heap.size, 0, none⟩)) (.agg (wcl y).toArray)).run Try.prog (w.alloc (.cells (wcl x).toArray 95)) = .ok () (w.alloc (.cells (wcl y).toArray 95)) :=
  run_storeAt_new w 95 _ _ (by rw [Try.size95]; simp [wr_length]) (by simp [wr_length]) (all_oneCell_toArray (wr_one y))
theorem run_build_one (x : Nat × (Nat → Nat)) (w : World) : (Instr.buildSlice 68 1 #[(0, .agg (wcl x).toArray)]).run Try.prog w = .ok (.slice (some ⟨w.heap.size, 0, none⟩) 1 1) (w.alloc (.cells (wcl x).toArray 95)) := by
  obtain ⟨i0, hi0, hz0, hz1, hz2⟩ := info_parts Try.info95
  refine run_buildSlice w 68 95 1 _ _ i0 _ Try.underlying68 hi0 hz0 (by rw [hz1]; decide) (by rw [hz1]; decide) ?_
  rw [hz1]
  have := Great.fill_whole (s := 65) (by decide) [.agg (wcl x).toArray] ((Array.range (1 * 65)).map ((Value.agg (wcl zeroW).toArray).cells[· % (Value.agg (wcl zeroW).toArray).cells.size]!)) (fun v hv => by
    simp at hv; subst hv; simp [Value.cells, wr_length]) (by simp)
  simpa [Value.cells] using this

/-- The bytes f 0 .. f (len - 1), filled up with 0. -/
def fill (f : Nat → Nat) (len : Nat) : Nat → Nat := fun j => if j < len then f j else 0
theorem wr_fill (k : Nat) (f : Nat → Nat) (len : Nat) (hl : len ≤ 64) :
    (wcl (k, fun _ => 0)).take 1 ++ valsOf f len ++ (wcl (k, fun _ => 0)).drop (1 + len) = wcl (k, fill f len) := by
  apply List.ext_getElem?
  intro j
  by_cases h0 : j = 0
  · subst h0; simp [wcl]
  · obtain ⟨m, rfl⟩ : ∃ m, j = m + 1 := ⟨j - 1, by omega⟩
    have e : (wcl (k, fill f len))[m + 1]? = (valsOf (fill f len) 64)[m]? := by simp [wcl]
    rw [e]
    have e1 : (wcl (k, fun _ => 0)).take 1 = [Value.int .i64 (k : Int)] := by simp [wcl]
    have e2 : (wcl (k, fun _ => 0)).drop (1 + len) = (valsOf (fun _ => 0) 64).drop len := by rw [Nat.add_comm]; simp [wcl]
    rw [e1, e2]
    simp only [List.cons_append, List.nil_append, List.getElem?_cons_succ]
    by_cases hm : m < len
    · rw [List.getElem?_append_left (by rw [valsOf_length]; exact hm), valsOf_get _ _ _ hm, valsOf_get _ _ _ (by omega)]
      simp [fill, hm]
    · rw [List.getElem?_append_right (by rw [valsOf_length]; omega), valsOf_length, List.getElem?_drop, show len + (m - len) = m from by omega]
      by_cases h64 : m < 64
      · rw [valsOf_get _ _ _ h64, valsOf_get _ _ _ h64]; simp [fill, hm]
      · rw [List.getElem?_eq_none (by rw [valsOf_length]; omega), List.getElem?_eq_none (by rw [valsOf_length]; omega)]
theorem run_copy_write (w : World) (k : Nat) (a : Option Addr) (len cap : Nat) (f : Nat → Nat) (ty : TypeId) (hl : len ≤ 64) (h : Rw w a len f) :
    (Builtin.copy_ #[37, 37] ty #[.slice (some ⟨w.heap.size, 1, none⟩) 64 64, .slice a len cap]).run Try.prog (w.alloc (.cells (wcl (k, fun _ => 0)).toArray 95)) =
      .ok (goInt (len : Int)) (w.alloc (.cells (wcl (k, fill f len)).toArray 95)) := by
  by_cases h0 : len = 0
  · subst h0
    have := run_copy_none (P := Try.prog) (w.alloc (.cells (wcl (k, fun _ => 0)).toArray 95)) 37 37 ty 5 (some ⟨w.heap.size, 1, none⟩) a 64 64 0 cap Try.underlying37 Try.size5 (by decide)
    rw [this, ← wr_fill k f 0 hl]
    simp only [valsOf, List.range_zero, List.map_nil, List.append_nil, Nat.add_zero, List.take_append_drop]
    rfl
  · obtain ⟨b, off, rfl, hc⟩ := h.2 (by omega)
    have := run_copy_row (P := Try.prog) (w.alloc (.cells (wcl (k, fun _ => 0)).toArray 95)) 37 37 ty 5 w.heap.size 1 64 64 ⟨b, off, none⟩ len cap _ 95 (valsOf f len) Try.underlying37 Try.size5 (heap_alloc_last w _)
      (by rw [valsOf_length]; simp [Nat.min_eq_left hl]) (fun j v hv => by
        have hj : j < len := by simpa [valsOf_length] using (List.getElem?_eq_some_iff.1 hv).1
        rw [valsOf_get _ _ _ hj] at hv
        rw [Addr.add_mid, World.cell?_alloc_lt _ _ _ (World.block_lt_of_cell? w _ (hc j hj)), hc j hj, hv]) (by simp [valsOf_length, wr_length]; omega) (valsOf_one f len)
    rw [this, World.setRow_alloc_new, valsOf_length]
    congr 3
    exact congrArg List.toArray (wr_fill k f len hl)
end Go.Proofs.Ytbecchoidglaeaa
