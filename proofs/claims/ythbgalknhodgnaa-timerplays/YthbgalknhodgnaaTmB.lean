/- The timers' New, Set, Stop, At. -/
import Derived.Test.YthbgalknhodgnaaTmA
import Derived.Test.YthbgalknhodgnaaApE
import Derived.Lib.Strings
import Derived.Lib.UnsafeStr
import Derived.Lib.BufferWrite
import Derived.Laws.MakeOwn
namespace Go.Proofs.Ythbgalknhodgnaa
open Go.RowKit
set_option maxRecDepth 100000

/-- What points at the timers. -/
abbrev tmV (b : Nat) : Value := .pointer (some ⟨b + 1, 0, none⟩)
theorem eql_smap (b : Nat) (w : World) : (binOp .eql 42 (.map (some b)) (.map none)).run Try.prog w = .ok (.bool false) w := by
  simp only [binOp]
  simp [run_equal_map_nil w 42 _ _ (some b) Try.underlying42]
section
variable {P : Program} {a : Act} {w w' : World} {K : Act → World → Prop} {Q : Exit → Act → World → Prop} {dst : Option Tmp} {ty : TypeId} {pos : String} {after : Array Edge} {gd : Option (Nat × Bool)}
theorem wp_mapUpdate {t : TypeId} (m x y : Operand) (mv xv yv : Value) (hm : a.eval m = mv) (hx : a.eval x = xv) (hy : a.eval y = yv) (hr : (Instr.mapUpdate t mv xv yv).run P w = .ok () w') (h : K (a.put dst undef) w') : Oper.wp P { dst := dst, op := .mapUpdate t m x y, type := ty, pos := pos, after := after, guard := gd } a w K Q := by
  unfold Oper.wp execOp
  simp only [hm, hx, hy, Sem.run_bind, hr, Result.andThen_ok, Sem.run_pure]
  exact h
end
set_option maxHeartbeats 4000000 in
set_option maxRecDepth 100000 in
/-- A text copied is the same text. -/
theorem lite_any (s : ByteArray) (w : World) (hlim : s.size ≤ 281474976710656) : Calls Try.prog 14 #[.string s] w fun e w' => e = .returned (.string s) ∧ Below w.heap.size w w' := by
  by_cases h0 : s.size = 0
  · have hs : s = ⟨#[]⟩ := by
      apply ByteArray.ext
      exact Array.eq_empty_of_size_eq_zero h0
    subst hs
    go_enter Try.func14, Try.ntmps14
    go_wp2
    go_ret
    exact ⟨rfl, Below.refl _ _⟩
  · obtain ⟨i0, hi, hz0, hz1, hz2⟩ := info_parts Try.infoU8
    have hinfo : (Try.prog.info? 5).map (·.size) = some 1 := by rw [hi]; simp [hz1]
    have hco : Try.prog.cellsOf 5 = 1 := by simp [Program.cellsOf, hi, hz1]
    obtain ⟨M, hM⟩ : ∃ M, M = madeCells (Value.int .u8 0).cells (((s.size : Nat) : Int).toNat * i0.size) := ⟨_, rfl⟩
    have hMs : M.size = s.size := by rw [hM, size_madeCells, hz1]; simp
    have hmk : ∀ W : World, (Instr.makeSlice 39 (.int .i64 (s.size : Int)) (.int .i64 (s.size : Int))).run Try.prog W = .ok (.slice (some ⟨W.heap.size, 0, none⟩) s.size s.size) (W.alloc (.cells M 5)) := fun W => by
      have h := run_make (P := Try.prog) W 39 5 i0 (.int .u8 0) Try.underlying39 hi hz0 .i64 .i64 (s.size : Int) (s.size : Int) (by omega) (by omega) (by rw [hz2]; omega) (by omega)
      rw [← hM] at h
      simpa using h
    clear hM
    have hcp := Lib.run_copy_row_string (P := Try.prog) (w.alloc (.cells M 5)) 39 9 3 5 w.heap.size 0 s.size s.size s M 5 Try.underlying39 hinfo (heap_alloc_new w _) (Nat.le_refl _) (by omega)
    obtain ⟨Y, hY⟩ : ∃ Y, Y = (M.toList.take 0 ++ Lib.byteCells s.data.toList ++ M.toList.drop (0 + s.size)).toArray := ⟨_, rfl⟩
    rw [← hY] at hcp
    have hYl : Y.toList = Lib.byteCells s.data.toList := by
      rw [hY, List.toList_toArray, List.take_zero, List.nil_append, List.drop_of_length_le (by rw [Array.length_toList]; omega), List.append_nil]
    have hYs : Y.size = s.size := by rw [← Array.length_toList, hYl, Lib.byteCells_length, ← Lib.size_eq]
    have hgY : ((w.alloc (.cells M 5)).setRow w.heap.size Y).heap[w.heap.size]? = some (.cells Y 5 (0, 0)) := setRow_heap _ _ M _ 5 (0, 0) (heap_alloc_new w _)
    have hne : s.data.toList ≠ [] := fun e => h0 (by rw [Lib.size_eq, e]; rfl)
    have hUS := Lib.run_unsafeString_row (P := Try.prog) ((w.alloc (.cells M 5)).setRow w.heap.size Y) 47 3 9 5 Try.underlying47 hco w.heap.size Y.size (by unfold World.shape?; rw [hgY]) s.data.toList hne (by rw [← Lib.size_eq]; omega) (by rw [← Lib.size_eq]; omega)
      (fun j x hx => Lib.cells_of_row hgY Y.size j _ (by rw [List.take_of_length_le (by rw [Array.length_toList]; exact Nat.le_refl _), hYl]; simp [Lib.byteCells, hx]))
    rw [← Lib.size_eq] at hUS
    clear hY
    go_enter Try.func14, Try.ntmps14
    go_wp2
    go_ret
    have hb1 : Below w.heap.size w (w.alloc (.cells M 5)) := (Below.refl _ w).alloc (Nat.le_refl _) _
    have hb2 : Below w.heap.size (w.alloc (.cells M 5)) ((w.alloc (.cells M 5)).setRow w.heap.size Y) := ⟨rfl, rfl, rfl, by simp, fun k hk => setRow_other _ _ _ _ (by omega)⟩
    exact ⟨rfl, Lib.below_freeze (hb1.trans hb2) (p := ⟨w.heap.size, 0, none⟩) (Nat.le_refl _) _⟩
set_option maxHeartbeats 800000 in
theorem sclone_any (s : ByteArray) (w : World) (hlim : s.size ≤ 281474976710656) : Calls Try.prog 12 #[.string s] w fun e w' => e = .returned (.string s) ∧ Below w.heap.size w w' := by
  go_enter Try.func12, Try.ntmps12
  go_wp2_with fail
  refine (lite_any s w hlim).mono ?_
  rintro e w1 ⟨rfl, hb⟩
  go_wp2
  go_ret
  exact ⟨rfl, hb⟩
set_option maxHeartbeats 800000 in
theorem new_any (w : World) : Calls Try.prog 7 #[] w fun e w' => e = .returned (tmV w.heap.size) ∧ Tmr w' w.heap.size [] ∧ Below w.heap.size w w' := by
  have hmm := @run_makeMap Try.prog
  go_enter Try.func7, Try.ntmps7
  go_wp2
  go_ret
  exact ⟨by simp, Tmr.new w, ((Below.refl _ _).alloc (Nat.le_refl _) _).alloc (by simp) _⟩
set_option maxHeartbeats 800000 in
theorem set_nil (n : ByteArray) (m : Int) (w : World) : Calls Try.prog 9 #[.pointer none, .string n, .int .i64 m] w fun e w' => e = .returned (.tuple #[]) ∧ w' = w := by
  go_enter Try.func9, Try.ntmps9
  go_wp2
  exact bodyPost_ret (results_none rfl _ _ _) rfl ⟨rfl, rfl⟩
set_option maxHeartbeats 800000 in
theorem stop_nil (n : ByteArray) (w : World) : Calls Try.prog 10 #[.pointer none, .string n] w fun e w' => e = .returned (.tuple #[]) ∧ w' = w := by
  go_enter Try.func10, Try.ntmps10
  go_wp2
  exact bodyPost_ret (results_none rfl _ _ _) rfl ⟨rfl, rfl⟩
set_option maxHeartbeats 800000 in
theorem at_nil (n : ByteArray) (w : World) : Calls Try.prog 8 #[.pointer none, .string n] w fun e w' => e = .returned (.tuple #[.int .i64 0, .bool false]) ∧ w' = w := by
  go_enter Try.func8, Try.ntmps8
  go_wp2
  exact bodyPost_ret (v := .tuple #[.int .i64 0, .bool false]) (by simp [results, Try.results8, go_sem]) rfl ⟨rfl, rfl⟩
set_option maxHeartbeats 800000 in
theorem at_any (b : Nat) (l : List Nm) (n : ByteArray) (w : World) (h : Tmr w b l) : Calls Try.prog 8 #[tmV b, .string n] w fun e w' => ∃ m z, e = .returned (.tuple #[.int .i64 m, .bool z]) ∧ LookN l n m z ∧ w' = w := by
  have c0 := h.cell
  obtain ⟨m, z, hl0, lk⟩ := h.look n
  have hl := hl0 w rfl
  have HL := hide lk
  clear h hl0 lk
  go_enter Try.func8, Try.ntmps8
  go_wp2
  exact bodyPost_ret (v := .tuple #[.int .i64 m, .bool z]) (by simp [results, Try.results8, go_sem]) rfl ⟨m, z, rfl, HL.out, rfl⟩
set_option maxHeartbeats 1600000 in
theorem set_any (b : Nat) (l : List Nm) (n : ByteArray) (m : Int) (w : World) (h : Tmr w b l) (hn : n.size ≤ 281474976710656) :
    Calls Try.prog 9 #[tmV b, .string n, .int .i64 m] w fun e w' => e = .returned (.tuple #[]) ∧ Tmr w' b ((n, m) :: delN n l) ∧ Keeps (fun x => x = b) w w' := by
  have HT := hide h
  have HN := hide hn
  have c0 := h.cell
  have z0 := h.lt
  clear h hn
  have hq := eql_smap b
  go_enter Try.func9, Try.ntmps9
  go_wp2_with fail
  refine region_ord (fun W => W.cell? ⟨b + 1, 0, none⟩ = some (.map (some b))) (fun k => k == 5 || k == 7) [0, 1, 2, 3, 4, 6, 5, 7] (by kernel_rfl) (by kernel_rfl) (by rfl) (by kernel_rfl) c0 ?_
  iterate 6 refine ord_q (by rfl) (by rfl) (by rfl) (fun w9 h9 => (by
    have d0 : w9.cell? ⟨b + 1, 0, none⟩ = some (.map (some b)) := h9
    clear h9
    go_simp; first | done | rfl)) (by go_simp; first | done | rfl) ?_
  refine ord_l (by rfl) (by rfl) (by rfl) ?_
  go_simp
  refine (sclone_any n w.drew HN.out).mono ?_
  rintro e w2 ⟨rfl, hb2⟩
  have HB2 : Hid (Below w.heap.size w w2) := (Below.refl _ _).drew.trans hb2
  have HT2 := hide (HT.out.later HB2.out)
  clear hb2
  refine ⟨HT2.out.cell, ?_⟩
  obtain ⟨w3, hrun, t3, k3⟩ := HT2.out.put n m
  refine ord_l (by rfl) (by rfl) (by rfl) ?_
  refine wp_mapUpdate _ _ _ _ _ _ (by rfl) (by rfl) (by rfl) hrun ?_
  refine ⟨t3.cell, ?_⟩
  refine ⟨fun _ h => (by cases h), ?_⟩
  have HT3 := hide t3
  have HK3 : Hid (Keeps (fun x => x = b) w w3) := (Keeps.of_below HB2.out _).trans k3 (fun x _ h => h)
  clear hrun t3 k3
  go_wp2
  exact bodyPost_end (results_none rfl _ _ _) rfl ⟨rfl, HT3.out, HK3.out⟩
section
variable {P : Program} {a : Act} {w w' : World} {K : Act → World → Prop} {Q : Exit → Act → World → Prop} {dst : Option Tmp} {ty : TypeId} {pos : String} {after : Array Edge} {gd : Option (Nat × Bool)}
theorem wp_delete {t k : TypeId} (m x : Operand) (mv xv : Value) (hm : a.eval m = mv) (hx : a.eval x = xv) (hr : (Builtin.delete_ #[t, k] ty #[mv, xv]).run P w = .ok (.tuple #[]) w') (h : K (a.put dst (.tuple #[])) w') : Oper.wp P { dst := dst, op := Op.call { callee := Callee.builtin Builtin.delete, args := #[m, x], argTypes := #[t, k] }, type := ty, pos := pos, after := after, guard := gd } a w K Q := by
  unfold Oper.wp
  simp [execOp, resolve, invoke, builtin, hm, hx, hr, Result.andThen]
  exact h
end
set_option maxHeartbeats 1600000 in
theorem stop_any (b : Nat) (l : List Nm) (n : ByteArray) (w : World) (h : Tmr w b l) :
    Calls Try.prog 10 #[tmV b, .string n] w fun e w' => e = .returned (.tuple #[]) ∧ Tmr w' b (delN n l) ∧ Keeps (fun x => x = b) w w' := by
  have c0 := h.cell
  obtain ⟨w3, hrun, t3, k3⟩ := h.del n 0
  have HT3 := hide t3
  have HK3 := hide k3
  clear h t3 k3
  go_enter Try.func10, Try.ntmps10
  go_wp2
  exact bodyPost_end (results_none rfl _ _ _) rfl ⟨rfl, HT3.out, HK3.out⟩
end Go.Proofs.Ythbgalknhodgnaa
