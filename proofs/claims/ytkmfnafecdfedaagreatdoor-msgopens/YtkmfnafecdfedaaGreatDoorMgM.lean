/- Messages as whole values: made, kept in boxes, read, stored; the walk's own rules are kept from laying their 25 cells open. -/
import Derived.Test.YtkmfnafecdfedaaGreatDoorMgE1
import Derived.Deep.MidRow
namespace Go.Proofs.YtkmfnafecdfedaaGreatDoor
open Go.RowKit
set_option maxRecDepth 100000

/-- The cells of a message: 25, each a cell. -/
def MC (C : Array Value) : Prop := C.size = 25 ∧ C.all (·.oneCell') = true
def zM : Array Value := msgC 0 0 0 (.slice none 0 0)
theorem MC.msg (k c s : Int) (a : Option Addr) (n cap : Nat) : MC (msgC k c s (.slice a n cap)) := ⟨rfl, by simp [msgC, Value.oneCell']⟩
theorem MC.zero : MC zM := MC.msg 0 0 0 none 0 0
section
variable {P : Program} {a : Act} {w w' : World} {K : Act → World → Prop} {Q : Exit → Act → World → Prop} {dst : Option Tmp} {ty : TypeId} {pos : String} {after : Array Edge} {gd : Option (Nat × Bool)}
theorem keptM_load (x : Operand) : Oper.wp P { dst := dst, op := .load 40 x, type := ty, pos := pos, after := after, guard := gd } a w K Q = Kept P { dst := dst, op := .load 40 x, type := ty, pos := pos, after := after, guard := gd } a w K Q := rfl
theorem keptM_store (x y : Operand) : Oper.wp P { dst := dst, op := .store 40 x y, type := ty, pos := pos, after := after, guard := gd } a w K Q = Kept P { dst := dst, op := .store 40 x y, type := ty, pos := pos, after := after, guard := gd } a w K Q := rfl
theorem keptM_box (x : Operand) : Oper.wp P { dst := dst, op := .box 40 x, type := ty, pos := pos, after := after, guard := gd } a w K Q = Kept P { dst := dst, op := .box 40 x, type := ty, pos := pos, after := after, guard := gd } a w K Q := rfl
theorem keptM_alloc : Oper.wp P { dst := dst, op := .alloc 40, type := ty, pos := pos, after := after, guard := gd } a w K Q = Kept P { dst := dst, op := .alloc 40, type := ty, pos := pos, after := after, guard := gd } a w K Q := rfl
theorem keptM_build (xs : Array (Nat × Operand)) : Oper.wp P { dst := dst, op := .build 40 xs, type := ty, pos := pos, after := after, guard := gd } a w K Q = Kept P { dst := dst, op := .build 40 xs, type := ty, pos := pos, after := after, guard := gd } a w K Q := rfl
theorem keptM_load_intro (x : Operand) (p v : Value) (hx : a.eval x = p) (hr : (Instr.loadAt 40 p).run P w = .ok v w) (h : K (a.put dst v) w) : Kept P { dst := dst, op := .load 40 x, type := ty, pos := pos, after := after, guard := gd } a w K Q := by
  unfold Kept Oper.wp execOp
  simp only [hx, Sem.run_bind, hr, Result.andThen_ok, Sem.run_pure]
  exact h
theorem keptM_store_intro (x y : Operand) (p v : Value) (hx : a.eval x = p) (hy : a.eval y = v) (hr : (Instr.storeAt 40 p v).run P w = .ok () w') (h : K (a.put dst undef) w') : Kept P { dst := dst, op := .store 40 x y, type := ty, pos := pos, after := after, guard := gd } a w K Q := by
  unfold Kept Oper.wp execOp
  simp only [hx, hy, Sem.run_bind, hr, Result.andThen_ok, Sem.run_pure]
  exact h
theorem keptM_box_intro (x : Operand) (v r : Value) (hx : a.eval x = v) (hr : (Instr.box 40 v).run P w = .ok r w') (h : K (a.put dst r) w') : Kept P { dst := dst, op := .box 40 x, type := ty, pos := pos, after := after, guard := gd } a w K Q := by
  unfold Kept Oper.wp execOp
  simp only [hx, Sem.run_bind, hr, Result.andThen_ok, Sem.run_pure]
  exact h
theorem keptM_alloc_intro (v : Value) (hr : (Instr.alloc 40 true (.tuple #[])).run P w = .ok v w') (h : K (a.put dst v) w') : Kept P { dst := dst, op := .alloc 40, type := ty, pos := pos, after := after, guard := gd } a w K Q := by
  unfold Kept Oper.wp execOp
  simp only [Sem.run_bind, hr, Result.andThen_ok, Sem.run_pure]
  exact h
theorem keptM_build0_intro (v : Value) (hr : (Instr.build 40 #[]).run P w = .ok v w) (h : K (a.put dst v) w) : Kept P { dst := dst, op := .build 40 #[], type := ty, pos := pos, after := after, guard := gd } a w K Q := by
  unfold Kept Oper.wp execOp
  have e : ((#[] : Array (Nat × Operand)).map fun (i, x) => (i, a.eval x)) = #[] := by simp
  simp only [e, Sem.run_bind, hr, Result.andThen_ok, Sem.run_pure]
  exact h
theorem keptM_build1_intro (i : Nat) (x : Operand) (p v : Value) (hx : a.eval x = p) (hr : (Instr.build 40 #[(i, p)]).run P w = .ok v w) (h : K (a.put dst v) w) : Kept P { dst := dst, op := .build 40 #[(i, x)], type := ty, pos := pos, after := after, guard := gd } a w K Q := by
  unfold Kept Oper.wp execOp
  have e : (#[(i, x)].map fun (i, x) => (i, a.eval x)) = #[(i, p)] := by simp [hx]
  simp only [e, Sem.run_bind, hr, Result.andThen_ok, Sem.run_pure]
  exact h
theorem keptM_build2_intro (i j : Nat) (x y : Operand) (p q v : Value) (hx : a.eval x = p) (hy : a.eval y = q) (hr : (Instr.build 40 #[(i, p), (j, q)]).run P w = .ok v w) (h : K (a.put dst v) w) : Kept P { dst := dst, op := .build 40 #[(i, x), (j, y)], type := ty, pos := pos, after := after, guard := gd } a w K Q := by
  unfold Kept Oper.wp execOp
  have e : (#[(i, x), (j, y)].map fun (i, x) => (i, a.eval x)) = #[(i, p), (j, q)] := by simp [hx, hy]
  simp only [e, Sem.run_bind, hr, Result.andThen_ok, Sem.run_pure]
  exact h
end
theorem infoM : (Tryz.prog.info? 40).map (·.size) = some 25 := by kernel_rfl
theorem run_boxM (C : Array Value) (w : World) : (Instr.box 40 (.agg C)).run Tryz.prog w = .ok (.pointer (some ⟨w.heap.size, 0, none⟩)) (w.alloc (.cells C 40)) := by
  simp [Instr.box, newVar, go_sem, Value.cells]
theorem run_allocM (w : World) : (Instr.alloc 40 true (.tuple #[])).run Tryz.prog w = .ok (.pointer (some ⟨w.heap.size, 0, none⟩)) (w.alloc (.cells zM 40)) := by kernel_rfl
theorem run_build0M (w : World) : (Instr.build 40 #[]).run Tryz.prog w = .ok (.agg zM) w := by kernel_rfl
theorem run_buildkM (k : Int) (w : World) : (Instr.build 40 #[(0, .int .i64 k)]).run Tryz.prog w = .ok (.agg (msgC k 0 0 (.slice none 0 0))) w := by kernel_rfl
theorem run_buildnM (k c s : Int) (a : Option Addr) (n cap : Nat) (w : World) : (Instr.build 40 #[(0, .int .i64 k), (3, .agg #[.int .i64 c, .int .i64 s, .slice a n cap])]).run Tryz.prog w = .ok (.agg (msgC k c s (.slice a n cap))) w := by kernel_rfl
theorem range_of {w : World} {g : Nat} {C : Array Value} {t : TypeId} {f : Nat × Nat} (h : w.heap[g]? = some (.cells C t f)) : w.rangeAt g 0 C.toList := by
  intro j v hv
  unfold World.cell?
  simp only [h]
  rw [Array.getElem?_toList] at hv
  simp [hv]
theorem run_loadM {w : World} {g : Nat} {C : Array Value} (h : w.rangeAt g 0 C.toList) (hC : MC C) : (Instr.loadAt 40 (.pointer (some ⟨g, 0, none⟩))).run Tryz.prog w = .ok (.agg C) w := by
  have := run_loadAt_mid (P := Tryz.prog) w g 0 40 C.toList _ h Tryz.underlying40 rfl (by rw [infoM]; simp [hC.1])
  simpa using this
theorem there_at {w : World} {g : Nat} {c : Array Value} {t : TypeId} (h : w.heap[g]? = some (.cells c t (0, 0))) (n : Nat) (hn : n ≤ c.size) : w.there g 0 n := fun j hj => by
  refine ⟨?_, ?_⟩
  · simp only [World.cell?, h, Nat.zero_add]
    rw [Array.getElem?_eq_getElem (by omega)]
    rfl
  · simp [World.frozen?, h]
theorem run_storeM {w : World} {g : Nat} {C C0 : Array Value} {t : TypeId} (h : w.heap[g]? = some (.cells C0 t (0, 0))) (h0 : C0.size = 25) (hC : MC C) : (Instr.storeAt 40 (.pointer (some ⟨g, 0, none⟩)) (.agg C)).run Tryz.prog w = .ok () (w.setCells g 0 C.toList) :=
  run_storeAt_mid (P := Tryz.prog) w g 0 40 C (there_at h _ (by rw [hC.1, h0]; omega)) (by rw [infoM, hC.1]) hC.2
end Go.Proofs.YtkmfnafecdfedaaGreatDoor
