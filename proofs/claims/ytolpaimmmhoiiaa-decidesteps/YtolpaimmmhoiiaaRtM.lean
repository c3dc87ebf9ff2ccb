/- Routes as whole values: made, kept in boxes, read, stored; the walk's own rules are kept from laying their 11 cells open. -/
import Derived.Test.YtolpaimmmhoiiaaRtK
import Derived.Deep.MidRow
namespace Go.Proofs.Ytolpaimmmhoiiaa
open Go.RowKit
set_option maxRecDepth 100000

/-- The cells of no route. -/
def zR : Array Value := #[.int .u32 0, .int .i64 0, .int .i64 0, .int .i64 0, .slice none 0 0, .int .u32 0, .int .i64 0, .int .i64 0, .slice none 0 0, .slice none 0 0, .int .i64 0]
/-- The cells of a route: 11, each a cell. -/
def RC (C : Array Value) : Prop := C.size = 11 ∧ C.all (·.oneCell') = true
theorem RC.rt (pa : Option Addr) (pc : Nat) (ca : Option Addr) (cc : Nat) (ra : Option Addr) (rc : Nat) (r : Rt) : RC (rtC pa pc ca cc ra rc r) := ⟨rfl, by simp [rtC, Value.oneCell']⟩
theorem RC.zero : RC zR := ⟨rfl, by simp [zR, Value.oneCell']⟩
theorem rtV_eq (pa : Option Addr) (pc : Nat) (ca : Option Addr) (cc : Nat) (ra : Option Addr) (rc : Nat) (r : Rt) : rtV pa pc ca cc ra rc r = .agg (rtC pa pc ca cc ra rc r) := rfl
/-- No route. -/
def noR : Rt := ⟨0, 0, 0, ⟨0, [], 0, 0, 0, [], []⟩, 0⟩
theorem zR_eq : zR = rtC none 0 none 0 none 0 noR := rfl
section
variable {P : Program} {a : Act} {w w' : World} {K : Act → World → Prop} {Q : Exit → Act → World → Prop} {dst : Option Tmp} {ty : TypeId} {pos : String} {after : Array Edge} {gd : Option (Nat × Bool)}
theorem keptR_load (x : Operand) : Oper.wp P { dst := dst, op := .load 41 x, type := ty, pos := pos, after := after, guard := gd } a w K Q = Kept P { dst := dst, op := .load 41 x, type := ty, pos := pos, after := after, guard := gd } a w K Q := rfl
theorem keptR_store (x y : Operand) : Oper.wp P { dst := dst, op := .store 41 x y, type := ty, pos := pos, after := after, guard := gd } a w K Q = Kept P { dst := dst, op := .store 41 x y, type := ty, pos := pos, after := after, guard := gd } a w K Q := rfl
theorem keptR_box (x : Operand) : Oper.wp P { dst := dst, op := .box 41 x, type := ty, pos := pos, after := after, guard := gd } a w K Q = Kept P { dst := dst, op := .box 41 x, type := ty, pos := pos, after := after, guard := gd } a w K Q := rfl
theorem keptR_alloc : Oper.wp P { dst := dst, op := .alloc 41, type := ty, pos := pos, after := after, guard := gd } a w K Q = Kept P { dst := dst, op := .alloc 41, type := ty, pos := pos, after := after, guard := gd } a w K Q := rfl
theorem keptR_build (xs : Array (Nat × Operand)) : Oper.wp P { dst := dst, op := .build 41 xs, type := ty, pos := pos, after := after, guard := gd } a w K Q = Kept P { dst := dst, op := .build 41 xs, type := ty, pos := pos, after := after, guard := gd } a w K Q := rfl
theorem keptA_load (x : Operand) : Oper.wp P { dst := dst, op := .load 39 x, type := ty, pos := pos, after := after, guard := gd } a w K Q = Kept P { dst := dst, op := .load 39 x, type := ty, pos := pos, after := after, guard := gd } a w K Q := rfl
theorem kept_load_intro {t : TypeId} (x : Operand) (p v : Value) (hx : a.eval x = p) (hr : (Instr.loadAt t p).run P w = .ok v w) (h : K (a.put dst v) w) : Kept P { dst := dst, op := .load t x, type := ty, pos := pos, after := after, guard := gd } a w K Q := by
  unfold Kept Oper.wp execOp
  simp only [hx, Sem.run_bind, hr, Result.andThen_ok, Sem.run_pure]
  exact h
theorem kept_store_intro {t : TypeId} (x y : Operand) (p v : Value) (hx : a.eval x = p) (hy : a.eval y = v) (hr : (Instr.storeAt t p v).run P w = .ok () w') (h : K (a.put dst undef) w') : Kept P { dst := dst, op := .store t x y, type := ty, pos := pos, after := after, guard := gd } a w K Q := by
  unfold Kept Oper.wp execOp
  simp only [hx, hy, Sem.run_bind, hr, Result.andThen_ok, Sem.run_pure]
  exact h
theorem kept_box_intro {t : TypeId} (x : Operand) (v r : Value) (hx : a.eval x = v) (hr : (Instr.box t v).run P w = .ok r w') (h : K (a.put dst r) w') : Kept P { dst := dst, op := .box t x, type := ty, pos := pos, after := after, guard := gd } a w K Q := by
  unfold Kept Oper.wp execOp
  simp only [hx, Sem.run_bind, hr, Result.andThen_ok, Sem.run_pure]
  exact h
theorem kept_alloc_intro {t : TypeId} (v : Value) (hr : (Instr.alloc t true (.tuple #[])).run P w = .ok v w') (h : K (a.put dst v) w') : Kept P { dst := dst, op := .alloc t, type := ty, pos := pos, after := after, guard := gd } a w K Q := by
  unfold Kept Oper.wp execOp
  simp only [Sem.run_bind, hr, Result.andThen_ok, Sem.run_pure]
  exact h
theorem kept_build0_intro {t : TypeId} (v : Value) (hr : (Instr.build t #[]).run P w = .ok v w) (h : K (a.put dst v) w) : Kept P { dst := dst, op := .build t #[], type := ty, pos := pos, after := after, guard := gd } a w K Q := by
  unfold Kept Oper.wp execOp
  have e : ((#[] : Array (Nat × Operand)).map fun (i, x) => (i, a.eval x)) = #[] := by simp
  simp only [e, Sem.run_bind, hr, Result.andThen_ok, Sem.run_pure]
  exact h
theorem kept_build3_intro {t : TypeId} (i j k : Nat) (x y z : Operand) (p q s v : Value) (hx : a.eval x = p) (hy : a.eval y = q) (hz : a.eval z = s) (hr : (Instr.build t #[(i, p), (j, q), (k, s)]).run P w = .ok v w) (h : K (a.put dst v) w) : Kept P { dst := dst, op := .build t #[(i, x), (j, y), (k, z)], type := ty, pos := pos, after := after, guard := gd } a w K Q := by
  unfold Kept Oper.wp execOp
  have e : (#[(i, x), (j, y), (k, z)].map fun (i, x) => (i, a.eval x)) = #[(i, p), (j, q), (k, s)] := by simp [hx, hy, hz]
  simp only [e, Sem.run_bind, hr, Result.andThen_ok, Sem.run_pure]
  exact h
end
theorem infoR : (Try.prog.info? 41).map (·.size) = some 11 := by kernel_rfl
theorem infoA : (Try.prog.info? 39).map (·.size) = some 7 := by kernel_rfl
/-- A box of a route. -/
def Bl (w : World) (X : Nat) (C : Array Value) : Prop := w.heap[X]? = some (.cells C 41 (0, 0))
theorem Bl.lt {w : World} {X : Nat} {C : Array Value} (h : Bl w X C) : X < w.heap.size := (Array.getElem?_eq_some_iff.1 h).1
theorem Bl.below {w w' : World} {X : Nat} {C : Array Value} (h : Bl w X C) (hb : Below w.heap.size w w') : Bl w' X C := by
  unfold Bl
  rw [hb.block X h.lt]
  exact h
theorem Bl.cell {w : World} {X : Nat} {C : Array Value} (h : Bl w X C) (j : Nat) {v : Value} (hv : C[j]? = some v) : w.cell? ⟨X, j, none⟩ = some v := by
  unfold Bl at h
  simp [World.cell?, h, hv]
theorem Bl.frozen {w : World} {X : Nat} {C : Array Value} (h : Bl w X C) (j : Nat) : w.frozen? ⟨X, j, none⟩ = false := by
  unfold Bl at h
  simp [World.frozen?, h]
theorem Bl.new (w : World) (C : Array Value) : Bl (w.alloc (.cells C 41)) w.heap.size C := by
  unfold Bl World.alloc
  exact Array.getElem?_push_size
theorem Bl.set {w : World} {X : Nat} {C : Array Value} (h : Bl w X C) (j : Nat) (v : Value) : Bl (w.setCell ⟨X, j, none⟩ v) X (C.setIfInBounds j v) := heap_setCell_same w X j C _ v h
theorem Bl.other {w : World} {X Y : Nat} {C : Array Value} (h : Bl w X C) (j : Nat) (v : Value) (hne : X ≠ Y) : Bl (w.setCell ⟨Y, j, none⟩ v) X C := by
  unfold Bl
  rw [heap_setCell w Y j v X hne]
  exact h
/-- The cells of C0 with vs from place o on. -/
def putA : List Value → Nat → Array Value → Array Value
  | [], _, C => C
  | v :: r, o, C => putA r (o + 1) (C.setIfInBounds o v)
theorem heap_puts (X : Nat) (t : TypeId) : ∀ (vs : List Value) (o : Nat) (w : World) (C : Array Value), w.heap[X]? = some (.cells C t (0, 0)) → (w.setCells X o vs).heap[X]? = some (.cells (putA vs o C) t (0, 0))
  | [], _, _, _, h => h
  | v :: r, o, w, C, h => by
    rw [World.setCells, putA]
    exact heap_puts X t r (o + 1) _ _ (heap_setCell_same w X o C t v h)
theorem putA_get : ∀ (vs : List Value) (o : Nat) (C : Array Value) (i : Nat), o + vs.length ≤ C.size → (putA vs o C)[i]? = if o ≤ i ∧ i < o + vs.length then vs[i - o]? else C[i]?
  | [], o, C, i, _ => by rw [putA, if_neg (by simp only [List.length_nil]; omega)]
  | v :: r, o, C, i, h => by
    simp only [List.length_cons] at h
    rw [putA, putA_get r (o + 1) _ i (by simp; omega)]
    simp only [List.length_cons]
    by_cases h1 : o + 1 ≤ i ∧ i < o + 1 + r.length
    · rw [if_pos h1, if_pos (by omega), show i - o = (i - (o + 1)) + 1 from by omega, List.getElem?_cons_succ]
    · rw [if_neg h1]
      by_cases h2 : i = o
      · subst h2
        rw [if_pos (by omega), Nat.sub_self, List.getElem?_cons_zero, Array.getElem?_setIfInBounds_self_of_lt (by omega)]
      · rw [if_neg (by omega), Array.getElem?_setIfInBounds_ne (by omega)]
theorem putA_all (C C0 : Array Value) (h : C.size = C0.size) : putA C.toList 0 C0 = C := by
  apply Array.ext_getElem?
  intro i
  rw [putA_get _ _ _ _ (by simp; omega)]
  by_cases hi : i < C.size
  · rw [if_pos (by simp; exact hi)]
    simp
  · rw [if_neg (by simp; omega), Array.getElem?_eq_none (by omega), Array.getElem?_eq_none (by omega)]
theorem Bl.put {w : World} {X : Nat} {C C0 : Array Value} (h : Bl w X C0) (hs : C.size = C0.size) : Bl (w.setCells X 0 C.toList) X C := by
  have := heap_puts X 41 C.toList 0 w C0 h
  rw [putA_all C C0 hs] at this
  exact this
theorem Bl.apart {w : World} {X Y : Nat} {C : Array Value} {vs : List Value} (h : Bl w X C) (hne : X ≠ Y) : Bl (w.setCells Y 0 vs) X C := by
  unfold Bl
  rw [heap_setCells Y vs 0 w X hne]
  exact h
theorem Bl.range {w : World} {X : Nat} {C : Array Value} (h : Bl w X C) : w.rangeAt X 0 C.toList := by
  intro j v hv
  rw [Array.getElem?_toList] at hv
  rw [Nat.zero_add]
  exact h.cell j hv
theorem Bl.there {w : World} {X : Nat} {C : Array Value} (h : Bl w X C) (n : Nat) (hn : n ≤ C.size) : w.there X 0 n := fun j hj => by
  refine ⟨?_, by rw [Nat.zero_add]; exact h.frozen j⟩
  rw [Nat.zero_add, h.cell j (Array.getElem?_eq_getElem (by omega))]
  rfl
theorem below_puts {B X : Nat} {w w' : World} (h : Below B w w') (hB : B ≤ X) (vs : List Value) : Below B w (w'.setCells X 0 vs) := by
  have : ∀ (vs : List Value) (o : Nat) (w' : World), Below B w w' → Below B w (w'.setCells X o vs) := by
    intro vs
    induction vs with
    | nil => intro o w' h; exact h
    | cons v r ih => intro o w' h; rw [World.setCells]; exact ih (o + 1) _ (h.setCell hB _)
  exact this vs 0 w' h
theorem size_puts (w : World) (X : Nat) (vs : List Value) : (w.setCells X 0 vs).heap.size = w.heap.size := size_setCells X vs 0 w
theorem run_boxR (C : Array Value) (w : World) : (Instr.box 41 (.agg C)).run Try.prog w = .ok (.pointer (some ⟨w.heap.size, 0, none⟩)) (w.alloc (.cells C 41)) := by
  simp [Instr.box, newVar, go_sem, Value.cells]
theorem run_allocR (w : World) : (Instr.alloc 41 true (.tuple #[])).run Try.prog w = .ok (.pointer (some ⟨w.heap.size, 0, none⟩)) (w.alloc (.cells zR 41)) := by kernel_rfl
theorem run_build0R (w : World) : (Instr.build 41 #[]).run Try.prog w = .ok (.agg zR) w := by kernel_rfl
theorem run_loadR {w : World} {X : Nat} {C : Array Value} (h : Bl w X C) (hC : RC C) : (Instr.loadAt 41 (.pointer (some ⟨X, 0, none⟩))).run Try.prog w = .ok (.agg C) w := by
  have := run_loadAt_mid (P := Try.prog) w X 0 41 C.toList _ h.range Try.underlying41 rfl (by rw [infoR]; simp [hC.1])
  simpa using this
theorem run_loadA {w : World} {X : Nat} {pa : Option Addr} {pc : Nat} {ca : Option Addr} {cc : Nat} {ra : Option Addr} {rc : Nat} {r : Rt} (h : Bl w X (rtC pa pc ca cc ra rc r)) : (Instr.loadAt 39 (.pointer (some ⟨X, 3, none⟩))).run Try.prog w = .ok (atV pa pc ca cc ra rc r.att) w := by
  have := run_loadAt_mid (P := Try.prog) w X 3 39 [.int .i64 r.att.origin, .slice pa r.att.path.length pc, .int .u32 (r.att.next : Int), .int .i64 r.att.med, .int .i64 r.att.pref, .slice ca r.att.comms.length cc, .slice ra r.att.raws.length rc] _ (fun j v hv => by
    have hj : j < 7 := by have := (List.getElem?_eq_some_iff.1 hv).1; simpa using this
    rw [← hv]
    match j, hj with
    | 0, _ => exact h.cell 3 rfl
    | 1, _ => exact h.cell 4 rfl
    | 2, _ => exact h.cell 5 rfl
    | 3, _ => exact h.cell 6 rfl
    | 4, _ => exact h.cell 7 rfl
    | 5, _ => exact h.cell 8 rfl
    | 6, _ => exact h.cell 9 rfl) Try.underlying39 rfl (by rw [infoA]; rfl)
  exact this
section
variable {ρ : Operand → Value} {dst : Option Tmp} {ty : TypeId} {pos : String} {after : Array Edge} {gd : Option (Nat × Bool)}
theorem exec_loadR {w : World} {X : Nat} {x : Operand} {C : Array Value} (hx : ρ x = .pointer (some ⟨X, 0, none⟩)) (h : Bl w X C) (hC : RC C) :
    (execOp ρ { dst := dst, op := .load 41 x, type := ty, pos := pos, after := after, guard := gd }).run Try.prog w = .ok (.value (.agg C)) w := by
  have hr := run_loadR h hC
  unfold execOp
  simp only [hx, Sem.run_bind, hr, Result.andThen_ok, Sem.run_pure]
end
theorem run_storeR {w : World} {X : Nat} {C C0 : Array Value} (h : Bl w X C0) (h0 : C0.size = 11) (hC : RC C) : (Instr.storeAt 41 (.pointer (some ⟨X, 0, none⟩)) (.agg C)).run Try.prog w = .ok () (w.setCells X 0 C.toList) :=
  run_storeAt_mid (P := Try.prog) w X 0 41 C (h.there _ (by rw [hC.1, h0]; omega)) (by rw [infoR, hC.1]) hC.2
theorem res_one {fn : Func} {p : Tmp} (h : fn.results = #[.cell p 41]) (tmps : Array Value) (w : World) (X : Nat) (C : Array Value) (hp : tmps[p]? = some (.pointer (some ⟨X, 0, none⟩))) (r : Bl w X C) (hC : RC C) :
    (results fn tmps).run Try.prog w = .ok (.agg C) w := by
  have l1 := run_loadVar_mid (P := Try.prog) w X 0 41 C.toList _ r.range Try.underlying41 rfl (by rw [infoR]; simp [hC.1])
  have e1 : tmps.getD p undef = .pointer (some ⟨X, 0, none⟩) := by rw [Array.getD_eq_getD_getElem?, hp]; rfl
  unfold results
  rw [h]
  simp only [Array.mapM_eq_mapM_toList, List.mapM_cons, List.mapM_nil, e1, asAddr, Sem.run_bind, Sem.run_pure]
  simp [l1]
theorem res_two {fn : Func} {p q : Tmp} (h : fn.results = #[.cell p 41, .tmp q]) (tmps : Array Value) (w : World) (X : Nat) (C : Array Value) (z : Value) (hp : tmps[p]? = some (.pointer (some ⟨X, 0, none⟩))) (hq : tmps[q]? = some z) (r : Bl w X C) (hC : RC C) :
    (results fn tmps).run Try.prog w = .ok (.tuple #[.agg C, z]) w := by
  have l1 := run_loadVar_mid (P := Try.prog) w X 0 41 C.toList _ r.range Try.underlying41 rfl (by rw [infoR]; simp [hC.1])
  have e1 : tmps.getD p undef = .pointer (some ⟨X, 0, none⟩) := by rw [Array.getD_eq_getD_getElem?, hp]; rfl
  have e3 : tmps.getD q undef = z := by rw [Array.getD_eq_getD_getElem?, hq]; rfl
  unfold results
  rw [h]
  simp only [Array.mapM_eq_mapM_toList, List.mapM_cons, List.mapM_nil, e1, e3, asAddr, Sem.run_bind, Sem.run_pure]
  simp [l1]
end Go.Proofs.Ytolpaimmmhoiiaa
