/- Clone of rows of cells. -/
import Derived.Test.YthigjonagbfbbaaDoorKAi
import Derived.Test.YthigjonagbfbbaaDoorKAj
import Derived.Deep.MidRow
namespace Go.Proofs.YthigjonagbfbbaaDoor
open Go.RowKit
set_option maxRecDepth 100000

section
variable {P : Program} {a : Act} {w w' : World} {K : Act → World → Prop} {Q : Exit → Act → World → Prop} {dst : Option Tmp} {ty : TypeId} {pos : String} {after : Array Edge} {gd : Option (Nat × Bool)}
theorem kept_app (x y : Operand) (t : TypeId) : Oper.wp P { dst := dst, op := .call { callee := .builtin .append, args := #[x, y], argTypes := #[t, t] }, type := ty, pos := pos, after := after, guard := gd } a w K Q = Kept P { dst := dst, op := .call { callee := .builtin .append, args := #[x, y], argTypes := #[t, t] }, type := ty, pos := pos, after := after, guard := gd } a w K Q := rfl
theorem kept_app_intro (x y : Operand) (t : TypeId) (p q v : Value) (hx : a.eval x = p) (hy : a.eval y = q) (hr : (Builtin.append_ #[t, t] ty #[p, q]).run P w = .ok v w') (h : K (a.put dst v) w') :
    Kept P { dst := dst, op := .call { callee := .builtin .append, args := #[x, y], argTypes := #[t, t] }, type := ty, pos := pos, after := after, guard := gd } a w K Q := by
  unfold Kept Oper.wp execOp
  simp only [resolve, invoke, builtin, Sem.run_bind, Sem.run_pure, Result.andThen_ok, List.map_toArray, List.map_cons, List.map_nil, hx, hy, hr]
  exact h
end
/-- The slice's cells are xs. -/
def Cells (w : World) (a : Option Addr) (n size : Nat) (xs : List Value) : Prop := xs.length = n * size ∧ (a = none → n = 0) ∧ (∀ ad, a = some ad → ∀ j u, xs[j]? = some u → w.cell? (ad.add j) = some u) ∧ ∀ u ∈ xs, u.oneCell' = true
theorem Cells.below {w w' : World} {a : Option Addr} {n size : Nat} {xs : List Value} (h : Cells w a n size xs) (hb : Below w.heap.size w w') : Cells w' a n size xs :=
  ⟨h.1, h.2.1, fun ad e j u hu => by
    have h9 := h.2.2.1 ad e j u hu
    rw [hb.cell (p := ad.add j) (World.block_lt_of_cell? w _ h9)]
    exact h9, h.2.2.2⟩
theorem own_empty (w : World) (e size : Nat) : (w.alloc (.cells #[] e)).ownsRow w.heap.size e size (.slice (some ⟨w.heap.size, 0, none⟩) 0 0) 0 [] :=
  ⟨by simp, .inr ⟨w.heap.size, 0, _, rfl, Nat.le_refl _, by unfold World.alloc; exact Array.getElem?_push_size, Nat.le_refl _, by unfold maxLen; omega, by simp, by simp⟩⟩
theorem eql_u (a : Option Addr) (l c : Nat) (w : World) : (binOp .eql 31 (.slice a l c) (.slice none 0 0)).run Tryd.prog w = .ok (.bool a.isNone) w := by
  simp only [binOp]
  simp [run_equal_slice_nil w 31 22 a l c Tryd.underlying31]
section
attribute [local go_sem ↓] kept_app
attribute [local go_sem] eql_u
set_option maxHeartbeats 1600000 in
theorem clone_u (a : Option Addr) (n c : Nat) (xs : List Value) (w : World) (hl : n ≤ 100000) (h : Cells w a n 1 xs) :
    Calls Tryd.prog 70 #[.slice a n c] w fun e w' => ∃ a9 c9, e = .returned (.slice a9 n c9) ∧ w'.ownsRow w.heap.size 22 1 (.slice a9 n c9) n xs ∧ Below w.heap.size w w' := by
  obtain ⟨h1, h2, h3, h4⟩ := h
  cases a with
  | none =>
    obtain rfl : n = 0 := h2 rfl
    have hx : xs = [] := List.length_eq_zero_iff.1 (by omega)
    subst hx
    clear h2 h3 h4
    go_enter Tryd.func70, Tryd.ntmps70
    go_wp2
    go_ret
    exact ⟨none, 0, rfl, own_nil _ _ _ _, Below.refl _ _⟩
  | some ad =>
    have hb2 : Below w.heap.size w (w.alloc (.cells #[] 22)) := (Below.refl _ _).alloc (Nat.le_refl _) _
    obtain ⟨v', w3, hr, ho, hb3⟩ := app_old elemU32 (own_empty w 22 1) hb2.size ad n c xs h1 (fun j u hu => by
      have h9 := h3 ad rfl j u hu
      rw [hb2.cell (p := ad.add j) (World.block_lt_of_cell? w _ h9)]
      exact h9) h4 (by omega)
    rw [Nat.zero_add] at ho
    obtain ⟨a9, c9, rfl⟩ := own_shape ho
    have HO : Hid (w3.ownsRow w.heap.size 22 1 (.slice a9 n c9) n xs) := ho
    have HB : Hid (Below w.heap.size w w3) := hb2.trans hb3
    have HR := hide hr
    clear hr ho hb3 hb2 h1 h2 h3 h4
    go_enter Tryd.func70, Tryd.ntmps70
    go_wp2_with (refine kept_app_intro _ _ _ _ _ (.slice a9 n c9) (w' := w3) (by rfl) (by rfl) (by exact HR.out) ?_)
    go_ret
    exact ⟨a9, c9, rfl, HO.out, HB.out⟩
end
theorem eql_i (a : Option Addr) (l c : Nat) (w : World) : (binOp .eql 67 (.slice a l c) (.slice none 0 0)).run Tryd.prog w = .ok (.bool a.isNone) w := by
  simp only [binOp]
  simp [run_equal_slice_nil w 67 3 a l c Tryd.underlying67]
section
attribute [local go_sem ↓] kept_app
attribute [local go_sem] eql_i
set_option maxHeartbeats 1600000 in
theorem clone_i (a : Option Addr) (n c : Nat) (xs : List Value) (w : World) (hl : n ≤ 100000) (h : Cells w a n 1 xs) :
    Calls Tryd.prog 61 #[.slice a n c] w fun e w' => ∃ a9 c9, e = .returned (.slice a9 n c9) ∧ w'.ownsRow w.heap.size 3 1 (.slice a9 n c9) n xs ∧ Below w.heap.size w w' := by
  obtain ⟨h1, h2, h3, h4⟩ := h
  cases a with
  | none =>
    obtain rfl : n = 0 := h2 rfl
    have hx : xs = [] := List.length_eq_zero_iff.1 (by omega)
    subst hx
    clear h2 h3 h4
    go_enter Tryd.func61, Tryd.ntmps61
    go_wp2
    go_ret
    exact ⟨none, 0, rfl, own_nil _ _ _ _, Below.refl _ _⟩
  | some ad =>
    have hb2 : Below w.heap.size w (w.alloc (.cells #[] 3)) := (Below.refl _ _).alloc (Nat.le_refl _) _
    obtain ⟨v', w3, hr, ho, hb3⟩ := app_old elemInt (own_empty w 3 1) hb2.size ad n c xs h1 (fun j u hu => by
      have h9 := h3 ad rfl j u hu
      rw [hb2.cell (p := ad.add j) (World.block_lt_of_cell? w _ h9)]
      exact h9) h4 (by omega)
    rw [Nat.zero_add] at ho
    obtain ⟨a9, c9, rfl⟩ := own_shape ho
    have HO : Hid (w3.ownsRow w.heap.size 3 1 (.slice a9 n c9) n xs) := ho
    have HB : Hid (Below w.heap.size w w3) := hb2.trans hb3
    have HR := hide hr
    clear hr ho hb3 hb2 h1 h2 h3 h4
    go_enter Tryd.func61, Tryd.ntmps61
    go_wp2_with (refine kept_app_intro _ _ _ _ _ (.slice a9 n c9) (w' := w3) (by rfl) (by rfl) (by exact HR.out) ?_)
    go_ret
    exact ⟨a9, c9, rfl, HO.out, HB.out⟩
end
theorem eql_s (a : Option Addr) (l c : Nat) (w : World) : (binOp .eql 30 (.slice a l c) (.slice none 0 0)).run Tryd.prog w = .ok (.bool a.isNone) w := by
  simp only [binOp]
  simp [run_equal_slice_nil w 30 69 a l c Tryd.underlying30]
section
attribute [local go_sem ↓] kept_app
attribute [local go_sem] eql_s
set_option maxHeartbeats 1600000 in
theorem clone_s (a : Option Addr) (n c : Nat) (xs : List Value) (w : World) (hl : n ≤ 100000) (h : Cells w a n 2 xs) :
    Calls Tryd.prog 82 #[.slice a n c] w fun e w' => ∃ a9 c9, e = .returned (.slice a9 n c9) ∧ w'.ownsRow w.heap.size 69 2 (.slice a9 n c9) n xs ∧ Below w.heap.size w w' := by
  obtain ⟨h1, h2, h3, h4⟩ := h
  cases a with
  | none =>
    obtain rfl : n = 0 := h2 rfl
    have hx : xs = [] := List.length_eq_zero_iff.1 (by omega)
    subst hx
    clear h2 h3 h4
    go_enter Tryd.func82, Tryd.ntmps82
    go_wp2
    go_ret
    exact ⟨none, 0, rfl, own_nil _ _ _ _, Below.refl _ _⟩
  | some ad =>
    have hb2 : Below w.heap.size w (w.alloc (.cells #[] 69)) := (Below.refl _ _).alloc (Nat.le_refl _) _
    obtain ⟨v', w3, hr, ho, hb3⟩ := app_old elemSeg (own_empty w 69 2) hb2.size ad n c xs h1 (fun j u hu => by
      have h9 := h3 ad rfl j u hu
      rw [hb2.cell (p := ad.add j) (World.block_lt_of_cell? w _ h9)]
      exact h9) h4 (by omega)
    rw [Nat.zero_add] at ho
    obtain ⟨a9, c9, rfl⟩ := own_shape ho
    have HO : Hid (w3.ownsRow w.heap.size 69 2 (.slice a9 n c9) n xs) := ho
    have HB : Hid (Below w.heap.size w w3) := hb2.trans hb3
    have HR := hide hr
    clear hr ho hb3 hb2 h1 h2 h3 h4
    go_enter Tryd.func82, Tryd.ntmps82
    go_wp2_with (refine kept_app_intro _ _ _ _ _ (.slice a9 n c9) (w' := w3) (by rfl) (by rfl) (by exact HR.out) ?_)
    go_ret
    exact ⟨a9, c9, rfl, HO.out, HB.out⟩
end
theorem eql_r (a : Option Addr) (l c : Nat) (w : World) : (binOp .eql 32 (.slice a l c) (.slice none 0 0)).run Tryd.prog w = .ok (.bool a.isNone) w := by
  simp only [binOp]
  simp [run_equal_slice_nil w 32 73 a l c Tryd.underlying32]
section
attribute [local go_sem ↓] kept_app
attribute [local go_sem] eql_r
set_option maxHeartbeats 1600000 in
theorem clone_r (a : Option Addr) (n c : Nat) (xs : List Value) (w : World) (hl : n ≤ 100000) (h : Cells w a n 3 xs) :
    Calls Tryd.prog 83 #[.slice a n c] w fun e w' => ∃ a9 c9, e = .returned (.slice a9 n c9) ∧ w'.ownsRow w.heap.size 73 3 (.slice a9 n c9) n xs ∧ Below w.heap.size w w' := by
  obtain ⟨h1, h2, h3, h4⟩ := h
  cases a with
  | none =>
    obtain rfl : n = 0 := h2 rfl
    have hx : xs = [] := List.length_eq_zero_iff.1 (by omega)
    subst hx
    clear h2 h3 h4
    go_enter Tryd.func83, Tryd.ntmps83
    go_wp2
    go_ret
    exact ⟨none, 0, rfl, own_nil _ _ _ _, Below.refl _ _⟩
  | some ad =>
    have hb2 : Below w.heap.size w (w.alloc (.cells #[] 73)) := (Below.refl _ _).alloc (Nat.le_refl _) _
    obtain ⟨v', w3, hr, ho, hb3⟩ := app_old elemRaw (own_empty w 73 3) hb2.size ad n c xs h1 (fun j u hu => by
      have h9 := h3 ad rfl j u hu
      rw [hb2.cell (p := ad.add j) (World.block_lt_of_cell? w _ h9)]
      exact h9) h4 (by omega)
    rw [Nat.zero_add] at ho
    obtain ⟨a9, c9, rfl⟩ := own_shape ho
    have HO : Hid (w3.ownsRow w.heap.size 73 3 (.slice a9 n c9) n xs) := ho
    have HB : Hid (Below w.heap.size w w3) := hb2.trans hb3
    have HR := hide hr
    clear hr ho hb3 hb2 h1 h2 h3 h4
    go_enter Tryd.func83, Tryd.ntmps83
    go_wp2_with (refine kept_app_intro _ _ _ _ _ (.slice a9 n c9) (w' := w3) (by rfl) (by rfl) (by exact HR.out) ?_)
    go_ret
    exact ⟨a9, c9, rfl, HO.out, HB.out⟩
end
theorem eql_b (a : Option Addr) (l c : Nat) (w : World) : (binOp .eql 71 (.slice a l c) (.slice none 0 0)).run Tryd.prog w = .ok (.bool a.isNone) w := by
  simp only [binOp]
  simp [run_equal_slice_nil w 71 5 a l c Tryd.underlying71]
section
attribute [local go_sem ↓] kept_app
attribute [local go_sem] eql_b
set_option maxHeartbeats 1600000 in
theorem clone_b (a : Option Addr) (n c : Nat) (xs : List Value) (w : World) (hl : n ≤ 100000) (h : Cells w a n 1 xs) :
    Calls Tryd.prog 84 #[.slice a n c] w fun e w' => ∃ a9 c9, e = .returned (.slice a9 n c9) ∧ w'.ownsRow w.heap.size 5 1 (.slice a9 n c9) n xs ∧ Below w.heap.size w w' := by
  obtain ⟨h1, h2, h3, h4⟩ := h
  cases a with
  | none =>
    obtain rfl : n = 0 := h2 rfl
    have hx : xs = [] := List.length_eq_zero_iff.1 (by omega)
    subst hx
    clear h2 h3 h4
    go_enter Tryd.func84, Tryd.ntmps84
    go_wp2
    go_ret
    exact ⟨none, 0, rfl, own_nil _ _ _ _, Below.refl _ _⟩
  | some ad =>
    have hb2 : Below w.heap.size w (w.alloc (.cells #[] 5)) := (Below.refl _ _).alloc (Nat.le_refl _) _
    obtain ⟨v', w3, hr, ho, hb3⟩ := app_old elemU8 (own_empty w 5 1) hb2.size ad n c xs h1 (fun j u hu => by
      have h9 := h3 ad rfl j u hu
      rw [hb2.cell (p := ad.add j) (World.block_lt_of_cell? w _ h9)]
      exact h9) h4 (by omega)
    rw [Nat.zero_add] at ho
    obtain ⟨a9, c9, rfl⟩ := own_shape ho
    have HO : Hid (w3.ownsRow w.heap.size 5 1 (.slice a9 n c9) n xs) := ho
    have HB : Hid (Below w.heap.size w w3) := hb2.trans hb3
    have HR := hide hr
    clear hr ho hb3 hb2 h1 h2 h3 h4
    go_enter Tryd.func84, Tryd.ntmps84
    go_wp2_with (refine kept_app_intro _ _ _ _ _ (.slice a9 n c9) (w' := w3) (by rfl) (by rfl) (by exact HR.out) ?_)
    go_ret
    exact ⟨a9, c9, rfl, HO.out, HB.out⟩
end
end Go.Proofs.YthigjonagbfbbaaDoor
/- Routes as whole values: made, kept in boxes, read, stored; the walk's own rules are kept from laying their 11 cells open. -/
namespace Go.Proofs.YthigjonagbfbbaaDoor
open Go.RowKit
set_option maxRecDepth 100000

/-- The cells of no route. -/
def zR : Array Value := #[.int .u32 0, .int .i64 0, .int .i64 0, .int .i64 0, .slice none 0 0, .int .u32 0, .int .i64 0, .int .i64 0, .slice none 0 0, .slice none 0 0, .int .i64 0]
/-- The cells of a route: 11, each a cell. -/
def RC (C : Array Value) : Prop := C.size = 11 ∧ C.all (·.oneCell') = true
theorem RC.rt (pa : Option Addr) (pc : Nat) (ca : Option Addr) (cc : Nat) (ra : Option Addr) (rc : Nat) (r : Rt) : RC (rtC pa pc ca cc ra rc r) := ⟨rfl, by simp [rtC, Value.oneCell']⟩
theorem RC.zero : RC zR := ⟨rfl, by simp [zR, Value.oneCell']⟩
theorem rtV_eq (pa : Option Addr) (pc : Nat) (ca : Option Addr) (cc : Nat) (ra : Option Addr) (rc : Nat) (r : Rt) : rtV pa pc ca cc ra rc r = .agg (rtC pa pc ca cc ra rc r) := rfl
/-- No route. -/
def noR : Rt := ⟨0, 0, 0, ⟨0, [], 0, 0, 0, [], []⟩, 0⟩
theorem zR_eq : zR = rtC none 0 none 0 none 0 noR := rfl
section
variable {P : Program} {a : Act} {w w' : World} {K : Act → World → Prop} {Q : Exit → Act → World → Prop} {dst : Option Tmp} {ty : TypeId} {pos : String} {after : Array Edge} {gd : Option (Nat × Bool)}
theorem keptR_load (x : Operand) : Oper.wp P { dst := dst, op := .load 36 x, type := ty, pos := pos, after := after, guard := gd } a w K Q = Kept P { dst := dst, op := .load 36 x, type := ty, pos := pos, after := after, guard := gd } a w K Q := rfl
theorem keptR_store (x y : Operand) : Oper.wp P { dst := dst, op := .store 36 x y, type := ty, pos := pos, after := after, guard := gd } a w K Q = Kept P { dst := dst, op := .store 36 x y, type := ty, pos := pos, after := after, guard := gd } a w K Q := rfl
theorem keptR_box (x : Operand) : Oper.wp P { dst := dst, op := .box 36 x, type := ty, pos := pos, after := after, guard := gd } a w K Q = Kept P { dst := dst, op := .box 36 x, type := ty, pos := pos, after := after, guard := gd } a w K Q := rfl
theorem keptR_alloc : Oper.wp P { dst := dst, op := .alloc 36, type := ty, pos := pos, after := after, guard := gd } a w K Q = Kept P { dst := dst, op := .alloc 36, type := ty, pos := pos, after := after, guard := gd } a w K Q := rfl
theorem keptR_build (xs : Array (Nat × Operand)) : Oper.wp P { dst := dst, op := .build 36 xs, type := ty, pos := pos, after := after, guard := gd } a w K Q = Kept P { dst := dst, op := .build 36 xs, type := ty, pos := pos, after := after, guard := gd } a w K Q := rfl
theorem keptA_load (x : Operand) : Oper.wp P { dst := dst, op := .load 34 x, type := ty, pos := pos, after := after, guard := gd } a w K Q = Kept P { dst := dst, op := .load 34 x, type := ty, pos := pos, after := after, guard := gd } a w K Q := rfl
theorem kept_load_intro {t : TypeId} (x : Operand) (p v : Value) (hx : a.eval x = p) (hr : (Instr.loadAt t p).run P w = .ok v w) (h : K (a.put dst v) w) : Kept P { dst := dst, op := .load t x, type := ty, pos := pos, after := after, guard := gd } a w K Q := by
  unfold Kept Oper.wp execOp
  simp only [hx, Sem.run_bind, hr, Result.andThen_ok, Sem.run_pure]
  exact h
theorem kept_store_intro {t : TypeId} (x y : Operand) (p v : Value) (hx : a.eval x = p) (hy : a.eval y = v) (hr : (Instr.storeAt t p v).run P w = .ok () w') (h : K (a.put dst undef) w') : Kept P { dst := dst, op := .store t x y, type := ty, pos := pos, after := after, guard := gd } a w K Q := by
  unfold Kept Oper.wp execOp
  simp only [hx, hy, Sem.run_bind, hr, Result.andThen_ok, Sem.run_pure]
  exact h
theorem kept_box_intro {t : TypeId} (x : Operand) (v r : Value) (hx : a.eval x = v) (hr : (Instr.box t v).run P w = .ok r w') (h : K (a.put dst r) w') : Kept P { dst := dst, op := .box t x, type := ty, pos := pos, after := after, guard := gd } a w K Q := by
  unfold Kept Oper.wp execOp
  simp only [hx, Sem.run_bind, hr, Result.andThen_ok, Sem.run_pure]
  exact h
theorem kept_alloc_intro {t : TypeId} (v : Value) (hr : (Instr.alloc t true (.tuple #[])).run P w = .ok v w') (h : K (a.put dst v) w') : Kept P { dst := dst, op := .alloc t, type := ty, pos := pos, after := after, guard := gd } a w K Q := by
  unfold Kept Oper.wp execOp
  simp only [Sem.run_bind, hr, Result.andThen_ok, Sem.run_pure]
  exact h
theorem kept_build0_intro {t : TypeId} (v : Value) (hr : (Instr.build t #[]).run P w = .ok v w) (h : K (a.put dst v) w) : Kept P { dst := dst, op := .build t #[], type := ty, pos := pos, after := after, guard := gd } a w K Q := by
  unfold Kept Oper.wp execOp
  have e : ((#[] : Array (Nat × Operand)).map fun (i, x) => (i, a.eval x)) = #[] := by simp
  simp only [e, Sem.run_bind, hr, Result.andThen_ok, Sem.run_pure]
  exact h
theorem kept_build3_intro {t : TypeId} (i j k : Nat) (x y z : Operand) (p q s v : Value) (hx : a.eval x = p) (hy : a.eval y = q) (hz : a.eval z = s) (hr : (Instr.build t #[(i, p), (j, q), (k, s)]).run P w = .ok v w) (h : K (a.put dst v) w) : Kept P { dst := dst, op := .build t #[(i, x), (j, y), (k, z)], type := ty, pos := pos, after := after, guard := gd } a w K Q := by
  unfold Kept Oper.wp execOp
  have e : (#[(i, x), (j, y), (k, z)].map fun (i, x) => (i, a.eval x)) = #[(i, p), (j, q), (k, s)] := by simp [hx, hy, hz]
  simp only [e, Sem.run_bind, hr, Result.andThen_ok, Sem.run_pure]
  exact h
end
theorem infoR : (Tryd.prog.info? 36).map (·.size) = some 11 := by kernel_rfl
theorem infoA : (Tryd.prog.info? 34).map (·.size) = some 7 := by kernel_rfl
/-- A box of a route. -/
def Bl (w : World) (X : Nat) (C : Array Value) : Prop := w.heap[X]? = some (.cells C 36 (0, 0))
theorem Bl.lt {w : World} {X : Nat} {C : Array Value} (h : Bl w X C) : X < w.heap.size := (Array.getElem?_eq_some_iff.1 h).1
theorem Bl.below {w w' : World} {X : Nat} {C : Array Value} (h : Bl w X C) (hb : Below w.heap.size w w') : Bl w' X C := by
  unfold Bl
  rw [hb.block X h.lt]
  exact h
theorem Bl.cell {w : World} {X : Nat} {C : Array Value} (h : Bl w X C) (j : Nat) {v : Value} (hv : C[j]? = some v) : w.cell? ⟨X, j, none⟩ = some v := by
  unfold Bl at h
  simp [World.cell?, h, hv]
theorem Bl.frozen {w : World} {X : Nat} {C : Array Value} (h : Bl w X C) (j : Nat) : w.frozen? ⟨X, j, none⟩ = false := by
  unfold Bl at h
  simp [World.frozen?, h]
theorem Bl.new (w : World) (C : Array Value) : Bl (w.alloc (.cells C 36)) w.heap.size C := by
  unfold Bl World.alloc
  exact Array.getElem?_push_size
theorem Bl.set {w : World} {X : Nat} {C : Array Value} (h : Bl w X C) (j : Nat) (v : Value) : Bl (w.setCell ⟨X, j, none⟩ v) X (C.setIfInBounds j v) := heap_setCell_same w X j C _ v h
theorem Bl.other {w : World} {X Y : Nat} {C : Array Value} (h : Bl w X C) (j : Nat) (v : Value) (hne : X ≠ Y) : Bl (w.setCell ⟨Y, j, none⟩ v) X C := by
  unfold Bl
  rw [heap_setCell w Y j v X hne]
  exact h
/-- The cells of C0 with vs from place o on. -/
def putA : List Value → Nat → Array Value → Array Value
  | [], _, C => C
  | v :: r, o, C => putA r (o + 1) (C.setIfInBounds o v)
theorem heap_puts (X : Nat) (t : TypeId) : ∀ (vs : List Value) (o : Nat) (w : World) (C : Array Value), w.heap[X]? = some (.cells C t (0, 0)) → (w.setCells X o vs).heap[X]? = some (.cells (putA vs o C) t (0, 0))
  | [], _, _, _, h => h
  | v :: r, o, w, C, h => by
    rw [World.setCells, putA]
    exact heap_puts X t r (o + 1) _ _ (heap_setCell_same w X o C t v h)
theorem putA_get : ∀ (vs : List Value) (o : Nat) (C : Array Value) (i : Nat), o + vs.length ≤ C.size → (putA vs o C)[i]? = if o ≤ i ∧ i < o + vs.length then vs[i - o]? else C[i]?
  | [], o, C, i, _ => by rw [putA, if_neg (by simp only [List.length_nil]; omega)]
  | v :: r, o, C, i, h => by
    simp only [List.length_cons] at h
    rw [putA, putA_get r (o + 1) _ i (by simp; omega)]
    simp only [List.length_cons]
    by_cases h1 : o + 1 ≤ i ∧ i < o + 1 + r.length
    · rw [if_pos h1, if_pos (by omega), show i - o = (i - (o + 1)) + 1 from by omega, List.getElem?_cons_succ]
    · rw [if_neg h1]
      by_cases h2 : i = o
      · subst h2
        rw [if_pos (by omega), Nat.sub_self, List.getElem?_cons_zero, Array.getElem?_setIfInBounds_self_of_lt (by omega)]
      · rw [if_neg (by omega), Array.getElem?_setIfInBounds_ne (by omega)]
theorem putA_all (C C0 : Array Value) (h : C.size = C0.size) : putA C.toList 0 C0 = C := by
  apply Array.ext_getElem?
  intro i
  rw [putA_get _ _ _ _ (by simp; omega)]
  by_cases hi : i < C.size
  · rw [if_pos (by simp; exact hi)]
    simp
  · rw [if_neg (by simp; omega), Array.getElem?_eq_none (by omega), Array.getElem?_eq_none (by omega)]
theorem Bl.put {w : World} {X : Nat} {C C0 : Array Value} (h : Bl w X C0) (hs : C.size = C0.size) : Bl (w.setCells X 0 C.toList) X C := by
  have := heap_puts X 36 C.toList 0 w C0 h
  rw [putA_all C C0 hs] at this
  exact this
theorem Bl.apart {w : World} {X Y : Nat} {C : Array Value} {vs : List Value} (h : Bl w X C) (hne : X ≠ Y) : Bl (w.setCells Y 0 vs) X C := by
  unfold Bl
  rw [heap_setCells Y vs 0 w X hne]
  exact h
theorem Bl.range {w : World} {X : Nat} {C : Array Value} (h : Bl w X C) : w.rangeAt X 0 C.toList := by
  intro j v hv
  rw [Array.getElem?_toList] at hv
  rw [Nat.zero_add]
  exact h.cell j hv
theorem Bl.there {w : World} {X : Nat} {C : Array Value} (h : Bl w X C) (n : Nat) (hn : n ≤ C.size) : w.there X 0 n := fun j hj => by
  refine ⟨?_, by rw [Nat.zero_add]; exact h.frozen j⟩
  rw [Nat.zero_add, h.cell j (Array.getElem?_eq_getElem (by omega))]
  rfl
theorem below_puts {B X : Nat} {w w' : World} (h : Below B w w') (hB : B ≤ X) (vs : List Value) : Below B w (w'.setCells X 0 vs) := by
  have : ∀ (vs : List Value) (o : Nat) (w' : World), Below B w w' → Below B w (w'.setCells X o vs) := by
    intro vs
    induction vs with
    | nil => intro o w' h; exact h
    | cons v r ih => intro o w' h; rw [World.setCells]; exact ih (o + 1) _ (h.setCell hB _)
  exact this vs 0 w' h
theorem size_puts (w : World) (X : Nat) (vs : List Value) : (w.setCells X 0 vs).heap.size = w.heap.size := size_setCells X vs 0 w
theorem run_boxR (C : Array Value) (w : World) : (Instr.box 36 (.agg C)).run Tryd.prog w = .ok (.pointer (some ⟨w.heap.size, 0, none⟩)) (w.alloc (.cells C 36)) := by
  simp [Instr.box, newVar, go_sem, Value.cells]
theorem run_allocR (w : World) : (Instr.alloc 36 true (.tuple #[])).run Tryd.prog w = .ok (.pointer (some ⟨w.heap.size, 0, none⟩)) (w.alloc (.cells zR 36)) := by kernel_rfl
theorem run_build0R (w : World) : (Instr.build 36 #[]).run Tryd.prog w = .ok (.agg zR) w := by kernel_rfl
theorem run_loadR {w : World} {X : Nat} {C : Array Value} (h : Bl w X C) (hC : RC C) : (Instr.loadAt 36 (.pointer (some ⟨X, 0, none⟩))).run Tryd.prog w = .ok (.agg C) w := by
  have := run_loadAt_mid (P := Tryd.prog) w X 0 36 C.toList _ h.range Tryd.underlying36 rfl (by rw [infoR]; simp [hC.1])
  simpa using this
theorem run_loadA {w : World} {X : Nat} {pa : Option Addr} {pc : Nat} {ca : Option Addr} {cc : Nat} {ra : Option Addr} {rc : Nat} {r : Rt} (h : Bl w X (rtC pa pc ca cc ra rc r)) : (Instr.loadAt 34 (.pointer (some ⟨X, 3, none⟩))).run Tryd.prog w = .ok (atV pa pc ca cc ra rc r.att) w := by
  have := run_loadAt_mid (P := Tryd.prog) w X 3 34 [.int .i64 r.att.origin, .slice pa r.att.path.length pc, .int .u32 (r.att.next : Int), .int .i64 r.att.med, .int .i64 r.att.pref, .slice ca r.att.comms.length cc, .slice ra r.att.raws.length rc] _ (fun j v hv => by
    have hj : j < 7 := by have := (List.getElem?_eq_some_iff.1 hv).1; simpa using this
    rw [← hv]
    match j, hj with
    | 0, _ => exact h.cell 3 rfl
    | 1, _ => exact h.cell 4 rfl
    | 2, _ => exact h.cell 5 rfl
    | 3, _ => exact h.cell 6 rfl
    | 4, _ => exact h.cell 7 rfl
    | 5, _ => exact h.cell 8 rfl
    | 6, _ => exact h.cell 9 rfl) Tryd.underlying34 rfl (by rw [infoA]; rfl)
  exact this
section
variable {ρ : Operand → Value} {dst : Option Tmp} {ty : TypeId} {pos : String} {after : Array Edge} {gd : Option (Nat × Bool)}
theorem exec_loadR {w : World} {X : Nat} {x : Operand} {C : Array Value} (hx : ρ x = .pointer (some ⟨X, 0, none⟩)) (h : Bl w X C) (hC : RC C) :
    (execOp ρ { dst := dst, op := .load 36 x, type := ty, pos := pos, after := after, guard := gd }).run Tryd.prog w = .ok (.value (.agg C)) w := by
  have hr := run_loadR h hC
  unfold execOp
  simp only [hx, Sem.run_bind, hr, Result.andThen_ok, Sem.run_pure]
end
theorem run_storeR {w : World} {X : Nat} {C C0 : Array Value} (h : Bl w X C0) (h0 : C0.size = 11) (hC : RC C) : (Instr.storeAt 36 (.pointer (some ⟨X, 0, none⟩)) (.agg C)).run Tryd.prog w = .ok () (w.setCells X 0 C.toList) :=
  run_storeAt_mid (P := Tryd.prog) w X 0 36 C (h.there _ (by rw [hC.1, h0]; omega)) (by rw [infoR, hC.1]) hC.2
theorem res_one {fn : Func} {p : Tmp} (h : fn.results = #[.cell p 36]) (tmps : Array Value) (w : World) (X : Nat) (C : Array Value) (hp : tmps[p]? = some (.pointer (some ⟨X, 0, none⟩))) (r : Bl w X C) (hC : RC C) :
    (results fn tmps).run Tryd.prog w = .ok (.agg C) w := by
  have l1 := run_loadVar_mid (P := Tryd.prog) w X 0 36 C.toList _ r.range Tryd.underlying36 rfl (by rw [infoR]; simp [hC.1])
  have e1 : tmps.getD p undef = .pointer (some ⟨X, 0, none⟩) := by rw [Array.getD_eq_getD_getElem?, hp]; rfl
  unfold results
  rw [h]
  simp only [Array.mapM_eq_mapM_toList, List.mapM_cons, List.mapM_nil, e1, asAddr, Sem.run_bind, Sem.run_pure]
  simp [l1]
theorem res_two {fn : Func} {p q : Tmp} (h : fn.results = #[.cell p 36, .tmp q]) (tmps : Array Value) (w : World) (X : Nat) (C : Array Value) (z : Value) (hp : tmps[p]? = some (.pointer (some ⟨X, 0, none⟩))) (hq : tmps[q]? = some z) (r : Bl w X C) (hC : RC C) :
    (results fn tmps).run Tryd.prog w = .ok (.tuple #[.agg C, z]) w := by
  have l1 := run_loadVar_mid (P := Tryd.prog) w X 0 36 C.toList _ r.range Tryd.underlying36 rfl (by rw [infoR]; simp [hC.1])
  have e1 : tmps.getD p undef = .pointer (some ⟨X, 0, none⟩) := by rw [Array.getD_eq_getD_getElem?, hp]; rfl
  have e3 : tmps.getD q undef = z := by rw [Array.getD_eq_getD_getElem?, hq]; rfl
  unfold results
  rw [h]
  simp only [Array.mapM_eq_mapM_toList, List.mapM_cons, List.mapM_nil, e1, e3, asAddr, Sem.run_bind, Sem.run_pure]
  simp [l1]
end Go.Proofs.YthigjonagbfbbaaDoor
/- Attributes as whole values: kept in boxes, read, stored, answered. -/
namespace Go.Proofs.YthigjonagbfbbaaDoor
open Go.RowKit
set_option maxRecDepth 100000

/-- The cells of attributes. -/
def atC (pa : Option Addr) (pc : Nat) (ca : Option Addr) (cc : Nat) (ra : Option Addr) (rc : Nat) (a : At) : Array Value := #[.int .i64 a.origin, .slice pa a.path.length pc, .int .u32 (a.next : Int), .int .i64 a.med, .int .i64 a.pref, .slice ca a.comms.length cc, .slice ra a.raws.length rc]
theorem atV_eq (pa : Option Addr) (pc : Nat) (ca : Option Addr) (cc : Nat) (ra : Option Addr) (rc : Nat) (a : At) : atV pa pc ca cc ra rc a = .agg (atC pa pc ca cc ra rc a) := rfl
/-- The cells of no attributes. -/
def zA : Array Value := #[.int .i64 0, .slice none 0 0, .int .u32 0, .int .i64 0, .int .i64 0, .slice none 0 0, .slice none 0 0]
def AC (C : Array Value) : Prop := C.size = 7 ∧ C.all (·.oneCell') = true
theorem AC.of (pa : Option Addr) (pc : Nat) (ca : Option Addr) (cc : Nat) (ra : Option Addr) (rc : Nat) (a : At) : AC (atC pa pc ca cc ra rc a) := ⟨rfl, by simp [atC, Value.oneCell']⟩
theorem AC.zero : AC zA := ⟨rfl, by simp [zA, Value.oneCell']⟩
def noAt : At := ⟨0, [], 0, 0, 0, [], []⟩
theorem zA_eq : zA = atC none 0 none 0 none 0 noAt := rfl
section
variable {P : Program} {a : Act} {w w' : World} {K : Act → World → Prop} {Q : Exit → Act → World → Prop} {dst : Option Tmp} {ty : TypeId} {pos : String} {after : Array Edge} {gd : Option (Nat × Bool)}
theorem keptA_store (x y : Operand) : Oper.wp P { dst := dst, op := .store 34 x y, type := ty, pos := pos, after := after, guard := gd } a w K Q = Kept P { dst := dst, op := .store 34 x y, type := ty, pos := pos, after := after, guard := gd } a w K Q := rfl
theorem keptA_alloc : Oper.wp P { dst := dst, op := .alloc 34, type := ty, pos := pos, after := after, guard := gd } a w K Q = Kept P { dst := dst, op := .alloc 34, type := ty, pos := pos, after := after, guard := gd } a w K Q := rfl
theorem keptA_build (xs : Array (Nat × Operand)) : Oper.wp P { dst := dst, op := .build 34 xs, type := ty, pos := pos, after := after, guard := gd } a w K Q = Kept P { dst := dst, op := .build 34 xs, type := ty, pos := pos, after := after, guard := gd } a w K Q := rfl
end
/-- A box of attributes. -/
def Ab (w : World) (X : Nat) (C : Array Value) : Prop := w.heap[X]? = some (.cells C 34 (0, 0))
theorem Ab.lt {w : World} {X : Nat} {C : Array Value} (h : Ab w X C) : X < w.heap.size := (Array.getElem?_eq_some_iff.1 h).1
theorem Ab.below {w w' : World} {X : Nat} {C : Array Value} (h : Ab w X C) (hb : Below w.heap.size w w') : Ab w' X C := by
  unfold Ab
  rw [hb.block X h.lt]
  exact h
theorem Ab.cell {w : World} {X : Nat} {C : Array Value} (h : Ab w X C) (j : Nat) {v : Value} (hv : C[j]? = some v) : w.cell? ⟨X, j, none⟩ = some v := by
  unfold Ab at h
  simp [World.cell?, h, hv]
theorem Ab.frozen {w : World} {X : Nat} {C : Array Value} (h : Ab w X C) (j : Nat) : w.frozen? ⟨X, j, none⟩ = false := by
  unfold Ab at h
  simp [World.frozen?, h]
theorem Ab.new (w : World) (C : Array Value) : Ab (w.alloc (.cells C 34)) w.heap.size C := by
  unfold Ab World.alloc
  exact Array.getElem?_push_size
theorem Ab.set {w : World} {X : Nat} {C : Array Value} (h : Ab w X C) (j : Nat) (v : Value) : Ab (w.setCell ⟨X, j, none⟩ v) X (C.setIfInBounds j v) := heap_setCell_same w X j C _ v h
theorem Ab.other {w : World} {X Y : Nat} {C : Array Value} (h : Ab w X C) (j : Nat) (v : Value) (hne : X ≠ Y) : Ab (w.setCell ⟨Y, j, none⟩ v) X C := by
  unfold Ab
  rw [heap_setCell w Y j v X hne]
  exact h
theorem Ab.put {w : World} {X : Nat} {C C0 : Array Value} (h : Ab w X C0) (hs : C.size = C0.size) : Ab (w.setCells X 0 C.toList) X C := by
  have := heap_puts X 34 C.toList 0 w C0 h
  rw [putA_all C C0 hs] at this
  exact this
theorem Ab.apart {w : World} {X Y : Nat} {C : Array Value} {vs : List Value} (h : Ab w X C) (hne : X ≠ Y) : Ab (w.setCells Y 0 vs) X C := by
  unfold Ab
  rw [heap_setCells Y vs 0 w X hne]
  exact h
theorem Ab.range {w : World} {X : Nat} {C : Array Value} (h : Ab w X C) : w.rangeAt X 0 C.toList := by
  intro j v hv
  rw [Array.getElem?_toList] at hv
  rw [Nat.zero_add]
  exact h.cell j hv
theorem Ab.there {w : World} {X : Nat} {C : Array Value} (h : Ab w X C) (n : Nat) (hn : n ≤ C.size) : w.there X 0 n := fun j hj => by
  refine ⟨?_, by rw [Nat.zero_add]; exact h.frozen j⟩
  rw [Nat.zero_add, h.cell j (Array.getElem?_eq_getElem (by omega))]
  rfl
theorem run_allocA (w : World) : (Instr.alloc 34 true (.tuple #[])).run Tryd.prog w = .ok (.pointer (some ⟨w.heap.size, 0, none⟩)) (w.alloc (.cells zA 34)) := by kernel_rfl
theorem run_build0A (w : World) : (Instr.build 34 #[]).run Tryd.prog w = .ok (.agg zA) w := by kernel_rfl
theorem run_loadAb {w : World} {X : Nat} {C : Array Value} (h : Ab w X C) (hC : AC C) : (Instr.loadAt 34 (.pointer (some ⟨X, 0, none⟩))).run Tryd.prog w = .ok (.agg C) w := by
  have := run_loadAt_mid (P := Tryd.prog) w X 0 34 C.toList _ h.range Tryd.underlying34 rfl (by rw [infoA]; simp [hC.1])
  simpa using this
section
variable {ρ : Operand → Value} {dst : Option Tmp} {ty : TypeId} {pos : String} {after : Array Edge} {gd : Option (Nat × Bool)}
theorem exec_loadAb {w : World} {X : Nat} {x : Operand} {C : Array Value} (hx : ρ x = .pointer (some ⟨X, 0, none⟩)) (h : Ab w X C) (hC : AC C) :
    (execOp ρ { dst := dst, op := .load 34 x, type := ty, pos := pos, after := after, guard := gd }).run Tryd.prog w = .ok (.value (.agg C)) w := by
  have hr := run_loadAb h hC
  unfold execOp
  simp only [hx, Sem.run_bind, hr, Result.andThen_ok, Sem.run_pure]
end
theorem run_storeAb {w : World} {X : Nat} {C C0 : Array Value} (h : Ab w X C0) (h0 : C0.size = 7) (hC : AC C) : (Instr.storeAt 34 (.pointer (some ⟨X, 0, none⟩)) (.agg C)).run Tryd.prog w = .ok () (w.setCells X 0 C.toList) :=
  run_storeAt_mid (P := Tryd.prog) w X 0 34 C (h.there _ (by rw [hC.1, h0]; omega)) (by rw [infoA, hC.1]) hC.2
theorem resA_one {fn : Func} {p : Tmp} (h : fn.results = #[.cell p 34]) (tmps : Array Value) (w : World) (X : Nat) (C : Array Value) (hp : tmps[p]? = some (.pointer (some ⟨X, 0, none⟩))) (r : Ab w X C) (hC : AC C) :
    (results fn tmps).run Tryd.prog w = .ok (.agg C) w := by
  have l1 := run_loadVar_mid (P := Tryd.prog) w X 0 34 C.toList _ r.range Tryd.underlying34 rfl (by rw [infoA]; simp [hC.1])
  have e1 : tmps.getD p undef = .pointer (some ⟨X, 0, none⟩) := by rw [Array.getD_eq_getD_getElem?, hp]; rfl
  unfold results
  rw [h]
  simp only [Array.mapM_eq_mapM_toList, List.mapM_cons, List.mapM_nil, e1, asAddr, Sem.run_bind, Sem.run_pure]
  simp [l1]
theorem resA_two {fn : Func} {p q : Tmp} (h : fn.results = #[.cell p 34, .tmp q]) (tmps : Array Value) (w : World) (X : Nat) (C : Array Value) (z : Value) (hp : tmps[p]? = some (.pointer (some ⟨X, 0, none⟩))) (hq : tmps[q]? = some z) (r : Ab w X C) (hC : AC C) :
    (results fn tmps).run Tryd.prog w = .ok (.tuple #[.agg C, z]) w := by
  have l1 := run_loadVar_mid (P := Tryd.prog) w X 0 34 C.toList _ r.range Tryd.underlying34 rfl (by rw [infoA]; simp [hC.1])
  have e1 : tmps.getD p undef = .pointer (some ⟨X, 0, none⟩) := by rw [Array.getD_eq_getD_getElem?, hp]; rfl
  have e3 : tmps.getD q undef = z := by rw [Array.getD_eq_getD_getElem?, hq]; rfl
  unfold results
  rw [h]
  simp only [Array.mapM_eq_mapM_toList, List.mapM_cons, List.mapM_nil, e1, e3, asAddr, Sem.run_bind, Sem.run_pure]
  simp [l1]
end Go.Proofs.YthigjonagbfbbaaDoor
