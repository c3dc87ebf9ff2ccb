/- Clone of rows of cells. -/
import Derived.Test.YtjlmkaeepeamkaaRtP
import Derived.Test.YtjlmkaeepeamkaaAtOw
namespace Go.Proofs.Ytjlmkaeepeamkaa
open Go.RowKit
set_option maxRecDepth 100000

section
variable {P : Program} {a : Act} {w w' : World} {K : Act → World → Prop} {Q : Exit → Act → World → Prop} {dst : Option Tmp} {ty : TypeId} {pos : String} {after : Array Edge} {gd : Option (Nat × Bool)}
theorem kept_app (x y : Operand) (t : TypeId) : Oper.wp P { dst := dst, op := .call { callee := .builtin .append, args := #[x, y], argTypes := #[t, t] }, type := ty, pos := pos, after := after, guard := gd } a w K Q = Kept P { dst := dst, op := .call { callee := .builtin .append, args := #[x, y], argTypes := #[t, t] }, type := ty, pos := pos, after := after, guard := gd } a w K Q := rfl
theorem kept_app_intro (x y : Operand) (t : TypeId) (p q v : Value) (hx : a.eval x = p) (hy : a.eval y = q) (hr : (Builtin.append_ #[t, t] ty #[p, q]).run P w = .ok v w') (h : K (a.put dst v) w') :
    Kept P { dst := dst, op := .call { callee := .builtin .append, args := #[x, y], argTypes := #[t, t] }, type := ty, pos := pos, after := after, guard := gd } a w K Q := by
  unfold Kept Oper.wp execOp
  simp only [resolve, invoke, builtin, Sem.run_bind, Sem.run_pure, Result.andThen_ok, List.map_toArray, List.map_cons, List.map_nil, hx, hy, hr]
  exact h
end
/-- The slice's cells are xs. -/
def Cells (w : World) (a : Option Addr) (n size : Nat) (xs : List Value) : Prop := xs.length = n * size ∧ (a = none → n = 0) ∧ (∀ ad, a = some ad → ∀ j u, xs[j]? = some u → w.cell? (ad.add j) = some u) ∧ ∀ u ∈ xs, u.oneCell' = true
theorem Cells.below {w w' : World} {a : Option Addr} {n size : Nat} {xs : List Value} (h : Cells w a n size xs) (hb : Below w.heap.size w w') : Cells w' a n size xs :=
  ⟨h.1, h.2.1, fun ad e j u hu => by
    have h9 := h.2.2.1 ad e j u hu
    rw [hb.cell (p := ad.add j) (World.block_lt_of_cell? w _ h9)]
    exact h9, h.2.2.2⟩
theorem own_empty (w : World) (e size : Nat) : (w.alloc (.cells #[] e)).ownsRow w.heap.size e size (.slice (some ⟨w.heap.size, 0, none⟩) 0 0) 0 [] :=
  ⟨by simp, .inr ⟨w.heap.size, 0, _, rfl, Nat.le_refl _, by unfold World.alloc; exact Array.getElem?_push_size, Nat.le_refl _, by unfold maxLen; omega, by simp, by simp⟩⟩
theorem eql_u (a : Option Addr) (l c : Nat) (w : World) : (binOp .eql 31 (.slice a l c) (.slice none 0 0)).run Try.prog w = .ok (.bool a.isNone) w := by
  simp only [binOp]
  simp [run_equal_slice_nil w 31 27 a l c Try.underlying31]
section
attribute [local go_sem ↓] kept_app
attribute [local go_sem] eql_u
set_option maxHeartbeats 1600000 in
theorem clone_u (a : Option Addr) (n c : Nat) (xs : List Value) (w : World) (hl : n ≤ 100000) (h : Cells w a n 1 xs) :
    Calls Try.prog 35 #[.slice a n c] w fun e w' => ∃ a9 c9, e = .returned (.slice a9 n c9) ∧ w'.ownsRow w.heap.size 27 1 (.slice a9 n c9) n xs ∧ Below w.heap.size w w' := by
  obtain ⟨h1, h2, h3, h4⟩ := h
  cases a with
  | none =>
    obtain rfl : n = 0 := h2 rfl
    have hx : xs = [] := List.length_eq_zero_iff.1 (by omega)
    subst hx
    clear h2 h3 h4
    go_enter Try.func35, Try.ntmps35
    go_wp2
    go_ret
    exact ⟨none, 0, rfl, own_nil _ _ _ _, Below.refl _ _⟩
  | some ad =>
    have hb2 : Below w.heap.size w (w.alloc (.cells #[] 27)) := (Below.refl _ _).alloc (Nat.le_refl _) _
    obtain ⟨v', w3, hr, ho, hb3⟩ := app_old elemU32 (own_empty w 27 1) hb2.size ad n c xs h1 (fun j u hu => by
      have h9 := h3 ad rfl j u hu
      rw [hb2.cell (p := ad.add j) (World.block_lt_of_cell? w _ h9)]
      exact h9) h4 (by omega)
    rw [Nat.zero_add] at ho
    obtain ⟨a9, c9, rfl⟩ := own_shape ho
    have HO : Hid (w3.ownsRow w.heap.size 27 1 (.slice a9 n c9) n xs) := ho
    have HB : Hid (Below w.heap.size w w3) := hb2.trans hb3
    have HR := hide hr
    clear hr ho hb3 hb2 h1 h2 h3 h4
    go_enter Try.func35, Try.ntmps35
    go_wp2_with (refine kept_app_intro _ _ _ _ _ (.slice a9 n c9) (w' := w3) (by rfl) (by rfl) (by exact HR.out) ?_)
    go_ret
    exact ⟨a9, c9, rfl, HO.out, HB.out⟩
end
theorem eql_i (a : Option Addr) (l c : Nat) (w : World) : (binOp .eql 58 (.slice a l c) (.slice none 0 0)).run Try.prog w = .ok (.bool a.isNone) w := by
  simp only [binOp]
  simp [run_equal_slice_nil w 58 3 a l c Try.underlying58]
section
attribute [local go_sem ↓] kept_app
attribute [local go_sem] eql_i
set_option maxHeartbeats 1600000 in
theorem clone_i (a : Option Addr) (n c : Nat) (xs : List Value) (w : World) (hl : n ≤ 100000) (h : Cells w a n 1 xs) :
    Calls Try.prog 45 #[.slice a n c] w fun e w' => ∃ a9 c9, e = .returned (.slice a9 n c9) ∧ w'.ownsRow w.heap.size 3 1 (.slice a9 n c9) n xs ∧ Below w.heap.size w w' := by
  obtain ⟨h1, h2, h3, h4⟩ := h
  cases a with
  | none =>
    obtain rfl : n = 0 := h2 rfl
    have hx : xs = [] := List.length_eq_zero_iff.1 (by omega)
    subst hx
    clear h2 h3 h4
    go_enter Try.func45, Try.ntmps45
    go_wp2
    go_ret
    exact ⟨none, 0, rfl, own_nil _ _ _ _, Below.refl _ _⟩
  | some ad =>
    have hb2 : Below w.heap.size w (w.alloc (.cells #[] 3)) := (Below.refl _ _).alloc (Nat.le_refl _) _
    obtain ⟨v', w3, hr, ho, hb3⟩ := app_old elemInt (own_empty w 3 1) hb2.size ad n c xs h1 (fun j u hu => by
      have h9 := h3 ad rfl j u hu
      rw [hb2.cell (p := ad.add j) (World.block_lt_of_cell? w _ h9)]
      exact h9) h4 (by omega)
    rw [Nat.zero_add] at ho
    obtain ⟨a9, c9, rfl⟩ := own_shape ho
    have HO : Hid (w3.ownsRow w.heap.size 3 1 (.slice a9 n c9) n xs) := ho
    have HB : Hid (Below w.heap.size w w3) := hb2.trans hb3
    have HR := hide hr
    clear hr ho hb3 hb2 h1 h2 h3 h4
    go_enter Try.func45, Try.ntmps45
    go_wp2_with (refine kept_app_intro _ _ _ _ _ (.slice a9 n c9) (w' := w3) (by rfl) (by rfl) (by exact HR.out) ?_)
    go_ret
    exact ⟨a9, c9, rfl, HO.out, HB.out⟩
end
theorem eql_s (a : Option Addr) (l c : Nat) (w : World) : (binOp .eql 30 (.slice a l c) (.slice none 0 0)).run Try.prog w = .ok (.bool a.isNone) w := by
  simp only [binOp]
  simp [run_equal_slice_nil w 30 60 a l c Try.underlying30]
section
attribute [local go_sem ↓] kept_app
attribute [local go_sem] eql_s
set_option maxHeartbeats 1600000 in
theorem clone_s (a : Option Addr) (n c : Nat) (xs : List Value) (w : World) (hl : n ≤ 100000) (h : Cells w a n 2 xs) :
    Calls Try.prog 44 #[.slice a n c] w fun e w' => ∃ a9 c9, e = .returned (.slice a9 n c9) ∧ w'.ownsRow w.heap.size 60 2 (.slice a9 n c9) n xs ∧ Below w.heap.size w w' := by
  obtain ⟨h1, h2, h3, h4⟩ := h
  cases a with
  | none =>
    obtain rfl : n = 0 := h2 rfl
    have hx : xs = [] := List.length_eq_zero_iff.1 (by omega)
    subst hx
    clear h2 h3 h4
    go_enter Try.func44, Try.ntmps44
    go_wp2
    go_ret
    exact ⟨none, 0, rfl, own_nil _ _ _ _, Below.refl _ _⟩
  | some ad =>
    have hb2 : Below w.heap.size w (w.alloc (.cells #[] 60)) := (Below.refl _ _).alloc (Nat.le_refl _) _
    obtain ⟨v', w3, hr, ho, hb3⟩ := app_old elemSeg (own_empty w 60 2) hb2.size ad n c xs h1 (fun j u hu => by
      have h9 := h3 ad rfl j u hu
      rw [hb2.cell (p := ad.add j) (World.block_lt_of_cell? w _ h9)]
      exact h9) h4 (by omega)
    rw [Nat.zero_add] at ho
    obtain ⟨a9, c9, rfl⟩ := own_shape ho
    have HO : Hid (w3.ownsRow w.heap.size 60 2 (.slice a9 n c9) n xs) := ho
    have HB : Hid (Below w.heap.size w w3) := hb2.trans hb3
    have HR := hide hr
    clear hr ho hb3 hb2 h1 h2 h3 h4
    go_enter Try.func44, Try.ntmps44
    go_wp2_with (refine kept_app_intro _ _ _ _ _ (.slice a9 n c9) (w' := w3) (by rfl) (by rfl) (by exact HR.out) ?_)
    go_ret
    exact ⟨a9, c9, rfl, HO.out, HB.out⟩
end
theorem eql_r (a : Option Addr) (l c : Nat) (w : World) : (binOp .eql 32 (.slice a l c) (.slice none 0 0)).run Try.prog w = .ok (.bool a.isNone) w := by
  simp only [binOp]
  simp [run_equal_slice_nil w 32 63 a l c Try.underlying32]
section
attribute [local go_sem ↓] kept_app
attribute [local go_sem] eql_r
set_option maxHeartbeats 1600000 in
theorem clone_r (a : Option Addr) (n c : Nat) (xs : List Value) (w : World) (hl : n ≤ 100000) (h : Cells w a n 3 xs) :
    Calls Try.prog 46 #[.slice a n c] w fun e w' => ∃ a9 c9, e = .returned (.slice a9 n c9) ∧ w'.ownsRow w.heap.size 63 3 (.slice a9 n c9) n xs ∧ Below w.heap.size w w' := by
  obtain ⟨h1, h2, h3, h4⟩ := h
  cases a with
  | none =>
    obtain rfl : n = 0 := h2 rfl
    have hx : xs = [] := List.length_eq_zero_iff.1 (by omega)
    subst hx
    clear h2 h3 h4
    go_enter Try.func46, Try.ntmps46
    go_wp2
    go_ret
    exact ⟨none, 0, rfl, own_nil _ _ _ _, Below.refl _ _⟩
  | some ad =>
    have hb2 : Below w.heap.size w (w.alloc (.cells #[] 63)) := (Below.refl _ _).alloc (Nat.le_refl _) _
    obtain ⟨v', w3, hr, ho, hb3⟩ := app_old elemRaw (own_empty w 63 3) hb2.size ad n c xs h1 (fun j u hu => by
      have h9 := h3 ad rfl j u hu
      rw [hb2.cell (p := ad.add j) (World.block_lt_of_cell? w _ h9)]
      exact h9) h4 (by omega)
    rw [Nat.zero_add] at ho
    obtain ⟨a9, c9, rfl⟩ := own_shape ho
    have HO : Hid (w3.ownsRow w.heap.size 63 3 (.slice a9 n c9) n xs) := ho
    have HB : Hid (Below w.heap.size w w3) := hb2.trans hb3
    have HR := hide hr
    clear hr ho hb3 hb2 h1 h2 h3 h4
    go_enter Try.func46, Try.ntmps46
    go_wp2_with (refine kept_app_intro _ _ _ _ _ (.slice a9 n c9) (w' := w3) (by rfl) (by rfl) (by exact HR.out) ?_)
    go_ret
    exact ⟨a9, c9, rfl, HO.out, HB.out⟩
end
theorem eql_b (a : Option Addr) (l c : Nat) (w : World) : (binOp .eql 61 (.slice a l c) (.slice none 0 0)).run Try.prog w = .ok (.bool a.isNone) w := by
  simp only [binOp]
  simp [run_equal_slice_nil w 61 5 a l c Try.underlying61]
section
attribute [local go_sem ↓] kept_app
attribute [local go_sem] eql_b
set_option maxHeartbeats 1600000 in
theorem clone_b (a : Option Addr) (n c : Nat) (xs : List Value) (w : World) (hl : n ≤ 100000) (h : Cells w a n 1 xs) :
    Calls Try.prog 47 #[.slice a n c] w fun e w' => ∃ a9 c9, e = .returned (.slice a9 n c9) ∧ w'.ownsRow w.heap.size 5 1 (.slice a9 n c9) n xs ∧ Below w.heap.size w w' := by
  obtain ⟨h1, h2, h3, h4⟩ := h
  cases a with
  | none =>
    obtain rfl : n = 0 := h2 rfl
    have hx : xs = [] := List.length_eq_zero_iff.1 (by omega)
    subst hx
    clear h2 h3 h4
    go_enter Try.func47, Try.ntmps47
    go_wp2
    go_ret
    exact ⟨none, 0, rfl, own_nil _ _ _ _, Below.refl _ _⟩
  | some ad =>
    have hb2 : Below w.heap.size w (w.alloc (.cells #[] 5)) := (Below.refl _ _).alloc (Nat.le_refl _) _
    obtain ⟨v', w3, hr, ho, hb3⟩ := app_old elemU8 (own_empty w 5 1) hb2.size ad n c xs h1 (fun j u hu => by
      have h9 := h3 ad rfl j u hu
      rw [hb2.cell (p := ad.add j) (World.block_lt_of_cell? w _ h9)]
      exact h9) h4 (by omega)
    rw [Nat.zero_add] at ho
    obtain ⟨a9, c9, rfl⟩ := own_shape ho
    have HO : Hid (w3.ownsRow w.heap.size 5 1 (.slice a9 n c9) n xs) := ho
    have HB : Hid (Below w.heap.size w w3) := hb2.trans hb3
    have HR := hide hr
    clear hr ho hb3 hb2 h1 h2 h3 h4
    go_enter Try.func47, Try.ntmps47
    go_wp2_with (refine kept_app_intro _ _ _ _ _ (.slice a9 n c9) (w' := w3) (by rfl) (by rfl) (by exact HR.out) ?_)
    go_ret
    exact ⟨a9, c9, rfl, HO.out, HB.out⟩
end
end Go.Proofs.Ytjlmkaeepeamkaa
