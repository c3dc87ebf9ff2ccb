/- Clone of rows of cells. -/
import Derived.Test.YtolpaimmmhoiiaaHPb
import Derived.Test.YtolpaimmmhoiiaaAtOw
namespace Go.Proofs.Ytolpaimmmhoiiaa
open Go.RowKit
set_option maxRecDepth 100000

section
variable {P : Program} {a : Act} {w w' : World} {K : Act → World → Prop} {Q : Exit → Act → World → Prop} {dst : Option Tmp} {ty : TypeId} {pos : String} {after : Array Edge} {gd : Option (Nat × Bool)}
theorem kept_app (x y : Operand) (t : TypeId) : Oper.wp P { dst := dst, op := .call { callee := .builtin .append, args := #[x, y], argTypes := #[t, t] }, type := ty, pos := pos, after := after, guard := gd } a w K Q = Kept P { dst := dst, op := .call { callee := .builtin .append, args := #[x, y], argTypes := #[t, t] }, type := ty, pos := pos, after := after, guard := gd } a w K Q := rfl
theorem kept_app_intro (x y : Operand) (t : TypeId) (p q v : Value) (hx : a.eval x = p) (hy : a.eval y = q) (hr : (Builtin.append_ #[t, t] ty #[p, q]).run P w = .ok v w') (h : K (a.put dst v) w') :
    Kept P { dst := dst, op := .call { callee := .builtin .append, args := #[x, y], argTypes := #[t, t] }, type := ty, pos := pos, after := after, guard := gd } a w K Q := by
  unfold Kept Oper.wp execOp
  simp only [resolve, invoke, builtin, Sem.run_bind, Sem.run_pure, Result.andThen_ok, List.map_toArray, List.map_cons, List.map_nil, hx, hy, hr]
  exact h
end
/-- The slice's cells are xs. -/
def Cells (w : World) (a : Option Addr) (n size : Nat) (xs : List Value) : Prop := xs.length = n * size ∧ (a = none → n = 0) ∧ (∀ ad, a = some ad → ∀ j u, xs[j]? = some u → w.cell? (ad.add j) = some u) ∧ ∀ u ∈ xs, u.oneCell' = true
theorem Cells.below {w w' : World} {a : Option Addr} {n size : Nat} {xs : List Value} (h : Cells w a n size xs) (hb : Below w.heap.size w w') : Cells w' a n size xs :=
  ⟨h.1, h.2.1, fun ad e j u hu => by
    have h9 := h.2.2.1 ad e j u hu
    rw [hb.cell (p := ad.add j) (World.block_lt_of_cell? w _ h9)]
    exact h9, h.2.2.2⟩
theorem own_empty (w : World) (e size : Nat) : (w.alloc (.cells #[] e)).ownsRow w.heap.size e size (.slice (some ⟨w.heap.size, 0, none⟩) 0 0) 0 [] :=
  ⟨by simp, .inr ⟨w.heap.size, 0, _, rfl, Nat.le_refl _, by unfold World.alloc; exact Array.getElem?_push_size, Nat.le_refl _, by unfold maxLen; omega, by simp, by simp⟩⟩
end Go.Proofs.Ytolpaimmmhoiiaa
