/- The program's Encode of a KEEPALIVE and of a NOTIFICATION. -/
import Derived.Test.YtkmfnafecdfedaaGreatDoorMgE1
import Derived.Test.YtkmfnafecdfedaaGreatDoorHMx
import Derived.Deep.MidRow
namespace Go.Proofs.YtkmfnafecdfedaaGreatDoor
open Go.RowKit
set_option maxRecDepth 100000

def ff16 : List Nat := List.replicate 16 255
def ffC : Array Value := #[.int .u8 255, .int .u8 255, .int .u8 255, .int .u8 255, .int .u8 255, .int .u8 255, .int .u8 255, .int .u8 255, .int .u8 255, .int .u8 255, .int .u8 255, .int .u8 255, .int .u8 255, .int .u8 255, .int .u8 255, .int .u8 255]
theorem cell_freeze (w : World) (p : Addr) (n : Nat) (x : Addr) (g : Nat) (C : Array Value) (t : TypeId) (f : Nat × Nat) (hp : p.block = g) (hg : w.heap[g]? = some (.cells C t f)) : (w.freeze p n).cell? x = w.cell? x := by
  unfold World.freeze
  split
  · rfl
  · unfold World.cell?
    simp only
    by_cases e : p.block = x.block
    · rw [← e, hp, Array.getElem?_modify, if_pos rfl, hg]
      simp
    · rw [Array.getElem?_modify, if_neg e]
/-- The row of a constant's bytes is marked; its bytes stand. -/
theorem run_mark (w : World) (g : Nat) (C : Array Value) (n c : Nat) (hg : w.heap[g]? = some (.cells C 5 (0, 0))) : (convert 22 22 (.slice (some ⟨g, 0, none⟩) n c)).run Tryz.prog w = .ok (.slice (some ⟨g, 0, none⟩) n c) (w.freeze ⟨g, C.size, none⟩ 1) := by
  have hsh : w.shape? g = some (5, C.size) := by unfold World.shape?; rw [hg]
  simp [convert, run_underlying Tryz.underlying22, run_underlying Tryz.underlying5, markStringish, hsh]
theorem brd_cells {w w' : World} {a : Option Addr} {bs : List Nat} (h : BRd w a bs) (hc : ∀ x, w'.cell? x = w.cell? x) : BRd w' a bs := by
  refine ⟨⟨h.1.1, fun hp => ?_⟩, h.2⟩
  obtain ⟨b, o, e, h2⟩ := h.1.2 hp
  exact ⟨b, o, e, fun i hi => by rw [hc]; exact h2 i hi⟩
/-- What stands while the parts are made. -/
structure JE (Ls : List Nat) (b0 : Act) (w0 : World) (n k : Nat) (p q : Nat) (a : Act) (W : World) : Prop where
  fr : Fr Ls b0 a
  bel : Below w0.heap.size w0 W
  p1 : p = 1 → ∃ g, a.tmps[20]? = some (.slice (some ⟨g, 0, none⟩) 16 16) ∧ w0.heap.size ≤ g ∧ W.heap[g]? = some (.cells ffC 5 (0, 0))
  p2 : p = 2 → ∃ x c, a.tmps[21]? = some (.slice x 16 c) ∧ BRd W x ff16
  q1 : 1 ≤ q → ∃ x c, a.tmps[23]? = some (.slice x 2 c) ∧ BRd W x [n / 256, n % 256]
  q2 : 2 ≤ q → ∃ x c, a.tmps[26]? = some (.slice x 1 c) ∧ BRd W x [k]
section
variable {Ls : List Nat} {b0 a : Act} {w0 W W' : World} {n k p q : Nat}
theorem JE.later (h : JE Ls b0 w0 n k p q a W) (hb : Below W.heap.size W W') : JE Ls b0 w0 n k p q a W' :=
  ⟨h.fr, h.bel.trans (hb.mono h.bel.size), fun e => by
    obtain ⟨g, h1, h2, h3⟩ := h.p1 e
    exact ⟨g, h1, h2, by rw [hb.block g (Array.getElem?_eq_some_iff.1 h3).1]; exact h3⟩,
  fun e => by obtain ⟨x, c, h1, h2⟩ := h.p2 e; exact ⟨x, c, h1, h2.below hb⟩,
  fun e => by obtain ⟨x, c, h1, h2⟩ := h.q1 e; exact ⟨x, c, h1, h2.below hb⟩,
  fun e => by obtain ⟨x, c, h1, h2⟩ := h.q2 e; exact ⟨x, c, h1, h2.below hb⟩⟩
end
section
variable {a : Act} {w : World} {dst : Option Tmp} {ty : TypeId} {pos : String} {after : Array Edge} {K : Act → World → Prop} {Q : Exit → Act → World → Prop}
theorem run_number (ρ : Operand → Value) (x y : Operand) (u v : Value) (hf : ρ (.func 37) = .func (.func 37) #[] #[]) (hx : ρ x = u) (hy : ρ y = v) :
    (execOp ρ { dst := dst, op := .call { callee := .value (.func 37), args := #[x, y], argTypes := #[3, 3] }, type := ty, pos := pos, after := after, guard := none }).run Tryz.prog w = .ok (.enter 37 #[u, v]) w := by
  unfold execOp
  simp [resolve, invoke, hf, hx, hy, go_sem]
theorem call_number (x y : Operand) (u v : Value) (hx : a.eval x = u) (hy : a.eval y = v) (h : Calls Tryz.prog 37 #[u, v] w fun e w' => ∃ r, e = .returned r ∧ K (a.put dst r) w') :
    Oper.wp Tryz.prog { dst := dst, op := .call { callee := .value (.func 37), args := #[x, y], argTypes := #[3, 3] }, type := ty, pos := pos, after := after, guard := none } a w K Q := by
  unfold Oper.wp
  rw [run_number a.eval x y u v rfl hx hy]
  refine Calls.mono h ?_
  rintro _ w' ⟨r, rfl, hk⟩
  exact hk
theorem run_obo (ρ : Operand → Value) (x : Operand) (u : Value) (hf : ρ (.func 36) = .func (.func 36) #[] #[]) (hx : ρ x = u) :
    (execOp ρ { dst := dst, op := .call { callee := .value (.func 36), args := #[x], argTypes := #[89] }, type := ty, pos := pos, after := after, guard := none }).run Tryz.prog w = .ok (.enter 36 #[u]) w := by
  unfold execOp
  simp [resolve, invoke, hf, hx, go_sem]
theorem call_obo (x : Operand) (u : Value) (hx : a.eval x = u) (h : Calls Tryz.prog 36 #[u] w fun e w' => ∃ r, e = .returned r ∧ K (a.put dst r) w') :
    Oper.wp Tryz.prog { dst := dst, op := .call { callee := .value (.func 36), args := #[x], argTypes := #[89] }, type := ty, pos := pos, after := after, guard := none } a w K Q := by
  unfold Oper.wp
  rw [run_obo a.eval x u rfl hx]
  refine Calls.mono h ?_
  rintro _ w' ⟨r, rfl, hk⟩
  exact hk
theorem run_ff : (execOp a.eval { dst := dst, op := .buildSlice 22 16 #[(0, .const (.int .u8 255)), (1, .const (.int .u8 255)), (2, .const (.int .u8 255)), (3, .const (.int .u8 255)), (4, .const (.int .u8 255)), (5, .const (.int .u8 255)), (6, .const (.int .u8 255)), (7, .const (.int .u8 255)), (8, .const (.int .u8 255)), (9, .const (.int .u8 255)), (10, .const (.int .u8 255)), (11, .const (.int .u8 255)), (12, .const (.int .u8 255)), (13, .const (.int .u8 255)), (14, .const (.int .u8 255)), (15, .const (.int .u8 255))], type := ty, pos := pos, after := after, guard := none }).run Tryz.prog w = .ok (.value (.slice (some ⟨w.heap.size, 0, none⟩) 16 16)) (w.alloc (.cells ffC 5)) := by
  unfold execOp
  simp [go_sem, ffC]
theorem run_four (ρ : Operand → Value) (x0 x1 x2 x3 : Operand) (a0 a1 a2 a3 : Option Addr) (n0 n1 n2 n3 c0 c1 c2 c3 : Nat) (h0 : ρ x0 = .slice a0 n0 c0) (h1 : ρ x1 = .slice a1 n1 c1) (h2 : ρ x2 = .slice a2 n2 c2) (h3 : ρ x3 = .slice a3 n3 c3) : (execOp ρ { dst := dst, op := .buildSlice 89 4 #[(0, x0), (1, x1), (2, x2), (3, x3)], type := ty, pos := pos, after := after, guard := none }).run Tryz.prog w = .ok (.value (.slice (some ⟨w.heap.size, 0, none⟩) 4 4)) (w.alloc (.cells #[.slice a0 n0 c0, .slice a1 n1 c1, .slice a2 n2 c2, .slice a3 n3 c3] 22)) := by
  unfold execOp
  simp [go_sem, h0, h1, h2, h3]
theorem wp_of_run' {o : Oper} {v : Value} {w' : World} (hr : (execOp a.eval o).run Tryz.prog w = .ok (.value v) w') (h : K (a.put o.dst v) w') : Oper.wp Tryz.prog o a w K Q := by
  unfold Oper.wp
  rw [hr]
  exact h
end
end Go.Proofs.YtkmfnafecdfedaaGreatDoor
