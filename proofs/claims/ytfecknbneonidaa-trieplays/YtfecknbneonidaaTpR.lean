/- Rows that grow in a region that draws its order. -/
import Derived.Test.YtfecknbneonidaaTpA
namespace Go.Proofs.Ytfecknbneonidaa
open Go.RowKit
set_option maxRecDepth 100000

theorem app_none1 {t e size bytes : Nat} (he : Elem t e size bytes) (w : World) (b : Addr) (n cap c : Nat) (hn : n ≤ cap) :
    (Builtin.append_ #[t, t] t #[.slice (some b) n cap, .slice none 0 c]).run Try.prog w = .ok (.slice (some b) n cap) w := by
  obtain ⟨i, z, hi, _⟩ := he.info
  have ht := he.sl
  simp [Builtin.append_, run_underlying ht, sizeOf, typeInfo, hi, hn, Builtin.lenOf, Builtin.firstCells, go_sem, storeCells]
theorem app_none0 {t e size bytes : Nat} (he : Elem t e size bytes) (w : World) (c : Nat) :
    (Builtin.append_ #[t, t] t #[.slice none 0 0, .slice none 0 c]).run Try.prog w = .ok (.slice none 0 0) w := by
  obtain ⟨i, z, hi, _⟩ := he.info
  have ht := he.sl
  simp [Builtin.append_, run_underlying ht, sizeOf, typeInfo, hi, Builtin.lenOf, Builtin.firstCells, go_sem]
/-- Cells that are read: m elements of 'size' cells each. -/
def Cells (w : World) (a : Option Addr) (news : List Value) : Prop := news = [] ∨ ∃ g o, a = some ⟨g, o, none⟩ ∧ ∀ j u, news[j]? = some u → w.cell? ⟨g, o + j, none⟩ = some u
/-- append of whatever is read. -/
theorem app_any {t e size bytes : Nat} (he : Elem t e size bytes) {w : World} {B n : Nat} {v : Value} {xs : List Value} (ho : w.ownsRow B e size v n xs) (hB : B ≤ w.heap.size) (a : Option Addr) (m c : Nat) (news : List Value) (hl : news.length = m * size)
    (hnews : Cells w a news) (h1 : ∀ u ∈ news, u.oneCell' = true) (hn : n + m ≤ 1000000) :
    ∃ v' w', (Builtin.append_ #[t, t] t #[v, .slice a m c]).run Try.prog w = .ok v' w' ∧ w'.ownsRow B e size v' (n + m) (xs ++ news) ∧ Below B w w' ∧ w.grownBy w' v.ownBlock ∧ (v'.ownBlock = v.ownBlock ∨ v'.ownBlock = some w.heap.size) := by
  cases a with
  | some ad =>
    refine app_more he ho hB ad m c news hl (fun j u hu => ?_) h1 hn
    rcases hnews with rfl | ⟨g, o, e1, hc⟩
    · simp at hu
    · cases e1
      rw [Addr.add_mid]
      exact hc j u hu
  | none =>
    have h0 : news = [] := by
      rcases hnews with h | ⟨_, _, h, _⟩
      · exact h
      · cases h
    subst h0
    have hm : m = 0 := by
      have hp := he.pos
      have h2 : m * size = 0 := by simpa using hl.symm
      rcases Nat.mul_eq_zero.1 h2 with h | h
      · exact h
      · omega
    subst hm
    rw [Nat.add_zero, List.append_nil]
    have hg : w.grownBy w v.ownBlock := ⟨rfl, rfl, rfl, Nat.le_refl _, fun _ _ _ => rfl⟩
    rcases ho.2 with ⟨e1, _⟩ | ⟨g, cap, cur, e1, _, _, hc, _⟩
    · subst e1
      exact ⟨_, w, app_none0 he w c, ho, Below.refl _ _, hg, .inl rfl⟩
    · subst e1
      exact ⟨_, w, app_none1 he w _ _ cap c hc, ho, Below.refl _ _, hg, .inl rfl⟩
section
variable {a : Act} {w w' : World} {K : Act → World → Prop} {Q : Exit → Act → World → Prop} {dst : Option Tmp} {ty : TypeId} {pos : String} {after : Array Edge} {gd : Option (Nat × Bool)}
theorem wp_append {t : TypeId} (x y : Operand) (p q v : Value) (hx : a.eval x = p) (hy : a.eval y = q) (hr : (Builtin.append_ #[t, t] t #[p, q]).run Try.prog w = .ok v w') (h : K (a.put dst v) w') :
    Oper.wp Try.prog { dst := dst, op := .call { callee := .builtin .append, args := #[x, y], argTypes := #[t, t] }, type := t, pos := pos, after := after, guard := gd } a w K Q := by
  unfold Oper.wp execOp
  simp only [resolve, invoke, builtin, Sem.run_bind, Sem.run_pure, Result.andThen_ok, List.map_toArray, List.map_cons, List.map_nil, hx, hy, hr]
  exact h
end
/-- The empty row. -/
theorem own_empty (w : World) (B e size : Nat) (hB : B ≤ w.heap.size) : (w.alloc (.cells #[] e)).ownsRow B e size (.slice (some ⟨w.heap.size, 0, none⟩) 0 0) 0 [] := by
  refine ⟨by simp, .inr ⟨w.heap.size, 0, #[], rfl, hB, ?_, Nat.le_refl _, Nat.zero_le _, by simp, by simp⟩⟩
  show (w.heap.push (Obj.cells #[] e))[w.heap.size]? = _
  rw [Array.getElem?_push, if_pos rfl]
theorem own_base1 {w : World} {B B' e size n : Nat} {v : Value} {xs : List Value} (h : w.ownsRow B e size v n xs) (hB : B' ≤ B) : w.ownsRow B' e size v n xs := by
  refine ⟨h.1, ?_⟩
  rcases h.2 with hh | ⟨g, cap, cur, e1, hg, rest⟩
  · exact .inl hh
  · exact .inr ⟨g, cap, cur, e1, by omega, rest⟩
/-- A slot holds a row of the call's own. -/
def RowIn (B e size : Nat) (a : Act) (w : World) (s n : Nat) (xs : List Value) : Prop := ∃ v, a.tmps[s]? = some v ∧ w.ownsRow B e size v n xs
theorem RowIn.put {B e size : Nat} {a : Act} {w : World} {s n : Nat} {xs : List Value} (h : RowIn B e size a w s n xs) {t : Nat} (v : Value) (hne : t ≠ s) : RowIn B e size (a.put (some t) v) w s n xs := by
  obtain ⟨u, h1, h2⟩ := h
  exact ⟨u, by rw [slot_put v hne]; exact h1, h2⟩
theorem RowIn.later {B e size : Nat} {a : Act} {w w' : World} {s n : Nat} {xs : List Value} (h : RowIn B e size a w s n xs) (hb : Below w.heap.size w w') : RowIn B e size a w' s n xs := by
  obtain ⟨u, h1, h2⟩ := h
  exact ⟨u, h1, own_later h2 hb⟩
/-- A row of other elements that grows leaves it. -/
theorem RowIn.other {B e size e' size' n' : Nat} {a : Act} {w w' : World} {s n : Nat} {xs xs' : List Value} {v' : Value} (h : RowIn B e size a w s n xs) (ho : w.ownsRow B e' size' v' n' xs') (hne : e ≠ e') (hg : w.grownBy w' v'.ownBlock) : RowIn B e size a w' s n xs := by
  obtain ⟨u, h1, h2⟩ := h
  refine ⟨u, h1, h2.kept hg ?_⟩
  cases hu : u.ownBlock with
  | none => exact .inl rfl
  | some b => exact .inr fun e9 => rows_apart h2 ho hne b hu e9.symm
end Go.Proofs.Ytfecknbneonidaa
