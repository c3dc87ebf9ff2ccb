/- append onto a row of the call's own; bytes. -/
import Derived.Test.YtmpnnfbpknfekaaBase
namespace Go.Proofs.Ytmpnnfbpknfekaa
open Go.RowKit
set_option maxRecDepth 100000

theorem Try.infoU8 : (Try.prog.info? 5).map (fun i => (i.zero, i.size, i.bytes)) = some (some (.int .u8 0), 1, 1) := by kernel_rfl
theorem info_parts {P : Program} {t : TypeId} {z : Option Value} {s b : Nat} (h : (P.info? t).map (fun i => (i.zero, i.size, i.bytes)) = some (z, s, b)) : ∃ i, P.info? t = some i ∧ i.zero = z ∧ i.size = s ∧ i.bytes = b := by
  cases hi : P.info? t with
  | none => rw [hi] at h; cases h
  | some i =>
    rw [hi] at h
    simp at h
    exact ⟨i, rfl, h.1, h.2.1, h.2.2⟩
/-- What append asks of a slice's type t and its elements' e. -/
structure Elem (t e : TypeId) (size bytes : Nat) : Prop where
  sl : Try.prog.underlying t = some (.slice e)
  info : ∃ i z, Try.prog.info? e = some i ∧ i.zero = some z ∧ i.size = size ∧ i.bytes = bytes ∧ z.cells.size = size
  pos : 0 < size
  small : bytes ≤ 1000
theorem elemU8 : Elem 36 5 1 1 := by
  obtain ⟨i, h1, h2, h3, h4⟩ := info_parts Try.infoU8
  exact ⟨Try.underlying36, ⟨i, _, h1, h2, h3, h4, rfl⟩, by omega, by omega⟩
theorem own_block {w : World} {B e size n : Nat} {v : Value} {xs : List Value} (h : w.ownsRow B e size v n xs) : ∀ b, v.ownBlock = some b → B ≤ b ∧ b < w.heap.size := by
  intro b hb
  rcases h.2 with ⟨rfl, _⟩ | ⟨g, cap, cur, rfl, hg, hc, _⟩
  · simp [Value.ownBlock] at hb
  · simp [Value.ownBlock] at hb
    subst hb
    exact ⟨hg, (Array.getElem?_eq_some_iff.1 hc).1⟩
theorem own_later {w w' : World} {B e size n : Nat} {v : Value} {xs : List Value} (h : w.ownsRow B e size v n xs) (hb : Below w.heap.size w w') : w'.ownsRow B e size v n xs := by
  refine ⟨h.1, ?_⟩
  rcases h.2 with hh | ⟨g, cap, cur, e1, hg, hc, rest⟩
  · exact .inl hh
  · exact .inr ⟨g, cap, cur, e1, hg, by rw [hb.block g (Array.getElem?_eq_some_iff.1 hc).1]; exact hc, rest⟩
theorem own_nil (w : World) (B e size : Nat) : w.ownsRow B e size (.slice none 0 0) 0 [] := ⟨by simp, .inl ⟨rfl, rfl⟩⟩
/-- append of what lies elsewhere. -/
theorem app_old {t e size bytes : Nat} (he : Elem t e size bytes) {w : World} {B n : Nat} {v : Value} {xs : List Value} (ho : w.ownsRow B e size v n xs) (hB : B ≤ w.heap.size) (a : Addr) (m c : Nat) (news : List Value) (hl : news.length = m * size)
    (hnews : ∀ j u, news[j]? = some u → w.cell? (a.add j) = some u) (h1 : ∀ u ∈ news, u.oneCell' = true) (hn : n + m ≤ 1000000) :
    ∃ v' w', (Builtin.append_ #[t, t] t #[v, .slice (some a) m c]).run Try.prog w = .ok v' w' ∧ w'.ownsRow B e size v' (n + m) (xs ++ news) ∧ Below B w w' := by
  obtain ⟨i, z, hi, hz, hsz, hby, hzs⟩ := he.info
  have hsm := he.small
  have hb : (n + m) * bytes ≤ 1000000 * 1000 := Nat.mul_le_mul hn hsm
  obtain ⟨v', w', hr, h2, h3, _, _⟩ := run_append_own_at (P := Try.prog) w B t t e i z size bytes he.sl hi hz hsz hby hzs he.pos v n xs ho a m c news hl hnews h1 (by unfold maxLen; omega) (by omega) hB
  exact ⟨v', w', hr, h2, ((Keeps.refl (fun b => v.ownBlock = some b) w).grown h3 (fun b e => .inl e)).below B hB (fun b e => (own_block ho b e).1)⟩
/-- append of elements that were laid just now. -/
theorem app_new {t e size bytes : Nat} (he : Elem t e size bytes) {w : World} {B n : Nat} {v : Value} {xs : List Value} (ho : w.ownsRow B e size v n xs) (hB : B ≤ w.heap.size) (m : Nat) (news : List Value) (hl : news.length = m * size)
    (h1 : ∀ u ∈ news, u.oneCell' = true) (hn : n + m ≤ 1000000) (H : Nat) (hH : w.heap.size = H) :
    ∃ v' w', (Builtin.append_ #[t, t] t #[v, .slice (some ⟨H, 0, none⟩) m m]).run Try.prog (w.alloc (.cells news.toArray e)) = .ok v' w' ∧ w'.ownsRow B e size v' (n + m) (xs ++ news) ∧ Below B w w' := by
  subst hH
  have hb1 : Below B w (w.alloc (.cells news.toArray e)) := (Below.refl _ _).alloc hB _
  obtain ⟨v', w', hr, h2, h3⟩ := app_old he (ho.alloc _) (w := w.alloc (.cells news.toArray e)) (by simp; omega) ⟨w.heap.size, 0, none⟩ m m news hl (fun j u hu => by
    rw [Addr.add_mid, Nat.zero_add, World.cell?_alloc_mark]
    simpa using hu) h1 hn
  exact ⟨v', w', hr, h2, hb1.trans h3⟩
section
variable {P : Program} {ops : Array Oper} {rest : List Oper} {a : Act} {w w' : World} {Q : Exit → Act → World → Prop} {dst : Option Tmp} {ty : TypeId} {pos : String} {after : Array Edge}
theorem wpl_append (d s : Operand) (t : TypeId) (p v : Value) (r : Value) (hd : a.eval d = p) (hs : a.eval s = v) (hr : (Builtin.append_ #[t, t] ty #[p, v]).run P w = .ok r w') (h : wpList P ops Q rest (a.put dst r) w') :
    wpList P ops Q ({ dst := dst, op := .call { callee := .builtin .append, args := #[d, s], argTypes := #[t, t] }, type := ty, pos := pos, after := after, guard := none } :: rest) a w :=
  wpList_plain rfl fun K hK => by
    unfold Oper.wp execOp
    simp only [resolve, invoke, builtin, Sem.run_bind, Sem.run_pure, Result.andThen_ok, List.map_toArray, List.map_cons, List.map_nil, hd, hs, hr]
    exact hK _ _ h
end
/-- The cells of bytes. -/
def bcells (l : List Nat) : List Value := l.map fun (x : Nat) => Value.int .u8 (x : Int)
theorem bcells_app (l r : List Nat) : bcells (l ++ r) = bcells l ++ bcells r := by simp [bcells]
theorem bcells_one (l : List Nat) : ∀ u ∈ bcells l, u.oneCell' = true := by
  intro u hu
  obtain ⟨i, _, rfl⟩ := List.mem_map.1 hu
  rfl
theorem bcells_length (l : List Nat) : (bcells l).length = l.length := by simp [bcells]
def sliceLen : Value → Nat
  | .slice _ n _ => n
  | _ => 0
/-- append of what lies elsewhere, and what it turns. -/
theorem app_more {t e size bytes : Nat} (he : Elem t e size bytes) {w : World} {B n : Nat} {v : Value} {xs : List Value} (ho : w.ownsRow B e size v n xs) (hB : B ≤ w.heap.size) (a : Addr) (m c : Nat) (news : List Value) (hl : news.length = m * size)
    (hnews : ∀ j u, news[j]? = some u → w.cell? (a.add j) = some u) (h1 : ∀ u ∈ news, u.oneCell' = true) (hn : n + m ≤ 1000000) :
    ∃ v' w', (Builtin.append_ #[t, t] t #[v, .slice (some a) m c]).run Try.prog w = .ok v' w' ∧ w'.ownsRow B e size v' (n + m) (xs ++ news) ∧ Below B w w' ∧ w.grownBy w' v.ownBlock ∧ (v'.ownBlock = v.ownBlock ∨ v'.ownBlock = some w.heap.size) := by
  obtain ⟨i, z, hi, hz, hsz, hby, hzs⟩ := he.info
  have hsm := he.small
  have hb : (n + m) * bytes ≤ 1000000 * 1000 := Nat.mul_le_mul hn hsm
  obtain ⟨v', w', hr, h2, h3, _, h5⟩ := run_append_own_at (P := Try.prog) w B t t e i z size bytes he.sl hi hz hsz hby hzs he.pos v n xs ho a m c news hl hnews h1 (by unfold maxLen; omega) (by omega) hB
  exact ⟨v', w', hr, h2, ((Keeps.refl (fun b => v.ownBlock = some b) w).grown h3 (fun b e => .inl e)).below B hB (fun b e => (own_block ho b e).1), h3, h5⟩
/-- An operation that the walk's own rules are kept from. -/
def Kept (P : Program) (o : Oper) (a : Act) (w : World) (K : Act → World → Prop) (Q : Exit → Act → World → Prop) : Prop := Oper.wp P o a w K Q
section
variable {P : Program} {a : Act} {w w' : World} {K : Act → World → Prop} {Q : Exit → Act → World → Prop} {dst : Option Tmp} {ty : TypeId} {pos : String} {after : Array Edge} {gd : Option (Nat × Bool)}
theorem kept_append (x y : Operand) : Oper.wp P { dst := dst, op := .call { callee := .builtin .append, args := #[x, y], argTypes := #[36, 36] }, type := ty, pos := pos, after := after, guard := gd } a w K Q = Kept P { dst := dst, op := .call { callee := .builtin .append, args := #[x, y], argTypes := #[36, 36] }, type := ty, pos := pos, after := after, guard := gd } a w K Q := rfl
theorem kept_append_intro (x y : Operand) (p q v : Value) (hx : a.eval x = p) (hy : a.eval y = q) (hr : (Builtin.append_ #[36, 36] ty #[p, q]).run P w = .ok v w') (h : K (a.put dst v) w') :
    Kept P { dst := dst, op := .call { callee := .builtin .append, args := #[x, y], argTypes := #[36, 36] }, type := ty, pos := pos, after := after, guard := gd } a w K Q := by
  unfold Kept Oper.wp execOp
  simp only [resolve, invoke, builtin, Sem.run_bind, Sem.run_pure, Result.andThen_ok, List.map_toArray, List.map_cons, List.map_nil, hx, hy, hr]
  exact h
end
end Go.Proofs.Ytmpnnfbpknfekaa
