/- Rows that grow in a region that draws its order; rows of int. -/
import Derived.Test.YthbgalknhodgnaaOwK
import Derived.Test.YthbgalknhodgnaaGrid
namespace Go.Proofs.Ythbgalknhodgnaa
open Go.RowKit
set_option maxRecDepth 100000

theorem Try.infoI : (Try.prog.info? 3).map (fun i => (i.zero, i.size, i.bytes)) = some (some (.int .i64 0), 1, 8) := by kernel_rfl
theorem elemI : Elem 27 3 1 8 := by
  obtain ⟨i, h1, h2, h3, h4⟩ := info_parts Try.infoI
  exact ⟨Try.underlying27, ⟨i, _, h1, h2, h3, h4, rfl⟩, by omega, by omega⟩
def vcells (l : List Int) : List Value := l.map fun x => Value.int .i64 x
theorem vcells_app (l r : List Int) : vcells (l ++ r) = vcells l ++ vcells r := by simp [vcells]
theorem vcells_one (l : List Int) : ∀ u ∈ vcells l, u.oneCell' = true := by
  intro u hu
  obtain ⟨i, _, rfl⟩ := List.mem_map.1 hu
  rfl
theorem vcells_length (l : List Int) : (vcells l).length = l.length := by simp [vcells]
/-- Rows of unlike elements lie in unlike blocks. -/
theorem rows_apart {w : World} {B B' e e' size size' n n' : Nat} {v v' : Value} {xs xs' : List Value} (h : w.ownsRow B e size v n xs) (h' : w.ownsRow B' e' size' v' n' xs') (hne : e ≠ e') (b : Nat) (hb : v.ownBlock = some b) : v'.ownBlock ≠ some b := by
  intro hb'
  rcases h.2 with ⟨rfl, _⟩ | ⟨g, cap, cur, rfl, _, hc, _⟩
  · simp [Value.ownBlock] at hb
  · rcases h'.2 with ⟨rfl, _⟩ | ⟨g', cap', cur', rfl, _, hc', _⟩
    · simp [Value.ownBlock] at hb'
    · simp [Value.ownBlock] at hb hb'
      subst hb hb'
      rw [hc] at hc'
      simp at hc'
      exact hne hc'.2
theorem app_none1 {t e size bytes : Nat} (he : Elem t e size bytes) (w : World) (b : Addr) (n cap c : Nat) (hn : n ≤ cap) :
    (Builtin.append_ #[t, t] t #[.slice (some b) n cap, .slice none 0 c]).run Try.prog w = .ok (.slice (some b) n cap) w := by
  obtain ⟨i, z, hi, _⟩ := he.info
  have ht := he.sl
  simp [Builtin.append_, run_underlying ht, sizeOf, typeInfo, hi, hn, Builtin.lenOf, Builtin.firstCells, go_sem, storeCells]
theorem app_none0 {t e size bytes : Nat} (he : Elem t e size bytes) (w : World) (c : Nat) :
    (Builtin.append_ #[t, t] t #[.slice none 0 0, .slice none 0 c]).run Try.prog w = .ok (.slice none 0 0) w := by
  obtain ⟨i, z, hi, _⟩ := he.info
  have ht := he.sl
  simp [Builtin.append_, run_underlying ht, sizeOf, typeInfo, hi, Builtin.lenOf, Builtin.firstCells, go_sem]
/-- Cells that are read: m elements of 'size' cells each. -/
def Cells (w : World) (a : Option Addr) (news : List Value) : Prop := news = [] ∨ ∃ g o, a = some ⟨g, o, none⟩ ∧ ∀ j u, news[j]? = some u → w.cell? ⟨g, o + j, none⟩ = some u
/-- append of whatever is read. -/
theorem app_any {t e size bytes : Nat} (he : Elem t e size bytes) {w : World} {B n : Nat} {v : Value} {xs : List Value} (ho : w.ownsRow B e size v n xs) (hB : B ≤ w.heap.size) (a : Option Addr) (m c : Nat) (news : List Value) (hl : news.length = m * size)
    (hnews : Cells w a news) (h1 : ∀ u ∈ news, u.oneCell' = true) (hn : n + m ≤ 1000000) :
    ∃ v' w', (Builtin.append_ #[t, t] t #[v, .slice a m c]).run Try.prog w = .ok v' w' ∧ w'.ownsRow B e size v' (n + m) (xs ++ news) ∧ Below B w w' ∧ w.grownBy w' v.ownBlock ∧ (v'.ownBlock = v.ownBlock ∨ v'.ownBlock = some w.heap.size) := by
  cases a with
  | some ad =>
    refine app_more he ho hB ad m c news hl (fun j u hu => ?_) h1 hn
    rcases hnews with rfl | ⟨g, o, e1, hc⟩
    · simp at hu
    · cases e1
      rw [Addr.add_mid]
      exact hc j u hu
  | none =>
    have h0 : news = [] := by
      rcases hnews with h | ⟨_, _, h, _⟩
      · exact h
      · cases h
    subst h0
    have hm : m = 0 := by
      have hp := he.pos
      have h2 : m * size = 0 := by simpa using hl.symm
      rcases Nat.mul_eq_zero.1 h2 with h | h
      · exact h
      · omega
    subst hm
    rw [Nat.add_zero, List.append_nil]
    have hg : w.grownBy w v.ownBlock := ⟨rfl, rfl, rfl, Nat.le_refl _, fun _ _ _ => rfl⟩
    rcases ho.2 with ⟨e1, _⟩ | ⟨g, cap, cur, e1, _, _, hc, _⟩
    · subst e1
      exact ⟨_, w, app_none0 he w c, ho, Below.refl _ _, hg, .inl rfl⟩
    · subst e1
      exact ⟨_, w, app_none1 he w _ _ cap c hc, ho, Below.refl _ _, hg, .inl rfl⟩
section
variable {a : Act} {w w' : World} {K : Act → World → Prop} {Q : Exit → Act → World → Prop} {dst : Option Tmp} {ty : TypeId} {pos : String} {after : Array Edge} {gd : Option (Nat × Bool)}
theorem wp_append {t : TypeId} (x y : Operand) (p q v : Value) (hx : a.eval x = p) (hy : a.eval y = q) (hr : (Builtin.append_ #[t, t] t #[p, q]).run Try.prog w = .ok v w') (h : K (a.put dst v) w') :
    Oper.wp Try.prog { dst := dst, op := .call { callee := .builtin .append, args := #[x, y], argTypes := #[t, t] }, type := t, pos := pos, after := after, guard := gd } a w K Q := by
  unfold Oper.wp execOp
  simp only [resolve, invoke, builtin, Sem.run_bind, Sem.run_pure, Result.andThen_ok, List.map_toArray, List.map_cons, List.map_nil, hx, hy, hr]
  exact h
end
/-- The empty row. -/
theorem own_empty (w : World) (B e size : Nat) (hB : B ≤ w.heap.size) : (w.alloc (.cells #[] e)).ownsRow B e size (.slice (some ⟨w.heap.size, 0, none⟩) 0 0) 0 [] := by
  refine ⟨by simp, .inr ⟨w.heap.size, 0, #[], rfl, hB, ?_, Nat.le_refl _, Nat.zero_le _, by simp, by simp⟩⟩
  show (w.heap.push (Obj.cells #[] e))[w.heap.size]? = _
  rw [Array.getElem?_push, if_pos rfl]
theorem own_base1 {w : World} {B B' e size n : Nat} {v : Value} {xs : List Value} (h : w.ownsRow B e size v n xs) (hB : B' ≤ B) : w.ownsRow B' e size v n xs := by
  refine ⟨h.1, ?_⟩
  rcases h.2 with hh | ⟨g, cap, cur, e1, hg, rest⟩
  · exact .inl hh
  · exact .inr ⟨g, cap, cur, e1, by omega, rest⟩
/-- A slot holds a row of the call's own. -/
def RowIn (B e size : Nat) (a : Act) (w : World) (s n : Nat) (xs : List Value) : Prop := ∃ v, a.tmps[s]? = some v ∧ w.ownsRow B e size v n xs
theorem RowIn.put {B e size : Nat} {a : Act} {w : World} {s n : Nat} {xs : List Value} (h : RowIn B e size a w s n xs) {t : Nat} (v : Value) (hne : t ≠ s) : RowIn B e size (a.put (some t) v) w s n xs := by
  obtain ⟨u, h1, h2⟩ := h
  exact ⟨u, by rw [slot_put v hne]; exact h1, h2⟩
theorem RowIn.later {B e size : Nat} {a : Act} {w w' : World} {s n : Nat} {xs : List Value} (h : RowIn B e size a w s n xs) (hb : Below w.heap.size w w') : RowIn B e size a w' s n xs := by
  obtain ⟨u, h1, h2⟩ := h
  exact ⟨u, h1, own_later h2 hb⟩
/-- A row of other elements that grows leaves it. -/
theorem RowIn.other {B e size e' size' n' : Nat} {a : Act} {w w' : World} {s n : Nat} {xs xs' : List Value} {v' : Value} (h : RowIn B e size a w s n xs) (ho : w.ownsRow B e' size' v' n' xs') (hne : e ≠ e') (hg : w.grownBy w' v'.ownBlock) : RowIn B e size a w' s n xs := by
  obtain ⟨u, h1, h2⟩ := h
  refine ⟨u, h1, h2.kept hg ?_⟩
  cases hu : u.ownBlock with
  | none => exact .inl rfl
  | some b => exact .inr fun e9 => rows_apart h2 ho hne b hu e9.symm
/-- A chain: nothing; the empty row; the first part; both. -/
def Gone (B e size s1 s2 s3 n1 n2 : Nat) (xs ys : List Value) (i : Nat) (a : Act) (w : World) : Prop :=
  i = 0 ∨ (i = 1 ∧ RowIn B e size a w s1 0 []) ∨ (i = 2 ∧ RowIn B e size a w s2 n1 xs) ∨ (i = 3 ∧ RowIn B e size a w s3 (n1 + n2) (xs ++ ys))
section
variable {B e size s1 s2 s3 n1 n2 : Nat} {xs ys : List Value} {i : Nat} {a : Act} {w w' : World}
theorem Gone.put (h : Gone B e size s1 s2 s3 n1 n2 xs ys i a w) {t : Nat} (v : Value) (h1 : t ≠ s1) (h2 : t ≠ s2) (h3 : t ≠ s3) : Gone B e size s1 s2 s3 n1 n2 xs ys i (a.put (some t) v) w := by
  rcases h with h | ⟨h, k⟩ | ⟨h, k⟩ | ⟨h, k⟩
  · exact .inl h
  · exact .inr (.inl ⟨h, k.put v h1⟩)
  · exact .inr (.inr (.inl ⟨h, k.put v h2⟩))
  · exact .inr (.inr (.inr ⟨h, k.put v h3⟩))
theorem Gone.later (h : Gone B e size s1 s2 s3 n1 n2 xs ys i a w) (hb : Below w.heap.size w w') : Gone B e size s1 s2 s3 n1 n2 xs ys i a w' := by
  rcases h with h | ⟨h, k⟩ | ⟨h, k⟩ | ⟨h, k⟩
  · exact .inl h
  · exact .inr (.inl ⟨h, k.later hb⟩)
  · exact .inr (.inr (.inl ⟨h, k.later hb⟩))
  · exact .inr (.inr (.inr ⟨h, k.later hb⟩))
theorem Gone.other {e' size' n' : Nat} {xs' : List Value} {v' : Value} (h : Gone B e size s1 s2 s3 n1 n2 xs ys i a w) (ho : w.ownsRow B e' size' v' n' xs') (hne : e ≠ e') (hg : w.grownBy w' v'.ownBlock) : Gone B e size s1 s2 s3 n1 n2 xs ys i a w' := by
  rcases h with h | ⟨h, k⟩ | ⟨h, k⟩ | ⟨h, k⟩
  · exact .inl h
  · exact .inr (.inl ⟨h, k.other ho hne hg⟩)
  · exact .inr (.inr (.inl ⟨h, k.other ho hne hg⟩))
  · exact .inr (.inr (.inr ⟨h, k.other ho hne hg⟩))
end
theorem Cells.later {w w' : World} {a : Option Addr} {l : List Value} (h : Cells w a l) (hb : Below w.heap.size w w') : Cells w' a l := by
  rcases h with h | ⟨g, o, e, hc⟩
  · exact .inl h
  · exact .inr ⟨g, o, e, fun j u hu => by rw [hb.cell (p := ⟨g, o + j, none⟩) (World.block_lt_of_cell? w _ (hc j u hu))]; exact hc j u hu⟩
section
variable {a : Act} {w : World} {dst : Option Tmp} {ty : TypeId} {pos : String} {after : Array Edge} {K : Act → World → Prop} {Q : Exit → Act → World → Prop}
theorem wp_emptyI (h : K (a.put dst (.slice (some ⟨w.heap.size, 0, none⟩) 0 0)) (w.alloc (.cells #[] 3))) : Oper.wp Try.prog { dst := dst, op := .buildSlice 27 0 #[], type := ty, pos := pos, after := after, guard := none } a w K Q := by
  have hr : (execOp a.eval { dst := dst, op := .buildSlice 27 0 #[], type := ty, pos := pos, after := after, guard := none }).run Try.prog w = .ok (.value (.slice (some ⟨w.heap.size, 0, none⟩) 0 0)) (w.alloc (.cells #[] 3)) := by
    unfold execOp
    simp [go_sem]
  unfold Oper.wp
  rw [hr]
  exact h
theorem wp_oneI (x : Nat) (V : Int) (hx : a.tmps[x]? = some (.int .i64 V)) (h : K (a.put dst (.slice (some ⟨w.heap.size, 0, none⟩) 1 1)) (w.alloc (.cells #[.int .i64 V] 3))) : Oper.wp Try.prog { dst := dst, op := .buildSlice 27 1 #[(0, .tmp x)], type := ty, pos := pos, after := after, guard := none } a w K Q := by
  have hr : (execOp a.eval { dst := dst, op := .buildSlice 27 1 #[(0, .tmp x)], type := ty, pos := pos, after := after, guard := none }).run Try.prog w = .ok (.value (.slice (some ⟨w.heap.size, 0, none⟩) 1 1)) (w.alloc (.cells #[.int .i64 V] 3)) := by
    unfold execOp
    simp [hx, go_sem]
  unfold Oper.wp
  rw [hr]
  exact h
end
/-- A chain: the row; one element beside it; the row with it. -/
def More (H top e size s1 s2 n : Nat) (v : Value) (xs new : List Value) (i : Nat) (a : Act) (w : World) : Prop :=
  (i = 0 ∧ w.ownsRow H e size v n xs) ∨ (i = 1 ∧ w.ownsRow H e size v n xs ∧ ∃ g, a.tmps[s1]? = some (.slice (some ⟨g, 0, none⟩) 1 1) ∧ top ≤ g ∧ g < w.heap.size ∧ ∀ j u, new[j]? = some u → w.cell? ⟨g, 0 + j, none⟩ = some u) ∨
  (i = 2 ∧ ∃ v', a.tmps[s2]? = some v' ∧ w.ownsRow H e size v' (n + 1) (xs ++ new) ∧ ∀ b, v'.ownBlock = some b → v.ownBlock = some b ∨ top ≤ b)
section
variable {H top e size s1 s2 n : Nat} {v : Value} {xs new : List Value} {i : Nat} {a : Act} {w w' : World}
theorem More.put (h : More H top e size s1 s2 n v xs new i a w) {t : Nat} (u : Value) (h1 : t ≠ s1) (h2 : t ≠ s2) : More H top e size s1 s2 n v xs new i (a.put (some t) u) w := by
  rcases h with ⟨h, k⟩ | ⟨h, k, g, q1, q2, q3⟩ | ⟨h, v', q1, q2, q3⟩
  · exact .inl ⟨h, k⟩
  · exact .inr (.inl ⟨h, k, g, by rw [slot_put u h1]; exact q1, q2, q3⟩)
  · exact .inr (.inr ⟨h, v', by rw [slot_put u h2]; exact q1, q2, q3⟩)
theorem More.later (h : More H top e size s1 s2 n v xs new i a w) (hb : Below w.heap.size w w') : More H top e size s1 s2 n v xs new i a w' := by
  rcases h with ⟨h, k⟩ | ⟨h, k, g, q1, q2, q3, q4⟩ | ⟨h, v', q1, q2, q3⟩
  · exact .inl ⟨h, own_later k hb⟩
  · exact .inr (.inl ⟨h, own_later k hb, g, q1, q2, Nat.lt_of_lt_of_le q3 hb.size, fun j u hu => by rw [hb.cell (p := ⟨g, 0 + j, none⟩) q3]; exact q4 j u hu⟩)
  · exact .inr (.inr ⟨h, v', q1, own_later q2 hb, q3⟩)
theorem More.other {H' e' size' n' : Nat} {xs' : List Value} {v' : Value} (h : More H top e size s1 s2 n v xs new i a w) (ho : w.ownsRow H' e' size' v' n' xs') (hne : e ≠ e') (hg : w.grownBy w' v'.ownBlock) (ht : ∀ b, v'.ownBlock = some b → b < top) : More H top e size s1 s2 n v xs new i a w' := by
  have keep : ∀ {u : Value} {m : Nat} {zs : List Value}, w.ownsRow H e size u m zs → w'.ownsRow H e size u m zs := fun {u m zs} hu => hu.kept hg (by
    cases e9 : u.ownBlock with
    | none => exact .inl rfl
    | some b => exact .inr fun e8 => rows_apart hu ho hne b e9 e8.symm)
  rcases h with ⟨h, k⟩ | ⟨h, k, g, q1, q2, q3, q4⟩ | ⟨h, v9, q1, q2, q3⟩
  · exact .inl ⟨h, keep k⟩
  · refine .inr (.inl ⟨h, keep k, g, q1, q2, Nat.lt_of_lt_of_le q3 hg.size, fun j u hu => ?_⟩)
    rw [World.cell?_of_block (w := w) (hg.block g q3 fun e9 => by have := ht g e9.symm; omega)]
    exact q4 j u hu
  · exact .inr (.inr ⟨h, v9, q1, keep q2, q3⟩)
end
theorem vcells_set (l : List Int) (i : Nat) (a : Int) : (vcells l).set i (.int .i64 a) = vcells (l.set i a) := by
  unfold vcells
  rw [List.map_set]
theorem vcells_get {l : List Int} {i : Nat} {a : Int} (h : l[i]? = some a) : (vcells l)[i]? = some (.int .i64 a) := by
  unfold vcells
  rw [List.getElem?_map, h]
  rfl
/-- A stretch of a row. -/
theorem cells_part {w : World} {H e size g n c : Nat} {xs : List Value} (h : w.ownsRow H e size (.slice (some ⟨g, 0, none⟩) n c) n xs) (P M R : List Value) (hx : xs = P ++ M ++ R) (o : Nat) (ho : o = P.length) : Cells w (some ⟨g, o, none⟩) M := by
  refine .inr ⟨g, o, rfl, fun j u hu => ?_⟩
  have hj : j < M.length := (List.getElem?_eq_some_iff.1 hu).1
  have hl := h.1
  rw [hx, List.length_append, List.length_append] at hl
  rw [h.cellAt (o + j) (by omega), hx, ho, List.append_assoc, List.getElem?_append_right (by omega), List.getElem?_append_left (by omega)]
  rw [← hu]
  congr 1
  omega
end Go.Proofs.Ythbgalknhodgnaa
