/- Rows of routes by their cells: taken apart, put together. -/
import Derived.Test.YtolpaimmmhoiiaaHDp
namespace Go.Proofs.Ytolpaimmmhoiiaa
open Go.RowKit
set_option maxRecDepth 100000

theorem Try.infoRoute15 : (Try.prog.info? 41).map (fun i => (i.zero, i.size, i.bytes)) = some (some (.agg zR), 11, 136) := by kernel_rfl
theorem elemRt : Elem 23 41 11 136 := by
  obtain ⟨i, h1, h2, h3, h4⟩ := info_parts Try.infoRoute15
  exact ⟨Try.underlying23, ⟨i, _, h1, h2, h3, h4, rfl⟩, by omega, by omega⟩
/-- The cells of routes, and what they lead to. -/
structure RowsC (w : World) (xs : List Value) (all : List Rt) : Prop where
  len : xs.length = all.length * 11
  one : ∀ u ∈ xs, u.oneCell' = true
  at1 : ∀ (i : Nat) (r : Rt), all[i]? = some r → ∃ pa pc ca cc ra rc, (∀ j v, (rtC pa pc ca cc ra rc r)[j]? = some v → xs[i * 11 + j]? = some v) ∧ AtRd w pa ca ra r.att
theorem RowsC.below {w w' : World} {xs : List Value} {all : List Rt} (h : RowsC w xs all) (hb : Below w.heap.size w w') : RowsC w' xs all :=
  ⟨h.len, h.one, fun i r hr => by
    obtain ⟨pa, pc, ca, cc, ra, rc, h1, h2⟩ := h.at1 i r hr
    exact ⟨pa, pc, ca, cc, ra, rc, h1, h2.below hb⟩⟩
theorem RowsC.nil (w : World) : RowsC w [] [] := ⟨rfl, by simp, by simp⟩
theorem RowsC.app {w : World} {xs ys : List Value} {l m : List Rt} (h : RowsC w xs l) (k : RowsC w ys m) : RowsC w (xs ++ ys) (l ++ m) := by
  refine ⟨by rw [List.length_append, List.length_append, h.len, k.len]; omega, fun u hu => ?_, fun i r hr => ?_⟩
  · rcases List.mem_append.1 hu with hu | hu
    · exact h.one u hu
    · exact k.one u hu
  · by_cases hi : i < l.length
    · rw [List.getElem?_append_left hi] at hr
      obtain ⟨pa, pc, ca, cc, ra, rc, h1, h2⟩ := h.at1 i r hr
      refine ⟨pa, pc, ca, cc, ra, rc, fun j v hv => ?_, h2⟩
      have hj : j < 11 := by have := (Array.getElem?_eq_some_iff.1 hv).1; simpa [rtC] using this
      rw [List.getElem?_append_left (by rw [h.len]; omega)]
      exact h1 j v hv
    · rw [List.getElem?_append_right (by omega)] at hr
      obtain ⟨pa, pc, ca, cc, ra, rc, h1, h2⟩ := k.at1 _ r hr
      refine ⟨pa, pc, ca, cc, ra, rc, fun j v hv => ?_, h2⟩
      rw [List.getElem?_append_right (by rw [h.len]; omega), h.len]
      have e : i * 11 + j - l.length * 11 = (i - l.length) * 11 + j := by omega
      rw [e]
      exact h1 j v hv
theorem RowsC.drop {w : World} {xs : List Value} {l : List Rt} (h : RowsC w xs l) (k : Nat) : RowsC w (xs.drop (k * 11)) (l.drop k) := by
  refine ⟨by rw [List.length_drop, List.length_drop, h.len]; omega, fun u hu => h.one u (List.mem_of_mem_drop hu), fun i r hr => ?_⟩
  rw [List.getElem?_drop] at hr
  obtain ⟨pa, pc, ca, cc, ra, rc, h1, h2⟩ := h.at1 _ r hr
  refine ⟨pa, pc, ca, cc, ra, rc, fun j v hv => ?_, h2⟩
  rw [List.getElem?_drop, show k * 11 + (i * 11 + j) = (k + i) * 11 + j from by omega]
  exact h1 j v hv
theorem RowsC.take {w : World} {xs : List Value} {l : List Rt} (h : RowsC w xs l) (k : Nat) : RowsC w (xs.take (k * 11)) (l.take k) := by
  refine ⟨by rw [List.length_take, List.length_take, h.len]; omega, fun u hu => h.one u (List.mem_of_mem_take hu), fun i r hr => ?_⟩
  have hi : i < k := by
    have := (List.getElem?_eq_some_iff.1 hr).1
    rw [List.length_take] at this
    omega
  rw [List.getElem?_take_of_lt hi] at hr
  obtain ⟨pa, pc, ca, cc, ra, rc, h1, h2⟩ := h.at1 _ r hr
  refine ⟨pa, pc, ca, cc, ra, rc, fun j v hv => ?_, h2⟩
  have hj : j < 11 := by have := (Array.getElem?_eq_some_iff.1 hv).1; simpa [rtC] using this
  rw [List.getElem?_take_of_lt (by omega)]
  exact h1 j v hv
theorem rows_of {w : World} {al : Option Addr} {all : List Rt} (R : RtsRd w al all) (hp : 0 < all.length) : ∃ b off xs, al = some ⟨b, off, none⟩ ∧ RowsC w xs all ∧ ∀ j u, xs[j]? = some u → w.cell? ⟨b, off + j, none⟩ = some u := by
  obtain ⟨b, off, e, hc⟩ := R hp
  have key : ∀ q, q < all.length * 11 → ∃ u, w.cell? ⟨b, off + q, none⟩ = some u ∧ u.oneCell' = true := fun q hq => by
    have hi : q / 11 < all.length := by omega
    obtain ⟨pa, pc, ca, cc, ra, rc, h1, _⟩ := hc (q / 11) _ (List.getElem?_eq_getElem hi)
    have hs : q % 11 < (rtC pa pc ca cc ra rc all[q / 11]).size := by simp [rtC]; omega
    refine ⟨_, by rw [show off + q = off + q / 11 * 11 + q % 11 from by omega]; exact h1 (q % 11) _ (Array.getElem?_eq_getElem hs), ?_⟩
    have := (RC.rt pa pc ca cc ra rc all[q / 11]).2
    rw [Array.all_eq_true'] at this
    exact this _ (Array.getElem_mem hs)
  refine ⟨b, off, (List.range (all.length * 11)).map (fun j => (w.cell? ⟨b, off + j, none⟩).getD undef), e, ⟨by simp, fun u hu => ?_, fun i r hr => ?_⟩, fun j u hu => ?_⟩
  · obtain ⟨q, hq, rfl⟩ := List.mem_map.1 hu
    obtain ⟨u, h1, h2⟩ := key q (by simpa using hq)
    rw [h1]
    exact h2
  · obtain ⟨pa, pc, ca, cc, ra, rc, h1, h2⟩ := hc i r hr
    refine ⟨pa, pc, ca, cc, ra, rc, fun j v hv => ?_, h2⟩
    have hi := (List.getElem?_eq_some_iff.1 hr).1
    have hj : j < 11 := by have := (Array.getElem?_eq_some_iff.1 hv).1; simpa [rtC] using this
    have := h1 j v hv
    rw [show off + i * 11 + j = off + (i * 11 + j) from by omega] at this
    have hq : i * 11 + j < all.length * 11 := by omega
    simp [hq, this]
  · have hj : j < all.length * 11 := by have := (List.getElem?_eq_some_iff.1 hu).1; simpa using this
    obtain ⟨u', h1, _⟩ := key j hj
    simp [hj, h1] at hu
    rw [← hu]
    exact h1
theorem RowsC.own {w : World} {B : Nat} {v : Value} {xs : List Value} {l : List Rt} (h : RowsC w xs l) (ho : w.ownsRow B 41 11 v l.length xs) : ∃ a c, v = .slice a l.length c ∧ RtsRd w a l := by
  rcases ho.2 with ⟨rfl, h0⟩ | ⟨g, cap, cur, rfl, hg, hc, rest⟩
  · exact ⟨none, 0, by rw [h0], fun hp => absurd hp (by omega)⟩
  · refine ⟨_, _, rfl, fun hp => ⟨g, 0, rfl, fun i r hr => ?_⟩⟩
    obtain ⟨pa, pc, ca, cc, ra, rc, h1, h2⟩ := h.at1 i r hr
    have hi := (List.getElem?_eq_some_iff.1 hr).1
    refine ⟨pa, pc, ca, cc, ra, rc, fun j v hv => ?_, h2⟩
    have hj : j < 11 := by have := (Array.getElem?_eq_some_iff.1 hv).1; simpa [rtC] using this
    rw [Nat.zero_add]
    have := World.ownsRow.cellAt ho (i * 11 + j) (by omega)
    rw [this]
    exact h1 j v hv
theorem run_from (w : World) (b off m c k : Nat) (h : k ≤ m) : (Instr.sliceAt 23 (.slice (some ⟨b, off, none⟩) m c) (some (.int .i64 (k : Int))) none none).run Try.prog w = .ok (.slice (some (if c = k then ⟨b, off, none⟩ else ⟨b, off + k * 11, none⟩)) (m - k) (c - k)) w := by
  have ht := Try.underlying23
  obtain ⟨i, h1, h2, h3, h4⟩ := info_parts Try.infoRoute15
  by_cases hck : c = k
  · simp [Instr.sliceAt, Instr.slice, run_underlying ht, Instr.sliceBounds, run_sliceBound, h, sizeOf, typeInfo, h1, h3, hck]
  · simp [Instr.sliceAt, Instr.slice, run_underlying ht, Instr.sliceBounds, run_sliceBound, h, sizeOf, typeInfo, h1, h3, hck, Addr.add_lit]
theorem run_till (w : World) (b off m c k : Nat) (h : k ≤ c) : (Instr.sliceAt 23 (.slice (some ⟨b, off, none⟩) m c) none (some (.int .i64 (k : Int))) none).run Try.prog w = .ok (.slice (some ⟨b, off, none⟩) k c) w := by
  have ht := Try.underlying23
  obtain ⟨i, h1, h2, h3, h4⟩ := info_parts Try.infoRoute15
  simp [Instr.sliceAt, Instr.slice, run_underlying ht, Instr.sliceBounds, run_sliceBound, h, sizeOf, typeInfo, h1, Addr.add_lit]
section
variable {P : Program} {a : Act} {w w' : World} {K : Act → World → Prop} {Q : Exit → Act → World → Prop} {dst : Option Tmp} {ty : TypeId} {pos : String} {after : Array Edge} {gd : Option (Nat × Bool)}
theorem wp_app {t : TypeId} (x y : Operand) (p q v : Value) (hx : a.eval x = p) (hy : a.eval y = q) (hr : (Builtin.append_ #[t, t] ty #[p, q]).run P w = .ok v w') (h : K (a.put dst v) w') : Oper.wp P { dst := dst, op := .call { callee := .builtin .append, args := #[x, y], argTypes := #[t, t] }, type := ty, pos := pos, after := after, guard := gd } a w K Q := by
  unfold Oper.wp execOp
  simp only [resolve, invoke, builtin, Sem.run_bind, Sem.run_pure, Result.andThen_ok, List.map_toArray, List.map_cons, List.map_nil, hx, hy, hr]
  exact h
theorem wp_build0 {t : TypeId} (n : Nat) (v : Value) (hr : (Instr.buildSlice t n #[]).run P w = .ok v w') (h : K (a.put dst v) w') : Oper.wp P { dst := dst, op := .buildSlice t n #[], type := ty, pos := pos, after := after, guard := gd } a w K Q := by
  unfold Oper.wp execOp
  have e : ((#[] : Array (Nat × Operand)).map fun (i, x) => (i, a.eval x)) = #[] := by simp
  simp only [e, Sem.run_bind, hr, Result.andThen_ok, Sem.run_pure]
  exact h
end
section
variable {ρ : Operand → Value} {dst : Option Nat} {ty : Nat} {pos : String} {after : Array Edge} {gd : Option (Nat × Bool)}
theorem exec_from {w : World} {t : Nat} {x y : Operand} {xv yv v : Value} (hx : ρ x = xv) (hy : ρ y = yv) (hr : (Instr.sliceAt t xv (some yv) none none).run Try.prog w = .ok v w) :
    (execOp ρ { dst := dst, op := .slice t x (some y) none none, type := ty, pos := pos, after := after, guard := gd }).run Try.prog w = .ok (.value v) w := by
  unfold execOp
  simp only [hx, hy, Option.map_some, Option.map_none, Sem.run_bind, hr, Result.andThen_ok, Sem.run_pure]
theorem exec_till {w : World} {t : Nat} {x y : Operand} {xv yv v : Value} (hx : ρ x = xv) (hy : ρ y = yv) (hr : (Instr.sliceAt t xv none (some yv) none).run Try.prog w = .ok v w) :
    (execOp ρ { dst := dst, op := .slice t x none (some y) none, type := ty, pos := pos, after := after, guard := gd }).run Try.prog w = .ok (.value v) w := by
  unfold execOp
  simp only [hx, hy, Option.map_some, Option.map_none, Sem.run_bind, hr, Result.andThen_ok, Sem.run_pure]
end
theorem run_norows (w : World) : (Instr.buildSlice 23 0 #[]).run Try.prog w = .ok (.slice (some ⟨w.heap.size, 0, none⟩) 0 0) (w.alloc (.cells #[] 41)) := by kernel_rfl
/-- append(own row, a row that is read). -/
theorem rows_app {w : World} {B : Nat} {v : Value} {xs ys : List Value} {l m : List Rt} (ho : w.ownsRow B 41 11 v l.length xs) (hy : RowsC w ys m) (hB : B ≤ w.heap.size) (b off c : Nat) (hc : ∀ j u, ys[j]? = some u → w.cell? ⟨b, off + j, none⟩ = some u) (hl : l.length + m.length ≤ 10000) :
    ∃ v' w', (Builtin.append_ #[23, 23] 23 #[v, .slice (some ⟨b, off, none⟩) m.length c]).run Try.prog w = .ok v' w' ∧ w'.ownsRow B 41 11 v' (l ++ m).length (xs ++ ys) ∧ Below B w w' := by
  obtain ⟨v', w', hr, h2, h3, _⟩ := app_more elemRt ho hB ⟨b, off, none⟩ m.length c ys (by rw [hy.len]) (fun j u hu => by rw [Addr.add_mid]; exact hc j u hu) hy.one (by omega)
  exact ⟨v', w', hr, by rw [List.length_append]; exact h2, h3⟩
theorem turn_rows {w : World} {b off : Nat} {xs : List Value} {all : List Rt} {k : Nat} (h : RowsC w xs all) (hc : ∀ j u, xs[j]? = some u → w.cell? ⟨b, off + j, none⟩ = some u) (hk : k < all.length) (hl : all.length ≤ 3000) (W : World) (hb : Below w.heap.size w W) (c1 c2 : Nat) :
    ∃ v6 w6 a c w10, (Builtin.append_ #[23, 23] 23 #[.slice (some ⟨W.heap.size, 0, none⟩) 0 0, .slice (some ⟨b, off + k * 11, none⟩) (all.length - k) c1]).run Try.prog (W.alloc (.cells #[] 41)) = .ok v6 w6 ∧ (Builtin.append_ #[23, 23] 23 #[v6, .slice (some ⟨b, off, none⟩) k c2]).run Try.prog w6 = .ok (.slice a (turnR k all).length c) w10 ∧ RtsRd w10 a (turnR k all) ∧ Below W.heap.size W w6 ∧ Below W.heap.size W w10 := by
  have hb0 : Below w.heap.size w (W.alloc (.cells #[] 41)) := hb.alloc hb.size _
  have old : ∀ {w' : World} (hw : Below w.heap.size w w') (j : Nat) (u : Value), xs[j]? = some u → w'.cell? ⟨b, off + j, none⟩ = some u := fun hw j u hu => by
    rw [hw.cell (p := ⟨b, off + j, none⟩) (World.block_lt_of_cell? w _ (hc j u hu))]
    exact hc j u hu
  have hd : RowsC (W.alloc (.cells #[] 41)) (xs.drop (k * 11)) (all.drop k) := (h.drop k).below hb0
  obtain ⟨v6, w6, r6, o6, b6⟩ := rows_app (l := []) (m := all.drop k) (own_empty W 41 11) hd (by simp) b (off + k * 11) c1 (fun j u hu => by
    rw [List.getElem?_drop] at hu
    rw [show off + k * 11 + j = off + (k * 11 + j) from by omega]
    exact old hb0 _ u hu) (by simp; omega)
  have hb6 : Below W.heap.size W w6 := ((Below.refl _ _).alloc (Nat.le_refl _) _).trans b6
  have hw6 : Below w.heap.size w w6 := hb.trans (hb6.mono hb.size)
  obtain ⟨v10, w10, r10, o10, b10⟩ := rows_app o6 ((h.take k).below hw6) hb6.size b off c2 (fun j u hu => by
    have hj : j < k * 11 := by
      have := (List.getElem?_eq_some_iff.1 hu).1
      rw [List.length_take] at this
      omega
    rw [List.getElem?_take_of_lt hj] at hu
    exact old hw6 j u hu) (by simp; omega)
  have hb10 : Below W.heap.size W w10 := hb6.trans b10
  have hw10 : Below w.heap.size w w10 := hb.trans (hb10.mono hb.size)
  have hrow : RowsC w10 ([] ++ xs.drop (k * 11) ++ xs.take (k * 11)) ([] ++ all.drop k ++ all.take k) := ((RowsC.nil w10).app ((h.drop k).below hw10)).app ((h.take k).below hw10)
  obtain ⟨a, c, e, hr⟩ := hrow.own o10
  have e1 : [] ++ all.drop k ++ all.take k = turnR k all := rfl
  rw [e1] at e hr
  rw [List.length_drop] at r6
  rw [List.length_take, Nat.min_eq_left (by omega), e] at r10
  exact ⟨v6, w6, a, c, w10, r6, r10, hr, hb6, hb10⟩
theorem less_rows {w : World} {b off : Nat} {xs : List Value} {all : List Rt} {k : Nat} (h : RowsC w xs all) (hc : ∀ j u, xs[j]? = some u → w.cell? ⟨b, off + j, none⟩ = some u) (hk : k < all.length) (hl : all.length ≤ 3000) (W : World) (hb : Below w.heap.size w W) (cl c1 c2 : Nat) (hcl : all.length ≤ cl) :
    ∃ v6 w6 a c w10, (Builtin.append_ #[23, 23] 23 #[.slice (some ⟨W.heap.size, 0, none⟩) 0 0, .slice (some ⟨b, off, none⟩) k c1]).run Try.prog (W.alloc (.cells #[] 41)) = .ok v6 w6 ∧ (Builtin.append_ #[23, 23] 23 #[v6, .slice (some (if cl = k + 1 then ⟨b, off, none⟩ else ⟨b, off + (k + 1) * 11, none⟩)) (all.length - (k + 1)) c2]).run Try.prog w6 = .ok (.slice a (lessR k all).length c) w10 ∧ RtsRd w10 a (lessR k all) ∧ Below W.heap.size W w6 ∧ Below W.heap.size W w10 := by
  have hb0 : Below w.heap.size w (W.alloc (.cells #[] 41)) := hb.alloc hb.size _
  have old : ∀ {w' : World} (hw : Below w.heap.size w w') (j : Nat) (u : Value), xs[j]? = some u → w'.cell? ⟨b, off + j, none⟩ = some u := fun hw j u hu => by
    rw [hw.cell (p := ⟨b, off + j, none⟩) (World.block_lt_of_cell? w _ (hc j u hu))]
    exact hc j u hu
  have ht : RowsC (W.alloc (.cells #[] 41)) (xs.take (k * 11)) (all.take k) := (h.take k).below hb0
  obtain ⟨v6, w6, r6, o6, b6⟩ := rows_app (l := []) (m := all.take k) (own_empty W 41 11) ht (by simp) b off c1 (fun j u hu => by
    have hj : j < k * 11 := by
      have := (List.getElem?_eq_some_iff.1 hu).1
      rw [List.length_take] at this
      omega
    rw [List.getElem?_take_of_lt hj] at hu
    exact old hb0 j u hu) (by simp; omega)
  have hb6 : Below W.heap.size W w6 := ((Below.refl _ _).alloc (Nat.le_refl _) _).trans b6
  have hw6 : Below w.heap.size w w6 := hb.trans (hb6.mono hb.size)
  have hd6 : RowsC w6 (xs.drop ((k + 1) * 11)) (all.drop (k + 1)) := (h.drop (k + 1)).below hw6
  have h10 : ∃ v' w', (Builtin.append_ #[23, 23] 23 #[v6, .slice (some (if cl = k + 1 then ⟨b, off, none⟩ else ⟨b, off + (k + 1) * 11, none⟩)) (all.drop (k + 1)).length c2]).run Try.prog w6 = .ok v' w' ∧ w'.ownsRow W.heap.size 41 11 v' ([] ++ all.take k ++ all.drop (k + 1)).length ([] ++ xs.take (k * 11) ++ xs.drop ((k + 1) * 11)) ∧ Below W.heap.size w6 w' := by
    by_cases e : cl = k + 1
    · rw [if_pos e]
      refine rows_app o6 hd6 hb6.size b off c2 (fun j u hu => ?_) (by simp; omega)
      exfalso
      have := (List.getElem?_eq_some_iff.1 hu).1
      rw [hd6.len, List.length_drop] at this
      omega
    · rw [if_neg e]
      refine rows_app o6 hd6 hb6.size b (off + (k + 1) * 11) c2 (fun j u hu => ?_) (by simp; omega)
      rw [List.getElem?_drop] at hu
      rw [show off + (k + 1) * 11 + j = off + ((k + 1) * 11 + j) from by omega]
      exact old hw6 _ u hu
  obtain ⟨v10, w10, r10, o10, b10⟩ := h10
  have hb10 : Below W.heap.size W w10 := hb6.trans b10
  have hw10 : Below w.heap.size w w10 := hb.trans (hb10.mono hb.size)
  have hrow : RowsC w10 ([] ++ xs.take (k * 11) ++ xs.drop ((k + 1) * 11)) ([] ++ all.take k ++ all.drop (k + 1)) := ((RowsC.nil w10).app ((h.take k).below hw10)).app ((h.drop (k + 1)).below hw10)
  obtain ⟨a, c, e, hr⟩ := hrow.own o10
  have e1 : [] ++ all.take k ++ all.drop (k + 1) = lessR k all := rfl
  rw [e1] at e hr
  rw [List.length_take, Nat.min_eq_left (by omega)] at r6
  rw [List.length_drop, e] at r10
  exact ⟨v6, w6, a, c, w10, r6, r10, hr, hb6, hb10⟩
end Go.Proofs.Ytolpaimmmhoiiaa
/- Of two routes that differ in one thing alone: which one is the best, in plain words. -/
namespace Go.Proofs.Ytolpaimmmhoiiaa
open Go.RowKit
set_option maxRecDepth 100000

/-- One question after the other tells nothing between them, till one does. -/
def Wins (num : Int) (infos : List Inf) (a b : Rt) : Prop := ∃ t, t < 9 ∧ (∀ s, s < t → scoreR s num infos [a, b] a = scoreR s num infos [a, b] b) ∧ scoreR t num infos [a, b] a < scoreR t num infos [a, b] b
theorem score_swap (s : Nat) (num : Int) (infos : List Inf) (a b r : Rt) (hs : s < 9) : scoreR s num infos [b, a] r = scoreR s num infos [a, b] r := by
  by_cases h5 : s = 5
  · subst h5
    show (if [b, a].any (lower r) = true then (1 : Int) else 0) = (if [a, b].any (lower r) = true then (1 : Int) else 0)
    have e : [b, a].any (lower r) = [a, b].any (lower r) := by cases h1 : lower r a <;> cases h2 : lower r b <;> simp [h1, h2]
    rw [e]
  · exact scoreR_any hs h5 _ _ _ _ _
theorem pick_two (a b : Rt) : pickL [a, b] [0, 1] = [a, b] := rfl
theorem step_tie {s : Nat} {num : Int} {infos : List Inf} {a b : Rt} (h : scoreR s num infos [a, b] a = scoreR s num infos [a, b] b) : stepB s num infos [a, b] [0, 1] = [0, 1] := by
  have e0 : scoreJ s num infos [a, b] [0, 1] 0 = scoreR s num infos [a, b] a := rfl
  have e1 : scoreJ s num infos [a, b] [0, 1] 1 = scoreR s num infos [a, b] b := rfl
  unfold stepB
  generalize scoreJ s num infos [a, b] [0, 1] = f at *
  rw [h] at e0
  simp [leastB, e0, e1]
theorem step_one {s : Nat} {num : Int} {infos : List Inf} {a b : Rt} (h : scoreR s num infos [a, b] a < scoreR s num infos [a, b] b) : stepB s num infos [a, b] [0, 1] = [0] := by
  have e0 : scoreJ s num infos [a, b] [0, 1] 0 = scoreR s num infos [a, b] a := rfl
  have e1 : scoreJ s num infos [a, b] [0, 1] 1 = scoreR s num infos [a, b] b := rfl
  unfold stepB
  generalize scoreJ s num infos [a, b] [0, 1] = f at *
  generalize scoreR s num infos [a, b] a = x at *
  generalize scoreR s num infos [a, b] b = y at *
  have h1 : ¬ y < x := by omega
  have h2 : ¬ y = x := by omega
  simp [leastB, e0, e1, h1, h2]
theorem step_two {s : Nat} {num : Int} {infos : List Inf} {a b : Rt} (h : scoreR s num infos [a, b] b < scoreR s num infos [a, b] a) : stepB s num infos [a, b] [0, 1] = [1] := by
  have e0 : scoreJ s num infos [a, b] [0, 1] 0 = scoreR s num infos [a, b] a := rfl
  have e1 : scoreJ s num infos [a, b] [0, 1] 1 = scoreR s num infos [a, b] b := rfl
  unfold stepB
  generalize scoreJ s num infos [a, b] [0, 1] = f at *
  generalize scoreR s num infos [a, b] a = x at *
  generalize scoreR s num infos [a, b] b = y at *
  have h2 : ¬ x = y := by omega
  simp [leastB, e0, e1, h, h2]
theorem step_lone (s : Nat) (num : Int) (infos : List Inf) (all : List Rt) (j : Nat) : stepB s num infos all [j] = [j] := by
  unfold stepB
  simp [leastB]
theorem steps_from {num : Int} {infos : List Inf} {all : List Rt} {js : List Nat} {t j : Nat} (h : stepsB num infos all js t = [j]) : ∀ d, stepsB num infos all js (t + d) = [j]
  | 0 => h
  | d + 1 => by
    show stepB (t + d) num infos all (stepsB num infos all js (t + d)) = [j]
    rw [steps_from h d]
    exact step_lone _ _ _ _ _
theorem steps_ties {num : Int} {infos : List Inf} {a b : Rt} : ∀ t, (∀ s, s < t → scoreR s num infos [a, b] a = scoreR s num infos [a, b] b) → stepsB num infos [a, b] [0, 1] t = [0, 1]
  | 0, _ => rfl
  | t + 1, h => by
    show stepB t num infos [a, b] (stepsB num infos [a, b] [0, 1] t) = [0, 1]
    rw [steps_ties t fun s hs => h s (by omega)]
    exact step_tie (h t (by omega))
theorem free_two {num : Int} {a b : Rt} (ha : hasP a.att.path num = false) (hb : hasP b.att.path num = false) : freeB num [a, b] = [0, 1] := by
  unfold freeB
  simp [List.range_succ, ha, hb]
theorem best_wins {num : Int} {infos : List Inf} {a b : Rt} (ha : hasP a.att.path num = false) (hb : hasP b.att.path num = false) (h : Wins num infos a b) : bestB num infos [a, b] = some 0 ∧ bestB num infos [b, a] = some 1 := by
  obtain ⟨t, ht, heq, hlt⟩ := h
  constructor
  · have h1 : stepsB num infos [a, b] [0, 1] (t + 1) = [0] := by
      show stepB t num infos [a, b] (stepsB num infos [a, b] [0, 1] t) = [0]
      rw [steps_ties t heq]
      exact step_one hlt
    have h2 := steps_from h1 (8 - t)
    unfold bestB
    rw [free_two ha hb, show 9 = t + 1 + (8 - t) from by omega, h2]
    rfl
  · have h1 : stepsB num infos [b, a] [0, 1] (t + 1) = [1] := by
      show stepB t num infos [b, a] (stepsB num infos [b, a] [0, 1] t) = [1]
      rw [steps_ties t fun s hs => by rw [score_swap s num infos a b b (by omega), score_swap s num infos a b a (by omega)]; exact (heq s hs).symm]
      exact step_two (by rw [score_swap t num infos a b a ht, score_swap t num infos a b b ht]; exact hlt)
    have h2 := steps_from h1 (8 - t)
    unfold bestB
    rw [free_two hb ha, show 9 = t + 1 + (8 - t) from by omega, h2]
    rfl
/-- The two routes, by what may differ. -/
def twoR (peer : Int) (path : List (Bool × List Int)) (origin med pref stale : Int) : Rt := ⟨0, 0, peer, ⟨origin, path, 0, med, pref, [], []⟩, stale⟩
def p78 : List (Bool × List Int) := [(false, [7, 8])]
def p7z (k : Nat) : List (Bool × List Int) := [(false, 7 :: List.replicate k 0)]
def in2 (n1 n2 : Int) (d1 d2 : Nat) : List Inf := [⟨1, n1, d1⟩, ⟨2, n2, d2⟩]
theorem has78 : hasP p78 1 = false := by decide
theorem has7z (k : Nat) : hasP (p7z k) 1 = false := by
  simp [hasP, p7z]
theorem len7z (k : Nat) : lenP (p7z k) = k + 1 := by
  simp [lenP, p7z]
theorem first7z (k : Nat) : firstP (p7z k) = some 7 := rfl
theorem info_1 (n1 n2 : Int) (d1 d2 : Nat) : infoL (in2 n1 n2 d1 d2) 1 = ⟨1, n1, d1⟩ := by simp [in2, infoL]
theorem info_2 (n1 n2 : Int) (d1 d2 : Nat) : infoL (in2 n1 n2 d1 d2) 2 = ⟨2, n2, d2⟩ := by simp [in2, infoL]
theorem wins_at {num : Int} {infos : List Inf} {a b : Rt} (T : Nat) (hT : T < 8) (h8 : scoreR 8 num infos [a, b] a < scoreR 8 num infos [a, b] b) (hne : ∀ s, s < 8 → s ≠ T → scoreR s num infos [a, b] a = scoreR s num infos [a, b] b) :
    (scoreR T num infos [a, b] a ≤ scoreR T num infos [a, b] b → Wins num infos a b) ∧ (scoreR T num infos [a, b] b < scoreR T num infos [a, b] a → Wins num infos b a) := by
  refine ⟨fun h => ?_, fun h => ?_⟩
  · by_cases e : scoreR T num infos [a, b] a = scoreR T num infos [a, b] b
    · refine ⟨8, by omega, fun s hs => ?_, h8⟩
      by_cases es : s = T
      · rw [es]; exact e
      · exact hne s hs es
    · exact ⟨T, by omega, fun s hs => hne s (by omega) (by omega), by omega⟩
  · refine ⟨T, by omega, fun s hs => ?_, ?_⟩
    · rw [score_swap s num infos a b b (by omega), score_swap s num infos a b a (by omega)]
      exact (hne s (by omega) (by omega)).symm
    · rw [score_swap T num infos a b b (by omega), score_swap T num infos a b a (by omega)]
      exact h
/-- What each question makes of them. -/
def scX (px : List (Bool × List Int)) (ox mx my fx sx n : Int) (d : Nat) (e : Int) : Nat → Int
  | 0 => 1
  | 1 => if sx = 2 then 1 else 0
  | 2 => - (if fx < 0 then 100 else fx)
  | 3 => (lenP px : Int)
  | 4 => ox
  | 5 => if (if my < 0 then 0 else my) < (if mx < 0 then 0 else mx) then 1 else 0
  | 6 => if n = 1 then 1 else 0
  | 7 => (d : Int)
  | _ => e
theorem sc_a {px py : List (Bool × List Int)} (hx : firstP px = some 7) (hy : firstP py = some 7) (ox oy mx my fx fy sx sy n1 n2 : Int) (d1 d2 : Nat) (s : Nat) (hs : s < 9) : scoreR s 1 (in2 n1 n2 d1 d2) [twoR 1 px ox mx fx sx, twoR 2 py oy my fy sy] (twoR 1 px ox mx fx sx) = scX px ox mx my fx sx n1 d1 1 s := by
  match s, hs with
  | 0, _ => rfl
  | 1, _ => rfl
  | 2, _ => rfl
  | 3, _ => rfl
  | 4, _ => rfl
  | 5, _ =>
    show (if [twoR 1 px ox mx fx sx, twoR 2 py oy my fy sy].any (lower (twoR 1 px ox mx fx sx)) = true then (1 : Int) else 0) = _
    have e : [twoR 1 px ox mx fx sx, twoR 2 py oy my fy sy].any (lower (twoR 1 px ox mx fx sx)) = decide ((if my < 0 then 0 else my) < (if mx < 0 then 0 else mx)) := by
      simp [lower, twoR, hx, hy, medA]
    rw [e]
    simp [scX]
  | 6, _ => show (if (infoL (in2 n1 n2 d1 d2) 1).num = 1 then (1 : Int) else 0) = _; rw [info_1]; rfl
  | 7, _ => show ((infoL (in2 n1 n2 d1 d2) 1).id : Int) = _; rw [info_1]; rfl
  | 8, _ => rfl
  | k + 9, hs => exact absurd hs (by omega)
theorem sc_b {px py : List (Bool × List Int)} (hx : firstP px = some 7) (hy : firstP py = some 7) (ox oy mx my fx fy sx sy n1 n2 : Int) (d1 d2 : Nat) (s : Nat) (hs : s < 9) : scoreR s 1 (in2 n1 n2 d1 d2) [twoR 1 px ox mx fx sx, twoR 2 py oy my fy sy] (twoR 2 py oy my fy sy) = scX py oy my mx fy sy n2 d2 2 s := by
  match s, hs with
  | 0, _ => rfl
  | 1, _ => rfl
  | 2, _ => rfl
  | 3, _ => rfl
  | 4, _ => rfl
  | 5, _ =>
    show (if [twoR 1 px ox mx fx sx, twoR 2 py oy my fy sy].any (lower (twoR 2 py oy my fy sy)) = true then (1 : Int) else 0) = _
    have e : [twoR 1 px ox mx fx sx, twoR 2 py oy my fy sy].any (lower (twoR 2 py oy my fy sy)) = decide ((if mx < 0 then 0 else mx) < (if my < 0 then 0 else my)) := by
      simp [lower, twoR, hx, hy, medA]
    rw [e]
    simp [scX]
  | 6, _ => show (if (infoL (in2 n1 n2 d1 d2) 2).num = 1 then (1 : Int) else 0) = _; rw [info_2]; rfl
  | 7, _ => show ((infoL (in2 n1 n2 d1 d2) 2).id : Int) = _; rw [info_2]; rfl
  | 8, _ => rfl
  | k + 9, hs => exact absurd hs (by omega)
/-- Where they differ in one question alone: who wins. -/
theorem duel {px py : List (Bool × List Int)} (hx : firstP px = some 7) (hy : firstP py = some 7) (qx : hasP px 1 = false) (qy : hasP py 1 = false) (ox oy mx my fx fy sx sy n1 n2 : Int) (d1 d2 : Nat) (T : Nat) (hT : T < 8) (hne : ∀ s, s < 8 → s ≠ T → scX px ox mx my fx sx n1 d1 1 s = scX py oy my mx fy sy n2 d2 2 s) (first : Bool) (hf : first = decide (scX px ox mx my fx sx n1 d1 1 T ≤ scX py oy my mx fy sy n2 d2 2 T)) :
    bestB 1 (in2 n1 n2 d1 d2) [twoR 1 px ox mx fx sx, twoR 2 py oy my fy sy] = some (if first = true then 0 else 1) ∧ bestB 1 (in2 n1 n2 d1 d2) [twoR 2 py oy my fy sy, twoR 1 px ox mx fx sx] = some (if first = true then 1 else 0) := by
  have ea := fun s hs => sc_a hx hy ox oy mx my fx fy sx sy n1 n2 d1 d2 s hs
  have eb := fun s hs => sc_b hx hy ox oy mx my fx fy sx sy n1 n2 d1 d2 s hs
  have W := wins_at (num := 1) (infos := in2 n1 n2 d1 d2) (a := twoR 1 px ox mx fx sx) (b := twoR 2 py oy my fy sy) T hT (by rw [ea 8 (by omega), eb 8 (by omega)]; show (1 : Int) < 2; omega) (fun s hs hn => by rw [ea s (by omega), eb s (by omega)]; exact hne s hs hn)
  rw [ea T (by omega), eb T (by omega)] at W
  cases hfb : first with
  | true =>
    have h := W.1 (by rw [hfb] at hf; exact of_decide_eq_true hf.symm)
    exact best_wins qx qy h
  | false =>
    have h := W.2 (by rw [hfb] at hf; have := of_decide_eq_false hf.symm; omega)
    obtain ⟨h1, h2⟩ := best_wins qy qx h
    exact ⟨h2, h1⟩
end Go.Proofs.Ytolpaimmmhoiiaa
/- The memory of two routes and of what is told of their peers. -/
namespace Go.Proofs.Ytolpaimmmhoiiaa
open Go.RowKit
set_option maxRecDepth 100000

theorem run_pair (pa : Option Addr) (pc : Nat) (ca : Option Addr) (cc : Nat) (ra : Option Addr) (rc : Nat) (r : Rt) (pa2 : Option Addr) (pc2 : Nat) (ca2 : Option Addr) (cc2 : Nat) (ra2 : Option Addr) (rc2 : Nat) (r2 : Rt) (w : World) : (Instr.buildSlice 23 2 #[(0, .agg (rtC pa pc ca cc ra rc r)), (1, .agg (rtC pa2 pc2 ca2 cc2 ra2 rc2 r2))]).run Try.prog w = .ok (.slice (some ⟨w.heap.size, 0, none⟩) 2 2) (w.alloc (.cells (rtC pa pc ca cc ra rc r ++ rtC pa2 pc2 ca2 cc2 ra2 rc2 r2) 41)) := by kernel_rfl
theorem rts_pair {w : World} {pa : Option Addr} {pc : Nat} {ca : Option Addr} {cc : Nat} {ra : Option Addr} {rc : Nat} {r : Rt} {pa2 : Option Addr} {pc2 : Nat} {ca2 : Option Addr} {cc2 : Nat} {ra2 : Option Addr} {rc2 : Nat} {r2 : Rt} (h1 : AtRd w pa ca ra r.att) (h2 : AtRd w pa2 ca2 ra2 r2.att) : RtsRd (w.alloc (.cells (rtC pa pc ca cc ra rc r ++ rtC pa2 pc2 ca2 cc2 ra2 rc2 r2) 41)) (some ⟨w.heap.size, 0, none⟩) [r, r2] := fun _ => by
  have hb : Below w.heap.size w (w.alloc (.cells (rtC pa pc ca cc ra rc r ++ rtC pa2 pc2 ca2 cc2 ra2 rc2 r2) 41)) := (Below.refl _ _).alloc (Nat.le_refl _) _
  refine ⟨_, _, rfl, fun i t hi => ?_⟩
  match i, hi with
  | 0, hi =>
    simp at hi
    subst hi
    refine ⟨pa, pc, ca, cc, ra, rc, fun j v hv => ?_, h1.below hb⟩
    have hj : j < 11 := by have := (Array.getElem?_eq_some_iff.1 hv).1; simpa [rtC] using this
    rw [World.cell?_alloc_mark, show 0 + 0 * 11 + j = j from by omega, Array.getElem?_append_left (by simpa [rtC] using hj)]
    exact hv
  | 1, hi =>
    simp at hi
    subst hi
    refine ⟨pa2, pc2, ca2, cc2, ra2, rc2, fun j v hv => ?_, h2.below hb⟩
    rw [World.cell?_alloc_mark, show 0 + 1 * 11 + j = 11 + j from by omega, Array.getElem?_append_right (by simp [rtC])]
    simpa [rtC] using hv
  | k + 2, hi => simp at hi
theorem infs_in2 {w : World} {I : Nat} {n1 n2 : Int} {d1 d2 : Nat} (h : w.heap[I]? = some (.cells #[.int .i64 1, .int .i64 n1, .int .u32 (d1 : Int), .int .i64 2, .int .i64 n2, .int .u32 (d2 : Int)] 49 (0, 0))) : InfsRd w (some ⟨I, 0, none⟩) (in2 n1 n2 d1 d2) := fun _ => by
  refine ⟨_, _, rfl, fun i x hi => ?_⟩
  match i, hi with
  | 0, hi =>
    simp [in2] at hi
    subst hi
    exact ⟨cell_at h 0 rfl, cell_at h 1 rfl, cell_at h 2 rfl⟩
  | 1, hi =>
    simp [in2] at hi
    subst hi
    exact ⟨cell_at h 3 rfl, cell_at h 4 rfl, cell_at h 5 rfl⟩
  | k + 2, hi => simp [in2] at hi
/-- A route's box, its path read: what Best needs. -/
theorem at_twoR {w : World} {pa : Option Addr} {path : List (Bool × List Int)} (h : PthRd w pa path) (e o m f s : Int) : AtRd w pa none none (twoR e path o m f s).att := ⟨h, fun h => absurd h (Nat.lt_irrefl 0), fun h => absurd h (Nat.lt_irrefl 0), (show (0 : Nat) < 4294967296 by decide)⟩
theorem fine_twoR {path : List (Bool × List Int)} {e o m f s : Int} (hp : path.length + sumP path ≤ 3000) (he : inF e) (ho : inF o) (hm : inF m) (hf : inF f) : FineR (twoR e path o m f s) := ⟨hp, hf, hm, ho, he⟩
/-- Best of the two, in a world in which they have been laid into a row. -/
theorem best_pair {w : World} {I : Nat} {n1 n2 : Int} {d1 d2 : Nat} {pa pa2 : Option Addr} {pc pc2 : Nat} {r r2 : Rt} (hi : w.heap[I]? = some (.cells #[.int .i64 1, .int .i64 n1, .int .u32 (d1 : Int), .int .i64 2, .int .i64 n2, .int .u32 (d2 : Int)] 49 (0, 0))) (h1 : AtRd w pa none none r.att) (h2 : AtRd w pa2 none none r2.att) (f1 : FineR r) (f2 : FineR r2) (hd1 : d1 < 4294967296) (hd2 : d2 < 4294967296) {n : Nat} (hn : bestB 1 (in2 n1 n2 d1 d2) [r, r2] = some n) :
    Calls Try.prog 10 #[.int .i64 1, .slice (some ⟨I, 0, none⟩) 2 2, .slice (some ⟨w.heap.size, 0, none⟩) 2 2] (w.alloc (.cells (rtC pa pc none 0 none 0 r ++ rtC pa2 pc2 none 0 none 0 r2) 41)) fun e w' => e = .returned (.tuple #[.int .i64 (n : Int), .bool true]) ∧ Below (w.heap.size + 1) (w.alloc (.cells (rtC pa pc none 0 none 0 r ++ rtC pa2 pc2 none 0 none 0 r2) 41)) w' := by
  have hb : Below w.heap.size w (w.alloc (.cells (rtC pa pc none 0 none 0 r ++ rtC pa2 pc2 none 0 none 0 r2) 41)) := (Below.refl _ _).alloc (Nat.le_refl _) _
  have h := pbest_any 1 (some ⟨I, 0, none⟩) 2 (in2 n1 n2 d1 d2) (some ⟨w.heap.size, 0, none⟩) 2 [r, r2] (w.alloc (.cells (rtC pa pc none 0 none 0 r ++ rtC pa2 pc2 none 0 none 0 r2) 41)) (by simp) ⟨fitQ_of (by simp [in2]) (fun x hx => by
    simp [in2] at hx
    rcases hx with rfl | rfl
    · exact hd1
    · exact hd2) (fun j t hj => by
      match j, hj with
      | 0, hj => simp at hj; subst hj; exact f1
      | 1, hj => simp at hj; subst hj; exact f2
      | k + 2, hj => simp at hj), rts_pair h1 h2, (infs_in2 hi).below hb⟩
  rw [hn, World.size_alloc] at h
  exact h
/-- The path that both have at first. -/
theorem pth78 {w : World} {B : Nat} (h0 : w.heap[B]? = some (.cells #[.int .i64 7, .int .i64 8] 3 (0, 0))) (h1 : w.heap[B + 1]? = some (.cells #[.bool false, .slice (some ⟨B, 0, none⟩) 2 2] 47 (0, 0))) : PthRd w (some ⟨B + 1, 0, none⟩) p78 := by
  refine ⟨fun _ => ⟨_, _, rfl, fun i s hi => ?_⟩, by simp [p78, maxLen], fun s hs => ?_⟩
  · match i, hi with
    | 0, hi =>
      simp [p78] at hi
      subst hi
      refine ⟨cell_at h1 0 rfl, _, _, cell_at h1 1 rfl, fun _ => ⟨_, _, rfl, fun j z hz => ?_⟩⟩
      match j, hz with
      | 0, hz => simp at hz; subst hz; exact cell_at h0 0 rfl
      | 1, hz => simp at hz; subst hz; exact cell_at h0 1 rfl
      | k + 2, hz => simp at hz
    | k + 1, hi => simp [p78] at hi
  · simp [p78] at hs
    subst hs
    simp [maxLen]
section
variable {P : Program} {a : Act} {w w' : World} {K : Act → World → Prop} {Q : Exit → Act → World → Prop} {dst : Option Tmp} {ty : TypeId} {pos : String} {after : Array Edge} {gd : Option (Nat × Bool)}
theorem kept_build2_intro {t : TypeId} (i j : Nat) (x y : Operand) (p q v : Value) (hx : a.eval x = p) (hy : a.eval y = q) (hr : (Instr.build t #[(i, p), (j, q)]).run P w = .ok v w) (h : K (a.put dst v) w) : Kept P { dst := dst, op := .build t #[(i, x), (j, y)], type := ty, pos := pos, after := after, guard := gd } a w K Q := by
  unfold Kept Oper.wp execOp
  have e : (#[(i, x), (j, y)].map fun (i, x) => (i, a.eval x)) = #[(i, p), (j, q)] := by simp [hx, hy]
  simp only [e, Sem.run_bind, hr, Result.andThen_ok, Sem.run_pure]
  exact h
end
/-- The attributes that both have at first. -/
def attP (pa : Option Addr) (pn pc : Nat) : Array Value := #[.int .i64 0, .slice pa pn pc, .int .u32 0, .int .i64 (-1), .int .i64 100, .slice none 0 0, .slice none 0 0]
theorem run_attP (pa : Option Addr) (pn pc : Nat) (w : World) : (Instr.build 39 #[(1, .slice pa pn pc), (3, .int .i64 (-1)), (4, .int .i64 100)]).run Try.prog w = .ok (.agg (attP pa pn pc)) w := by kernel_rfl
theorem run_rtP (pa : Option Addr) (pc : Nat) (w : World) : (Instr.build 41 #[(1, .int .i64 1), (2, .agg (attP pa 1 pc))]).run Try.prog w = .ok (.agg (rtC pa pc none 0 none 0 (twoR 1 p78 0 (-1) 100 0))) w := by kernel_rfl
/-- The five blocks. -/
structure Mem5 (w : World) (B : Nat) (cx cy ci : Array Value) : Prop where
  b0 : w.heap[B]? = some (.cells #[.int .i64 7, .int .i64 8] 3 (0, 0))
  b1 : w.heap[B + 1]? = some (.cells #[.bool false, .slice (some ⟨B, 0, none⟩) 2 2] 47 (0, 0))
  bx : Bl w (B + 2) cx
  bY : Bl w (B + 3) cy
  bi : w.heap[B + 4]? = some (.cells ci 49 (0, 0))
theorem Mem5.below {w w' : World} {B : Nat} {cx cy ci : Array Value} (h : Mem5 w B cx cy ci) (hb : Below w.heap.size w w') : Mem5 w' B cx cy ci :=
  ⟨by rw [hb.block B (Array.getElem?_eq_some_iff.1 h.b0).1]; exact h.b0, by rw [hb.block _ (Array.getElem?_eq_some_iff.1 h.b1).1]; exact h.b1, h.bx.below hb, h.bY.below hb, by rw [hb.block _ (Array.getElem?_eq_some_iff.1 h.bi).1]; exact h.bi⟩
theorem Mem5.setX {w : World} {B : Nat} {cx cy ci : Array Value} (h : Mem5 w B cx cy ci) (j : Nat) (v : Value) : Mem5 (w.setCell ⟨B + 2, j, none⟩ v) B (cx.setIfInBounds j v) cy ci :=
  ⟨by rw [heap_setCell w _ j v B (by omega)]; exact h.b0, by rw [heap_setCell w _ j v (B + 1) (by omega)]; exact h.b1, h.bx.set j v, h.bY.other j v (by omega), by rw [heap_setCell w _ j v (B + 4) (by omega)]; exact h.bi⟩
theorem Mem5.setY {w : World} {B : Nat} {cx cy ci : Array Value} (h : Mem5 w B cx cy ci) (j : Nat) (v : Value) : Mem5 (w.setCell ⟨B + 3, j, none⟩ v) B cx (cy.setIfInBounds j v) ci :=
  ⟨by rw [heap_setCell w _ j v B (by omega)]; exact h.b0, by rw [heap_setCell w _ j v (B + 1) (by omega)]; exact h.b1, h.bx.other j v (by omega), h.bY.set j v, by rw [heap_setCell w _ j v (B + 4) (by omega)]; exact h.bi⟩
theorem Mem5.setI {w : World} {B : Nat} {cx cy ci : Array Value} (h : Mem5 w B cx cy ci) (j : Nat) (v : Value) : Mem5 (w.setCell ⟨B + 4, j, none⟩ v) B cx cy (ci.setIfInBounds j v) :=
  ⟨by rw [heap_setCell w _ j v B (by omega)]; exact h.b0, by rw [heap_setCell w _ j v (B + 1) (by omega)]; exact h.b1, h.bx.other j v (by omega), h.bY.other j v (by omega), heap_setCell_same w _ j _ 49 v h.bi⟩
theorem Mem5.pth {w : World} {B : Nat} {cx cy ci : Array Value} (h : Mem5 w B cx cy ci) : PthRd w (some ⟨B + 1, 0, none⟩) p78 := pth78 h.b0 h.b1
theorem Mem5.lt {w : World} {B : Nat} {cx cy ci : Array Value} (h : Mem5 w B cx cy ci) : B + 4 < w.heap.size := (Array.getElem?_eq_some_iff.1 h.bi).1
end Go.Proofs.Ytolpaimmmhoiiaa
/- append(a row of one number, make([]int, k)...). -/
namespace Go.Proofs.Ytolpaimmmhoiiaa
open Go.RowKit
set_option maxRecDepth 100000

theorem zeros_get (k j : Nat) (h : j < k) : (Builtin.zeroCells (Value.int .i64 0).cells k)[j]? = some (.int .i64 0) := by
  simp [Builtin.zeroCells, Value.cells, h, Nat.mod_one]
theorem run_app_zeros (w : World) (k : Nat) (hk : k < 9) : ∃ g c W', (Builtin.append_ #[45, 3] 45 #[.slice (some ⟨w.heap.size, 0, none⟩) 1 1, .int .i64 (k : Int)]).run Try.prog (w.alloc (.cells #[.int .i64 7] 3)) = .ok (.slice (some ⟨g, 0, none⟩) (k + 1) c) W' ∧ Below w.heap.size w W' ∧ w.heap.size ≤ g ∧ ∀ j z, ((7 : Int) :: List.replicate k 0)[j]? = some z → W'.cell? ⟨g, j, none⟩ = some (.int .i64 z) := by
  have ht := Try.underlying45
  have hti := Try.underlying3
  obtain ⟨i, hi, hz, hs, hb⟩ := info_parts Try.infoInt
  have wk : IntKind.i64.wrap (k : Int) = (k : Int) := by rw [IntKind.wrap_i64]; omega
  have hai : ∀ (x : Int) (W : World), (asInt (.int .i64 x)).run Try.prog W = .ok x W := fun x W => by first | rfl | simp [asInt, asIntOf]
  by_cases h0 : k = 0
  · subst h0
    refine ⟨w.heap.size, 1, w.alloc (.cells #[.int .i64 7] 3), ?_, (Below.refl _ _).alloc (Nat.le_refl _) _, Nat.le_refl _, fun j z hj => ?_⟩
    · simp [Builtin.append_, run_underlying ht, run_underlying hti, sizeOf, typeInfo, zeroValue, hi, hz, hb, hai, IntKind.wrap_i64, storeCells]
    · rw [World.cell?_alloc_mark]
      match j, hj with
      | 0, hj => simp at hj; subst hj; rfl
      | q + 1, hj => simp at hj
  · have hn : ¬ (k + 1 ≤ 1) := by omega
    have h63' : ¬ ((9223372036854775807 : Int) < (k : Int) + 1) := by omega
    have hcap : Builtin.nextslicecap (k + 1) 1 ≤ 20 := by
      unfold Builtin.nextslicecap
      split
      · omega
      · split <;> omega
    have h48' : ¬ (281474976710656 < Builtin.nextslicecap (k + 1) 1 * 8) := by omega
    have hfo := run_firstCells_some (P := Try.prog) (w.alloc (.cells #[.int .i64 7] 3)).drew 1 1 ⟨w.heap.size, 0, none⟩ 1 1 [.int .i64 7] rfl (fun j v hj => by
      match j, hj with
      | 0, hj =>
        simp at hj
        subst hj
        rw [World.cell?_drew, Addr.add_mid, World.cell?_alloc_mark]
        rfl
      | q + 1, hj => simp at hj)
    have hneg : ¬ ((k : Int) < 0) := by omega
    have hbig : ¬ ((281474976710656 : Int) < (k : Int) * 8) := by omega
    have hmx : max (k : Int) 0 = (k : Int) := by omega
    refine ⟨w.heap.size + 1, grownCap (w.alloc (.cells #[.int .i64 7] 3)) (k + 1) 1 3, (w.alloc (.cells #[.int .i64 7] 3)).drew.alloc (.cells (#[.int .i64 7] ++ Builtin.zeroCells (Value.int .i64 0).cells k ++ Builtin.zeroCells (Value.int .i64 0).cells (grownCap (w.alloc (.cells #[.int .i64 7] 3)) (k + 1) 1 3 - (k + 1))) 3), ?_, ((Below.refl _ _).alloc (Nat.le_refl _) _).drew.alloc (by simp) _, by omega, fun j z hj => ?_⟩
    · simp [Builtin.append_, run_underlying ht, run_underlying hti, sizeOf, typeInfo, zeroValue, hi, hz, hb, hai, hs, wk, hneg, hbig, hmx, h63', h48', Question.forced, hfo, newRow, grownCap, h0, Array.append_assoc, Nat.add_comm]
    · have e : w.heap.size + 1 = ((w.alloc (.cells #[.int .i64 7] 3)).drew).heap.size := by simp
      rw [e, World.cell?_alloc_mark]
      match j, hj with
      | 0, hj =>
        simp at hj
        subst hj
        rw [Array.append_assoc, Array.getElem?_append_left (by simp)]
        rfl
      | q + 1, hj =>
        have hq : q < k := by
          have := (List.getElem?_eq_some_iff.1 hj).1
          simpa using this
        simp [hq] at hj
        subst hj
        rw [Array.getElem?_append_left (by simp [Builtin.zeroCells, Value.cells]; omega), Array.getElem?_append_right (by simp)]
        simpa using zeros_get k q hq
end Go.Proofs.Ytolpaimmmhoiiaa
