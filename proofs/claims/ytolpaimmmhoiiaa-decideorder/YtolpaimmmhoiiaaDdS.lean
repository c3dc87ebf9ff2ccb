/- Rows of routes by their cells: taken apart, put together. -/
import Derived.Test.YtolpaimmmhoiiaaDdR
namespace Go.Proofs.Ytolpaimmmhoiiaa
open Go.RowKit
set_option maxRecDepth 100000

theorem Try.infoRoute15 : (Try.prog.info? 41).map (fun i => (i.zero, i.size, i.bytes)) = some (some (.agg zR), 11, 136) := by kernel_rfl
theorem elemRt : Elem 23 41 11 136 := by
  obtain ⟨i, h1, h2, h3, h4⟩ := info_parts Try.infoRoute15
  exact ⟨Try.underlying23, ⟨i, _, h1, h2, h3, h4, rfl⟩, by omega, by omega⟩
/-- The cells of routes, and what they lead to. -/
structure RowsC (w : World) (xs : List Value) (all : List Rt) : Prop where
  len : xs.length = all.length * 11
  one : ∀ u ∈ xs, u.oneCell' = true
  at1 : ∀ (i : Nat) (r : Rt), all[i]? = some r → ∃ pa pc ca cc ra rc, (∀ j v, (rtC pa pc ca cc ra rc r)[j]? = some v → xs[i * 11 + j]? = some v) ∧ AtRd w pa ca ra r.att
theorem RowsC.below {w w' : World} {xs : List Value} {all : List Rt} (h : RowsC w xs all) (hb : Below w.heap.size w w') : RowsC w' xs all :=
  ⟨h.len, h.one, fun i r hr => by
    obtain ⟨pa, pc, ca, cc, ra, rc, h1, h2⟩ := h.at1 i r hr
    exact ⟨pa, pc, ca, cc, ra, rc, h1, h2.below hb⟩⟩
theorem RowsC.nil (w : World) : RowsC w [] [] := ⟨rfl, by simp, by simp⟩
theorem RowsC.app {w : World} {xs ys : List Value} {l m : List Rt} (h : RowsC w xs l) (k : RowsC w ys m) : RowsC w (xs ++ ys) (l ++ m) := by
  refine ⟨by rw [List.length_append, List.length_append, h.len, k.len]; omega, fun u hu => ?_, fun i r hr => ?_⟩
  · rcases List.mem_append.1 hu with hu | hu
    · exact h.one u hu
    · exact k.one u hu
  · by_cases hi : i < l.length
    · rw [List.getElem?_append_left hi] at hr
      obtain ⟨pa, pc, ca, cc, ra, rc, h1, h2⟩ := h.at1 i r hr
      refine ⟨pa, pc, ca, cc, ra, rc, fun j v hv => ?_, h2⟩
      have hj : j < 11 := by have := (Array.getElem?_eq_some_iff.1 hv).1; simpa [rtC] using this
      rw [List.getElem?_append_left (by rw [h.len]; omega)]
      exact h1 j v hv
    · rw [List.getElem?_append_right (by omega)] at hr
      obtain ⟨pa, pc, ca, cc, ra, rc, h1, h2⟩ := k.at1 _ r hr
      refine ⟨pa, pc, ca, cc, ra, rc, fun j v hv => ?_, h2⟩
      rw [List.getElem?_append_right (by rw [h.len]; omega), h.len]
      have e : i * 11 + j - l.length * 11 = (i - l.length) * 11 + j := by omega
      rw [e]
      exact h1 j v hv
theorem RowsC.drop {w : World} {xs : List Value} {l : List Rt} (h : RowsC w xs l) (k : Nat) : RowsC w (xs.drop (k * 11)) (l.drop k) := by
  refine ⟨by rw [List.length_drop, List.length_drop, h.len]; omega, fun u hu => h.one u (List.mem_of_mem_drop hu), fun i r hr => ?_⟩
  rw [List.getElem?_drop] at hr
  obtain ⟨pa, pc, ca, cc, ra, rc, h1, h2⟩ := h.at1 _ r hr
  refine ⟨pa, pc, ca, cc, ra, rc, fun j v hv => ?_, h2⟩
  rw [List.getElem?_drop, show k * 11 + (i * 11 + j) = (k + i) * 11 + j from by omega]
  exact h1 j v hv
theorem RowsC.take {w : World} {xs : List Value} {l : List Rt} (h : RowsC w xs l) (k : Nat) : RowsC w (xs.take (k * 11)) (l.take k) := by
  refine ⟨by rw [List.length_take, List.length_take, h.len]; omega, fun u hu => h.one u (List.mem_of_mem_take hu), fun i r hr => ?_⟩
  have hi : i < k := by
    have := (List.getElem?_eq_some_iff.1 hr).1
    rw [List.length_take] at this
    omega
  rw [List.getElem?_take_of_lt hi] at hr
  obtain ⟨pa, pc, ca, cc, ra, rc, h1, h2⟩ := h.at1 _ r hr
  refine ⟨pa, pc, ca, cc, ra, rc, fun j v hv => ?_, h2⟩
  have hj : j < 11 := by have := (Array.getElem?_eq_some_iff.1 hv).1; simpa [rtC] using this
  rw [List.getElem?_take_of_lt (by omega)]
  exact h1 j v hv
theorem rows_of {w : World} {al : Option Addr} {all : List Rt} (R : RtsRd w al all) (hp : 0 < all.length) : ∃ b off xs, al = some ⟨b, off, none⟩ ∧ RowsC w xs all ∧ ∀ j u, xs[j]? = some u → w.cell? ⟨b, off + j, none⟩ = some u := by
  obtain ⟨b, off, e, hc⟩ := R hp
  have key : ∀ q, q < all.length * 11 → ∃ u, w.cell? ⟨b, off + q, none⟩ = some u ∧ u.oneCell' = true := fun q hq => by
    have hi : q / 11 < all.length := by omega
    obtain ⟨pa, pc, ca, cc, ra, rc, h1, _⟩ := hc (q / 11) _ (List.getElem?_eq_getElem hi)
    have hs : q % 11 < (rtC pa pc ca cc ra rc all[q / 11]).size := by simp [rtC]; omega
    refine ⟨_, by rw [show off + q = off + q / 11 * 11 + q % 11 from by omega]; exact h1 (q % 11) _ (Array.getElem?_eq_getElem hs), ?_⟩
    have := (RC.rt pa pc ca cc ra rc all[q / 11]).2
    rw [Array.all_eq_true'] at this
    exact this _ (Array.getElem_mem hs)
  refine ⟨b, off, (List.range (all.length * 11)).map (fun j => (w.cell? ⟨b, off + j, none⟩).getD undef), e, ⟨by simp, fun u hu => ?_, fun i r hr => ?_⟩, fun j u hu => ?_⟩
  · obtain ⟨q, hq, rfl⟩ := List.mem_map.1 hu
    obtain ⟨u, h1, h2⟩ := key q (by simpa using hq)
    rw [h1]
    exact h2
  · obtain ⟨pa, pc, ca, cc, ra, rc, h1, h2⟩ := hc i r hr
    refine ⟨pa, pc, ca, cc, ra, rc, fun j v hv => ?_, h2⟩
    have hi := (List.getElem?_eq_some_iff.1 hr).1
    have hj : j < 11 := by have := (Array.getElem?_eq_some_iff.1 hv).1; simpa [rtC] using this
    have := h1 j v hv
    rw [show off + i * 11 + j = off + (i * 11 + j) from by omega] at this
    have hq : i * 11 + j < all.length * 11 := by omega
    simp [hq, this]
  · have hj : j < all.length * 11 := by have := (List.getElem?_eq_some_iff.1 hu).1; simpa using this
    obtain ⟨u', h1, _⟩ := key j hj
    simp [hj, h1] at hu
    rw [← hu]
    exact h1
theorem RowsC.own {w : World} {B : Nat} {v : Value} {xs : List Value} {l : List Rt} (h : RowsC w xs l) (ho : w.ownsRow B 41 11 v l.length xs) : ∃ a c, v = .slice a l.length c ∧ RtsRd w a l := by
  rcases ho.2 with ⟨rfl, h0⟩ | ⟨g, cap, cur, rfl, hg, hc, rest⟩
  · exact ⟨none, 0, by rw [h0], fun hp => absurd hp (by omega)⟩
  · refine ⟨_, _, rfl, fun hp => ⟨g, 0, rfl, fun i r hr => ?_⟩⟩
    obtain ⟨pa, pc, ca, cc, ra, rc, h1, h2⟩ := h.at1 i r hr
    have hi := (List.getElem?_eq_some_iff.1 hr).1
    refine ⟨pa, pc, ca, cc, ra, rc, fun j v hv => ?_, h2⟩
    have hj : j < 11 := by have := (Array.getElem?_eq_some_iff.1 hv).1; simpa [rtC] using this
    rw [Nat.zero_add]
    have := World.ownsRow.cellAt ho (i * 11 + j) (by omega)
    rw [this]
    exact h1 j v hv
theorem run_from (w : World) (b off m c k : Nat) (h : k ≤ m) : (Instr.sliceAt 23 (.slice (some ⟨b, off, none⟩) m c) (some (.int .i64 (k : Int))) none none).run Try.prog w = .ok (.slice (some (if c = k then ⟨b, off, none⟩ else ⟨b, off + k * 11, none⟩)) (m - k) (c - k)) w := by
  have ht := Try.underlying23
  obtain ⟨i, h1, h2, h3, h4⟩ := info_parts Try.infoRoute15
  by_cases hck : c = k
  · simp [Instr.sliceAt, Instr.slice, run_underlying ht, Instr.sliceBounds, run_sliceBound, h, sizeOf, typeInfo, h1, h3, hck]
  · simp [Instr.sliceAt, Instr.slice, run_underlying ht, Instr.sliceBounds, run_sliceBound, h, sizeOf, typeInfo, h1, h3, hck, Addr.add_lit]
theorem run_till (w : World) (b off m c k : Nat) (h : k ≤ c) : (Instr.sliceAt 23 (.slice (some ⟨b, off, none⟩) m c) none (some (.int .i64 (k : Int))) none).run Try.prog w = .ok (.slice (some ⟨b, off, none⟩) k c) w := by
  have ht := Try.underlying23
  obtain ⟨i, h1, h2, h3, h4⟩ := info_parts Try.infoRoute15
  simp [Instr.sliceAt, Instr.slice, run_underlying ht, Instr.sliceBounds, run_sliceBound, h, sizeOf, typeInfo, h1, Addr.add_lit]
section
variable {P : Program} {a : Act} {w w' : World} {K : Act → World → Prop} {Q : Exit → Act → World → Prop} {dst : Option Tmp} {ty : TypeId} {pos : String} {after : Array Edge} {gd : Option (Nat × Bool)}
theorem wp_app {t : TypeId} (x y : Operand) (p q v : Value) (hx : a.eval x = p) (hy : a.eval y = q) (hr : (Builtin.append_ #[t, t] ty #[p, q]).run P w = .ok v w') (h : K (a.put dst v) w') : Oper.wp P { dst := dst, op := .call { callee := .builtin .append, args := #[x, y], argTypes := #[t, t] }, type := ty, pos := pos, after := after, guard := gd } a w K Q := by
  unfold Oper.wp execOp
  simp only [resolve, invoke, builtin, Sem.run_bind, Sem.run_pure, Result.andThen_ok, List.map_toArray, List.map_cons, List.map_nil, hx, hy, hr]
  exact h
theorem wp_build0 {t : TypeId} (n : Nat) (v : Value) (hr : (Instr.buildSlice t n #[]).run P w = .ok v w') (h : K (a.put dst v) w') : Oper.wp P { dst := dst, op := .buildSlice t n #[], type := ty, pos := pos, after := after, guard := gd } a w K Q := by
  unfold Oper.wp execOp
  have e : ((#[] : Array (Nat × Operand)).map fun (i, x) => (i, a.eval x)) = #[] := by simp
  simp only [e, Sem.run_bind, hr, Result.andThen_ok, Sem.run_pure]
  exact h
end
section
variable {ρ : Operand → Value} {dst : Option Nat} {ty : Nat} {pos : String} {after : Array Edge} {gd : Option (Nat × Bool)}
theorem exec_from {w : World} {t : Nat} {x y : Operand} {xv yv v : Value} (hx : ρ x = xv) (hy : ρ y = yv) (hr : (Instr.sliceAt t xv (some yv) none none).run Try.prog w = .ok v w) :
    (execOp ρ { dst := dst, op := .slice t x (some y) none none, type := ty, pos := pos, after := after, guard := gd }).run Try.prog w = .ok (.value v) w := by
  unfold execOp
  simp only [hx, hy, Option.map_some, Option.map_none, Sem.run_bind, hr, Result.andThen_ok, Sem.run_pure]
theorem exec_till {w : World} {t : Nat} {x y : Operand} {xv yv v : Value} (hx : ρ x = xv) (hy : ρ y = yv) (hr : (Instr.sliceAt t xv none (some yv) none).run Try.prog w = .ok v w) :
    (execOp ρ { dst := dst, op := .slice t x none (some y) none, type := ty, pos := pos, after := after, guard := gd }).run Try.prog w = .ok (.value v) w := by
  unfold execOp
  simp only [hx, hy, Option.map_some, Option.map_none, Sem.run_bind, hr, Result.andThen_ok, Sem.run_pure]
end
theorem run_norows (w : World) : (Instr.buildSlice 23 0 #[]).run Try.prog w = .ok (.slice (some ⟨w.heap.size, 0, none⟩) 0 0) (w.alloc (.cells #[] 41)) := by kernel_rfl
/-- append(own row, a row that is read). -/
theorem rows_app {w : World} {B : Nat} {v : Value} {xs ys : List Value} {l m : List Rt} (ho : w.ownsRow B 41 11 v l.length xs) (hy : RowsC w ys m) (hB : B ≤ w.heap.size) (b off c : Nat) (hc : ∀ j u, ys[j]? = some u → w.cell? ⟨b, off + j, none⟩ = some u) (hl : l.length + m.length ≤ 10000) :
    ∃ v' w', (Builtin.append_ #[23, 23] 23 #[v, .slice (some ⟨b, off, none⟩) m.length c]).run Try.prog w = .ok v' w' ∧ w'.ownsRow B 41 11 v' (l ++ m).length (xs ++ ys) ∧ Below B w w' := by
  obtain ⟨v', w', hr, h2, h3, _⟩ := app_more elemRt ho hB ⟨b, off, none⟩ m.length c ys (by rw [hy.len]) (fun j u hu => by rw [Addr.add_mid]; exact hc j u hu) hy.one (by omega)
  exact ⟨v', w', hr, by rw [List.length_append]; exact h2, h3⟩
theorem turn_rows {w : World} {b off : Nat} {xs : List Value} {all : List Rt} {k : Nat} (h : RowsC w xs all) (hc : ∀ j u, xs[j]? = some u → w.cell? ⟨b, off + j, none⟩ = some u) (hk : k < all.length) (hl : all.length ≤ 3000) (W : World) (hb : Below w.heap.size w W) (c1 c2 : Nat) :
    ∃ v6 w6 a c w10, (Builtin.append_ #[23, 23] 23 #[.slice (some ⟨W.heap.size, 0, none⟩) 0 0, .slice (some ⟨b, off + k * 11, none⟩) (all.length - k) c1]).run Try.prog (W.alloc (.cells #[] 41)) = .ok v6 w6 ∧ (Builtin.append_ #[23, 23] 23 #[v6, .slice (some ⟨b, off, none⟩) k c2]).run Try.prog w6 = .ok (.slice a (turnR k all).length c) w10 ∧ RtsRd w10 a (turnR k all) ∧ Below W.heap.size W w6 ∧ Below W.heap.size W w10 := by
  have hb0 : Below w.heap.size w (W.alloc (.cells #[] 41)) := hb.alloc hb.size _
  have old : ∀ {w' : World} (hw : Below w.heap.size w w') (j : Nat) (u : Value), xs[j]? = some u → w'.cell? ⟨b, off + j, none⟩ = some u := fun hw j u hu => by
    rw [hw.cell (p := ⟨b, off + j, none⟩) (World.block_lt_of_cell? w _ (hc j u hu))]
    exact hc j u hu
  have hd : RowsC (W.alloc (.cells #[] 41)) (xs.drop (k * 11)) (all.drop k) := (h.drop k).below hb0
  obtain ⟨v6, w6, r6, o6, b6⟩ := rows_app (l := []) (m := all.drop k) (own_empty W 41 11) hd (by simp) b (off + k * 11) c1 (fun j u hu => by
    rw [List.getElem?_drop] at hu
    rw [show off + k * 11 + j = off + (k * 11 + j) from by omega]
    exact old hb0 _ u hu) (by simp; omega)
  have hb6 : Below W.heap.size W w6 := ((Below.refl _ _).alloc (Nat.le_refl _) _).trans b6
  have hw6 : Below w.heap.size w w6 := hb.trans (hb6.mono hb.size)
  obtain ⟨v10, w10, r10, o10, b10⟩ := rows_app o6 ((h.take k).below hw6) hb6.size b off c2 (fun j u hu => by
    have hj : j < k * 11 := by
      have := (List.getElem?_eq_some_iff.1 hu).1
      rw [List.length_take] at this
      omega
    rw [List.getElem?_take_of_lt hj] at hu
    exact old hw6 j u hu) (by simp; omega)
  have hb10 : Below W.heap.size W w10 := hb6.trans b10
  have hw10 : Below w.heap.size w w10 := hb.trans (hb10.mono hb.size)
  have hrow : RowsC w10 ([] ++ xs.drop (k * 11) ++ xs.take (k * 11)) ([] ++ all.drop k ++ all.take k) := ((RowsC.nil w10).app ((h.drop k).below hw10)).app ((h.take k).below hw10)
  obtain ⟨a, c, e, hr⟩ := hrow.own o10
  have e1 : [] ++ all.drop k ++ all.take k = turnR k all := rfl
  rw [e1] at e hr
  rw [List.length_drop] at r6
  rw [List.length_take, Nat.min_eq_left (by omega), e] at r10
  exact ⟨v6, w6, a, c, w10, r6, r10, hr, hb6, hb10⟩
theorem less_rows {w : World} {b off : Nat} {xs : List Value} {all : List Rt} {k : Nat} (h : RowsC w xs all) (hc : ∀ j u, xs[j]? = some u → w.cell? ⟨b, off + j, none⟩ = some u) (hk : k < all.length) (hl : all.length ≤ 3000) (W : World) (hb : Below w.heap.size w W) (cl c1 c2 : Nat) (hcl : all.length ≤ cl) :
    ∃ v6 w6 a c w10, (Builtin.append_ #[23, 23] 23 #[.slice (some ⟨W.heap.size, 0, none⟩) 0 0, .slice (some ⟨b, off, none⟩) k c1]).run Try.prog (W.alloc (.cells #[] 41)) = .ok v6 w6 ∧ (Builtin.append_ #[23, 23] 23 #[v6, .slice (some (if cl = k + 1 then ⟨b, off, none⟩ else ⟨b, off + (k + 1) * 11, none⟩)) (all.length - (k + 1)) c2]).run Try.prog w6 = .ok (.slice a (lessR k all).length c) w10 ∧ RtsRd w10 a (lessR k all) ∧ Below W.heap.size W w6 ∧ Below W.heap.size W w10 := by
  have hb0 : Below w.heap.size w (W.alloc (.cells #[] 41)) := hb.alloc hb.size _
  have old : ∀ {w' : World} (hw : Below w.heap.size w w') (j : Nat) (u : Value), xs[j]? = some u → w'.cell? ⟨b, off + j, none⟩ = some u := fun hw j u hu => by
    rw [hw.cell (p := ⟨b, off + j, none⟩) (World.block_lt_of_cell? w _ (hc j u hu))]
    exact hc j u hu
  have ht : RowsC (W.alloc (.cells #[] 41)) (xs.take (k * 11)) (all.take k) := (h.take k).below hb0
  obtain ⟨v6, w6, r6, o6, b6⟩ := rows_app (l := []) (m := all.take k) (own_empty W 41 11) ht (by simp) b off c1 (fun j u hu => by
    have hj : j < k * 11 := by
      have := (List.getElem?_eq_some_iff.1 hu).1
      rw [List.length_take] at this
      omega
    rw [List.getElem?_take_of_lt hj] at hu
    exact old hb0 j u hu) (by simp; omega)
  have hb6 : Below W.heap.size W w6 := ((Below.refl _ _).alloc (Nat.le_refl _) _).trans b6
  have hw6 : Below w.heap.size w w6 := hb.trans (hb6.mono hb.size)
  have hd6 : RowsC w6 (xs.drop ((k + 1) * 11)) (all.drop (k + 1)) := (h.drop (k + 1)).below hw6
  have h10 : ∃ v' w', (Builtin.append_ #[23, 23] 23 #[v6, .slice (some (if cl = k + 1 then ⟨b, off, none⟩ else ⟨b, off + (k + 1) * 11, none⟩)) (all.drop (k + 1)).length c2]).run Try.prog w6 = .ok v' w' ∧ w'.ownsRow W.heap.size 41 11 v' ([] ++ all.take k ++ all.drop (k + 1)).length ([] ++ xs.take (k * 11) ++ xs.drop ((k + 1) * 11)) ∧ Below W.heap.size w6 w' := by
    by_cases e : cl = k + 1
    · rw [if_pos e]
      refine rows_app o6 hd6 hb6.size b off c2 (fun j u hu => ?_) (by simp; omega)
      exfalso
      have := (List.getElem?_eq_some_iff.1 hu).1
      rw [hd6.len, List.length_drop] at this
      omega
    · rw [if_neg e]
      refine rows_app o6 hd6 hb6.size b (off + (k + 1) * 11) c2 (fun j u hu => ?_) (by simp; omega)
      rw [List.getElem?_drop] at hu
      rw [show off + (k + 1) * 11 + j = off + ((k + 1) * 11 + j) from by omega]
      exact old hw6 _ u hu
  obtain ⟨v10, w10, r10, o10, b10⟩ := h10
  have hb10 : Below W.heap.size W w10 := hb6.trans b10
  have hw10 : Below w.heap.size w w10 := hb.trans (hb10.mono hb.size)
  have hrow : RowsC w10 ([] ++ xs.take (k * 11) ++ xs.drop ((k + 1) * 11)) ([] ++ all.take k ++ all.drop (k + 1)) := ((RowsC.nil w10).app ((h.take k).below hw10)).app ((h.drop (k + 1)).below hw10)
  obtain ⟨a, c, e, hr⟩ := hrow.own o10
  have e1 : [] ++ all.take k ++ all.drop (k + 1) = lessR k all := rfl
  rw [e1] at e hr
  rw [List.length_take, Nat.min_eq_left (by omega)] at r6
  rw [List.length_drop, e] at r10
  exact ⟨v6, w6, a, c, w10, r6, r10, hr, hb6, hb10⟩
end Go.Proofs.Ytolpaimmmhoiiaa
