/- A path of the call's own. -/
import Derived.Test.YtempaadgheondabDoorHPth
import Derived.Test.YtempaadgheondabDoorApE
import Derived.Test.YtempaadgheondabDoorHOne
import Derived.Test.YtempaadgheondabDoorHPfx
import Derived.Deep.RegionWith
import Derived.Deep.DrawnRows
namespace Go.Proofs.YtempaadgheondabDoor
open Go.RowKit
set_option maxRecDepth 100000

theorem Tryd.infoSeg : (Tryd.prog.info? 43).map (fun i => (i.zero, i.size, i.bytes)) = some (some (.agg #[.bool false, .slice none 0 0]), 2, 32) := by kernel_rfl
theorem elemSeg : Elem 22 43 2 32 := by
  obtain ⟨i, h1, h2, h3, h4⟩ := info_parts Tryd.infoSeg
  exact ⟨Tryd.underlying22, ⟨i, _, h1, h2, h3, h4, rfl⟩, by omega, by omega⟩
/-- v is a row of the segments ss, all of it new since B. -/
def OwnPath (w : World) (B : Nat) (v : Value) (ss : List (Bool × List Int)) : Prop :=
  ∃ cs, w.ownsRow B 43 2 v ss.length cs ∧ ∀ i s, ss[i]? = some s → cs[i * 2]? = some (.bool s.1) ∧ ∃ u, cs[i * 2 + 1]? = some u ∧ w.ownsRow B 3 1 u s.2.length (icells s.2)
theorem OwnPath.later {w w' : World} {B : Nat} {v : Value} {ss : List (Bool × List Int)} (h : OwnPath w B v ss) (hb : Below w.heap.size w w') : OwnPath w' B v ss := by
  obtain ⟨cs, ho, hc⟩ := h
  refine ⟨cs, own_later ho hb, fun i s hi => ?_⟩
  obtain ⟨h1, u, h2, h3⟩ := hc i s hi
  exact ⟨h1, u, h2, own_later h3 hb⟩
theorem OwnPath.nil (w : World) (B : Nat) : OwnPath w B (.slice none 0 0) [] := ⟨[], own_nil _ _ _ _, fun i s h => by simp at h⟩
theorem own_ird {w : World} {B : Nat} {u : Value} {zs : List Int} (h : w.ownsRow B 3 1 u zs.length (icells zs)) : ∃ a c, u = .slice a zs.length c ∧ IRd w a zs := by
  have hh := h
  rcases h.2 with ⟨rfl, h0⟩ | ⟨g, cap, cur, rfl, _⟩
  · exact ⟨none, 0, by rw [h0], fun hp => absurd hp (by omega)⟩
  · refine ⟨_, _, rfl, fun _ => ⟨g, 0, rfl, fun j z hj => ?_⟩⟩
    have hjl := (List.getElem?_eq_some_iff.1 hj).1
    rw [Nat.zero_add, hh.cellAt j (by omega)]
    exact icells_get zs j z hj
theorem OwnPath.rd {w : World} {B : Nat} {v : Value} {ss : List (Bool × List Int)} (h : OwnPath w B v ss) (hl : ss.length ≤ 1000000) (hs : ∀ s ∈ ss, s.2.length ≤ 1000000) : ∃ a c, v = .slice a ss.length c ∧ PthRd w a ss := by
  obtain ⟨cs, ho, hc⟩ := h
  have hh := ho
  rcases ho.2 with ⟨rfl, h0⟩ | ⟨g, cap, cur, rfl, _⟩
  · exact ⟨none, 0, by rw [h0], ⟨fun hp => absurd hp (by omega), by unfold maxLen; omega, fun s hm => by have := hs s hm; unfold maxLen; omega⟩⟩
  · refine ⟨_, _, rfl, ⟨fun _ => ⟨g, 0, rfl, fun i s hi => ?_⟩, by unfold maxLen; omega, fun s hm => by have := hs s hm; unfold maxLen; omega⟩⟩
    have hil := (List.getElem?_eq_some_iff.1 hi).1
    obtain ⟨h1, u, h2, h3⟩ := hc i s hi
    obtain ⟨a', c', rfl, h4⟩ := own_ird h3
    rw [Nat.zero_add, hh.cellAt (i * 2) (by omega), hh.cellAt (i * 2 + 1) (by omega)]
    exact ⟨h1, a', c', h2, h4⟩
/-- One segment more. -/
theorem OwnPath.snoc {w : World} {B : Nat} {v u : Value} {ss : List (Bool × List Int)} {b : Bool} {zs : List Int} (h : OwnPath w B v ss) (hu : w.ownsRow B 3 1 u zs.length (icells zs)) (hone : u.oneCell' = true) (hB : B ≤ w.heap.size) (hl : ss.length ≤ 100000) (H : Nat) (hH : w.heap.size = H) :
    ∃ v' w', (Builtin.append_ #[22, 22] 22 #[v, .slice (some ⟨H, 0, none⟩) 1 1]).run Tryd.prog (w.alloc (.cells #[.bool b, u] 43)) = .ok v' w' ∧ OwnPath w' B v' (ss ++ [(b, zs)]) ∧ Below B w w' := by
  subst hH
  obtain ⟨cs, ho, hc⟩ := h
  have hb1 : Below B w (w.alloc (.cells #[.bool b, u] 43)) := (Below.refl _ _).alloc hB _
  have hbw : Below w.heap.size w (w.alloc (.cells #[.bool b, u] 43)) := (Below.refl _ _).alloc (Nat.le_refl _) _
  obtain ⟨v', w', hr, h2, h3, h4, _⟩ := app_more elemSeg (w := w.alloc (.cells #[.bool b, u] 43)) (ho.alloc _) (by simp; omega) ⟨w.heap.size, 0, none⟩ 1 1 [.bool b, u] rfl (fun j x hx => by
    rw [Addr.add_mid, Nat.zero_add, World.cell?_alloc_mark]
    simpa using hx) (by intro x hx; simp at hx; rcases hx with rfl | rfl; rfl; exact hone) (by omega)
  have hap : ∀ (x : Value) (ys : List Int), w.ownsRow B 3 1 x ys.length (icells ys) → w'.ownsRow B 3 1 x ys.length (icells ys) := fun x ys hx =>
    own_grown (own_later hx hbw) h4 (fun k hk => own_apart hx ho (by decide) k hk)
  refine ⟨v', w', hr, ⟨_, by rw [List.length_append]; exact h2, fun i s hi => ?_⟩, hb1.trans h3⟩
  have hcl : cs.length = ss.length * 2 := ho.1
  by_cases hlt : i < ss.length
  · rw [List.getElem?_append_left hlt] at hi
    obtain ⟨g1, x, g2, g3⟩ := hc i s hi
    exact ⟨by rw [List.getElem?_append_left (by omega)]; exact g1, x, by rw [List.getElem?_append_left (by omega)]; exact g2, hap x _ g3⟩
  · rw [List.getElem?_append_right (by omega)] at hi
    have hi0 : i - ss.length = 0 := by
      have := (List.getElem?_eq_some_iff.1 hi).1
      simpa using this
    rw [hi0] at hi
    simp at hi
    subst hi
    have e1 : i = ss.length := by omega
    subst e1
    refine ⟨by rw [List.getElem?_append_right (by omega), hcl, Nat.sub_self]; rfl, u, by rw [List.getElem?_append_right (by omega), show ss.length * 2 + 1 - cs.length = 1 from by omega]; rfl, hap u zs hu⟩
end Go.Proofs.YtempaadgheondabDoor
/- What bytes are the path of, in plain numbers; the document's ReadPath. -/
namespace Go.Proofs.YtempaadgheondabDoor
open Go.RowKit
set_option maxRecDepth 100000

/-- Stands a whole segment at place i? -/
def segOk (f : Nat → Nat) (len i : Nat) : Bool := decide (i + 2 ≤ len ∧ (f i = 1 ∨ f i = 2) ∧ i + 2 + 4 * f (i + 1) ≤ len)
/-- The n numbers from place j on. -/
def numsAt (f : Nat → Nat) (j n : Nat) : List Int := (List.range n).map fun k => ((num (fun q => f (j + 4 * k + q)) : Nat) : Int)
theorem numsAt_length (f : Nat → Nat) (j n : Nat) : (numsAt f j n).length = n := by simp [numsAt]
theorem numsAt_succ (f : Nat → Nat) (j n : Nat) : numsAt f j (n + 1) = numsAt f j n ++ [((num (fun q => f (j + 4 * n + q)) : Nat) : Int)] := by simp [numsAt, List.range_succ]
/-- The segment at place i. -/
def segAt (f : Nat → Nat) (i : Nat) : Bool × List Int := (decide (f i = 1), numsAt f (i + 2) (f (i + 1)))
/-- The path, if it is good. -/
def fin (acc : List (Bool × List Int)) : Option (List (Bool × List Int)) := if goodP acc then some acc else none
def segsFuel (f : Nat → Nat) (len : Nat) : Nat → Nat → List (Bool × List Int) → Option (List (Bool × List Int))
  | 0, _, acc => fin acc
  | k + 1, i, acc => if i < len then if segOk f len i then segsFuel f len k (i + 2 + 4 * f (i + 1)) (acc ++ [segAt f i]) else none else fin acc
/-- What the bytes from place i on are the path of, behind acc. -/
def segsRun (f : Nat → Nat) (len i : Nat) (acc : List (Bool × List Int)) : Option (List (Bool × List Int)) := segsFuel f len (len - i) i acc
theorem segsFuel_end {f : Nat → Nat} {len i : Nat} {acc : List (Bool × List Int)} (h : ¬ i < len) : ∀ k, segsFuel f len k i acc = fin acc
  | 0 => rfl
  | k + 1 => by rw [segsFuel, if_neg h]
theorem segsFuel_more (f : Nat → Nat) (len : Nat) : ∀ (k i : Nat) (acc : List (Bool × List Int)), len - i ≤ k → ∀ d, segsFuel f len (k + d) i acc = segsFuel f len k i acc
  | 0, i, acc, h, d => by rw [segsFuel_end (by omega), segsFuel_end (by omega)]
  | k + 1, i, acc, h, d => by
    rw [show k + 1 + d = (k + d) + 1 from by omega, segsFuel, segsFuel]
    by_cases hi : i < len
    · rw [if_pos hi, if_pos hi]
      by_cases ho : segOk f len i = true
      · rw [if_pos ho, if_pos ho]
        exact segsFuel_more f len k _ _ (by omega) d
      · rw [if_neg ho, if_neg ho]
    · rw [if_neg hi, if_neg hi]
theorem segsRun_go {f : Nat → Nat} {len i : Nat} {acc : List (Bool × List Int)} (h : i < len) (ho : segOk f len i = true) : segsRun f len i acc = segsRun f len (i + 2 + 4 * f (i + 1)) (acc ++ [segAt f i]) := by
  unfold segsRun
  rw [show len - i = (len - i - 1) + 1 from by omega, segsFuel, if_pos h, if_pos ho, show len - i - 1 = (len - (i + 2 + 4 * f (i + 1))) + (len - i - 1 - (len - (i + 2 + 4 * f (i + 1)))) from by omega, segsFuel_more _ _ _ _ _ (by omega)]
theorem segsRun_no {f : Nat → Nat} {len i : Nat} {acc : List (Bool × List Int)} (h : i < len) (ho : segOk f len i = false) : segsRun f len i acc = none := by
  unfold segsRun
  rw [show len - i = (len - i - 1) + 1 from by omega, segsFuel, if_pos h, if_neg (by simp [ho])]
theorem segsRun_end {f : Nat → Nat} {len i : Nat} {acc : List (Bool × List Int)} (h : ¬ i < len) : segsRun f len i acc = fin acc := segsFuel_end h _
/-- What ReadPath answers. -/
def PthRes (w w' : World) (r : Option (List (Bool × List Int))) (e : Ending) : Prop :=
  match r with
  | none => e = .returned (.tuple #[.slice none 0 0, .bool false])
  | some ss => ∃ v, e = .returned (.tuple #[v, .bool true]) ∧ OwnPath w' w.heap.size v ss
section
variable {P : Program} {a : Act} {w w' : World} {K : Act → World → Prop} {Q : Exit → Act → World → Prop} {dst : Option Tmp} {ty : TypeId} {pos : String} {after : Array Edge} {gd : Option (Nat × Bool)}
theorem kept_appendI (x y : Operand) : Oper.wp P { dst := dst, op := .call { callee := .builtin .append, args := #[x, y], argTypes := #[41, 41] }, type := ty, pos := pos, after := after, guard := gd } a w K Q = Kept P { dst := dst, op := .call { callee := .builtin .append, args := #[x, y], argTypes := #[41, 41] }, type := ty, pos := pos, after := after, guard := gd } a w K Q := rfl
theorem kept_appendI_intro (x y : Operand) (p q v : Value) (hx : a.eval x = p) (hy : a.eval y = q) (hr : (Builtin.append_ #[41, 41] ty #[p, q]).run P w = .ok v w') (h : K (a.put dst v) w') :
    Kept P { dst := dst, op := .call { callee := .builtin .append, args := #[x, y], argTypes := #[41, 41] }, type := ty, pos := pos, after := after, guard := gd } a w K Q := by
  unfold Kept Oper.wp execOp
  simp only [resolve, invoke, builtin, Sem.run_bind, Sem.run_pure, Result.andThen_ok, List.map_toArray, List.map_cons, List.map_nil, hx, hy, hr]
  exact h
theorem kept_appendS (x y : Operand) : Oper.wp P { dst := dst, op := .call { callee := .builtin .append, args := #[x, y], argTypes := #[22, 22] }, type := ty, pos := pos, after := after, guard := gd } a w K Q = Kept P { dst := dst, op := .call { callee := .builtin .append, args := #[x, y], argTypes := #[22, 22] }, type := ty, pos := pos, after := after, guard := gd } a w K Q := rfl
theorem kept_appendS_intro (x y : Operand) (p q v : Value) (hx : a.eval x = p) (hy : a.eval y = q) (hr : (Builtin.append_ #[22, 22] ty #[p, q]).run P w = .ok v w') (h : K (a.put dst v) w') :
    Kept P { dst := dst, op := .call { callee := .builtin .append, args := #[x, y], argTypes := #[22, 22] }, type := ty, pos := pos, after := after, guard := gd } a w K Q := by
  unfold Kept Oper.wp execOp
  simp only [resolve, invoke, builtin, Sem.run_bind, Sem.run_pure, Result.andThen_ok, List.map_toArray, List.map_cons, List.map_nil, hx, hy, hr]
  exact h
end
/-- A segment under way: its box at block X, its numbers in a row behind it; all that was in w0 stands. -/
structure SegSt (w0 w : World) (X : Nat) (b : Bool) (u : Value) (zs : List Int) : Prop where
  own : w.ownsRow (X + 1) 3 1 u zs.length (icells zs)
  bel : Below X w0 w
  c0 : w.cell? ⟨X, 0, none⟩ = some (.bool b)
  c1 : w.cell? ⟨X, 1, none⟩ = some u
  fz : ∀ j, w.frozen? ⟨X, j, none⟩ = false
theorem segSt_new (w0 : World) (b : Bool) : SegSt w0 (w0.alloc (.cells #[.bool b, .slice none 0 0] 43)) w0.heap.size b (.slice none 0 0) [] :=
  ⟨own_nil _ _ _ _, (Below.refl _ _).alloc (Nat.le_refl _) _, by simp [go_sem], by simp [go_sem], fun j => by simp [go_sem]⟩
theorem SegSt.later {w0 w w' : World} {X : Nat} {b : Bool} {u : Value} {zs : List Int} (h : SegSt w0 w X b u zs) (hb : Below w.heap.size w w') : SegSt w0 w' X b u zs := by
  have hX := World.block_lt_of_cell? w _ h.c0
  simp only at hX
  exact ⟨own_later h.own hb, h.bel.trans (hb.mono (by omega)), by rw [hb.cell (p := ⟨X, 0, none⟩) (by exact hX)]; exact h.c0, by rw [hb.cell (p := ⟨X, 1, none⟩) (by exact hX)]; exact h.c1, fun j => by rw [hb.frozen (p := ⟨X, j, none⟩) (by exact hX)]; exact h.fz j⟩
/-- One number more. -/
theorem SegSt.more {w0 w : World} {X : Nat} {b : Bool} {u : Value} {zs : List Int} (h : SegSt w0 w X b u zs) (x : Int) (hl : zs.length ≤ 100000) :
    ∃ g3 c3 w3, (Builtin.append_ #[41, 41] 41 #[u, .slice (some ⟨w.heap.size, 0, none⟩) 1 1]).run Tryd.prog (w.alloc (.cells #[.int .i64 x] 3)) = .ok (.slice (some ⟨g3, 0, none⟩) (zs.length + 1) c3) w3 ∧ w3.cell? ⟨X, 1, none⟩ = some u ∧ w3.frozen? ⟨X, 1, none⟩ = false ∧ SegSt w0 (w3.setCell ⟨X, 1, none⟩ (.slice (some ⟨g3, 0, none⟩) (zs.length + 1) c3)) X b (.slice (some ⟨g3, 0, none⟩) (zs.length + 1) c3) (zs ++ [x]) := by
  have hX := World.block_lt_of_cell? w _ h.c0
  simp only at hX
  obtain ⟨v3, w3, hr, ho, hb⟩ := app_new elemInt h.own (by omega) 1 (icells [x]) rfl (icells_one _) (by omega) w.heap.size rfl
  have e0 : w3.cell? ⟨X, 0, none⟩ = some (.bool b) := by rw [World.cell?_of_block (w := w) (hb.block X (by omega))]; exact h.c0
  have e1 : w3.cell? ⟨X, 1, none⟩ = some u := by rw [World.cell?_of_block (w := w) (hb.block X (by omega))]; exact h.c1
  have ef : ∀ j, w3.frozen? ⟨X, j, none⟩ = false := fun j => by rw [World.frozen?_of_block (w := w) (hb.block X (by omega))]; exact h.fz j
  obtain ⟨g3, c3, rfl, _, _⟩ := ho.form (by omega)
  refine ⟨g3, c3, w3, hr, e1, ef 1, ⟨?_, ?_, ?_, ?_, fun j => by rw [World.frozen?_setCell]; exact ef j⟩⟩
  · rw [icells_app, List.length_append]
    refine ⟨ho.1, ?_⟩
    rcases ho.2 with hh | ⟨g, cap, cur, ev, hg, hc, rest⟩
    · exact .inl hh
    · refine .inr ⟨g, cap, cur, ev, hg, ?_, rest⟩
      rw [heap_setCell w3 X 1 _ g (by omega)]
      exact hc
  · exact (h.bel.trans (hb.mono (by omega))).setCell (Nat.le_refl _) _
  · rw [World.cell?_setCell_other _ _ _ _ (by intro e; injection e with _ e2 _; omega)]; exact e0
  · rw [World.cell?_setCell_same _ _ _ e1]
theorem own_one {w : World} {B e size n : Nat} {u : Value} {xs : List Value} (h : w.ownsRow B e size u n xs) : u.oneCell' = true := by
  rcases h.2 with ⟨rfl, _⟩ | ⟨g, cap, cur, rfl, _⟩ <;> rfl
end Go.Proofs.YtempaadgheondabDoor
