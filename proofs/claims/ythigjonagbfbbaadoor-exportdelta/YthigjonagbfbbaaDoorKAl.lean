/- What bytes are the path of, in plain numbers; the document's ReadPath. -/
import Derived.Test.YthigjonagbfbbaaDoorKAb
import Derived.Test.YthigjonagbfbbaaDoorKAj
import Derived.Test.YthigjonagbfbbaaDoorKAd
import Derived.Deep.RegionWith
import Derived.Deep.DrawnRows
namespace Go.Proofs.YthigjonagbfbbaaDoor
open Go.RowKit
set_option maxRecDepth 100000

/-- Stands a whole segment at place i? -/
def segOk (f : Nat → Nat) (len i : Nat) : Bool := decide (i + 2 ≤ len ∧ (f i = 1 ∨ f i = 2) ∧ i + 2 + 4 * f (i + 1) ≤ len)
/-- The n numbers from place j on. -/
def numsAt (f : Nat → Nat) (j n : Nat) : List Int := (List.range n).map fun k => ((num (fun q => f (j + 4 * k + q)) : Nat) : Int)
theorem numsAt_length (f : Nat → Nat) (j n : Nat) : (numsAt f j n).length = n := by simp [numsAt]
theorem numsAt_succ (f : Nat → Nat) (j n : Nat) : numsAt f j (n + 1) = numsAt f j n ++ [((num (fun q => f (j + 4 * n + q)) : Nat) : Int)] := by simp [numsAt, List.range_succ]
/-- The segment at place i. -/
def segAt (f : Nat → Nat) (i : Nat) : Bool × List Int := (decide (f i = 1), numsAt f (i + 2) (f (i + 1)))
/-- The path, if it is good. -/
def fin (acc : List (Bool × List Int)) : Option (List (Bool × List Int)) := if goodP acc then some acc else none
def segsFuel (f : Nat → Nat) (len : Nat) : Nat → Nat → List (Bool × List Int) → Option (List (Bool × List Int))
  | 0, _, acc => fin acc
  | k + 1, i, acc => if i < len then if segOk f len i then segsFuel f len k (i + 2 + 4 * f (i + 1)) (acc ++ [segAt f i]) else none else fin acc
/-- What the bytes from place i on are the path of, behind acc. -/
def segsRun (f : Nat → Nat) (len i : Nat) (acc : List (Bool × List Int)) : Option (List (Bool × List Int)) := segsFuel f len (len - i) i acc
theorem segsFuel_end {f : Nat → Nat} {len i : Nat} {acc : List (Bool × List Int)} (h : ¬ i < len) : ∀ k, segsFuel f len k i acc = fin acc
  | 0 => rfl
  | k + 1 => by rw [segsFuel, if_neg h]
theorem segsFuel_more (f : Nat → Nat) (len : Nat) : ∀ (k i : Nat) (acc : List (Bool × List Int)), len - i ≤ k → ∀ d, segsFuel f len (k + d) i acc = segsFuel f len k i acc
  | 0, i, acc, h, d => by rw [segsFuel_end (by omega), segsFuel_end (by omega)]
  | k + 1, i, acc, h, d => by
    rw [show k + 1 + d = (k + d) + 1 from by omega, segsFuel, segsFuel]
    by_cases hi : i < len
    · rw [if_pos hi, if_pos hi]
      by_cases ho : segOk f len i = true
      · rw [if_pos ho, if_pos ho]
        exact segsFuel_more f len k _ _ (by omega) d
      · rw [if_neg ho, if_neg ho]
    · rw [if_neg hi, if_neg hi]
theorem segsRun_go {f : Nat → Nat} {len i : Nat} {acc : List (Bool × List Int)} (h : i < len) (ho : segOk f len i = true) : segsRun f len i acc = segsRun f len (i + 2 + 4 * f (i + 1)) (acc ++ [segAt f i]) := by
  unfold segsRun
  rw [show len - i = (len - i - 1) + 1 from by omega, segsFuel, if_pos h, if_pos ho, show len - i - 1 = (len - (i + 2 + 4 * f (i + 1))) + (len - i - 1 - (len - (i + 2 + 4 * f (i + 1)))) from by omega, segsFuel_more _ _ _ _ _ (by omega)]
theorem segsRun_no {f : Nat → Nat} {len i : Nat} {acc : List (Bool × List Int)} (h : i < len) (ho : segOk f len i = false) : segsRun f len i acc = none := by
  unfold segsRun
  rw [show len - i = (len - i - 1) + 1 from by omega, segsFuel, if_pos h, if_neg (by simp [ho])]
theorem segsRun_end {f : Nat → Nat} {len i : Nat} {acc : List (Bool × List Int)} (h : ¬ i < len) : segsRun f len i acc = fin acc := segsFuel_end h _
/-- What ReadPath answers. -/
def PthRes (w w' : World) (r : Option (List (Bool × List Int))) (e : Ending) : Prop :=
  match r with
  | none => e = .returned (.tuple #[.slice none 0 0, .bool false])
  | some ss => ∃ v, e = .returned (.tuple #[v, .bool true]) ∧ OwnPath w' w.heap.size v ss
section
variable {P : Program} {a : Act} {w w' : World} {K : Act → World → Prop} {Q : Exit → Act → World → Prop} {dst : Option Tmp} {ty : TypeId} {pos : String} {after : Array Edge} {gd : Option (Nat × Bool)}
theorem kept_appendI (x y : Operand) : Oper.wp P { dst := dst, op := .call { callee := .builtin .append, args := #[x, y], argTypes := #[67, 67] }, type := ty, pos := pos, after := after, guard := gd } a w K Q = Kept P { dst := dst, op := .call { callee := .builtin .append, args := #[x, y], argTypes := #[67, 67] }, type := ty, pos := pos, after := after, guard := gd } a w K Q := rfl
theorem kept_appendI_intro (x y : Operand) (p q v : Value) (hx : a.eval x = p) (hy : a.eval y = q) (hr : (Builtin.append_ #[67, 67] ty #[p, q]).run P w = .ok v w') (h : K (a.put dst v) w') :
    Kept P { dst := dst, op := .call { callee := .builtin .append, args := #[x, y], argTypes := #[67, 67] }, type := ty, pos := pos, after := after, guard := gd } a w K Q := by
  unfold Kept Oper.wp execOp
  simp only [resolve, invoke, builtin, Sem.run_bind, Sem.run_pure, Result.andThen_ok, List.map_toArray, List.map_cons, List.map_nil, hx, hy, hr]
  exact h
theorem kept_appendS (x y : Operand) : Oper.wp P { dst := dst, op := .call { callee := .builtin .append, args := #[x, y], argTypes := #[30, 30] }, type := ty, pos := pos, after := after, guard := gd } a w K Q = Kept P { dst := dst, op := .call { callee := .builtin .append, args := #[x, y], argTypes := #[30, 30] }, type := ty, pos := pos, after := after, guard := gd } a w K Q := rfl
theorem kept_appendS_intro (x y : Operand) (p q v : Value) (hx : a.eval x = p) (hy : a.eval y = q) (hr : (Builtin.append_ #[30, 30] ty #[p, q]).run P w = .ok v w') (h : K (a.put dst v) w') :
    Kept P { dst := dst, op := .call { callee := .builtin .append, args := #[x, y], argTypes := #[30, 30] }, type := ty, pos := pos, after := after, guard := gd } a w K Q := by
  unfold Kept Oper.wp execOp
  simp only [resolve, invoke, builtin, Sem.run_bind, Sem.run_pure, Result.andThen_ok, List.map_toArray, List.map_cons, List.map_nil, hx, hy, hr]
  exact h
end
/-- A segment under way: its box at block X, its numbers in a row behind it; all that was in w0 stands. -/
structure SegSt (w0 w : World) (X : Nat) (b : Bool) (u : Value) (zs : List Int) : Prop where
  own : w.ownsRow (X + 1) 3 1 u zs.length (icells zs)
  bel : Below X w0 w
  c0 : w.cell? ⟨X, 0, none⟩ = some (.bool b)
  c1 : w.cell? ⟨X, 1, none⟩ = some u
  fz : ∀ j, w.frozen? ⟨X, j, none⟩ = false
theorem segSt_new (w0 : World) (b : Bool) : SegSt w0 (w0.alloc (.cells #[.bool b, .slice none 0 0] 69)) w0.heap.size b (.slice none 0 0) [] :=
  ⟨own_nil _ _ _ _, (Below.refl _ _).alloc (Nat.le_refl _) _, by simp [go_sem], by simp [go_sem], fun j => by simp [go_sem]⟩
theorem SegSt.later {w0 w w' : World} {X : Nat} {b : Bool} {u : Value} {zs : List Int} (h : SegSt w0 w X b u zs) (hb : Below w.heap.size w w') : SegSt w0 w' X b u zs := by
  have hX := World.block_lt_of_cell? w _ h.c0
  simp only at hX
  exact ⟨own_later h.own hb, h.bel.trans (hb.mono (by omega)), by rw [hb.cell (p := ⟨X, 0, none⟩) (by exact hX)]; exact h.c0, by rw [hb.cell (p := ⟨X, 1, none⟩) (by exact hX)]; exact h.c1, fun j => by rw [hb.frozen (p := ⟨X, j, none⟩) (by exact hX)]; exact h.fz j⟩
/-- One number more. -/
theorem SegSt.more {w0 w : World} {X : Nat} {b : Bool} {u : Value} {zs : List Int} (h : SegSt w0 w X b u zs) (x : Int) (hl : zs.length ≤ 100000) :
    ∃ g3 c3 w3, (Builtin.append_ #[67, 67] 67 #[u, .slice (some ⟨w.heap.size, 0, none⟩) 1 1]).run Tryd.prog (w.alloc (.cells #[.int .i64 x] 3)) = .ok (.slice (some ⟨g3, 0, none⟩) (zs.length + 1) c3) w3 ∧ w3.cell? ⟨X, 1, none⟩ = some u ∧ w3.frozen? ⟨X, 1, none⟩ = false ∧ SegSt w0 (w3.setCell ⟨X, 1, none⟩ (.slice (some ⟨g3, 0, none⟩) (zs.length + 1) c3)) X b (.slice (some ⟨g3, 0, none⟩) (zs.length + 1) c3) (zs ++ [x]) := by
  have hX := World.block_lt_of_cell? w _ h.c0
  simp only at hX
  obtain ⟨v3, w3, hr, ho, hb⟩ := app_new elemInt h.own (by omega) 1 (icells [x]) rfl (icells_one _) (by omega) w.heap.size rfl
  have e0 : w3.cell? ⟨X, 0, none⟩ = some (.bool b) := by rw [World.cell?_of_block (w := w) (hb.block X (by omega))]; exact h.c0
  have e1 : w3.cell? ⟨X, 1, none⟩ = some u := by rw [World.cell?_of_block (w := w) (hb.block X (by omega))]; exact h.c1
  have ef : ∀ j, w3.frozen? ⟨X, j, none⟩ = false := fun j => by rw [World.frozen?_of_block (w := w) (hb.block X (by omega))]; exact h.fz j
  obtain ⟨g3, c3, rfl, _, _⟩ := ho.form (by omega)
  refine ⟨g3, c3, w3, hr, e1, ef 1, ⟨?_, ?_, ?_, ?_, fun j => by rw [World.frozen?_setCell]; exact ef j⟩⟩
  · rw [icells_app, List.length_append]
    refine ⟨ho.1, ?_⟩
    rcases ho.2 with hh | ⟨g, cap, cur, ev, hg, hc, rest⟩
    · exact .inl hh
    · refine .inr ⟨g, cap, cur, ev, hg, ?_, rest⟩
      rw [heap_setCell w3 X 1 _ g (by omega)]
      exact hc
  · exact (h.bel.trans (hb.mono (by omega))).setCell (Nat.le_refl _) _
  · rw [World.cell?_setCell_other _ _ _ _ (by intro e; injection e with _ e2 _; omega)]; exact e0
  · rw [World.cell?_setCell_same _ _ _ e1]
theorem own_one {w : World} {B e size n : Nat} {u : Value} {xs : List Value} (h : w.ownsRow B e size u n xs) : u.oneCell' = true := by
  rcases h.2 with ⟨rfl, _⟩ | ⟨g, cap, cur, rfl, _⟩ <;> rfl
end Go.Proofs.YthigjonagbfbbaaDoor
/- A number ahead of a path: one row more, the rest as it stood; the document's Prepend. -/
namespace Go.Proofs.YthigjonagbfbbaaDoor
open Go.RowKit
set_option maxRecDepth 100000

/-- A number ahead of a path. -/
def prepP (z : Int) : List (Bool × List Int) → List (Bool × List Int)
  | [] => [(false, [z])]
  | s :: r => if s.1 = false ∧ s.2.length ≤ 254 then (false, z :: s.2) :: r else (false, [z]) :: s :: r
theorem append_none {t e size bytes : Nat} (he : Elem t e size bytes) (w : World) (b : Addr) (n cap c : Nat) (hn : n ≤ cap) :
    (Builtin.append_ #[t, t] t #[.slice (some b) n cap, .slice none 0 c]).run Tryd.prog w = .ok (.slice (some b) n cap) w := by
  obtain ⟨i, z, hi, _⟩ := he.info
  have ht := he.sl
  simp [Builtin.append_, run_underlying ht, sizeOf, typeInfo, hi, hn, Builtin.lenOf, Builtin.firstCells, go_sem, storeCells]
/-- The cells of a path that is read. -/
theorem pth_cells {w : World} {b off : Nat} {ss : List (Bool × List Int)} (h : ∀ i s, ss[i]? = some s → w.cell? ⟨b, off + i * 2, none⟩ = some (.bool s.1) ∧ ∃ a' c', w.cell? ⟨b, off + i * 2 + 1, none⟩ = some (.slice a' s.2.length c') ∧ IRd w a' s.2) :
    ∃ xs : List Value, xs.length = ss.length * 2 ∧ (∀ j u, xs[j]? = some u → w.cell? ⟨b, off + j, none⟩ = some u ∧ u.oneCell' = true) ∧ ∀ j, j < ss.length * 2 → xs[j]? = w.cell? ⟨b, off + j, none⟩ := by
  have hs : ∀ j, j < ss.length * 2 → ∃ u, w.cell? ⟨b, off + j, none⟩ = some u ∧ u.oneCell' = true := fun j hj => by
    obtain ⟨h1, a', c', h2, _⟩ := h (j / 2) ss[j / 2] (List.getElem?_eq_getElem (by omega))
    by_cases hm : j % 2 = 0
    · exact ⟨_, by rw [show off + j = off + j / 2 * 2 from by omega]; exact h1, rfl⟩
    · exact ⟨_, by rw [show off + j = off + j / 2 * 2 + 1 from by omega]; exact h2, rfl⟩
  refine ⟨(List.range (ss.length * 2)).map fun j => (w.cell? ⟨b, off + j, none⟩).getD (.bool false), by simp, fun j u hu => ?_, fun j hj => ?_⟩
  · have hj : j < ss.length * 2 := by have := (List.getElem?_eq_some_iff.1 hu).1; simpa using this
    obtain ⟨x, hx, h1⟩ := hs j hj
    simp [hj, hx] at hu
    subst hu
    exact ⟨hx, h1⟩
  · obtain ⟨x, hx, _⟩ := hs j hj
    simp [hj, hx]
/-- A row of one segment, the path behind it. -/
theorem prep_rd {w0 w : World} {v u : Value} {zs : List Int} {a : Option Addr} {c : Nat} {ss : List (Bool × List Int)} (ho : w.ownsRow w0.heap.size 69 2 v 1 [.bool false, u]) (hu : w.ownsRow w0.heap.size 3 1 u zs.length (icells zs)) (hp : PthRd w0 a ss) (hb : Below w0.heap.size w0 w) (hl : ss.length ≤ 100000) (hz : zs.length ≤ 100000) :
    ∃ a9 c9 w', (Builtin.append_ #[30, 30] 30 #[v, .slice a ss.length c]).run Tryd.prog w = .ok (.slice a9 (ss.length + 1) c9) w' ∧ PthRd w' a9 ((false, zs) :: ss) ∧ Below w0.heap.size w0 w' := by
  have key : ∀ (v' : Value) (w' : World) (news : List Value), w'.ownsRow w0.heap.size 69 2 v' (1 + ss.length) ([.bool false, u] ++ news) → Below w0.heap.size w0 w' → w'.ownsRow w0.heap.size 3 1 u zs.length (icells zs) → (∀ b off, a = some ⟨b, off, none⟩ → ∀ j, j < ss.length * 2 → news[j]? = w0.cell? ⟨b, off + j, none⟩) → ∃ a9 c9, v' = .slice a9 (ss.length + 1) c9 ∧ PthRd w' a9 ((false, zs) :: ss) := by
    intro v' w' news hv hb' hu' hn
    obtain ⟨g, c9, rfl, _, _⟩ := hv.form (by omega)
    obtain ⟨a2, c2, rfl, hird⟩ := own_ird hu'
    refine ⟨_, c9, by rw [Nat.add_comm], ⟨fun _ => ⟨g, 0, rfl, fun i s hi => ?_⟩, by unfold maxLen; simp only [List.length_cons]; omega, fun s hs => ?_⟩⟩
    · cases i with
      | zero =>
        simp at hi
        subst hi
        rw [Nat.zero_add, hv.cellAt (0 * 2) (by omega), hv.cellAt (0 * 2 + 1) (by omega)]
        exact ⟨rfl, a2, c2, rfl, hird⟩
      | succ i =>
        have hi' : ss[i]? = some s := by simpa using hi
        have hil := (List.getElem?_eq_some_iff.1 hi').1
        obtain ⟨b, off, rfl, hc⟩ := hp.cells (by omega)
        obtain ⟨h1, a', c', h2, h3⟩ := hc i s hi'
        rw [Nat.zero_add, hv.cellAt ((i + 1) * 2) (by omega), hv.cellAt ((i + 1) * 2 + 1) (by omega)]
        refine ⟨?_, a', c', ?_, h3.below hb'⟩
        · rw [List.getElem?_append_right (by simp; omega), show (i + 1) * 2 - [Value.bool false, Value.slice a2 zs.length c2].length = i * 2 from by simp; omega, hn b off rfl _ (by omega)]
          exact h1
        · rw [List.getElem?_append_right (by simp; omega), show (i + 1) * 2 + 1 - [Value.bool false, Value.slice a2 zs.length c2].length = i * 2 + 1 from by simp; omega, hn b off rfl _ (by omega)]
          exact h2
    · rcases List.mem_cons.1 hs with rfl | hs
      · unfold maxLen; simp only; omega
      · exact hp.smalls s hs
  have hsz := hb.size
  cases a with
  | none =>
    have h0 : ss = [] := by
      cases ss with
      | nil => rfl
      | cons s r => obtain ⟨b, off, e, _⟩ := hp.cells (by simp); cases e
    subst h0
    obtain ⟨g, c9, rfl, hcap⟩ : ∃ g c9, v = .slice (some ⟨g, 0, none⟩) 1 c9 ∧ 1 ≤ c9 := by
      rcases ho.2 with ⟨_, h1⟩ | ⟨g, cap, cur, rfl, _, _, h1, _⟩
      · exact absurd h1 (by omega)
      · exact ⟨g, cap, rfl, h1⟩
    have hr := append_none elemSeg w ⟨g, 0, none⟩ 1 c9 c (by omega)
    obtain ⟨a9, c8, e, hrd⟩ := key _ w [] (by simpa using ho) hb hu (fun b off e => by cases e)
    cases e
    exact ⟨_, _, w, hr, hrd, hb⟩
  | some ad =>
    by_cases h0 : ss = []
    · subst h0
      obtain ⟨v', w', hr, h2, h3, h4, _⟩ := app_more elemSeg ho (by omega) ad 0 c [] rfl (fun j x hx => by simp at hx) (by simp) (by omega)
      obtain ⟨a9, c8, rfl, hrd⟩ := key v' w' [] h2 (hb.trans h3) (own_grown hu h4 (fun k hk => own_apart hu ho (by decide) k hk)) (fun b off e j hj => by simp at hj)
      exact ⟨_, _, w', hr, hrd, hb.trans h3⟩
    · have hpos : 0 < ss.length := by cases ss with | nil => exact absurd rfl h0 | cons s r => simp
      obtain ⟨b, off, e, hc⟩ := hp.cells hpos
      cases e
      obtain ⟨xs, hx1, hx2, hx3⟩ := pth_cells hc
      obtain ⟨v', w', hr, h2, h3, h4, _⟩ := app_more elemSeg ho (by omega) ⟨b, off, none⟩ ss.length c xs hx1 (fun j x hx => by
        rw [Addr.add_mid]
        have h9 := (hx2 j x hx).1
        rw [hb.cell (p := ⟨b, off + j, none⟩) (World.block_lt_of_cell? w0 _ h9)]
        exact h9) (fun x hx => by
        obtain ⟨j, hj⟩ := List.getElem?_of_mem hx
        exact (hx2 j x hj).2) (by omega)
      obtain ⟨a9, c8, rfl, hrd⟩ := key v' w' xs h2 (hb.trans h3) (own_grown hu h4 (fun k hk => own_apart hu ho (by decide) k hk)) (fun b' off' e j hj => by cases e; exact hx3 j hj)
      exact ⟨_, _, w', hr, hrd, hb.trans h3⟩
/-- A row just made. -/
theorem own_made (w : World) (B e size : Nat) (cur : Array Value) (n : Nat) (hB : B ≤ w.heap.size) (hc : cur.size = n * size) (hn : n ≤ 1000) : (w.alloc (.cells cur e)).ownsRow B e size (.slice (some ⟨w.heap.size, 0, none⟩) n n) n cur.toList :=
  ⟨by simpa using hc, .inr ⟨w.heap.size, n, cur, rfl, hB, by unfold World.alloc; exact Array.getElem?_push_size, Nat.le_refl _, by unfold maxLen; omega, hc, by rw [← hc, ← Array.length_toList, List.take_length]⟩⟩
/-- What Prepend answers. -/
def PrepRes (w w' : World) (ss : List (Bool × List Int)) (e : Ending) : Prop := (∃ a9 c9, e = .returned (.slice a9 ss.length c9) ∧ PthRd w' a9 ss) ∧ Below w.heap.size w w'
theorem prep_one (w : World) (z : Int) (a : Option Addr) (c : Nat) (ss : List (Bool × List Int)) (hl : ss.length ≤ 100000) (h : PthRd w a ss) :
    ∃ a9 c9 w', (Builtin.append_ #[30, 30] 30 #[.slice (some ⟨w.heap.size + 1, 0, none⟩) 1 1, .slice a ss.length c]).run Tryd.prog ((w.alloc (.cells #[.int .i64 z] 3)).alloc (.cells #[.bool false, .slice (some ⟨w.heap.size, 0, none⟩) 1 1] 69)) = .ok (.slice a9 (ss.length + 1) c9) w' ∧ PthRd w' a9 ((false, [z]) :: ss) ∧ Below w.heap.size w w' := by
  have h1 := own_made w w.heap.size 3 1 #[.int .i64 z] 1 (Nat.le_refl _) rfl (by omega)
  have hs : (w.alloc (.cells #[.int .i64 z] 3)).heap.size = w.heap.size + 1 := by simp
  have h2 := own_made (w.alloc (.cells #[.int .i64 z] 3)) w.heap.size 69 2 #[.bool false, .slice (some ⟨w.heap.size, 0, none⟩) 1 1] 1 (by omega) rfl (by omega)
  rw [hs] at h2
  exact prep_rd (zs := [z]) h2 (h1.alloc _) h (((Below.refl _ _).alloc (Nat.le_refl _) _).alloc (by omega) _) hl (by simp)
/-- A number ahead of numbers. -/
theorem prep_ints (w : World) (z : Int) (zs : List Int) (a : Option Addr) (c : Nat) (hl : zs.length ≤ 100000) (h : IRd w a zs) :
    ∃ g1 c1 w1, (Builtin.append_ #[67, 67] 67 #[.slice (some ⟨w.heap.size, 0, none⟩) 1 1, .slice a zs.length c]).run Tryd.prog (w.alloc (.cells #[.int .i64 z] 3)) = .ok (.slice (some ⟨g1, 0, none⟩) (zs.length + 1) c1) w1 ∧ w1.ownsRow w.heap.size 3 1 (.slice (some ⟨g1, 0, none⟩) (zs.length + 1) c1) (z :: zs).length (icells (z :: zs)) ∧ Below w.heap.size w w1 := by
  have h1 := own_made w w.heap.size 3 1 #[.int .i64 z] 1 (Nat.le_refl _) rfl (by omega)
  have hb1 : Below w.heap.size w (w.alloc (.cells #[.int .i64 z] 3)) := (Below.refl _ _).alloc (Nat.le_refl _) _
  have hsz := hb1.size
  have key : ∀ (m : Nat) (ad : Addr), a = some ad → zs.length = m → (∀ j x, (icells zs)[j]? = some x → (w.alloc (.cells #[.int .i64 z] 3)).cell? (ad.add j) = some x) → ∃ g1 c1 w1, (Builtin.append_ #[67, 67] 67 #[.slice (some ⟨w.heap.size, 0, none⟩) 1 1, .slice a zs.length c]).run Tryd.prog (w.alloc (.cells #[.int .i64 z] 3)) = .ok (.slice (some ⟨g1, 0, none⟩) (zs.length + 1) c1) w1 ∧ w1.ownsRow w.heap.size 3 1 (.slice (some ⟨g1, 0, none⟩) (zs.length + 1) c1) (z :: zs).length (icells (z :: zs)) ∧ Below w.heap.size w w1 := by
    intro m ad e hm hc
    subst e hm
    obtain ⟨v', w', hr, h2, h3, _, _⟩ := app_more elemInt h1 hsz ad zs.length c (icells zs) (by rw [icells_length]; omega) hc (icells_one _) (by omega)
    obtain ⟨g1, c1, rfl, _, _⟩ := h2.form (by omega)
    rw [Nat.add_comm 1 zs.length] at hr h2
    exact ⟨g1, c1, w', hr, h2, hb1.trans h3⟩
  cases zs with
  | nil =>
    cases a with
    | none => exact ⟨_, _, _, append_none elemInt _ _ 1 1 c (by omega), h1, hb1⟩
    | some ad => exact key 0 ad rfl rfl (fun j x hx => by simp [icells] at hx)
  | cons y ys =>
    obtain ⟨b, off, e, hc⟩ := h (by simp)
    refine key _ ⟨b, off, none⟩ e rfl (fun j x hx => ?_)
    have hj : j < (y :: ys).length := by have := (List.getElem?_eq_some_iff.1 hx).1; rwa [icells_length] at this
    have h5 := hc j _ (List.getElem?_eq_getElem hj)
    rw [icells_get _ j _ (List.getElem?_eq_getElem hj)] at hx
    cases hx
    rw [Addr.add_mid, hb1.cell (p := ⟨b, off + j, none⟩) (World.block_lt_of_cell? w _ h5)]
    exact h5
theorem prep_more (w w1 : World) (u : Value) (zs : List Int) (a : Option Addr) (c : Nat) (ss : List (Bool × List Int)) (hl : ss.length ≤ 100000) (hz : zs.length ≤ 100000) (h : PthRd w a ss) (hu : w1.ownsRow w.heap.size 3 1 u zs.length (icells zs)) (hb : Below w.heap.size w w1) :
    ∃ a9 c9 w', (Builtin.append_ #[30, 30] 30 #[.slice (some ⟨w1.heap.size, 0, none⟩) 1 1, .slice a ss.length c]).run Tryd.prog (w1.alloc (.cells #[.bool false, u] 69)) = .ok (.slice a9 (ss.length + 1) c9) w' ∧ PthRd w' a9 ((false, zs) :: ss) ∧ Below w.heap.size w w' := by
  have h2 := own_made w1 w.heap.size 69 2 #[.bool false, u] 1 hb.size rfl (by omega)
  exact prep_rd h2 (hu.alloc _) h (hb.alloc hb.size _) hl hz
section
attribute [local go_sem ↓] Go.wp_at_zero Go.wp_at_succ kept_appendI kept_appendS
set_option maxHeartbeats 1600000 in
theorem rprep_set (b off c : Nat) (ss : List (Bool × List Int)) (z : Int) (w : World) (n0 c0 : Nat) (a0 : Option Addr) (k : Bool) (hl : ss.length ≤ 100000) (hpos : 0 < ss.length) (h : PthRd w (some ⟨b, off, none⟩) ss) (h0 : w.cell? ⟨b, off, none⟩ = some (.bool k)) (h1 : w.cell? ⟨b, off + 1, none⟩ = some (.slice a0 n0 c0)) (hk : k = true ∨ 254 < n0) :
    Calls Tryd.prog 30 #[.slice (some ⟨b, off, none⟩) ss.length c, .int .i64 z] w fun e w' => PrepRes w w' ((false, [z]) :: ss) e := by
  obtain ⟨a9, c9, w9, hr, hrd, hb⟩ := prep_one w z (some ⟨b, off, none⟩) c ss hl h
  have HR := hide hr
  have HD := hide hrd
  have HB := hide hb
  clear hr hrd hb h
  have HL := hide (show ((false, [z]) :: ss).length = ss.length + 1 from rfl)
  generalize ss.length = n at *
  have jn : (0 : Int) < (n : Int) := by omega
  go_enter Tryd.func30, Tryd.ntmps30
  cases k with
  | true =>
    clear hk
    go_wp2
    refine kept_appendS_intro _ _ _ _ (.slice a9 (n + 1) c9) (w' := w9) (by rfl) (by rfl) (by exact HR.out) ?_
    go_wp2
    go_ret
    exact ⟨⟨a9, c9, by rw [HL.out]; rfl, HD.out⟩, HB.out⟩
  | false =>
    have hk2 : decide ((n0 : Int) ≤ 254) = false := decide_eq_false (by rcases hk with hk | hk; cases hk; omega)
    clear hk
    go_wp2
    refine kept_appendS_intro _ _ _ _ (.slice a9 (n + 1) c9) (w' := w9) (by rfl) (by rfl) (by exact HR.out) ?_
    go_wp2
    go_ret
    exact ⟨⟨a9, c9, by rw [HL.out]; rfl, HD.out⟩, HB.out⟩
set_option maxHeartbeats 800000 in
theorem rprep_nil (a : Option Addr) (c : Nat) (z : Int) (w : World) (h : PthRd w a []) :
    Calls Tryd.prog 30 #[.slice a 0 c, .int .i64 z] w fun e w' => PrepRes w w' [(false, [z])] e := by
  obtain ⟨a9, c9, w9, hr, hrd, hb⟩ := prep_one w z a c [] (by simp) h
  have HR := hide hr
  have HD := hide hrd
  have HB := hide hb
  clear hr hrd hb h
  go_enter Tryd.func30, Tryd.ntmps30
  go_wp2
  refine kept_appendS_intro _ _ _ _ (.slice a9 1 c9) (w' := w9) (by rfl) (by rfl) (by exact HR.out) ?_
  go_wp2
  go_ret
  exact ⟨⟨a9, c9, rfl, HD.out⟩, HB.out⟩
set_option maxHeartbeats 3200000 in
theorem rprep_seq (b off c : Nat) (zs : List Int) (r : List (Bool × List Int)) (z : Int) (w : World) (c0 : Nat) (a0 : Option Addr) (hl : r.length ≤ 100000) (hz : zs.length ≤ 254) (hrc : r.length + 1 ≤ c) (hc1 : ¬ c = 1) (h : PthRd w (some ⟨b, off + 2, none⟩) r) (h0 : w.cell? ⟨b, off, none⟩ = some (.bool false)) (h1 : w.cell? ⟨b, off + 1, none⟩ = some (.slice a0 zs.length c0)) (hi : IRd w a0 zs) :
    Calls Tryd.prog 30 #[.slice (some ⟨b, off, none⟩) (r.length + 1) c, .int .i64 z] w fun e w' => PrepRes w w' ((false, z :: zs) :: r) e := by
  have hbd : Below w.heap.size w w.drew := (Below.refl _ _).drew
  obtain ⟨g1, c1, w1, hr1, ho1, hb1⟩ := prep_ints w.drew z zs a0 c0 (by omega) (hi.below hbd)
  obtain ⟨a9, c9, w9, hr, hrd, hb⟩ := prep_more w.drew w1 _ (z :: zs) (some ⟨b, off + 2, none⟩) (c - 1) r hl (by simp; omega) (h.below hbd) ho1 hb1
  have hblk := World.block_lt_of_cell? w _ h0
  have hk1 : w1.cell? ⟨b, off + 1, none⟩ = some (.slice a0 zs.length c0) := by
    rw [hb1.cell (p := ⟨b, off + 1, none⟩) (by simpa using hblk)]
    simpa using h1
  have HR1 := hide hr1
  have HR := hide hr
  have HD := hide hrd
  have HB := hide (hbd.trans hb)
  clear hr hrd hb h hi hr1 ho1 hb1 hbd
  have HL := hide (show ((false, z :: zs) :: r).length = r.length + 1 from rfl)
  generalize r.length = n at *
  generalize zs.length = n0 at *
  have jn : (0 : Int) < (n : Int) + 1 := by omega
  have j2 : (1 : Int) ≤ (n : Int) + 1 := by omega
  have j3 : (n : Int) + 1 ≤ (c : Int) := by omega
  have j4 : (n0 : Int) ≤ 254 := by omega
  go_enter Tryd.func30, Tryd.ntmps30
  go_wp2_with fail
  go_region_with (first
    | (refine kept_appendI_intro _ _ _ _ (.slice (some ⟨g1, 0, none⟩) (n0 + 1) c1) (w' := w1) (by rfl) (by rfl) (by exact HR1.out) ?_)
    | (refine kept_appendS_intro _ _ _ _ (.slice a9 (n + 1) c9) (w' := w9) (by rfl) (by rfl) (by exact HR.out) ?_))
  all_goals go_wp2
  all_goals go_ret
  all_goals exact ⟨⟨a9, c9, by rw [HL.out]; rfl, HD.out⟩, HB.out⟩
set_option maxHeartbeats 3200000 in
theorem rprep_seq1 (b off : Nat) (zs : List Int) (z : Int) (w : World) (c0 : Nat) (a0 : Option Addr) (hz : zs.length ≤ 254) (h0 : w.cell? ⟨b, off, none⟩ = some (.bool false)) (h1 : w.cell? ⟨b, off + 1, none⟩ = some (.slice a0 zs.length c0)) (hi : IRd w a0 zs) :
    Calls Tryd.prog 30 #[.slice (some ⟨b, off, none⟩) 1 1, .int .i64 z] w fun e w' => PrepRes w w' [(false, z :: zs)] e := by
  have hbd : Below w.heap.size w w.drew := (Below.refl _ _).drew
  obtain ⟨g1, c1, w1, hr1, ho1, hb1⟩ := prep_ints w.drew z zs a0 c0 (by omega) (hi.below hbd)
  obtain ⟨a9, c9, w9, hr, hrd, hb⟩ := prep_more w.drew w1 _ (z :: zs) (some ⟨b, off, none⟩) 0 [] (by simp) (by simp; omega) ⟨fun h9 => absurd h9 (by simp), by simp, by simp⟩ ho1 hb1
  have hblk := World.block_lt_of_cell? w _ h0
  have hk1 : w1.cell? ⟨b, off + 1, none⟩ = some (.slice a0 zs.length c0) := by
    rw [hb1.cell (p := ⟨b, off + 1, none⟩) (by simpa using hblk)]
    simpa using h1
  have HR1 := hide hr1
  have HR := hide hr
  have HD := hide hrd
  have HB := hide (hbd.trans hb)
  clear hr hrd hb hi hr1 ho1 hb1 hbd
  generalize zs.length = n0 at *
  have j4 : (n0 : Int) ≤ 254 := by omega
  go_enter Tryd.func30, Tryd.ntmps30
  go_wp2_with fail
  go_region_with (first
    | (refine kept_appendI_intro _ _ _ _ (.slice (some ⟨g1, 0, none⟩) (n0 + 1) c1) (w' := w1) (by rfl) (by rfl) (by exact HR1.out) ?_)
    | (refine kept_appendS_intro _ _ _ _ (.slice a9 1 c9) (w' := w9) (by rfl) (by rfl) (by exact HR.out) ?_))
  all_goals go_wp2
  all_goals go_ret
  all_goals exact ⟨⟨a9, c9, rfl, HD.out⟩, HB.out⟩
end
theorem rprep_any (a : Option Addr) (c : Nat) (ss : List (Bool × List Int)) (z : Int) (w : World) (hl : ss.length ≤ 100000) (hlc : ss.length ≤ c) (h : PthRd w a ss) :
    Calls Tryd.prog 30 #[.slice a ss.length c, .int .i64 z] w fun e w' => PrepRes w w' (prepP z ss) e := by
  cases ss with
  | nil => exact rprep_nil a c z w h
  | cons s r =>
    obtain ⟨b, off, rfl, hc⟩ := h.cells (by simp)
    obtain ⟨h0, a0, c0, h1, hi⟩ := hc 0 s (by simp)
    simp only [Nat.zero_mul, Nat.add_zero] at h0 h1
    by_cases hs : s.1 = false ∧ s.2.length ≤ 254
    · rw [show prepP z (s :: r) = (false, z :: s.2) :: r from by rw [prepP, if_pos hs]]
      rw [hs.1] at h0
      by_cases hc1 : c = 1
      · subst hc1
        have hr : r = [] := by
          cases r with
          | nil => rfl
          | cons x y => simp at hlc
        subst hr
        exact rprep_seq1 b off s.2 z w c0 a0 hs.2 h0 h1 hi
      · have hr : PthRd w (some ⟨b, off + 2, none⟩) r := ⟨fun _ => ⟨b, off + 2, rfl, fun i x hx => by
            have := hc (i + 1) x (by simpa using hx)
            rwa [show off + (i + 1) * 2 = off + 2 + i * 2 from by omega] at this⟩, by have := h.small; simp only [List.length_cons] at this; omega, fun x hx => h.smalls x (List.mem_cons_of_mem _ hx)⟩
        exact rprep_seq b off c s.2 r z w c0 a0 (by simp only [List.length_cons] at hl; omega) hs.2 (by simpa using hlc) hc1 hr h0 h1 hi
    · rw [show prepP z (s :: r) = (false, [z]) :: s :: r from by rw [prepP, if_neg hs]]
      refine rprep_set b off c (s :: r) z w s.2.length c0 a0 s.1 hl (by simp) h h0 h1 ?_
      cases hk : s.1 with
      | true => exact .inl rfl
      | false => exact .inr (by have : ¬ s.2.length ≤ 254 := fun h9 => hs ⟨hk, h9⟩; omega)
end Go.Proofs.YthigjonagbfbbaaDoor
