/- A prefix that goes to its place, one step at a time. -/
import Derived.Test.YtfecknbneonidaaTpR
namespace Go.Proofs.Ytfecknbneonidaa
open Go.RowKit
set_option maxRecDepth 100000

/-- The row with one more at place p. -/
def rowAt {α β : Type} (f : α → β) (T : List α) (x : β) (p : Nat) : List β := (T.take p).map f ++ x :: (T.drop p).map f
theorem rowAt_length {α β : Type} (f : α → β) (T : List α) (x : β) (p : Nat) (hp : p ≤ T.length) : (rowAt f T x p).length = T.length + 1 := by
  unfold rowAt
  simp
  omega
theorem rowAt_here {α β : Type} (f : α → β) (T : List α) (x : β) (p : Nat) (hp : p ≤ T.length) : (rowAt f T x p)[p]? = some x := by
  unfold rowAt
  rw [List.getElem?_append_right (by rw [List.length_map, List.length_take]; omega)]
  simp [Nat.min_eq_left hp]
theorem rowAt_ahead {α β : Type} (f : α → β) (T : List α) (x : β) (r : Nat) (t : α) (hr : T[r]? = some t) : (rowAt f T x (r + 1))[r]? = some (f t) := by
  have hl : r < T.length := (List.getElem?_eq_some_iff.1 hr).1
  unfold rowAt
  rw [List.getElem?_append_left (by simp; omega), List.getElem?_map, List.getElem?_take_of_lt (by omega), hr]
  rfl
theorem rowAt_swap {α β : Type} (f : α → β) (T : List α) (x : β) (r : Nat) (t : α) (hr : T[r]? = some t) : ((rowAt f T x (r + 1)).set (r + 1) (f t)).set r x = rowAt f T x r := by
  have hl : r < T.length := (List.getElem?_eq_some_iff.1 hr).1
  have e := (List.getElem?_eq_some_iff.1 hr).2
  unfold rowAt
  rw [List.take_add_one, hr, List.drop_eq_getElem_cons hl, e]
  have hlen : (List.map f (T.take r)).length = r := by simp; omega
  simp only [Option.toList_some, List.map_append, List.map_cons, List.map_nil, List.append_assoc, List.cons_append, List.nil_append]
  generalize List.map f (T.take r) = X at *
  generalize List.map f (T.drop (r + 1)) = Y at *
  subst hlen
  rw [List.set_append_right _ _ (by omega), List.set_append_right _ _ (by omega)]
  simp
theorem pcells_set : ∀ (l : List (Nat × Nat)) (i a b : Nat), ((pcells l).set (i * 2) (.int .u32 (a : Int))).set (i * 2 + 1) (.int .i64 (b : Int)) = pcells (l.set i (a, b))
  | [], i, a, b => by simp [pcells]
  | p :: r, 0, a, b => by simp [pcells]
  | p :: r, i + 1, a, b => by
    rw [show (i + 1) * 2 = i * 2 + 1 + 1 from by omega]
    simp only [pcells, List.set_cons_succ]
    rw [pcells_set r i a b]
theorem vcells_set (l : List Int) (i : Nat) (a : Int) : (vcells l).set i (.int .i64 a) = vcells (l.set i a) := by
  unfold vcells
  rw [List.map_set]
theorem vcells_get {l : List Int} {i : Nat} {a : Int} (h : l[i]? = some a) : (vcells l)[i]? = some (.int .i64 a) := by
  unfold vcells
  rw [List.getElem?_map, h]
  rfl
/-- Two prefixes of a row are exchanged. -/
theorem own_swapP {w : World} {H g n c : Nat} {l : List (Nat × Nat)} (h : w.ownsRow H 31 2 (.slice (some ⟨g, 0, none⟩) n c) n (pcells l)) (i j a b x y : Nat) :
    ((((w.setCell ⟨g, i * 2, none⟩ (.int .u32 (a : Int))).setCell ⟨g, i * 2 + 1, none⟩ (.int .i64 (b : Int))).setCell ⟨g, j * 2, none⟩ (.int .u32 (x : Int))).setCell ⟨g, j * 2 + 1, none⟩ (.int .i64 (y : Int))).ownsRow H 31 2 (.slice (some ⟨g, 0, none⟩) n c) n (pcells ((l.set i (a, b)).set j (x, y))) := by
  have h1 := (h.stored (i * 2) (.int .u32 (a : Int))).1
  have h2 := (h1.stored (i * 2 + 1) (.int .i64 (b : Int))).1
  have h3 := (h2.stored (j * 2) (.int .u32 (x : Int))).1
  have h4 := (h3.stored (j * 2 + 1) (.int .i64 (y : Int))).1
  rw [pcells_set, pcells_set] at h4
  exact h4
theorem own_swapV {w : World} {H g n c : Nat} {l : List Int} (h : w.ownsRow H 3 1 (.slice (some ⟨g, 0, none⟩) n c) n (vcells l)) (i j : Nat) (a x : Int) :
    ((w.setCell ⟨g, i, none⟩ (.int .i64 a)).setCell ⟨g, j, none⟩ (.int .i64 x)).ownsRow H 3 1 (.slice (some ⟨g, 0, none⟩) n c) n (vcells ((l.set i a).set j x)) := by
  have h1 := (h.stored i (.int .i64 a)).1
  have h2 := (h1.stored j (.int .i64 x)).1
  rw [vcells_set, vcells_set] at h2
  exact h2
/-- A stretch of a row. -/
theorem cells_part {w : World} {H e size g n c : Nat} {xs : List Value} (h : w.ownsRow H e size (.slice (some ⟨g, 0, none⟩) n c) n xs) (P M R : List Value) (hx : xs = P ++ M ++ R) (o : Nat) (ho : o = P.length) : Cells w (some ⟨g, o, none⟩) M := by
  refine .inr ⟨g, o, rfl, fun j u hu => ?_⟩
  have hj : j < M.length := (List.getElem?_eq_some_iff.1 hu).1
  have hl := h.1
  rw [hx, List.length_append, List.length_append] at hl
  rw [h.cellAt (o + j) (by omega), hx, ho, List.append_assoc, List.getElem?_append_right (by omega), List.getElem?_append_left (by omega)]
  rw [← hu]
  congr 1
  omega
end Go.Proofs.Ytfecknbneonidaa
