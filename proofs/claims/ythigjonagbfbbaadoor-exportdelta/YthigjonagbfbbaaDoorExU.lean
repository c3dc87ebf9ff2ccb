/- Prefixes that are told no more, a hundred in one: what the parts are (plain). -/
import Derived.Test.YthigjonagbfbbaaDoorKBc
namespace Go.Proofs.YthigjonagbfbbaaDoor
open Go.RowKit
set_option maxRecDepth 100000

def gTl (i : Nat) : Tl := ⟨i * 256, 24, zA⟩
def gOld (k : Nat) : List Tl := (List.range k).map gTl
def gPx (k : Nat) : List (Nat × Int) := (List.range k).map fun i => (i * 256, 24)
theorem gOld_length (k : Nat) : (gOld k).length = k := by simp [gOld]
theorem gPx_length (k : Nat) : (gPx k).length = k := by simp [gPx]
theorem gPx_get (k i : Nat) (h : i < k) : (gPx k)[i]? = some (i * 256, 24) := by simp [gPx, h]
theorem gOld_succ (k : Nat) : gOld (k + 1) = gOld k ++ [gTl k] := by simp [gOld, List.range_succ]
theorem gone_all (k : Nat) (f : Array Value → At) : deltaU (gOld k) [] f = (hunds (gPx k)).map goneU := by
  have h1 : goneL (gOld k) [] = gPx k := by
    unfold goneL
    rw [show (gOld k).filter (goneB []) = gOld k from List.filter_eq_self.2 (fun t _ => rfl)]
    unfold gOld gPx
    rw [List.map_map]
    rfl
  unfold deltaU
  rw [h1]
  simp [newL]
theorem hund_flat {α : Type} (l : List α) : (hund l).1.flatten ++ (hund l).2 = l := by
  have key : ∀ m : List α, (hund m.reverse).1.flatten ++ (hund m.reverse).2 = m.reverse := by
    intro m
    induction m with
    | nil => rfl
    | cons x m ih =>
      rw [List.reverse_cons, hund_snoc]
      unfold hundS
      split
      · rw [← List.append_assoc, ih]
      · rw [List.flatten_append, show [(hund m.reverse).2 ++ [x]].flatten = (hund m.reverse).2 ++ [x] by simp, List.append_nil, ← List.append_assoc, ih]
  have := key l.reverse
  rwa [List.reverse_reverse] at this
theorem hund_100 {α : Type} (l : List α) : ∀ c ∈ (hund l).1, c.length = 100 := by
  have key : ∀ m : List α, ∀ c ∈ (hund m.reverse).1, c.length = 100 := by
    intro m
    induction m with
    | nil => intro c hc; cases hc
    | cons x m ih =>
      rw [List.reverse_cons, hund_snoc]
      have hlt := hund_lt m.reverse
      unfold hundS
      split
      · exact ih
      · rename_i h9
        intro c hc
        rcases List.mem_append.1 hc with hc | hc
        · exact ih c hc
        · rw [List.mem_singleton] at hc
          subst hc
          rw [List.length_append, List.length_singleton] at h9 ⊢
          omega
  have := key l.reverse
  rwa [List.reverse_reverse] at this
theorem hunds_flat {α : Type} (l : List α) : (hunds l).flatten = l := by
  have h := hund_flat l
  unfold hunds lastH
  split
  · rename_i h9
    rw [h9, List.append_nil] at h
    rw [List.append_nil, h]
  · rw [List.flatten_append, show [(hund l).2].flatten = (hund l).2 by simp, h]
theorem hunds_part {α : Type} (l : List α) (i : Nat) (c : List α) (h : (hunds l)[i]? = some c) : c.length ≤ 100 ∧ (i + 1 < (hunds l).length → c.length = 100) := by
  have hlt := hund_lt l
  by_cases hi : i < (hund l).1.length
  · unfold hunds at h
    rw [List.getElem?_append_left hi] at h
    have := hund_100 l c (List.mem_of_getElem? h)
    exact ⟨by omega, fun _ => this⟩
  · have h2 := h
    unfold hunds at h2
    rw [List.getElem?_append_right (by omega)] at h2
    have hc : c ∈ lastH (hund l).2 := List.mem_of_getElem? h2
    unfold lastH at hc
    split at hc
    · cases hc
    · rename_i h9
      rw [List.mem_singleton] at hc
      subst hc
      refine ⟨by omega, fun h3 => ?_⟩
      unfold hunds lastH at h3
      rw [if_neg h9, List.length_append, List.length_singleton] at h3
      omega
theorem flat_100 {α : Type} : ∀ cs : List (List α), (∀ c ∈ cs, c.length = 100) → cs.flatten.length = cs.length * 100
  | [], _ => rfl
  | c :: cs, h => by
    rw [List.flatten_cons, List.length_append, h c (by simp), flat_100 cs (fun x hx => h x (List.mem_cons_of_mem _ hx)), List.length_cons]
    omega
theorem hunds_count {α : Type} (l : List α) : (hunds l).length = (l.length + 99) / 100 := by
  have h1 := congrArg List.length (hund_flat l)
  rw [List.length_append, flat_100 _ (hund_100 l)] at h1
  have hlt := hund_lt l
  unfold hunds lastH
  split
  · rename_i h9
    rw [h9, List.length_nil] at h1
    rw [List.length_append, List.length_nil]
    omega
  · rename_i h9
    have : 0 < (hund l).2.length := List.length_pos_iff.2 h9
    rw [List.length_append, List.length_singleton]
    omega
/-- How many stand ahead of a part. -/
def offH {α : Type} (cs : List (List α)) (i : Nat) : Nat := (cs.take i).flatten.length
theorem offH_succ {α : Type} (cs : List (List α)) (i : Nat) (c : List α) (h : cs[i]? = some c) : offH cs (i + 1) = offH cs i + c.length := by
  have hi := (List.getElem?_eq_some_iff.1 h).1
  have he : cs[i] = c := (List.getElem?_eq_some_iff.1 h).2
  unfold offH
  rw [List.take_succ_eq_append_getElem hi, he, List.flatten_append, List.length_append]
  simp
theorem offH_get {α : Type} (cs : List (List α)) (i j : Nat) (c : List α) (h : cs[i]? = some c) (hj : j < c.length) : cs.flatten[offH cs i + j]? = c[j]? := by
  have hi := (List.getElem?_eq_some_iff.1 h).1
  have he : cs[i] = c := (List.getElem?_eq_some_iff.1 h).2
  have e : cs = cs.take i ++ c :: cs.drop (i + 1) := by
    rw [← he, List.getElem_cons_drop hi, List.take_append_drop]
  unfold offH
  conv => lhs; lhs; rw [e]
  rw [List.flatten_append, List.flatten_cons, List.getElem?_append_right (by omega), Nat.add_sub_cancel_left, List.getElem?_append_left hj]
theorem offH_le {α : Type} (l : List α) (i : Nat) : offH (hunds l) i ≤ l.length := by
  have h : ((hunds l).take i).flatten.length + ((hunds l).drop i).flatten.length = l.length := by
    rw [← List.length_append, ← List.flatten_append, List.take_append_drop, hunds_flat]
  unfold offH
  omega
theorem offH_all {α : Type} (l : List α) : offH (hunds l) (hunds l).length = l.length := by
  unfold offH
  rw [List.take_length, hunds_flat]
theorem pcs_at : ∀ (l : List (Nat × Int)) (j : Nat) (p : Nat × Int), l[j]? = some p → (pcs l)[j * 2]? = some (.int .u32 (p.1 : Int))
  | [], j, p, h => by simp at h
  | x :: l, 0, p, h => by
    simp at h
    subst h
    rfl
  | x :: l, j + 1, p, h => by
    rw [show (j + 1) * 2 = j * 2 + 1 + 1 by omega]
    exact pcs_at l j p (by simpa using h)
end Go.Proofs.YthigjonagbfbbaaDoor
