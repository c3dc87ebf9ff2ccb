/- A path of k numbers in segments of s, in plain numbers. Nothing of the program is named here. -/
import Derived.Test.YtnfokbpnjhhiiaaPthRd
namespace Go.Proofs.Ytnfokbpnjhhiiaa
open Go.RowKit
set_option maxRecDepth 100000

/-- The numbers from 1 to q. -/
def upTo (q : Nat) : List Int := (List.range q).map fun i => ((i : Nat) : Int) + 1
theorem upTo_length (q : Nat) : (upTo q).length = q := by simp [upTo]
theorem upTo_succ (q : Nat) : upTo (q + 1) = upTo q ++ [(q : Int) + 1] := by simp [upTo, List.range_succ]
theorem upTo_ok (b : Bool) (c : Nat) (h1 : 1 ≤ c) (h2 : c ≤ 9) : okS (b, upTo c) = true := by
  unfold okS
  rw [Bool.and_eq_true]
  refine ⟨decide_eq_true (by show 1 ≤ (upTo c).length ∧ (upTo c).length ≤ 255; rw [upTo_length]; omega), ?_⟩
  rw [List.all_eq_true]
  intro z hz
  unfold upTo at hz
  obtain ⟨i, hi, rfl⟩ := List.mem_map.1 hz
  have := List.mem_range.1 hi
  exact decide_eq_true (by omega)
/-- a of k numbers having been laid. -/
structure LongSt (sb : Bool) (k s a : Nat) (acc : List (Bool × List Int)) : Prop where
  len : a = s * acc.length
  sum : sumP acc = min a k
  ok : acc.all okS = true
  kind : ∀ x ∈ acc, x.1 = sb
  prev : a = 0 ∨ a < k + s
theorem LongSt.nil (sb : Bool) (k s : Nat) : LongSt sb k s 0 [] := ⟨by simp, by simp [sumP], rfl, by simp, .inl rfl⟩
theorem LongSt.step {sb : Bool} {k s a c : Nat} {acc : List (Bool × List Int)} (h : LongSt sb k s a acc) (ha : a < k) (hs : 1 ≤ s) (hs9 : s ≤ 9) (hc : c = min s (k - a)) : LongSt sb k s (a + s) (acc ++ [(sb, upTo c)]) := by
  refine ⟨?_, ?_, ?_, ?_, .inr (by omega)⟩
  · rw [List.length_append, List.length_cons, List.length_nil, Nat.mul_add, ← h.len]; omega
  · rw [sumP_snoc, h.sum, upTo_length]; omega
  · rw [List.all_append, h.ok]
    simp only [List.all_cons, List.all_nil, Bool.and_true, Bool.true_and]
    exact upTo_ok sb c (by omega) (by omega)
  · intro x hx
    rw [List.mem_append] at hx
    rcases hx with hx | hx
    · exact h.kind x hx
    · simp at hx; rw [hx]
theorem lenP_set (acc : List (Bool × List Int)) (h : ∀ x ∈ acc, x.1 = true) : lenP acc = acc.length := by
  induction acc with
  | nil => rfl
  | cons x r ih => rw [lenP, h x (by simp), ih (fun y hy => h y (by simp [hy]))]; simp; omega
theorem lenP_seq (acc : List (Bool × List Int)) (h : ∀ x ∈ acc, x.1 = false) : lenP acc = sumP acc := by
  induction acc with
  | nil => rfl
  | cons x r ih => rw [lenP, sumP, h x (by simp), ih (fun y hy => h y (by simp [hy]))]; simp
theorem LongSt.end_sum {sb : Bool} {k s a : Nat} {acc : List (Bool × List Int)} (h : LongSt sb k s a acc) (ha : ¬ a < k) : sumP acc = k := by rw [h.sum]; omega
theorem LongSt.end_good {sb : Bool} {k s a : Nat} {acc : List (Bool × List Int)} (h : LongSt sb k s a acc) (ha : ¬ a < k) : goodP acc = decide (k ≤ 64) := by
  unfold goodP
  rw [h.ok, h.end_sum ha, Bool.true_and]
theorem LongSt.end_seq {k s a : Nat} {acc : List (Bool × List Int)} (h : LongSt false k s a acc) (ha : ¬ a < k) : lenP acc = k := by rw [lenP_seq acc h.kind, h.end_sum ha]
theorem LongSt.end_set {k s a : Nat} {acc : List (Bool × List Int)} (h : LongSt true k s a acc) (ha : ¬ a < k) (hs : 1 ≤ s) : lenP acc = (k + s - 1) / s := by
  rw [lenP_set acc h.kind]
  have hl := h.len
  symm
  rw [Nat.div_eq_iff (by omega)]
  generalize acc.length = l at *
  have e : l * s = s * l := Nat.mul_comm _ _
  rcases h.prev with h0 | h0 <;> omega
theorem LongSt.size {sb : Bool} {k s a : Nat} {acc : List (Bool × List Int)} (h : LongSt sb k s a acc) (hs : 1 ≤ s) (hs9 : s ≤ 9) (hk : k < 70) : a ≤ 80 ∧ acc.length ≤ 80 ∧ sumP acc ≤ 70 := by
  have h1 := h.len
  have h2 := h.sum
  have h3 : acc.length ≤ s * acc.length := Nat.le_mul_of_pos_left _ (by omega)
  rcases h.prev with h0 | h0 <;> omega
end Go.Proofs.Ytnfokbpnjhhiiaa
