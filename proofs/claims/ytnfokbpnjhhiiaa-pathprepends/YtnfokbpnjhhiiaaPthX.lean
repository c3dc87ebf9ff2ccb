/- What the walks have in common. -/
import Derived.Test.YtnfokbpnjhhiiaaPthEn
import Derived.Test.YtnfokbpnjhhiiaaPthSl
import Derived.Test.YtnfokbpnjhhiiaaPthSm
namespace Go.Proofs.Ytnfokbpnjhhiiaa
open Go.RowKit
set_option maxRecDepth 100000

theorem smallP_sum {ss : List (Bool × List Int)} (h : smallP ss = true) : ss.length + sumP ss ≤ 100000 := by
  have := of_decide_eq_true h
  omega
/-- Bytes that are a row of the call's own, as a row that is read. -/
theorem own_rw {w : World} {B : Nat} {v : Value} {bs : List Nat} (h : w.ownsRow B 5 1 v bs.length (bcells bs)) (hl : bs.length ≤ 100000) : ∃ a c, v = .slice a bs.length c ∧ bs.length ≤ c ∧ Rw w a bs.length (fun i => bs.getD i 0) := by
  have hh := h
  rcases h.2 with ⟨rfl, h0⟩ | ⟨g, cap, cur, rfl, _, _, hc, _⟩
  · exact ⟨none, 0, by rw [h0], by omega, by rw [h0]; exact Rw.nil _ _ _⟩
  · refine ⟨_, _, rfl, hc, by unfold maxLen; omega, fun _ => ⟨g, 0, rfl, fun i hi => ?_⟩⟩
    rw [Nat.zero_add, hh.cellAt i (by omega)]
    simp [bcells, List.getD_eq_getElem?_getD, hi]
theorem getD_lt {bs : List Nat} (h : ∀ x ∈ bs, x < 256) (j : Nat) (hj : j < bs.length) : bs.getD j 0 < 256 := by
  rw [List.getD_eq_getElem?_getD, List.getElem?_eq_getElem hj]
  exact h _ (List.getElem_mem hj)
theorem nums_lt (l : List Int) : ∀ x ∈ nums l, x < 256 := by
  induction l with
  | nil => simp [nums]
  | cons z l ih =>
    intro x hx
    rw [nums, List.mem_append] at hx
    rcases hx with hx | hx
    · unfold b4 at hx
      obtain ⟨k, _, rfl⟩ := List.mem_map.1 hx
      unfold byteAt; omega
    · exact ih x hx
theorem encSegs_lt (l : List (Bool × List Int)) (hl : ∀ s ∈ l, s.2.length ≤ 255) : ∀ x ∈ encSegs l, x < 256 := by
  induction l with
  | nil => simp [encSegs]
  | cons s l ih =>
    intro x hx
    rw [encSegs, List.mem_append] at hx
    rcases hx with hx | hx
    · unfold encSeg at hx
      rw [List.mem_append] at hx
      rcases hx with hx | hx
      · have := hl s (by simp)
        simp only [List.mem_cons, List.not_mem_nil, or_false] at hx
        rcases hx with rfl | rfl
        · unfold kindOf; split <;> omega
        · omega
      · exact nums_lt _ x hx
    · exact ih (fun s hs => hl s (List.mem_cons_of_mem _ hs)) x hx
theorem eqP_self (p : List (Bool × List Int)) : eqP p p = true := decide_eq_true rfl
end Go.Proofs.Ytnfokbpnjhhiiaa
