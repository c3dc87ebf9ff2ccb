/- Things told rise by prefix (plain). -/
import Derived.Test.YthigjonagbfbbaaDoorExTd
namespace Go.Proofs.YthigjonagbfbbaaDoor
open Go.RowKit
set_option maxRecDepth 100000

def RisesT (o : List TE) : Prop := o.Pairwise fun x y => lessT x y = true
theorem lessT_trans {x y z : TE} (h1 : lessT x y = true) (h2 : lessT y z = true) : lessT x z = true := by
  have a := of_decide_eq_true h1
  have b := of_decide_eq_true h2
  exact decide_eq_true (by omega)
theorem lessT_three (x y : TE) : lessT x y = true ∨ samePB y x = true ∨ lessT y x = true := by
  by_cases h : x.1.A < y.1.A ∨ (x.1.A = y.1.A ∧ x.1.L < y.1.L)
  · exact .inl (decide_eq_true h)
  · by_cases h2 : y.1.A = x.1.A ∧ y.1.L = x.1.L
    · exact .inr (.inl (decide_eq_true h2))
    · exact .inr (.inr (decide_eq_true (by omega)))
theorem samePB_less {x y z : TE} (h : samePB y x = true) : lessT x z = lessT y z ∧ lessT z x = lessT z y := by
  have a := of_decide_eq_true h
  unfold lessT
  rw [a.1, a.2]
  exact ⟨rfl, rfl⟩
theorem lessT_irr {x y : TE} (h : samePB x y = true) : lessT x y = false := by
  have a := of_decide_eq_true h
  exact decide_eq_false (by omega)
theorem lessT_asym {x y : TE} (h : lessT x y = true) : lessT y x = false := by
  have a := of_decide_eq_true h
  exact decide_eq_false (by omega)
theorem lessT_not_same {x y : TE} (h : lessT x y = true) : samePB y x = false ∧ samePB x y = false := by
  have a := of_decide_eq_true h
  exact ⟨decide_eq_false (by omega), decide_eq_false (by omega)⟩
/-- What one that is put in leaves: those below it, itself, those above it. -/
theorem insRun_is (x : TE) (o : List TE) (h : RisesT o) : insRun x o = (if o.any (fun y => lessT x y || samePB y x) then (o.filter (fun y => lessT y x) ++ [x] ++ o.filter (fun y => lessT x y), true) else (o.filter (fun y => lessT y x), false)) := by
  have key : ∀ m : List TE, RisesT m.reverse → insRun x m.reverse = (if m.reverse.any (fun y => lessT x y || samePB y x) then (m.reverse.filter (fun y => lessT y x) ++ [x] ++ m.reverse.filter (fun y => lessT x y), true) else (m.reverse.filter (fun y => lessT y x), false)) := by
    intro m
    induction m with
    | nil => intro _; rfl
    | cons y m ih =>
      intro h
      rw [List.reverse_cons] at h ⊢
      have h1 := (List.pairwise_append.1 h)
      have hb : ∀ z ∈ m.reverse, lessT z y = true := fun z hz => h1.2.2 z hz y (by simp)
      rw [insRun_snoc, ih h1.1]
      rcases lessT_three x y with hx | hx | hx
      · have n1 := lessT_not_same hx
        have n2 := lessT_asym hx
        have n3 : samePB x y = false := n1.2
        cases hany : m.reverse.any (fun y => lessT x y || samePB y x) with
        | true => simp [insStep, hany, hx, n1, n2, List.filter_append, List.any_append]
        | false =>
          have hno : m.reverse.filter (fun y => lessT x y) = [] := by
            rw [List.filter_eq_nil_iff]
            intro z hz hz2
            have := List.any_eq_false.1 hany z hz
            simp [hz2] at this
          simp [insStep, hany, hx, n1, n2, List.filter_append, List.any_append, hno]
      · have n2 := (samePB_less (z := y) hx)
        have n3 : lessT x y = false := by rw [n2.1]; exact lessT_irr (decide_eq_true ⟨rfl, rfl⟩)
        have n4 : lessT y x = false := by rw [n2.2]; exact lessT_irr (decide_eq_true ⟨rfl, rfl⟩)
        have n5 : samePB x y = true := by have a := of_decide_eq_true hx; exact decide_eq_true ⟨a.1.symm, a.2.symm⟩
        have hany : m.reverse.any (fun y => lessT x y || samePB y x) = false := by
          rw [List.any_eq_false]
          intro z hz h9
          have hz2 : lessT z x = true := by rw [(samePB_less (z := z) hx).2]; exact hb z hz
          have hz3 := lessT_not_same hz2
          have hz4 := lessT_asym hz2
          rw [hz4, hz3.2] at h9
          cases h9
        have hno : m.reverse.filter (fun y => lessT x y) = [] := by
          rw [List.filter_eq_nil_iff]
          intro z hz hz2
          have := List.any_eq_false.1 hany z hz
          simp [hz2] at this
        simp [insStep, hany, hx, n3, n4, n5, List.filter_append, List.any_append, hno]
      · have n1 := lessT_not_same hx
        have n2 := lessT_asym hx
        have hany : m.reverse.any (fun y => lessT x y || samePB y x) = false := by
          rw [List.any_eq_false]
          intro z hz h9
          have hz2 : lessT z x = true := lessT_trans (hb z hz) hx
          have hz3 := lessT_not_same hz2
          have hz4 := lessT_asym hz2
          rw [hz4, hz3.2] at h9
          cases h9
        simp [insStep, hany, hx, n1, n2, List.filter_append, List.any_append]
  have := key o.reverse (by rw [List.reverse_reverse]; exact h)
  rwa [List.reverse_reverse] at this
theorem insT_is (x : TE) (o : List TE) (h : RisesT o) : insT x o = o.filter (fun y => lessT y x) ++ [x] ++ o.filter (fun y => lessT x y) := by
  unfold insT
  rw [insRun_is x o h]
  cases hany : o.any (fun y => lessT x y || samePB y x) with
  | true => rfl
  | false =>
    have hno : o.filter (fun y => lessT x y) = [] := by
      rw [List.filter_eq_nil_iff]
      intro z hz hz2
      have := List.any_eq_false.1 hany z hz
      simp [hz2] at this
    simp [hno]
theorem insT_rises (x : TE) (o : List TE) (h : RisesT o) : RisesT (insT x o) := by
  rw [insT_is x o h]
  unfold RisesT
  rw [List.pairwise_append, List.pairwise_append]
  refine ⟨⟨h.filter _, List.pairwise_singleton _ _, fun a ha b hb => ?_⟩, h.filter _, fun a ha b hb => ?_⟩
  · rw [List.mem_singleton] at hb
    subst hb
    simpa using (List.mem_filter.1 ha).2
  · have hb2 : lessT x b = true := by simpa using (List.mem_filter.1 hb).2
    rcases List.mem_append.1 ha with ha | ha
    · exact lessT_trans (by simpa using (List.mem_filter.1 ha).2) hb2
    · rw [List.mem_singleton] at ha
      subst ha
      exact hb2
theorem toldT_rises (l : List TE) : RisesT (toldT l) := by
  have key : ∀ m : List TE, RisesT (toldT m.reverse) := by
    intro m
    induction m with
    | nil => exact List.Pairwise.nil
    | cons z m ih =>
      rw [List.reverse_cons, toldT_snoc]
      unfold toldStep
      split
      · exact insT_rises z _ ih
      · exact ih
  have := key l.reverse
  rwa [List.reverse_reverse] at this
theorem insT_len (x : TE) (o : List TE) (h : RisesT o) : (insT x o).length ≤ o.length + 1 := by
  rw [insT_is x o h]
  have key : ∀ m : List TE, (m.filter (fun y => lessT y x)).length + (m.filter (fun y => lessT x y)).length ≤ m.length := by
    intro m
    induction m with
    | nil => exact Nat.zero_le _
    | cons y m ih =>
      rw [List.filter_cons, List.filter_cons]
      cases h1 : lessT y x <;> cases h2 : lessT x y
      · simp; omega
      · simp; omega
      · simp; omega
      · rw [lessT_asym h1] at h2; cases h2
  have := key o
  simp only [List.length_append, List.length_cons, List.length_nil]
  omega
theorem toldT_len (l : List TE) : (toldT l).length ≤ 400 := by
  have key : ∀ m : List TE, (toldT m.reverse).length ≤ 400 := by
    intro m
    induction m with
    | nil => exact Nat.zero_le _
    | cons z m ih =>
      rw [List.reverse_cons, toldT_snoc]
      unfold toldStep
      split
      · rename_i h9
        have := insT_len z _ (toldT_rises m.reverse)
        have := h9.1
        omega
      · exact ih
  have := key l.reverse
  rwa [List.reverse_reverse] at this
end Go.Proofs.YthigjonagbfbbaaDoor
