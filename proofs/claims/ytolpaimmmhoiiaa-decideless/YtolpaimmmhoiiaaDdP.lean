/- What is known of the best one, in plain words. -/
import Derived.Test.YtolpaimmmhoiiaaWDecideBest
namespace Go.Proofs.Ytolpaimmmhoiiaa
open Go.RowKit
set_option maxRecDepth 100000

theorem bestB_none {num : Int} {infos : List Inf} {all : List Rt} : bestB num infos all = none ↔ freeB num all = [] := by
  unfold bestB
  constructor
  · intro h
    apply Classical.byContradiction
    intro hne
    have := stepsB_ne (num := num) (infos := infos) (all := all) hne 9
    rw [List.head?_eq_none_iff] at h
    exact this h
  · intro h
    rw [h, stepsB_end num infos all [] 0 rfl 9]
    rfl
theorem bestB_mem {num : Int} {infos : List Inf} {all : List Rt} {n : Nat} (h : bestB num infos all = some n) : n ∈ stepsB num infos all (freeB num all) 9 := by
  unfold bestB at h
  exact List.mem_of_head? h
theorem freeB_at {num : Int} {all : List Rt} {n : Nat} (h : n ∈ freeB num all) : ∃ r, all[n]? = some r ∧ hasP r.att.path num = false := by
  have hl := freeB_lt h
  refine ⟨all[n], List.getElem?_eq_getElem hl, ?_⟩
  have := (List.mem_filter.1 h).2
  rw [List.getElem?_eq_getElem hl] at this
  simpa using this
theorem steps_more {num : Int} {infos : List Inf} {all : List Rt} {js : List Nat} : ∀ (d s : Nat) (j : Nat), j ∈ stepsB num infos all js (s + d) → j ∈ stepsB num infos all js s
  | 0, _, _, h => h
  | d + 1, s, j, h => steps_more d s j (stepB_sub h)
/-- Any static one among the free ones: the best is one. -/
theorem best_static {num : Int} {infos : List Inf} {all : List Rt} {n : Nat} {r : Rt} (h : bestB num infos all = some n) (hr : all[n]? = some r) (hs : (freeB num all).any (yOf all fun r => decide (r.peer < 0)) = true) : r.peer < 0 := by
  have h1 := steps_more 8 1 n (bestB_mem h)
  have e : stepsB num infos all (freeB num all) 1 = stepB 0 num infos all (freeB num all) := rfl
  rw [e, ← step_rather 0 num infos all (freeB num all) (fun j hj => freeB_lt hj) (yOf all fun r => decide (r.peer < 0)) (fun j r hr => by rw [yOf_at hr]; show (if r.peer < 0 then (0 : Int) else 1) = _; by_cases h : r.peer < 0 <;> simp [h])] at h1
  unfold ratherL at h1
  obtain ⟨j, hj, hy⟩ := List.any_eq_true.1 hs
  rw [if_neg (by
    intro h0
    have : j ∈ (freeB num all).filter (yOf all fun r => decide (r.peer < 0)) := List.mem_filter.2 ⟨hj, hy⟩
    rw [List.length_eq_zero_iff.1 h0] at this
    cases this)] at h1
  have := (List.mem_filter.1 h1).2
  rw [yOf_at hr] at this
  simpa using this
/-- None static, any fresh: the best is fresh. -/
theorem best_fresh {num : Int} {infos : List Inf} {all : List Rt} {n : Nat} {r : Rt} (h : bestB num infos all = some n) (hr : all[n]? = some r) (hs : (freeB num all).any (yOf all fun r => decide (r.peer < 0)) = false) (hf : (freeB num all).any (yOf all fun r => r.stale != 2) = true) : (r.stale != 2) = true := by
  have h1 := steps_more 7 2 n (bestB_mem h)
  have e0 : stepsB num infos all (freeB num all) 1 = freeB num all := by
    have e : stepsB num infos all (freeB num all) 1 = stepB 0 num infos all (freeB num all) := rfl
    rw [e, ← step_rather 0 num infos all (freeB num all) (fun j hj => freeB_lt hj) (yOf all fun r => decide (r.peer < 0)) (fun j r hr => by rw [yOf_at hr]; show (if r.peer < 0 then (0 : Int) else 1) = _; by_cases h : r.peer < 0 <;> simp [h])]
    unfold ratherL
    rw [if_pos]
    rw [List.length_eq_zero_iff, List.filter_eq_nil_iff]
    intro j hj hy
    have : (freeB num all).any (yOf all fun r => decide (r.peer < 0)) = true := List.any_eq_true.2 ⟨j, hj, hy⟩
    rw [hs] at this
    cases this
  have e1 : stepsB num infos all (freeB num all) 2 = stepB 1 num infos all (stepsB num infos all (freeB num all) 1) := rfl
  rw [e1, e0, ← step_rather 1 num infos all (freeB num all) (fun j hj => freeB_lt hj) (yOf all fun r => r.stale != 2) (fun j r hr => by rw [yOf_at hr]; show (if r.stale = 2 then (1 : Int) else 0) = _; by_cases h : r.stale = 2 <;> simp [h])] at h1
  unfold ratherL at h1
  obtain ⟨j, hj, hy⟩ := List.any_eq_true.1 hf
  rw [if_neg (by
    intro h0
    have : j ∈ (freeB num all).filter (yOf all fun r => r.stale != 2) := List.mem_filter.2 ⟨hj, hy⟩
    rw [List.length_eq_zero_iff.1 h0] at this
    cases this)] at h1
  have := (List.mem_filter.1 h1).2
  rw [yOf_at hr] at this
  exact this
theorem freeK_all (num : Int) (all : List Rt) : freeK num all all.length = freeB num all := rfl
theorem any_snoc {α : Type} (p : α → Bool) (l : List α) (x : α) : (l ++ [x]).any p = (l.any p || p x) := by simp
end Go.Proofs.Ytolpaimmmhoiiaa
