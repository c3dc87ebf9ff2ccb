/- What is known of the best one, in plain words. -/
import Derived.Test.YtolpaimmmhoiiaaWDecideBest
namespace Go.Proofs.Ytolpaimmmhoiiaa
open Go.RowKit
set_option maxRecDepth 100000

theorem bestB_none {num : Int} {infos : List Inf} {all : List Rt} : bestB num infos all = none ↔ freeB num all = [] := by
  unfold bestB
  constructor
  · intro h
    apply Classical.byContradiction
    intro hne
    have := stepsB_ne (num := num) (infos := infos) (all := all) hne 9
    rw [List.head?_eq_none_iff] at h
    exact this h
  · intro h
    rw [h, stepsB_end num infos all [] 0 rfl 9]
    rfl
theorem bestB_mem {num : Int} {infos : List Inf} {all : List Rt} {n : Nat} (h : bestB num infos all = some n) : n ∈ stepsB num infos all (freeB num all) 9 := by
  unfold bestB at h
  exact List.mem_of_head? h
theorem freeB_at {num : Int} {all : List Rt} {n : Nat} (h : n ∈ freeB num all) : ∃ r, all[n]? = some r ∧ hasP r.att.path num = false := by
  have hl := freeB_lt h
  refine ⟨all[n], List.getElem?_eq_getElem hl, ?_⟩
  have := (List.mem_filter.1 h).2
  rw [List.getElem?_eq_getElem hl] at this
  simpa using this
theorem steps_more {num : Int} {infos : List Inf} {all : List Rt} {js : List Nat} : ∀ (d s : Nat) (j : Nat), j ∈ stepsB num infos all js (s + d) → j ∈ stepsB num infos all js s
  | 0, _, _, h => h
  | d + 1, s, j, h => steps_more d s j (stepB_sub h)
/-- Any static one among the free ones: the best is one. -/
theorem best_static {num : Int} {infos : List Inf} {all : List Rt} {n : Nat} {r : Rt} (h : bestB num infos all = some n) (hr : all[n]? = some r) (hs : (freeB num all).any (yOf all fun r => decide (r.peer < 0)) = true) : r.peer < 0 := by
  have h1 := steps_more 8 1 n (bestB_mem h)
  have e : stepsB num infos all (freeB num all) 1 = stepB 0 num infos all (freeB num all) := rfl
  rw [e, ← step_rather 0 num infos all (freeB num all) (fun j hj => freeB_lt hj) (yOf all fun r => decide (r.peer < 0)) (fun j r hr => by rw [yOf_at hr]; show (if r.peer < 0 then (0 : Int) else 1) = _; by_cases h : r.peer < 0 <;> simp [h])] at h1
  unfold ratherL at h1
  obtain ⟨j, hj, hy⟩ := List.any_eq_true.1 hs
  rw [if_neg (by
    intro h0
    have : j ∈ (freeB num all).filter (yOf all fun r => decide (r.peer < 0)) := List.mem_filter.2 ⟨hj, hy⟩
    rw [List.length_eq_zero_iff.1 h0] at this
    cases this)] at h1
  have := (List.mem_filter.1 h1).2
  rw [yOf_at hr] at this
  simpa using this
/-- None static, any fresh: the best is fresh. -/
theorem best_fresh {num : Int} {infos : List Inf} {all : List Rt} {n : Nat} {r : Rt} (h : bestB num infos all = some n) (hr : all[n]? = some r) (hs : (freeB num all).any (yOf all fun r => decide (r.peer < 0)) = false) (hf : (freeB num all).any (yOf all fun r => r.stale != 2) = true) : (r.stale != 2) = true := by
  have h1 := steps_more 7 2 n (bestB_mem h)
  have e0 : stepsB num infos all (freeB num all) 1 = freeB num all := by
    have e : stepsB num infos all (freeB num all) 1 = stepB 0 num infos all (freeB num all) := rfl
    rw [e, ← step_rather 0 num infos all (freeB num all) (fun j hj => freeB_lt hj) (yOf all fun r => decide (r.peer < 0)) (fun j r hr => by rw [yOf_at hr]; show (if r.peer < 0 then (0 : Int) else 1) = _; by_cases h : r.peer < 0 <;> simp [h])]
    unfold ratherL
    rw [if_pos]
    rw [List.length_eq_zero_iff, List.filter_eq_nil_iff]
    intro j hj hy
    have : (freeB num all).any (yOf all fun r => decide (r.peer < 0)) = true := List.any_eq_true.2 ⟨j, hj, hy⟩
    rw [hs] at this
    cases this
  have e1 : stepsB num infos all (freeB num all) 2 = stepB 1 num infos all (stepsB num infos all (freeB num all) 1) := rfl
  rw [e1, e0, ← step_rather 1 num infos all (freeB num all) (fun j hj => freeB_lt hj) (yOf all fun r => r.stale != 2) (fun j r hr => by rw [yOf_at hr]; show (if r.stale = 2 then (1 : Int) else 0) = _; by_cases h : r.stale = 2 <;> simp [h])] at h1
  unfold ratherL at h1
  obtain ⟨j, hj, hy⟩ := List.any_eq_true.1 hf
  rw [if_neg (by
    intro h0
    have : j ∈ (freeB num all).filter (yOf all fun r => r.stale != 2) := List.mem_filter.2 ⟨hj, hy⟩
    rw [List.length_eq_zero_iff.1 h0] at this
    cases this)] at h1
  have := (List.mem_filter.1 h1).2
  rw [yOf_at hr] at this
  exact this
theorem freeK_all (num : Int) (all : List Rt) : freeK num all all.length = freeB num all := rfl
theorem any_snoc {α : Type} (p : α → Bool) (l : List α) (x : α) : (l ++ [x]).any p = (l.any p || p x) := by simp
end Go.Proofs.Ytolpaimmmhoiiaa
/- Two lists of routes, one of which has the other's, turned or without one: the same one is the best, in plain words. -/
namespace Go.Proofs.Ytolpaimmmhoiiaa
open Go.RowKit
set_option maxRecDepth 100000

theorem mem_stepB {step : Nat} {num : Int} {infos : List Inf} {all : List Rt} {js : List Nat} {j : Nat} : j ∈ stepB step num infos all js ↔ j ∈ js ∧ ∀ i ∈ js, scoreJ step num infos all js j ≤ scoreJ step num infos all js i := by
  rw [stepB_least]
  generalize scoreJ step num infos all js = f
  have hle := (leastB_le f js (f (js.headD 0))).2
  unfold leastL
  rw [List.mem_filter]
  constructor
  · rintro ⟨hj, he⟩
    have he : f j = leastB f js (f (js.headD 0)) := by simpa using he
    exact ⟨hj, fun i hi => by rw [he]; exact hle i hi⟩
  · rintro ⟨hj, hall⟩
    refine ⟨hj, ?_⟩
    obtain ⟨i, hi, he⟩ := leastB_at f js (fun h => by rw [h] at hj; cases hj)
    have h1 := hall i hi
    have h2 := hle j hj
    rw [he] at h1
    have : f j = leastB f js (f (js.headD 0)) := by omega
    simpa using this
theorem mem_freeB {num : Int} {all : List Rt} {j : Nat} : j ∈ freeB num all ↔ ∃ r, all[j]? = some r ∧ hasP r.att.path num = false := by
  constructor
  · exact freeB_at
  · rintro ⟨r, hr, hh⟩
    refine List.mem_filter.2 ⟨by simpa using (List.getElem?_eq_some_iff.1 hr).1, ?_⟩
    rw [hr]
    simp [hh]
theorem rises_freeB (num : Int) (all : List Rt) : (freeB num all).Pairwise (· < ·) := List.Pairwise.filter _ List.pairwise_lt_range
theorem rises_steps (num : Int) (infos : List Inf) (all : List Rt) (js : List Nat) (h : js.Pairwise (· < ·)) : ∀ s, (stepsB num infos all js s).Pairwise (· < ·)
  | 0 => h
  | s + 1 => List.Pairwise.filter _ (rises_steps num infos all js h s)
theorem best_first {num : Int} {infos : List Inf} {all : List Rt} {n : Nat} (h : bestB num infos all = some n) : n ∈ stepsB num infos all (freeB num all) 9 ∧ ∀ j ∈ stepsB num infos all (freeB num all) 9, n ≤ j := by
  refine ⟨bestB_mem h, fun j hj => ?_⟩
  have hp := rises_steps num infos all (freeB num all) (rises_freeB num all) 9
  unfold bestB at h
  cases hl : stepsB num infos all (freeB num all) 9 with
  | nil => rw [hl] at h; cases h
  | cons x l =>
    rw [hl] at h hj hp
    have hx : x = n := by simpa using h
    subst hx
    rcases List.mem_cons.1 hj with rfl | hj
    · exact Nat.le_refl _
    · exact Nat.le_of_lt ((List.pairwise_cons.1 hp).1 j hj)
theorem any_lower {all : List Rt} {js : List Nat} (hq : ∀ j ∈ js, j < all.length) (r : Rt) : (pickL all js).any (lower r) = true ↔ ∃ j ∈ js, ∃ o, all[j]? = some o ∧ lower r o = true := by
  obtain ⟨p1, p2⟩ := pickL_all all js hq
  constructor
  · intro h
    obtain ⟨o, ho, hl⟩ := List.any_eq_true.1 h
    obtain ⟨k, hk⟩ := List.getElem?_of_mem ho
    have hkl : k < js.length := by rw [← p1]; exact (List.getElem?_eq_some_iff.1 hk).1
    obtain ⟨o', ho', hp⟩ := p2 k _ (List.getElem?_eq_getElem hkl)
    rw [hk] at hp
    cases hp
    exact ⟨_, List.getElem_mem hkl, o, ho', hl⟩
  · rintro ⟨j, hj, o, ho, hl⟩
    obtain ⟨k, hk⟩ := List.getElem?_of_mem hj
    obtain ⟨o', ho', hp⟩ := p2 k j hk
    rw [ho] at ho'
    cases ho'
    exact any_yes hp hl
theorem scoreR_any {step : Nat} (hs : step < 9) (h5 : step ≠ 5) (num : Int) (infos : List Inf) (l l' : List Rt) (r : Rt) : scoreR step num infos l r = scoreR step num infos l' r := by
  match step, h5, hs with
  | 0, _, _ => rfl
  | 1, _, _ => rfl
  | 2, _, _ => rfl
  | 3, _, _ => rfl
  | 4, _, _ => rfl
  | 5, h5, _ => exact absurd rfl h5
  | 6, _, _ => rfl
  | 7, _, _ => rfl
  | 8, _, _ => rfl
  | k + 9, _, hs => exact absurd hs (by omega)
/-- all2 has routes of all, at places f; the best of all is among them. -/
structure Turned (num : Int) (infos : List Inf) (all all2 : List Rt) (f : Nat → Nat) (n i0 : Nat) : Prop where
  at2 : ∀ i, i < all2.length → all2[i]? = all[f i]?
  best : bestB num infos all = some n
  here : i0 < all2.length ∧ f i0 = n
  lows : ∀ i, i < all2.length → ∀ r, all2[i]? = some r → (∀ i', i' < all2.length → (i' ∈ stepsB num infos all2 (freeB num all2) 5 ↔ f i' ∈ stepsB num infos all (freeB num all) 5)) → ((pickL all2 (stepsB num infos all2 (freeB num all2) 5)).any (lower r) = (pickL all (stepsB num infos all (freeB num all) 5)).any (lower r))
theorem steps_lt {num : Int} {infos : List Inf} {all : List Rt} {s j : Nat} (h : j ∈ stepsB num infos all (freeB num all) s) : j < all.length := freeB_lt (stepsB_sub s h)
theorem Turned.steps {num : Int} {infos : List Inf} {all all2 : List Rt} {f : Nat → Nat} {n i0 : Nat} (h : Turned num infos all all2 f n i0) : ∀ s, s ≤ 9 → ∀ i, i < all2.length → (i ∈ stepsB num infos all2 (freeB num all2) s ↔ f i ∈ stepsB num infos all (freeB num all) s)
  | 0, _, i, hi => by
    show i ∈ freeB num all2 ↔ f i ∈ freeB num all
    rw [mem_freeB, mem_freeB, h.at2 i hi]
  | s + 1, hs, i, hi => by
    have ih := h.steps s (by omega)
    have hn : n ∈ stepsB num infos all (freeB num all) (s + 1) := by
      have := (best_first h.best).1
      have e : 9 = (s + 1) + (8 - s) := by omega
      rw [e] at this
      exact steps_more _ _ _ this
    have sc : ∀ i, i ∈ stepsB num infos all2 (freeB num all2) s → scoreJ s num infos all2 (stepsB num infos all2 (freeB num all2) s) i = scoreJ s num infos all (stepsB num infos all (freeB num all) s) (f i) := fun i hi2 => by
      have hil := steps_lt hi2
      have hr : all2[i]? = some all2[i] := List.getElem?_eq_getElem hil
      have hr2 : all[f i]? = some all2[i] := by rw [← h.at2 i hil]; exact hr
      rw [scoreJ_at hr, scoreJ_at hr2]
      by_cases h5 : s = 5
      · subst h5
        show (if (pickL all2 _).any (lower all2[i]) = true then (1 : Int) else 0) = (if (pickL all _).any (lower all2[i]) = true then (1 : Int) else 0)
        rw [h.lows i hil _ hr ih]
      · exact scoreR_any (by omega) h5 _ _ _ _ _
    show i ∈ stepB s num infos all2 _ ↔ f i ∈ stepB s num infos all _
    have hn2 : n ∈ stepB s num infos all (stepsB num infos all (freeB num all) s) := hn
    rw [mem_stepB, mem_stepB, ih i hi]
    constructor
    · rintro ⟨h1, h2⟩
      refine ⟨h1, fun j hj => ?_⟩
      have h3 := (mem_stepB.1 hn2).2 j hj
      have hi0 : i0 ∈ stepsB num infos all2 (freeB num all2) s := (ih i0 h.here.1).2 (by rw [h.here.2]; exact (mem_stepB.1 hn2).1)
      have h4 := h2 i0 hi0
      rw [sc i ((ih i hi).2 h1), sc i0 hi0, h.here.2] at h4
      omega
    · rintro ⟨h1, h2⟩
      refine ⟨h1, fun i' hi' => ?_⟩
      rw [sc i ((ih i hi).2 h1), sc i' hi']
      exact h2 (f i') ((ih i' (steps_lt hi')).1 hi')
/-- The best of all2 is at a place whose route is left in all, too. -/
theorem Turned.best2 {num : Int} {infos : List Inf} {all all2 : List Rt} {f : Nat → Nat} {n i0 : Nat} (h : Turned num infos all all2 f n i0) : ∃ m, bestB num infos all2 = some m ∧ m < all2.length ∧ f m ∈ stepsB num infos all (freeB num all) 9 ∧ m ≤ i0 := by
  have h0 : i0 ∈ stepsB num infos all2 (freeB num all2) 9 := (h.steps 9 (Nat.le_refl _) i0 h.here.1).2 (by rw [h.here.2]; exact (best_first h.best).1)
  cases hb : bestB num infos all2 with
  | none =>
    rw [bestB_none] at hb
    rw [hb, stepsB_end num infos all2 [] 0 rfl 9] at h0
    cases h0
  | some m =>
    have hm := best_first hb
    have hml := steps_lt hm.1
    exact ⟨m, rfl, hml, (h.steps 9 (Nat.le_refl _) m hml).1 hm.1, hm.2 i0 h0⟩
/-- Routes of unlike peers: one alone is left. -/
theorem unlike_one {num : Int} {infos : List Inf} {all : List Rt} (hp : ∀ (i j : Nat) (a b : Rt), all[i]? = some a → all[j]? = some b → a.peer = b.peer → i = j) {i j : Nat} (hi : i ∈ stepsB num infos all (freeB num all) 9) (hj : j ∈ stepsB num infos all (freeB num all) 9) : i = j := by
  have hi2 : i ∈ stepB 8 num infos all (stepsB num infos all (freeB num all) 8) := hi
  have hj2 : j ∈ stepB 8 num infos all (stepsB num infos all (freeB num all) 8) := hj
  rw [mem_stepB] at hi2 hj2
  have h1 := hi2.2 j hj2.1
  have h2 := hj2.2 i hi2.1
  have ri : all[i]? = some (all[i]'(steps_lt hi)) := List.getElem?_eq_getElem _
  have rj : all[j]? = some (all[j]'(steps_lt hj)) := List.getElem?_eq_getElem _
  rw [scoreJ_at ri, scoreJ_at rj] at h1 h2
  have h1 : (all[i]'(steps_lt hi)).peer ≤ (all[j]'(steps_lt hj)).peer := h1
  have h2 : (all[j]'(steps_lt hj)).peer ≤ (all[i]'(steps_lt hi)).peer := h2
  exact hp i j _ _ ri rj (by omega)
theorem bool_iff {a b : Bool} (h : a = true ↔ b = true) : a = b := by
  cases a <;> cases b <;> simp at h <;> rfl
/-! ### The rows turned -/
def turnR (k : Nat) (all : List Rt) : List Rt := all.drop k ++ all.take k
theorem turnR_length (k : Nat) (all : List Rt) : (turnR k all).length = all.length := by
  simp [turnR]
  omega
theorem turnR_at {k : Nat} {all : List Rt} (hk : k < all.length) {i : Nat} (hi : i < all.length) : (turnR k all)[i]? = all[(i + k) % all.length]? := by
  unfold turnR
  by_cases h : i < all.length - k
  · rw [List.getElem?_append_left (by simp; omega), List.getElem?_drop, Nat.mod_eq_of_lt (by omega), Nat.add_comm]
  · rw [List.getElem?_append_right (by simp; omega), List.length_drop, List.getElem?_take_of_lt (by omega)]
    have e : (i + k) % all.length = i - (all.length - k) := by
      rw [Nat.mod_eq_sub_mod (by omega), Nat.mod_eq_of_lt (by omega)]
      omega
    rw [e]
theorem turn_best {num : Int} {infos : List Inf} {all : List Rt} {k : Nat} (hk : k < all.length) (hp : ∀ (i j : Nat) (a b : Rt), all[i]? = some a → all[j]? = some b → a.peer = b.peer → i = j) : (bestB num infos all = none ∧ bestB num infos (turnR k all) = none) ∨ ∃ n m, bestB num infos all = some n ∧ bestB num infos (turnR k all) = some m ∧ n = (m + k) % all.length := by
  have at2 : ∀ i, i < (turnR k all).length → (turnR k all)[i]? = all[(i + k) % all.length]? := fun i hi => turnR_at hk (by rw [turnR_length] at hi; exact hi)
  have onto : ∀ j, j < all.length → ∃ i, i < (turnR k all).length ∧ (i + k) % all.length = j := fun j hj => by
    rw [turnR_length]
    by_cases h : k ≤ j
    · exact ⟨j - k, by omega, by rw [Nat.sub_add_cancel h, Nat.mod_eq_of_lt hj]⟩
    · refine ⟨j + all.length - k, by omega, ?_⟩
      have e : j + all.length - k + k = j + all.length := by omega
      rw [e, Nat.add_mod_right, Nat.mod_eq_of_lt hj]
  cases hb : bestB num infos all with
  | none =>
    refine .inl ⟨rfl, ?_⟩
    rw [bestB_none] at hb ⊢
    rw [List.eq_nil_iff_forall_not_mem]
    intro i hi
    obtain ⟨r, hr, hh⟩ := freeB_at hi
    have hil : i < (turnR k all).length := (List.getElem?_eq_some_iff.1 hr).1
    rw [at2 i hil] at hr
    have : (i + k) % all.length ∈ freeB num all := mem_freeB.2 ⟨r, hr, hh⟩
    rw [hb] at this
    cases this
  | some n =>
    have hn := best_first hb
    obtain ⟨i0, hi0, he0⟩ := onto n (steps_lt hn.1)
    have T : Turned num infos all (turnR k all) (fun i => (i + k) % all.length) n i0 := ⟨at2, hb, ⟨hi0, he0⟩, fun i hi r hr hiff => by
      have e : (pickL (turnR k all) (stepsB num infos (turnR k all) (freeB num (turnR k all)) 5)).any (lower r) = true ↔ (pickL all (stepsB num infos all (freeB num all) 5)).any (lower r) = true := by
        rw [any_lower (fun j hj => steps_lt hj), any_lower (fun j hj => steps_lt hj)]
        constructor
        · rintro ⟨j, hj, o, ho, hl⟩
          have hjl := steps_lt hj
          exact ⟨_, (hiff j hjl).1 hj, o, by rw [← at2 j hjl]; exact ho, hl⟩
        · rintro ⟨j, hj, o, ho, hl⟩
          obtain ⟨i', hi', rfl⟩ := onto j (steps_lt hj)
          exact ⟨i', (hiff i' hi').2 hj, o, by rw [at2 i' hi']; exact ho, hl⟩
      exact bool_iff e⟩
    obtain ⟨m, hm, hml, hmf, _⟩ := T.best2
    exact .inr ⟨n, m, rfl, hm, unlike_one hp hn.1 hmf⟩
/-! ### A row without one -/
def lessR (k : Nat) (all : List Rt) : List Rt := all.take k ++ all.drop (k + 1)
theorem lessR_length {k : Nat} {all : List Rt} (hk : k < all.length) : (lessR k all).length = all.length - 1 := by
  simp [lessR]
  omega
def upL (k i : Nat) : Nat := if i < k then i else i + 1
theorem lessR_at {k : Nat} {all : List Rt} (hk : k < all.length) (i : Nat) : (lessR k all)[i]? = all[upL k i]? := by
  unfold lessR upL
  by_cases h : i < k
  · rw [if_pos h, List.getElem?_append_left (by simp; omega), List.getElem?_take_of_lt h]
  · rw [if_neg h, List.getElem?_append_right (by simp; omega), List.getElem?_drop]
    congr 1
    simp
    omega
theorem less_best {num : Int} {infos : List Inf} {all : List Rt} {k : Nat} (hk : k < all.length) (hmed : ∀ (j : Nat) (r : Rt), all[j]? = some r → r.att.med ≤ 0) (hne : bestB num infos all ≠ some k) : (bestB num infos all = none ∧ bestB num infos (lessR k all) = none) ∨ ∃ n m, bestB num infos all = some n ∧ bestB num infos (lessR k all) = some m ∧ n = if k < n then m + 1 else m := by
  have at2 : ∀ i, i < (lessR k all).length → (lessR k all)[i]? = all[upL k i]? := fun i _ => lessR_at hk i
  have nolow : ∀ (l : List Rt) (js : List Nat), (∀ j ∈ js, j < l.length) → (∀ (j : Nat) (r : Rt), l[j]? = some r → r.att.med ≤ 0) → ∀ r : Rt, r.att.med ≤ 0 → (pickL l js).any (lower r) = false := fun l js hq hm r hr => by
    cases h : (pickL l js).any (lower r) with
    | false => rfl
    | true =>
      obtain ⟨j, hj, o, ho, hl⟩ := (any_lower hq r).1 h
      have h1 := hm j o ho
      unfold lower at hl
      have e1 : medA r.att = 0 := by unfold medA; split <;> omega
      have e2 : medA o.att = 0 := by unfold medA; split <;> omega
      rw [e1, e2] at hl
      cases hf : firstP r.att.path <;> cases hg : firstP o.att.path <;> rw [hf, hg] at hl <;> simp at hl
  have med2 : ∀ (j : Nat) (r : Rt), (lessR k all)[j]? = some r → r.att.med ≤ 0 := fun j r hr => hmed _ r (by rw [← lessR_at hk j]; exact hr)
  cases hb : bestB num infos all with
  | none =>
    refine .inl ⟨rfl, ?_⟩
    rw [bestB_none] at hb ⊢
    rw [List.eq_nil_iff_forall_not_mem]
    intro i hi
    obtain ⟨r, hr, hh⟩ := freeB_at hi
    rw [lessR_at hk i] at hr
    have : upL k i ∈ freeB num all := mem_freeB.2 ⟨r, hr, hh⟩
    rw [hb] at this
    cases this
  | some n =>
    have hn := best_first hb
    have hnl := steps_lt hn.1
    have hnk : n ≠ k := fun e => hne (by rw [hb, e])
    have hi0 : ∃ i0, i0 < (lessR k all).length ∧ upL k i0 = n := by
      rw [lessR_length hk]
      by_cases h : n < k
      · exact ⟨n, by omega, by unfold upL; rw [if_pos h]⟩
      · exact ⟨n - 1, by omega, by unfold upL; rw [if_neg (by omega)]; omega⟩
    obtain ⟨i0, h0, he0⟩ := hi0
    have T : Turned num infos all (lessR k all) (upL k) n i0 := ⟨at2, hb, ⟨h0, he0⟩, fun i hi r hr _ => by
      rw [nolow _ _ (fun j hj => steps_lt hj) med2 r (med2 i r hr), nolow _ _ (fun j hj => steps_lt hj) hmed r (med2 i r hr)]⟩
    obtain ⟨m, hm, hml, hmf, hmi⟩ := T.best2
    refine .inr ⟨n, m, rfl, hm, ?_⟩
    have h1 := hn.2 _ hmf
    unfold upL at h1 he0
    by_cases h2 : k < n
    · rw [if_pos h2]
      split at h1 <;> split at he0 <;> omega
    · rw [if_neg h2]
      split at h1 <;> split at he0 <;> omega
end Go.Proofs.Ytolpaimmmhoiiaa
