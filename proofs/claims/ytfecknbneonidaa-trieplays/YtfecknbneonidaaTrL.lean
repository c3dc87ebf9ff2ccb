/- The prefixes of a trie, in order, in plain lists. -/
import Derived.Test.YtfecknbneonidaaTrA
namespace Go.Proofs.Ytfecknbneonidaa

/-- One prefix is ahead of another one. -/
def lessP (p q : Nat × Nat) : Prop := p.1 < q.1 ∨ (p.1 = q.1 ∧ p.2 < q.2)
theorem lessP_asymm {p q : Nat × Nat} (h : lessP p q) : ¬ lessP q p := by unfold lessP at *; omega
theorem lessP_trans {p q r : Nat × Nat} (h : lessP p q) (k : lessP q r) : lessP p r := by unfold lessP at *; omega
theorem lessP_or {p q : Nat × Nat} : lessP p q ∨ p = q ∨ lessP q p := by
  obtain ⟨a, b⟩ := p
  obtain ⟨c, d⟩ := q
  unfold lessP
  simp only [Prod.mk.injEq]
  omega
/-- Two rising lists of the same things are the same. -/
theorem rising_eq : ∀ {l r : List (Nat × Nat)}, l.Pairwise lessP → r.Pairwise lessP → (∀ x, x ∈ l ↔ x ∈ r) → l = r
  | [], [], _, _, _ => rfl
  | [], b :: r, _, _, h => by have := (h b).2 List.mem_cons_self; cases this
  | a :: l, [], _, _, h => by have := (h a).1 List.mem_cons_self; cases this
  | a :: l, b :: r, hl, hr, h => by
    rw [List.pairwise_cons] at hl hr
    have e : a = b := by
      rcases List.mem_cons.1 ((h a).1 List.mem_cons_self) with e | e
      · exact e
      · rcases List.mem_cons.1 ((h b).2 List.mem_cons_self) with e2 | e2
        · exact e2.symm
        · exact absurd (hl.1 b e2) (lessP_asymm (hr.1 a e))
    subst e
    congr 1
    refine rising_eq hl.2 hr.2 fun x => ⟨fun hx => ?_, fun hx => ?_⟩
    · rcases List.mem_cons.1 ((h x).1 (List.mem_cons_of_mem _ hx)) with e | e
      · subst e; exact absurd (hl.1 x hx) (lessP_asymm (hl.1 x hx))
      · exact e
    · rcases List.mem_cons.1 ((h x).2 (List.mem_cons_of_mem _ hx)) with e | e
      · subst e; exact absurd (hr.1 x hx) (lessP_asymm (hr.1 x hx))
      · exact e
theorem pow_half (n : Nat) (h : n < 32) : 2 ^ (32 - n) = 2 ^ (31 - n) + 2 ^ (31 - n) := by
  rw [show 32 - n = (31 - n) + 1 from by omega, Nat.pow_succ]; omega
/-- What is listed from a/n on: all that have something and begin so. -/
theorem mem_allC {C : Nat → Nat → Option Int} : ∀ (d a n : Nat), n + d = 32 → Key a n → ∀ x m, (x, m) ∈ allC C d a n ↔ ((C x m).isSome = true ∧ n ≤ m ∧ Key x m ∧ cutTo x n = a)
  | 0, a, n, hd, hk, x, m => by
    obtain rfl : n = 32 := by omega
    unfold allC
    by_cases h : (C a 32).isSome = true
    · rw [if_pos h]
      simp only [List.mem_singleton, Prod.mk.injEq]
      refine ⟨fun ⟨e1, e2⟩ => ?_, fun ⟨h1, h2, h3, h4⟩ => ?_⟩
      · subst e1 e2; exact ⟨h, Nat.le_refl _, hk, cutTo_all _⟩
      · rw [cutTo_all] at h4; exact ⟨h4, by have := h3.1; omega⟩
    · rw [if_neg h]
      simp only [List.not_mem_nil, false_iff]
      rintro ⟨h1, h2, h3, h4⟩
      rw [cutTo_all] at h4
      have : m = 32 := by have := h3.1; omega
      subst this h4
      exact h h1
  | d + 1, a, n, hd, hk, x, m => by
    have hn : n < 32 := by omega
    rw [allC, List.mem_append, List.mem_append, mem_allC d _ (n + 1) (by omega) (kid_key hk hn (by omega)) x m, mem_allC d _ (n + 1) (by omega) (kid_key hk hn (by omega)) x m]
    have f0 := kid_facts hk hn (show 0 < 2 by omega)
    have f1 := kid_facts hk hn (show 1 < 2 by omega)
    constructor
    · rintro (h | h | h)
      · by_cases e : (C a n).isSome = true
        · rw [if_pos e] at h
          simp only [List.mem_singleton, Prod.mk.injEq] at h
          obtain ⟨rfl, rfl⟩ := h
          exact ⟨e, Nat.le_refl _, hk, hk.2.1⟩
        · rw [if_neg e] at h; cases h
      · obtain ⟨h1, h2, h3, h4⟩ := h
        refine ⟨h1, by omega, h3, ?_⟩
        rw [← cutTo_cut x (n + 1) n (by omega) (by omega), h4]; exact f0.2.1
      · obtain ⟨h1, h2, h3, h4⟩ := h
        refine ⟨h1, by omega, h3, ?_⟩
        rw [← cutTo_cut x (n + 1) n (by omega) (by omega), h4]; exact f1.2.1
    · rintro ⟨h1, h2, h3, h4⟩
      by_cases e : m = n
      · subst e
        have : x = a := by rw [← h4]; exact h3.2.1.symm
        subst this
        left
        rw [if_pos h1]
        exact List.mem_singleton.2 rfl
      · right
        have hb := bitAt_lt x n
        have ek := kid_cut x n hn
        rw [h4] at ek
        generalize bitAt x n = s at *
        match s, hb with
        | 0, _ => left; exact ⟨h1, by omega, h3, ek.symm⟩
        | 1, _ => right; exact ⟨h1, by omega, h3, ek.symm⟩
theorem cut_range {x n a : Nat} (h : cutTo x n = a) : a ≤ x ∧ x < a + 2 ^ (32 - n) := by
  subst h
  refine ⟨cutTo_le _ _, ?_⟩
  unfold cutTo
  have := Nat.div_add_mod x (2 ^ (32 - n))
  have h2 := Nat.mod_lt x (Nat.two_pow_pos (32 - n))
  rw [Nat.mul_comm] at this
  omega
theorem allC_rising {C : Nat → Nat → Option Int} : ∀ (d a n : Nat), n + d = 32 → Key a n → (allC C d a n).Pairwise lessP
  | 0, a, n, _, _ => by
    unfold allC
    by_cases h : (C a n).isSome = true
    · rw [if_pos h]; exact List.pairwise_singleton _ _
    · rw [if_neg h]; exact List.Pairwise.nil
  | d + 1, a, n, hd, hk => by
    have hn : n < 32 := by omega
    have k0 := kid_key hk hn (show 0 < 2 by omega)
    have k1 := kid_key hk hn (show 1 < 2 by omega)
    have e0 : kid a n 0 = a := by simp [kid]
    have e1 : kid a n 1 = a + 2 ^ (31 - n) := by simp [kid]
    rw [allC, List.pairwise_append]
    refine ⟨?_, ?_, ?_⟩
    · by_cases h : (C a n).isSome = true
      · rw [if_pos h]; exact List.pairwise_singleton _ _
      · rw [if_neg h]; exact List.Pairwise.nil
    · rw [List.pairwise_append]
      refine ⟨allC_rising d _ _ (by omega) k0, allC_rising d _ _ (by omega) k1, fun p hp q hq => ?_⟩
      have hp2 := ((mem_allC d _ (n + 1) (by omega) k0 p.1 p.2).1 hp).2.2.2
      have hq2 := ((mem_allC d _ (n + 1) (by omega) k1 q.1 q.2).1 hq).2.2.2
      have r1 := cut_range hp2
      have r2 := cut_range hq2
      rw [show 32 - (n + 1) = 31 - n from by omega] at r1 r2
      left
      omega
    · intro p hp q hq
      by_cases h : (C a n).isSome = true
      · rw [if_pos h] at hp
        rw [List.mem_singleton] at hp
        subst hp
        rcases List.mem_append.1 hq with hq | hq
        · have := (mem_allC d _ (n + 1) (by omega) k0 q.1 q.2).1 hq
          have r := cut_range this.2.2.2
          have := this.2.1
          unfold lessP
          simp only
          omega
        · have := (mem_allC d _ (n + 1) (by omega) k1 q.1 q.2).1 hq
          have r := cut_range this.2.2.2
          have hpos := Nat.two_pow_pos (31 - n)
          have := this.2.1
          unfold lessP
          simp only
          omega
      · rw [if_neg h] at hp; cases hp
/-- All that a trie has, in order. -/
theorem allC_is {C : Nat → Nat → Option Int} {l : List (Nat × Nat)} (hl : l.Pairwise lessP) (hk : ∀ x m, (C x m).isSome = true → Key x m) (hm : ∀ x m, (x, m) ∈ l ↔ (C x m).isSome = true) : allC C 32 0 0 = l := by
  refine rising_eq (allC_rising 32 0 0 rfl key_zero) hl fun p => ?_
  rw [show p = (p.1, p.2) from rfl, mem_allC 32 0 0 rfl key_zero, hm]
  refine ⟨fun h => h.1, fun h => ⟨h, Nat.zero_le _, hk _ _ h, ?_⟩⟩
  exact cutTo_none _ (hk _ _ h).2.2
theorem TrieIs.keyed {w : World} {B : Nat} {N : Nat → Nat → Option Nat} {C : Nat → Nat → Option Int} (h : TrieIs w B N C) (x m : Nat) (hs : (C x m).isSome = true) : Key x m := by
  cases e : N x m with
  | none => rw [h.gone _ _ e] at hs; cases hs
  | some b => exact h.key _ _ _ e
/-- p, in its place. -/
def insP (p : Nat × Nat) : List (Nat × Nat) → List (Nat × Nat)
  | [] => [p]
  | q :: r => if p.1 < q.1 ∨ (p.1 = q.1 ∧ p.2 < q.2) then p :: q :: r else if p = q then q :: r else q :: insP p r
theorem mem_insP {p x : Nat × Nat} : ∀ {l : List (Nat × Nat)}, x ∈ insP p l ↔ x = p ∨ x ∈ l
  | [] => by simp [insP]
  | q :: r => by
    unfold insP
    by_cases h : p.1 < q.1 ∨ (p.1 = q.1 ∧ p.2 < q.2)
    · rw [if_pos h, List.mem_cons]
    · rw [if_neg h]
      by_cases e : p = q
      · rw [if_pos e]
        subst e
        constructor
        · exact fun h => .inr h
        · rintro (rfl | h)
          · exact List.mem_cons_self
          · exact h
      · rw [if_neg e, List.mem_cons, mem_insP (l := r), List.mem_cons]
        constructor
        · rintro (h | h | h)
          · exact .inr (.inl h)
          · exact .inl h
          · exact .inr (.inr h)
        · rintro (h | h | h)
          · exact .inr (.inl h)
          · exact .inl h
          · exact .inr (.inr h)
theorem insP_rising {p : Nat × Nat} : ∀ {l : List (Nat × Nat)}, l.Pairwise lessP → (insP p l).Pairwise lessP
  | [], _ => List.pairwise_singleton _ _
  | q :: r, h => by
    have h' := List.pairwise_cons.1 h
    unfold insP
    by_cases c : p.1 < q.1 ∨ (p.1 = q.1 ∧ p.2 < q.2)
    · rw [if_pos c]
      refine List.pairwise_cons.2 ⟨fun x hx => ?_, h⟩
      rcases List.mem_cons.1 hx with rfl | hx
      · exact c
      · exact lessP_trans c (h'.1 x hx)
    · rw [if_neg c]
      by_cases e : p = q
      · rw [if_pos e]; exact h
      · rw [if_neg e]
        refine List.pairwise_cons.2 ⟨fun x hx => ?_, insP_rising h'.2⟩
        rcases mem_insP.1 hx with rfl | hx
        · rcases lessP_or (p := x) (q := q) with h9 | h9 | h9
          · exact absurd h9 c
          · exact absurd h9 e
          · exact h9
        · exact h'.1 x hx
theorem insP_length {p : Nat × Nat} : ∀ {l : List (Nat × Nat)}, (insP p l).length ≤ l.length + 1 ∧ 0 < (insP p l).length
  | [] => by simp [insP]
  | q :: r => by
    have ih := insP_length (p := p) (l := r)
    unfold insP
    split
    · simp
    · split
      · simp
      · simp only [List.length_cons]; omega
end Go.Proofs.Ytfecknbneonidaa
