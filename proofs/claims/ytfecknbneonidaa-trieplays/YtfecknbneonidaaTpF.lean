/- The longest of a list of prefixes that covers an address. -/
import Derived.Test.YtfecknbneonidaaTpA
namespace Go.Proofs.Ytfecknbneonidaa

/-- The length of the prefix at place b. -/
def lenAt1 (T : List ((Nat × Nat) × Int)) (b : Int) : Int := ((T[b.toNat]?.map (fun t => (t.1.2 : Int))).getD 0)
/-- Does t cover D? -/
def covT (D : Nat) (t : (Nat × Nat) × Int) : Bool := decide (cutTo D t.1.2 = t.1.1)
/-- The place of the longest among the first q that cover D; -1, if none does. -/
def bestUp (T : List ((Nat × Nat) × Int)) (D : Nat) : Nat → Int
  | 0 => -1
  | q + 1 => match T[q]? with
    | none => bestUp T D q
    | some t => if covT D t = true ∧ (bestUp T D q < 0 ∨ lenAt1 T (bestUp T D q) < (t.1.2 : Int)) then (q : Int) else bestUp T D q
theorem bestUp_is (T : List ((Nat × Nat) × Int)) (D : Nat) : ∀ q, q ≤ T.length → (bestUp T D q = -1 ∧ ∀ i t, i < q → T[i]? = some t → covT D t = false) ∨
    ∃ b t, b < q ∧ bestUp T D q = (b : Int) ∧ T[b]? = some t ∧ covT D t = true ∧ lenAt1 T (bestUp T D q) = (t.1.2 : Int) ∧ ∀ i u, i < q → T[i]? = some u → covT D u = true → u.1.2 ≤ t.1.2
  | 0, _ => .inl ⟨rfl, fun i _ hi => absurd hi (by omega)⟩
  | q + 1, hq => by
    obtain ⟨t, ht⟩ : ∃ t, T[q]? = some t := ⟨T[q]'(by omega), by simp⟩
    have step : bestUp T D (q + 1) = if covT D t = true ∧ (bestUp T D q < 0 ∨ lenAt1 T (bestUp T D q) < (t.1.2 : Int)) then (q : Int) else bestUp T D q := by
      rw [bestUp, ht]
    have hlen : lenAt1 T (q : Int) = (t.1.2 : Int) := by simp [lenAt1, ht]
    rw [step]
    rcases bestUp_is T D q (by omega) with ⟨h1, h2⟩ | ⟨b, u, h1, h2, h3, h4, h5, h6⟩
    · by_cases hc : covT D t = true
      · rw [if_pos ⟨hc, .inl (by omega)⟩]
        refine .inr ⟨q, t, by omega, rfl, ht, hc, hlen, fun i u hi hu hcu => ?_⟩
        by_cases e : i = q
        · subst e; rw [ht] at hu; cases hu; exact Nat.le_refl _
        · rw [h2 i u (by omega) hu] at hcu; cases hcu
      · rw [if_neg (fun h => hc h.1)]
        refine .inl ⟨h1, fun i u hi hu => ?_⟩
        by_cases e : i = q
        · subst e; rw [ht] at hu; cases hu; simpa using hc
        · exact h2 i u (by omega) hu
    · by_cases hc : covT D t = true ∧ (bestUp T D q < 0 ∨ lenAt1 T (bestUp T D q) < (t.1.2 : Int))
      · rw [if_pos hc]
        refine .inr ⟨q, t, by omega, rfl, ht, hc.1, hlen, fun i v hi hv hcv => ?_⟩
        have hlt : u.1.2 < t.1.2 := by
          rcases hc.2 with h | h
          · omega
          · rw [h5] at h; omega
        by_cases e : i = q
        · subst e; rw [ht] at hv; cases hv; exact Nat.le_refl _
        · have := h6 i v (by omega) hv hcv; omega
      · rw [if_neg hc]
        refine .inr ⟨b, u, by omega, h2, h3, h4, h5, fun i v hi hv hcv => ?_⟩
        by_cases e : i = q
        · subst e
          rw [ht] at hv
          cases hv
          rcases Nat.lt_or_ge u.1.2 t.1.2 with h | h
          · exact absurd ⟨hcv, .inr (by rw [h5]; omega)⟩ hc
          · exact h
        · exact h6 i v (by omega) hv hcv
theorem longC_ge {C : Nat → Nat → Option Int} {D M : Nat} {v : Int} (h : C (cutTo D M) M = some v) : ∀ k, M < k → ∃ M' v', longC C D k = some (M', v') ∧ M ≤ M'
  | 0, hk => absurd hk (by omega)
  | k + 1, hk => by
    cases e : C (cutTo D k) k with
    | some u => exact ⟨k, u, longC_some e, by omega⟩
    | none =>
      rw [longC_none e]
      by_cases e2 : M = k
      · subst e2; rw [h] at e; cases e
      · exact longC_ge h k (by omega)
/-- What is found is the longest of the list. -/
theorem best_long {T : List ((Nat × Nat) × Int)} {C : Nat → Nat → Option Int} (hh : ∀ x m v, C x m = some v ↔ ((x, m), v) ∈ T) (hk : ∀ x m v, C x m = some v → Key x m) (D : Nat) :
    (bestUp T D T.length = -1 ∧ longC C D 33 = none) ∨ ∃ (b M : Nat) (v : Int), b < T.length ∧ bestUp T D T.length = (b : Int) ∧ T[b]? = some ((cutTo D M, M), v) ∧ longC C D 33 = some (M, v) := by
  rcases bestUp_is T D T.length (Nat.le_refl _) with ⟨h1, h2⟩ | ⟨b, ⟨⟨Y, M⟩, v⟩, h1, h2, h3, h4, _, h6⟩
  · left
    refine ⟨h1, ?_⟩
    cases e : longC C D 33 with
    | none => rfl
    | some p =>
      exfalso
      obtain ⟨n, v⟩ := p
      have hc := (longC_le e).2
      rw [hh] at hc
      obtain ⟨i, hi, e2⟩ := List.getElem_of_mem hc
      have := h2 i _ hi (by rw [List.getElem?_eq_getElem hi, e2])
      simp [covT] at this
  · right
    have hY : cutTo D M = Y := by simpa [covT] using h4
    subst hY
    have hC : C (cutTo D M) M = some v := (hh _ _ _).2 (List.mem_of_getElem? h3)
    have hM : M ≤ 32 := (hk _ _ _ hC).1
    obtain ⟨M', v', hl, hge⟩ := longC_ge hC 33 (by omega)
    have hC' := (longC_le hl).2
    have hm := (hh _ _ _).1 hC'
    obtain ⟨i, hi, e2⟩ := List.getElem_of_mem hm
    have hle := h6 i _ hi (by rw [List.getElem?_eq_getElem hi, e2]) (by simp [covT])
    simp only at hle
    have e3 : M' = M := by omega
    subst e3
    rw [hC] at hC'
    cases hC'
    exact ⟨b, M', v, h1, h2, h3, hl⟩
theorem play_all {T : List ((Nat × Nat) × Int)} {C : Nat → Nat → Option Int} (hup : (T.map Prod.fst).Pairwise lessP) (hh : ∀ x m v, C x m = some v ↔ ((x, m), v) ∈ T) : TrieHas C (T.map Prod.fst) := by
  refine ⟨hup, fun x m => ?_⟩
  constructor
  · intro h
    obtain ⟨t, ht, e⟩ := List.mem_map.1 h
    obtain ⟨⟨a, b⟩, v⟩ := t
    cases e
    rw [(hh _ _ _).2 ht]
    rfl
  · intro h
    cases e : C x m with
    | none => rw [e] at h; cases h
    | some v => exact List.mem_map.2 ⟨_, (hh _ _ _).1 e, rfl⟩
end Go.Proofs.Ytfecknbneonidaa
