/- What stands while timers are played with: names and moments in two rows, and the timers. -/
import Derived.Test.YthbgalknhodgnaaTmD
import Derived.Test.YthbgalknhodgnaaTmM
namespace Go.Proofs.Ythbgalknhodgnaa
open Go.RowKit Go.ChangeMaps Go.MapKept
set_option maxRecDepth 100000

theorem beq_iffN (x y : ByteArray) : (x.toList == y.toList) = true ↔ x = y := by
  rw [beq_iff_eq, ByteArray.toList_eq, ByteArray.toList_eq]
  exact ⟨fun h => ByteArray.ext (Array.toList_inj.mp h), fun h => by rw [h]⟩
theorem beq_neN {x y : ByteArray} (h : x ≠ y) : (x.toList == y.toList) = false := by
  cases e : (x.toList == y.toList) with
  | false => rfl
  | true => exact absurd ((beq_iffN x y).1 e) h
/-- Where n stands among the first k. -/
def atN (T : List Nm) (n : ByteArray) : Nat → Int
  | 0 => -1
  | k + 1 => if T[k]?.map Prod.fst = some n then (k : Int) else atN T n k
theorem atN_is (T : List Nm) (n : ByteArray) : ∀ k, k ≤ T.length → (atN T n k = -1 ∧ ∀ i, i < k → T[i]?.map Prod.fst ≠ some n) ∨ ∃ i, i < k ∧ atN T n k = (i : Int) ∧ T[i]?.map Prod.fst = some n
  | 0, _ => .inl ⟨rfl, fun i hi => absurd hi (by omega)⟩
  | k + 1, hk => by
    unfold atN
    by_cases e : T[k]?.map Prod.fst = some n
    · rw [if_pos e]
      exact .inr ⟨k, by omega, rfl, e⟩
    · rw [if_neg e]
      rcases atN_is T n k (by omega) with ⟨h1, h2⟩ | ⟨i, h1, h2, h3⟩
      · refine .inl ⟨h1, fun i hi => ?_⟩
        by_cases e2 : i = k
        · subst e2; exact e
        · exact h2 i (by omega)
      · exact .inr ⟨i, by omega, h2, h3⟩
theorem names_one {T : List Nm} (h : (T.map Prod.fst).Nodup) {i : Nat} {n : ByteArray} {m u : Int} (h1 : T[i]? = some (n, m)) (h2 : (n, u) ∈ T) : m = u := by
  obtain ⟨j, hj, e⟩ := List.getElem_of_mem h2
  obtain ⟨hi, e1⟩ := List.getElem?_eq_some_iff.1 h1
  have e9 : i = j := by
    have hp := List.pairwise_iff_getElem.1 h
    rcases Nat.lt_trichotomy i j with q | q | q
    · exact absurd (by rw [List.getElem_map, List.getElem_map, e, e1]) (hp i j (by simpa using hi) (by simpa using hj) q)
    · exact q
    · exact absurd (by rw [List.getElem_map, List.getElem_map, e, e1]) (hp j i (by simpa using hj) (by simpa using hi) q)
  subst e9
  rw [e] at e1
  exact ((Prod.mk.injEq _ _ _ _ ▸ e1).2).symm
theorem look_is {T : List Nm} (h : (T.map Prod.fst).Nodup) {n : ByteArray} {m : Int} {z : Bool} (hl : LookN T n m z) :
    (z = false ∧ m = 0 ∧ atN T n T.length = -1 ∧ ∀ x ∈ T, x.1 ≠ n) ∨ ∃ i, z = true ∧ i < T.length ∧ atN T n T.length = (i : Int) ∧ T[i]? = some (n, m) := by
  rcases atN_is T n T.length (Nat.le_refl _) with ⟨h1, h2⟩ | ⟨i, h1, h2, h3⟩
  · left
    have hno : ∀ x ∈ T, x.1 ≠ n := by
      intro x hx e
      obtain ⟨i, hi, e2⟩ := List.getElem_of_mem hx
      refine h2 i hi ?_
      rw [List.getElem?_eq_getElem hi, e2, Option.map_some, e]
    rcases hl with ⟨_, h4⟩ | ⟨h4, h5, _⟩
    · exact absurd rfl (hno _ h4)
    · exact ⟨h4, h5, h1, hno⟩
  · right
    cases e : T[i]? with
    | none => rw [e] at h3; cases h3
    | some x =>
      obtain ⟨a, b⟩ := x
      rw [e] at h3
      simp only [Option.map_some, Option.some.injEq] at h3
      subst h3
      rcases hl with ⟨h4, h5⟩ | ⟨_, _, h5⟩
      · have := names_one h e h5
        subst this
        exact ⟨i, h4, h1, h2, e⟩
      · exact absurd rfl (h5 _ (List.mem_of_getElem? e))
theorem delN_none {T : List Nm} {n : ByteArray} (h : ∀ x ∈ T, x.1 ≠ n) : delN n T = T := by
  refine List.filter_eq_self.2 fun x hx => ?_
  rw [goneN_false (h x hx)]
  rfl
theorem delN_at {T : List Nm} (h : (T.map Prod.fst).Nodup) {i : Nat} {n : ByteArray} {m : Int} (hi : T[i]? = some (n, m)) : delN n T = T.take i ++ T.drop (i + 1) := by
  have hp : T.Pairwise (fun x y => ¬ (goneN n x = true ∧ goneN n y = true)) := by
    unfold List.Nodup at h
    rw [List.pairwise_map] at h
    refine h.imp ?_
    rintro x y hne ⟨g1, g2⟩
    rw [goneN_iff] at g1 g2
    exact hne (g1.trans g2.symm)
  have := filter_eq_eraseIdx (fun x => goneN n x) T i (n, m) hi ((goneN_iff _ _).2 rfl) hp
  unfold delN
  rw [this, List.eraseIdx_eq_take_drop_succ]
theorem put_new {T : List Nm} {n : ByteArray} (z : Int) (h : ∀ x ∈ T, x.1 ≠ n) : ((n, z) :: delN n T).Perm (T ++ [(n, z)]) := by
  rw [delN_none h]
  exact (List.perm_append_singleton _ _).symm
theorem put_there {T : List Nm} (h : (T.map Prod.fst).Nodup) {i : Nat} {n : ByteArray} {m : Int} (z : Int) (hi : T[i]? = some (n, m)) : ((n, z) :: delN n T).Perm (T.set i (n, z)) := by
  rw [delN_at h hi, List.set_eq_take_append_cons_drop, if_pos (List.getElem?_eq_some_iff.1 hi).1]
  exact List.perm_middle.symm
theorem set_names {T : List Nm} {i : Nat} {n : ByteArray} {m : Int} (z : Int) (h : T[i]? = some (n, m)) : (T.set i (n, z)).map Prod.fst = T.map Prod.fst := by
  apply List.ext_getElem?
  intro k
  rw [List.getElem?_map, List.getElem?_map]
  by_cases e : i = k
  · subst e
    rw [List.getElem?_set_self (List.getElem?_eq_some_iff.1 h).1, h]
    rfl
  · rw [List.getElem?_set_ne e]
/-- Which of the first k is due first. -/
def lessO (x : Nm) : Option Nm → Bool
  | some y => lessN x y
  | none => false
def bestN (T : List Nm) (now : Int) : Nat → Int
  | 0 => -1
  | k + 1 => match T[k]? with
    | some x => if x.2 ≤ now ∧ (bestN T now k < 0 ∨ lessO x T[(bestN T now k).toNat]? = true) then (k : Int) else bestN T now k
    | none => bestN T now k
section
variable {T : List Nm} {now : Int} {k : Nat} {x y : Nm}
theorem bestN_no (h : T[k]? = some x) (h1 : now < x.2) : bestN T now (k + 1) = bestN T now k := by
  rw [bestN, h]
  simp only
  rw [if_neg (by rintro ⟨h2, _⟩; omega)]
theorem bestN_first (h : T[k]? = some x) (h1 : x.2 ≤ now) (h2 : bestN T now k = -1) : bestN T now (k + 1) = (k : Int) := by
  rw [bestN, h]
  simp only
  rw [if_pos ⟨h1, .inl (by omega)⟩]
theorem bestN_less (h : T[k]? = some x) (h1 : x.2 ≤ now) {b : Nat} (h2 : bestN T now k = (b : Int)) (h3 : T[b]? = some y) (h4 : lessN x y = true) : bestN T now (k + 1) = (k : Int) := by
  rw [bestN, h]
  simp only
  rw [if_pos ⟨h1, .inr (by rw [h2, Int.toNat_natCast, h3]; exact h4)⟩]
theorem bestN_not (h : T[k]? = some x) {b : Nat} (h2 : bestN T now k = (b : Int)) (h3 : T[b]? = some y) (h4 : lessN x y = false) : bestN T now (k + 1) = (b : Int) := by
  rw [bestN, h]
  simp only
  rw [if_neg, h2]
  rintro ⟨_, h5 | h5⟩
  · omega
  · rw [h2, Int.toNat_natCast, h3] at h5
    have h6 : lessN x y = true := h5
    rw [h4] at h6
    cases h6
end
theorem bestN_is (T : List Nm) (now : Int) : ∀ k, k ≤ T.length → (bestN T now k = -1 ∧ ∀ i x, i < k → T[i]? = some x → now < x.2) ∨ ∃ i x, i < k ∧ bestN T now k = (i : Int) ∧ T[i]? = some x ∧ x.2 ≤ now ∧ ∀ j y, j < k → T[j]? = some y → y.2 ≤ now → lessN y x = false
  | 0, _ => .inl ⟨rfl, fun i x hi => absurd hi (by omega)⟩
  | k + 1, hk => by
    obtain ⟨x, hx⟩ : ∃ x, T[k]? = some x := ⟨_, List.getElem?_eq_getElem (by omega)⟩
    rcases bestN_is T now k (by omega) with ⟨h1, h2⟩ | ⟨b, y, h1, h2, h3, h4, h5⟩
    · by_cases q : x.2 ≤ now
      · refine .inr ⟨k, x, by omega, bestN_first hx q h1, hx, q, fun j z hj hz hzn => ?_⟩
        by_cases e : j = k
        · subst e
          rw [hx] at hz
          cases hz
          exact lessN_irrefl _
        · have := h2 j z (by omega) hz
          omega
      · refine .inl ⟨by rw [bestN_no hx (by omega)]; exact h1, fun i z hi hz => ?_⟩
        by_cases e : i = k
        · subst e
          rw [hx] at hz
          cases hz
          omega
        · exact h2 i z (by omega) hz
    · right
      by_cases q : x.2 ≤ now
      · cases e : lessN x y with
        | true =>
          refine ⟨k, x, by omega, bestN_less hx q h2 h3 e, hx, q, fun j z hj hz hzn => ?_⟩
          by_cases e2 : j = k
          · subst e2
            rw [hx] at hz
            cases hz
            exact lessN_irrefl _
          · cases e3 : lessN z x with
            | false => rfl
            | true =>
              have := h5 j z (by omega) hz hzn
              rw [lessN_trans e3 e] at this
              cases this
        | false =>
          refine ⟨b, y, by omega, bestN_not hx h2 h3 e, h3, h4, fun j z hj hz hzn => ?_⟩
          by_cases e2 : j = k
          · subst e2
            rw [hx] at hz
            cases hz
            exact e
          · exact h5 j z (by omega) hz hzn
      · refine ⟨b, y, by omega, by rw [bestN_no hx (by omega)]; exact h2, h3, h4, fun j z hj hz hzn => ?_⟩
        by_cases e2 : j = k
        · subst e2
          rw [hx] at hz
          cases hz
          omega
        · exact h5 j z (by omega) hz hzn
theorem due_is {T : List Nm} {now : Int} {n : ByteArray} {m : Int} {z : Bool} {l' : List Nm} (h : DueIs T now n m z l') :
    (z = false ∧ n = ⟨#[]⟩ ∧ m = 0 ∧ bestN T now T.length = -1 ∧ l' = T) ∨ ∃ i, z = true ∧ i < T.length ∧ bestN T now T.length = (i : Int) ∧ T[i]? = some (n, m) ∧ l' = delN n T := by
  rcases bestN_is T now T.length (Nat.le_refl _) with ⟨h1, h2⟩ | ⟨b, y, h1, h2, h3, h4, h5⟩
  · rcases h with ⟨_, h6, h7, _⟩ | ⟨h6, h7, h8, _, h9⟩
    · obtain ⟨i, hi, e⟩ := List.getElem_of_mem h6.1
      have h8 := h2 i (n, m) hi (by rw [List.getElem?_eq_getElem hi, e])
      simp only at h8
      omega
    · exact .inl ⟨h6, h7, h8, h1, h9⟩
  · rcases h with ⟨h6, h7, h8, h9⟩ | ⟨_, _, _, h7, _⟩
    · right
      obtain ⟨i, hi, e⟩ := List.getElem_of_mem h7.1
      have e1 := h5 i (n, m) hi (by rw [List.getElem?_eq_getElem hi, e]) h8
      have e2 := h7.2 y (List.mem_of_getElem? h3)
      have e3 := lessN_total e1 e2
      subst e3
      exact ⟨b, h6, h1, h2, h3, h9⟩
    · have := h7 y (List.mem_of_getElem? h3)
      omega
/-- The play: the timers (their block H), the row of names and that of moments. -/
structure PlT (H : Nat) (w : World) (T : List Nm) (ls vs : Value) : Prop where
  tm : Tmr w H T
  lo : w.ownsRow H 9 1 ls T.length (scells (T.map Prod.fst))
  vo : w.ownsRow H 3 1 vs T.length (vcells (T.map Prod.snd))
theorem PlT.later {H : Nat} {w w' : World} {T : List Nm} {ls vs : Value} (h : PlT H w T ls vs) (hb : Below w.heap.size w w') : PlT H w' T ls vs :=
  ⟨h.tm.later hb, own_later h.lo hb, own_later h.vo hb⟩
theorem Tmr.apart {w : World} {b H e size n : Nat} {l : List Nm} {v : Value} {xs : List Value} (h : Tmr w b l) (ho : w.ownsRow H e size v n xs) (he : e = 9 ∨ e = 3) : ¬ v.ownBlock = some b ∧ ¬ v.ownBlock = some (b + 1) := by
  obtain ⟨es, clock, h1, h2, h3, h4, h5⟩ := h
  rcases ho.2 with ⟨rfl, _⟩ | ⟨g, cap, cur, rfl, _, hc, _⟩
  · exact ⟨fun h => by simp [Value.ownBlock] at h, fun h => by simp [Value.ownBlock] at h⟩
  · constructor
    · intro hb
      simp [Value.ownBlock] at hb
      subst hb
      rw [h1] at hc
      simp at hc
    · intro hb
      simp [Value.ownBlock] at hb
      subst hb
      rw [h3] at hc
      rcases he with rfl | rfl <;> simp at hc
theorem PlT.turned {H : Nat} {w w' : World} {T T' : List Nm} {ls vs : Value} (h : PlT H w T ls vs) (_ : Tmr w' H T') (hk : Keeps (fun x => x = H) w w') :
    w'.ownsRow H 9 1 ls T.length (scells (T.map Prod.fst)) ∧ w'.ownsRow H 3 1 vs T.length (vcells (T.map Prod.snd)) :=
  ⟨own_keep h.lo hk (fun b hb e => (h.tm.apart h.lo (.inl rfl)).1 (by rw [← e]; exact hb)), own_keep h.vo hk (fun b hb e => (h.tm.apart h.vo (.inr rfl)).1 (by rw [← e]; exact hb))⟩
theorem getElem_names {T : List Nm} {i : Nat} {n : ByteArray} {v : Int} (h : T[i]? = some (n, v)) : (scells (T.map Prod.fst))[i]? = some (.string n) ∧ (vcells (T.map Prod.snd))[i]? = some (.int .i64 v) :=
  ⟨scells_get (by rw [List.getElem?_map, h]; rfl), vcells_get (by rw [List.getElem?_map, h]; rfl)⟩
end Go.Proofs.Ythbgalknhodgnaa
