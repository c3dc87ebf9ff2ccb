/- What stands while a trie is played with: its prefixes in order, and what each has. -/
import Derived.Test.YtfecknbneonidaaWTrieMany
import Derived.Test.YtfecknbneonidaaGrid
namespace Go.Proofs.Ytfecknbneonidaa
open Go.RowKit
set_option maxRecDepth 100000

theorem Try.infoI : (Try.prog.info? 3).map (fun i => (i.zero, i.size, i.bytes)) = some (some (.int .i64 0), 1, 8) := by kernel_rfl
theorem elemI : Elem 28 3 1 8 := by
  obtain ⟨i, h1, h2, h3, h4⟩ := info_parts Try.infoI
  exact ⟨Try.underlying28, ⟨i, _, h1, h2, h3, h4, rfl⟩, by omega, by omega⟩
def vcells (l : List Int) : List Value := l.map fun x => Value.int .i64 x
theorem vcells_app (l r : List Int) : vcells (l ++ r) = vcells l ++ vcells r := by simp [vcells]
theorem vcells_one (l : List Int) : ∀ u ∈ vcells l, u.oneCell' = true := by
  intro u hu
  obtain ⟨i, _, rfl⟩ := List.mem_map.1 hu
  rfl
theorem vcells_length (l : List Int) : (vcells l).length = l.length := by simp [vcells]
theorem pcells_one : ∀ (l : List (Nat × Nat)), ∀ u ∈ pcells l, u.oneCell' = true
  | [], u, h => by cases h
  | p :: r, u, h => by
    simp only [pcells, List.mem_cons] at h
    rcases h with rfl | rfl | h
    · rfl
    · rfl
    · exact pcells_one r u h
/-- Rows of unlike elements lie in unlike blocks. -/
theorem rows_apart {w : World} {B B' e e' size size' n n' : Nat} {v v' : Value} {xs xs' : List Value} (h : w.ownsRow B e size v n xs) (h' : w.ownsRow B' e' size' v' n' xs') (hne : e ≠ e') (b : Nat) (hb : v.ownBlock = some b) : v'.ownBlock ≠ some b := by
  intro hb'
  rcases h.2 with ⟨rfl, _⟩ | ⟨g, cap, cur, rfl, _, hc, _⟩
  · simp [Value.ownBlock] at hb
  · rcases h'.2 with ⟨rfl, _⟩ | ⟨g', cap', cur', rfl, _, hc', _⟩
    · simp [Value.ownBlock] at hb'
    · simp [Value.ownBlock] at hb hb'
      subst hb hb'
      rw [hc] at hc'
      simp at hc'
      exact hne hc'.2
/-- The play: the trie (its block B), the list of prefixes and that of what they have; all is new since H. -/
structure Play (H : Nat) (w : World) (T : List ((Nat × Nat) × Int)) (ls vs : Value) (B : Nat) (N : Nat → Nat → Option Nat) (C : Nat → Nat → Option Int) : Prop where
  tr : TrieIs w B N C
  lo : w.ownsRow H 31 2 ls T.length (pcells (T.map Prod.fst))
  vo : w.ownsRow H 3 1 vs T.length (vcells (T.map Prod.snd))
  up : (T.map Prod.fst).Pairwise lessP
  has : ∀ x m v, C x m = some v ↔ ((x, m), v) ∈ T
  nl : ∀ b, ls.ownBlock = some b → ¬ Blk N b
  nv : ∀ b, vs.ownBlock = some b → ¬ Blk N b
  nb : ∀ b, Blk N b → H ≤ b
theorem Play.later {H : Nat} {w w' : World} {T : List ((Nat × Nat) × Int)} {ls vs : Value} {B : Nat} {N : Nat → Nat → Option Nat} {C : Nat → Nat → Option Int} (h : Play H w T ls vs B N C) (hb : Below w.heap.size w w') : Play H w' T ls vs B N C :=
  ⟨h.tr.later hb, own_later h.lo hb, own_later h.vo hb, h.up, h.has, h.nl, h.nv, h.nb⟩
/-- Are they different prefixes? -/
theorem fst_inj {T : List ((Nat × Nat) × Int)} (h : (T.map Prod.fst).Pairwise lessP) {p : Nat × Nat} {v u : Int} (h1 : (p, v) ∈ T) (h2 : (p, u) ∈ T) : v = u := by
  induction T with
  | nil => cases h1
  | cons t r ih =>
    rw [List.map_cons, List.pairwise_cons] at h
    rcases List.mem_cons.1 h1 with e1 | e1 <;> rcases List.mem_cons.1 h2 with e2 | e2
    · rw [← e1] at e2; exact (Prod.mk.injEq _ _ _ _ ▸ e2).2.symm
    · have := h.1 p (List.mem_map.2 ⟨_, e2, rfl⟩)
      rw [← e1] at this
      exact absurd this (lessP_asymm this)
    · have := h.1 p (List.mem_map.2 ⟨_, e1, rfl⟩)
      rw [← e2] at this
      exact absurd this (lessP_asymm this)
    · exact ih h.2 e1 e2
/-- Where A/L stands among the first k. -/
def atUp (T : List ((Nat × Nat) × Int)) (A : Nat) (L : Int) : Nat → Int
  | 0 => -1
  | k + 1 => if T[k]?.map (fun t => (t.1.1, (t.1.2 : Int))) = some (A, L) then (k : Int) else atUp T A L k
theorem atUp_lt (T : List ((Nat × Nat) × Int)) (A : Nat) (L : Int) : ∀ k, -1 ≤ atUp T A L k ∧ atUp T A L k < (k : Int)
  | 0 => by simp [atUp]
  | k + 1 => by
    have := atUp_lt T A L k
    unfold atUp
    split <;> omega
/-- It is not there, or it is. -/
theorem atUp_is (T : List ((Nat × Nat) × Int)) (A : Nat) (L : Int) : ∀ k, k ≤ T.length → (atUp T A L k = -1 ∧ ∀ i, i < k → T[i]?.map (fun t => (t.1.1, (t.1.2 : Int))) ≠ some (A, L)) ∨ ∃ i, i < k ∧ atUp T A L k = (i : Int) ∧ T[i]?.map (fun t => (t.1.1, (t.1.2 : Int))) = some (A, L)
  | 0, _ => .inl ⟨rfl, fun i hi => absurd hi (by omega)⟩
  | k + 1, hk => by
    unfold atUp
    by_cases e : T[k]?.map (fun t => (t.1.1, (t.1.2 : Int))) = some (A, L)
    · rw [if_pos e]
      exact .inr ⟨k, by omega, rfl, e⟩
    · rw [if_neg e]
      rcases atUp_is T A L k (by omega) with ⟨h1, h2⟩ | ⟨i, h1, h2, h3⟩
      · refine .inl ⟨h1, fun i hi => ?_⟩
        by_cases e2 : i = k
        · subst e2; exact e
        · exact h2 i (by omega)
      · exact .inr ⟨i, by omega, h2, h3⟩
/-- What the trie has of A/L: nothing, or what stands there. -/
theorem Play.at_ {H : Nat} {w : World} {T : List ((Nat × Nat) × Int)} {ls vs : Value} {B : Nat} {N : Nat → Nat → Option Nat} {C : Nat → Nat → Option Int} (h : Play H w T ls vs B N C) (A : Nat) (L : Int) :
    (atUp T A L T.length = -1 ∧ hasC C A L = none) ∨ ∃ (i n : Nat) (v : Int), i < T.length ∧ atUp T A L T.length = (i : Int) ∧ L = (n : Int) ∧ T[i]? = some ((A, n), v) ∧ Key A n ∧ C A n = some v ∧ hasC C A L = some v := by
  rcases atUp_is T A L T.length (Nat.le_refl _) with ⟨h1, h2⟩ | ⟨i, h1, h2, h3⟩
  · left
    refine ⟨h1, ?_⟩
    cases e : hasC C A L with
    | none => rfl
    | some v =>
      exfalso
      unfold hasC at e
      cases hr : rightB A L with
      | false => rw [hr] at e; cases e
      | true =>
        obtain ⟨n, rfl, _, _⟩ := rightB_len hr
        rw [hr, if_pos rfl, Int.toNat_natCast, h.has] at e
        obtain ⟨i, hi, e2⟩ := List.getElem_of_mem e
        refine h2 i hi ?_
        rw [List.getElem?_eq_getElem hi, e2]
        rfl
  · right
    cases e : T[i]? with
    | none => rw [e] at h3; cases h3
    | some t =>
      rw [e] at h3
      obtain ⟨⟨x, m⟩, v⟩ := t
      simp only [Option.map_some, Option.some.injEq, Prod.mk.injEq] at h3
      obtain ⟨rfl, rfl⟩ := h3
      have hC : C x m = some v := (h.has x m v).2 (List.mem_of_getElem? e)
      have hk : Key x m := h.tr.keyed x m (by rw [hC]; rfl)
      exact ⟨i, m, v, h1, h2, rfl, e, hk, hC, by rw [hasC_key hk, hC]⟩
theorem getElem_key {T : List ((Nat × Nat) × Int)} {i : Nat} {p : Nat × Nat} {v : Int} (h : T[i]? = some (p, v)) : (T.map Prod.fst)[i]? = some p ∧ (T.map Prod.snd)[i]? = some v := by
  rw [List.getElem?_map, List.getElem?_map, h]
  exact ⟨rfl, rfl⟩
/-- One is gone. -/
theorem play_gone {T : List ((Nat × Nat) × Int)} {C : Nat → Nat → Option Int} (hup : (T.map Prod.fst).Pairwise lessP) (hh : ∀ x m v, C x m = some v ↔ ((x, m), v) ∈ T) {i A n : Nat} {v : Int} (hi : T[i]? = some ((A, n), v)) :
    ((T.take i ++ T.drop (i + 1)).map Prod.fst).Pairwise lessP ∧ ∀ x m u, upd C A n none x m = some u ↔ ((x, m), u) ∈ T.take i ++ T.drop (i + 1) := by
  have hil : i < T.length := (List.getElem?_eq_some_iff.1 hi).1
  have e : T = T.take i ++ ((A, n), v) :: T.drop (i + 1) := by
    have h2 := (List.getElem?_eq_some_iff.1 hi).2
    rw [← h2, ← List.drop_eq_getElem_cons hil, List.take_append_drop]
  generalize T.take i = X at *
  generalize T.drop (i + 1) = Y at *
  subst e
  rw [List.map_append, List.map_cons, List.pairwise_append] at hup
  obtain ⟨h1, h2, h3⟩ := hup
  rw [List.pairwise_cons] at h2
  refine ⟨?_, fun x m u => ?_⟩
  · rw [List.map_append, List.pairwise_append]
    exact ⟨h1, h2.2, fun a ha b hb => h3 a ha b (List.mem_cons_of_mem _ hb)⟩
  · by_cases e : x = A ∧ m = n
    · obtain ⟨rfl, rfl⟩ := e
      rw [upd_self]
      refine ⟨fun h => (by cases h), fun h => ?_⟩
      rcases List.mem_append.1 h with h | h
      · have := h3 (x, m) (List.mem_map.2 ⟨_, h, rfl⟩) (x, m) List.mem_cons_self
        exact absurd this (lessP_asymm this)
      · have := h2.1 (x, m) (List.mem_map.2 ⟨_, h, rfl⟩)
        exact absurd this (lessP_asymm this)
    · rw [upd_ne _ _ _ _ _ _ e, hh, List.mem_append, List.mem_cons, List.mem_append]
      constructor
      · rintro (h | h | h)
        · exact .inl h
        · exact absurd ⟨congrArg (fun t => t.1.1) h, congrArg (fun t => t.1.2) h⟩ e
        · exact .inr h
      · rintro (h | h)
        · exact .inl h
        · exact .inr (.inr h)
/-- One has something else. -/
theorem play_turn {T : List ((Nat × Nat) × Int)} {C : Nat → Nat → Option Int} (hup : (T.map Prod.fst).Pairwise lessP) (hh : ∀ x m v, C x m = some v ↔ ((x, m), v) ∈ T) {i A n : Nat} {v z : Int} (hi : T[i]? = some ((A, n), v)) :
    (T.set i ((A, n), z)).map Prod.fst = T.map Prod.fst ∧ ∀ x m u, upd C A n (some z) x m = some u ↔ ((x, m), u) ∈ T.set i ((A, n), z) := by
  have hil : i < T.length := (List.getElem?_eq_some_iff.1 hi).1
  have e : T = T.take i ++ ((A, n), v) :: T.drop (i + 1) := by
    have h2 := (List.getElem?_eq_some_iff.1 hi).2
    rw [← h2, ← List.drop_eq_getElem_cons hil, List.take_append_drop]
  have e2 : T.set i ((A, n), z) = T.take i ++ ((A, n), z) :: T.drop (i + 1) := by
    rw [List.set_eq_take_append_cons_drop, if_pos hil]
  have g := play_gone hup hh hi
  rw [e2]
  generalize T.take i = X at *
  generalize T.drop (i + 1) = Y at *
  subst e
  refine ⟨by simp, fun x m u => ?_⟩
  by_cases e : x = A ∧ m = n
  · obtain ⟨rfl, rfl⟩ := e
    rw [upd_self, List.mem_append, List.mem_cons]
    have g2 := (g.2 x m u)
    rw [upd_self] at g2
    constructor
    · intro h
      cases h
      exact .inr (.inl rfl)
    · rintro (h | h | h)
      · exact absurd (g2.2 (List.mem_append.2 (.inl h))) (by simp)
      · cases h; rfl
      · exact absurd (g2.2 (List.mem_append.2 (.inr h))) (by simp)
  · have g2 := g.2 x m u
    rw [upd_ne _ _ _ _ _ _ e] at g2 ⊢
    rw [g2, List.mem_append, List.mem_append, List.mem_cons]
    constructor
    · rintro (h | h)
      · exact .inl h
      · exact .inr (.inr h)
    · rintro (h | h | h)
      · exact .inl h
      · exact absurd ⟨congrArg (fun t => t.1.1) h, congrArg (fun t => t.1.2) h⟩ e
      · exact .inr h
/-- One more, at its place. -/
theorem play_more {T : List ((Nat × Nat) × Int)} {C : Nat → Nat → Option Int} (hup : (T.map Prod.fst).Pairwise lessP) (hh : ∀ x m v, C x m = some v ↔ ((x, m), v) ∈ T) {k A n : Nat} {z : Int} (hno : C A n = none)
    (h1 : ∀ t ∈ T.take k, lessP t.1 (A, n)) (h2 : ∀ t ∈ T.drop k, lessP (A, n) t.1) :
    ((T.take k ++ ((A, n), z) :: T.drop k).map Prod.fst).Pairwise lessP ∧ ∀ x m u, upd C A n (some z) x m = some u ↔ ((x, m), u) ∈ T.take k ++ ((A, n), z) :: T.drop k := by
  have e : T = T.take k ++ T.drop k := (List.take_append_drop _ _).symm
  generalize T.take k = X at *
  generalize T.drop k = Y at *
  subst e
  rw [List.map_append, List.pairwise_append] at hup
  obtain ⟨u1, u2, u3⟩ := hup
  refine ⟨?_, fun x m u => ?_⟩
  · rw [List.map_append, List.map_cons, List.pairwise_append]
    refine ⟨u1, List.pairwise_cons.2 ⟨fun b hb => ?_, u2⟩, fun a ha b hb => ?_⟩
    · obtain ⟨t, ht, rfl⟩ := List.mem_map.1 hb
      exact h2 t ht
    · rcases List.mem_cons.1 hb with rfl | hb
      · obtain ⟨t, ht, rfl⟩ := List.mem_map.1 ha
        exact h1 t ht
      · exact u3 a ha b hb
  · by_cases e : x = A ∧ m = n
    · obtain ⟨rfl, rfl⟩ := e
      rw [upd_self, List.mem_append, List.mem_cons]
      constructor
      · intro h
        cases h
        exact .inr (.inl rfl)
      · rintro (h | h | h)
        · exact absurd ((hh x m u).2 (List.mem_append.2 (.inl h))) (by rw [hno]; simp)
        · cases h; rfl
        · exact absurd ((hh x m u).2 (List.mem_append.2 (.inr h))) (by rw [hno]; simp)
    · rw [upd_ne _ _ _ _ _ _ e, hh, List.mem_append, List.mem_append, List.mem_cons]
      constructor
      · rintro (h | h)
        · exact .inl h
        · exact .inr (.inr h)
      · rintro (h | h | h)
        · exact .inl h
        · exact absurd ⟨congrArg (fun t => t.1.1) h, congrArg (fun t => t.1.2) h⟩ e
        · exact .inr h
/-- All ahead of place k are less, if the last of them is. -/
theorem play_ahead {T : List ((Nat × Nat) × Int)} (hup : (T.map Prod.fst).Pairwise lessP) {k : Nat} {p : Nat × Nat} {t : (Nat × Nat) × Int} (hk : T[k]? = some t) (h : lessP t.1 p) : ∀ u ∈ T.take (k + 1), lessP u.1 p := by
  have hl : k < T.length := (List.getElem?_eq_some_iff.1 hk).1
  intro u hu
  obtain ⟨i, hi, rfl⟩ := List.getElem_of_mem hu
  rw [List.length_take] at hi
  have hi2 : i < k + 1 := by omega
  rw [List.getElem_take]
  by_cases e : i = k
  · subst e
    rw [(List.getElem?_eq_some_iff.1 hk).2]
    exact h
  · have := List.pairwise_iff_getElem.1 hup i k (by rw [List.length_map]; omega) (by rw [List.length_map]; omega) (by omega)
    rw [List.getElem_map, List.getElem_map, (List.getElem?_eq_some_iff.1 hk).2] at this
    exact lessP_trans this h
theorem dropC_none {C : Nat → Nat → Option Int} {A : Nat} {L : Int} (h : hasC C A L = none) : dropC C A L = C := by
  unfold hasC dropC at *
  cases hr : rightB A L with
  | false => rfl
  | true =>
    rw [hr, if_pos rfl] at h
    rw [if_pos rfl]
    exact upd_none h
/-- The trie's own memory has been turned. -/
theorem Play.rows {H : Nat} {w w' : World} {T : List ((Nat × Nat) × Int)} {ls vs : Value} {B : Nat} {N N' : Nat → Nat → Option Nat} {C : Nat → Nat → Option Int} (h : Play H w T ls vs B N C) (hk : Keeps (Blk N) w w') (hs : ∀ b, Blk N' b → Blk N b ∨ w.heap.size ≤ b) (hH : H ≤ w.heap.size) :
    w'.ownsRow H 31 2 ls T.length (pcells (T.map Prod.fst)) ∧ w'.ownsRow H 3 1 vs T.length (vcells (T.map Prod.snd)) ∧ (∀ b, ls.ownBlock = some b → ¬ Blk N' b) ∧ (∀ b, vs.ownBlock = some b → ¬ Blk N' b) ∧ ∀ b, Blk N' b → H ≤ b := by
  refine ⟨own_keep h.lo hk h.nl, own_keep h.vo hk h.nv, fun b hb hn => ?_, fun b hb hn => ?_, fun b hn => ?_⟩
  · rcases hs b hn with h1 | h1
    · exact h.nl b hb h1
    · have := (own_lt h.lo b hb).2; omega
  · rcases hs b hn with h1 | h1
    · exact h.nv b hb h1
    · have := (own_lt h.vo b hb).2; omega
  · rcases hs b hn with h1 | h1
    · exact h.nb b h1
    · omega
theorem Play.trie {H : Nat} {w w' : World} {T : List ((Nat × Nat) × Int)} {ls vs : Value} {B : Nat} {N N' : Nat → Nat → Option Nat} {C : Nat → Nat → Option Int} (h : Play H w T ls vs B N C) (ht : TrieIs w' B N' C) (hk : Keeps (Blk N) w w') (hs : ∀ b, Blk N' b → Blk N b ∨ w.heap.size ≤ b) (hH : H ≤ w.heap.size) : Play H w' T ls vs B N' C := by
  obtain ⟨h1, h2, h3, h4, h5⟩ := h.rows hk hs hH
  exact ⟨ht, h1, h2, h.up, h.has, h3, h4, h5⟩
end Go.Proofs.Ytfecknbneonidaa
