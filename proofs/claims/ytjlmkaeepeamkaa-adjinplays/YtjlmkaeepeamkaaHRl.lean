/- Lists of routes that rise (plain). -/
import Derived.Test.YtjlmkaeepeamkaaRlC
namespace Go.Proofs.Ytjlmkaeepeamkaa
open Go.RowKit
set_option maxRecDepth 100000

theorem ahead_iff (r x : Rt) : aheadK r x = true ↔ r.A < x.A ∨ (r.A = x.A ∧ (r.L < x.L ∨ (r.L = x.L ∧ r.peer < x.peer))) := by
  unfold aheadK lessQ
  simp only [Bool.or_eq_true, Bool.and_eq_true, decide_eq_true_eq]
  omega
theorem sameK_iff (r x : Rt) : sameK r x = true ↔ x.A = r.A ∧ x.L = r.L ∧ x.peer = r.peer := by
  unfold sameK
  simp only [Bool.and_eq_true, decide_eq_true_eq]
  omega
theorem ahead_trans {a b c : Rt} (h : aheadK a b = true) (g : aheadK b c = true) : aheadK a c = true := by
  rw [ahead_iff] at *; omega
theorem ahead_irrefl (a : Rt) : aheadK a a = false := by
  cases h : aheadK a a with
  | false => rfl
  | true => rw [ahead_iff] at h; omega
theorem ahead_asym {a b : Rt} (h : aheadK a b = true) : aheadK b a = false := by
  cases g : aheadK b a with
  | false => rfl
  | true => rw [ahead_iff] at *; omega
theorem ahead_unlike {a b : Rt} (h : aheadK a b = true) : sameK a b = false := by
  cases g : sameK a b with
  | false => rfl
  | true => rw [ahead_iff] at h; rw [sameK_iff] at g; omega
theorem ahead_unlike' {a b : Rt} (h : aheadK a b = true) : sameK b a = false := by
  cases g : sameK b a with
  | false => rfl
  | true => rw [ahead_iff] at h; rw [sameK_iff] at g; omega
theorem ahead_same {a b c : Rt} (h : sameK a b = true) (g : aheadK b c = true) : aheadK a c = true := by
  rw [ahead_iff] at *; rw [sameK_iff] at h; omega
theorem ahead_total (r x : Rt) (h1 : sameK r x = false) (h2 : aheadK r x = false) : aheadK x r = true := by
  rw [ahead_iff]
  have n1 : ¬ (x.A = r.A ∧ x.L = r.L ∧ x.peer = r.peer) := by rw [← sameK_iff, h1]; simp
  have n2 : ¬ (r.A < x.A ∨ (r.A = x.A ∧ (r.L < x.L ∨ (r.L = x.L ∧ r.peer < x.peer)))) := by rw [← ahead_iff, h2]; simp
  omega
/-- A list of routes that rises by address, length and peer. -/
def RisesR (l : List Rt) : Prop := l.Pairwise (fun a b => aheadK a b = true)
/-- Is there one at or behind r? -/
def anyR (r : Rt) (l : List Rt) : Bool := l.any (fun x => sameK r x || aheadK r x)
def midR (r : Rt) (l : List Rt) : List Rt := l.filter (fun x => aheadK x r) ++ [r] ++ l.filter (fun x => aheadK r x)
theorem any_no {r : Rt} {l : List Rt} (h : anyR r l = false) (x : Rt) (hx : x ∈ l) : aheadK x r = true := by
  unfold anyR at h
  rw [List.any_eq_false] at h
  have := h x hx
  simp only [Bool.or_eq_true, not_or, Bool.not_eq_true] at this
  exact ahead_total r x this.1 this.2
theorem filter_all {r : Rt} {l : List Rt} (h : ∀ x ∈ l, aheadK x r = true) : l.filter (fun x => aheadK x r) = l ∧ l.filter (fun x => aheadK r x) = [] := by
  refine ⟨List.filter_eq_self.2 h, List.filter_eq_nil_iff.2 fun x hx => ?_⟩
  rw [ahead_asym (h x hx)]; simp
theorem putF_rev (r : Rt) (m : List Rt) (h : RisesR m.reverse) : putF r m.reverse = if anyR r m.reverse then (midR r m.reverse, true) else (m.reverse, false) := by
  induction m with
  | nil => rfl
  | cons x m ih =>
    rw [List.reverse_cons] at h ⊢
    unfold RisesR at h
    rw [List.pairwise_append] at h
    obtain ⟨h1, _, h3⟩ := h
    have hx : ∀ y ∈ m.reverse, aheadK y x = true := fun y hy => h3 y hy x (by simp)
    rw [putF_snoc, ih h1]
    generalize m.reverse = l at *
    cases ha : anyR r l with
    | true =>
      have hr : aheadK r x = true := by
        unfold anyR at ha
        rw [List.any_eq_true] at ha
        obtain ⟨y, hy, hq⟩ := ha
        rw [Bool.or_eq_true] at hq
        rcases hq with hq | hq
        · exact ahead_same hq (hx y hy)
        · exact ahead_trans hq (hx y hy)
      have hA : anyR r (l ++ [x]) = true := by unfold anyR at *; rw [List.any_append, ha]; rfl
      rw [if_pos rfl, if_pos hA]
      unfold putS midR
      simp [ahead_unlike hr, hr, ahead_asym hr]
    | false =>
      have hl := any_no ha
      obtain ⟨f1, f2⟩ := filter_all hl
      rw [if_neg (by simp)]
      cases hs : sameK r x with
      | true =>
        have hA : anyR r (l ++ [x]) = true := by unfold anyR; rw [List.any_append]; simp [hs]
        have e1 : aheadK r x = false := by
          cases g : aheadK r x with
          | false => rfl
          | true => rw [ahead_unlike g] at hs; cases hs
        have e2 : aheadK x r = false := by
          cases g : aheadK x r with
          | false => rfl
          | true => rw [ahead_unlike' g] at hs; cases hs
        rw [if_pos hA]
        unfold putS midR
        rw [List.filter_append, List.filter_append, f1, f2]
        simp [hs, e1, e2]
      | false =>
        cases hq : aheadK r x with
        | true =>
          have hA : anyR r (l ++ [x]) = true := by unfold anyR; rw [List.any_append]; simp [hq]
          rw [if_pos hA]
          unfold putS midR
          rw [List.filter_append, List.filter_append, f1, f2]
          simp [hs, hq, ahead_asym hq]
        | false =>
          have hA : anyR r (l ++ [x]) = false := by unfold anyR at *; rw [List.any_append, ha]; simp [hq, hs]
          rw [hA]
          unfold putS
          simp [hs, hq]
theorem putF_is (r : Rt) (l : List Rt) (h : RisesR l) : putF r l = if anyR r l then (midR r l, true) else (l, false) := by
  have := putF_rev r l.reverse
  rw [List.reverse_reverse] at this
  exact this h
theorem putL_is (r : Rt) (l : List Rt) (h : RisesR l) : putL r l = midR r l := by
  unfold putL
  rw [putF_is r l h]
  cases ha : anyR r l with
  | true => rfl
  | false =>
    obtain ⟨f1, f2⟩ := filter_all (any_no ha)
    unfold midR
    rw [f1, f2]
    simp
theorem rises_mid (r : Rt) (l : List Rt) (h : RisesR l) : RisesR (midR r l) := by
  unfold RisesR midR at *
  rw [List.append_assoc, List.pairwise_append, List.pairwise_append]
  refine ⟨h.filter _, ⟨by simp, h.filter _, ?_⟩, ?_⟩
  · intro a ha b hb
    rw [List.mem_singleton] at ha
    subst ha
    exact (List.mem_filter.1 hb).2
  · intro a ha b hb
    have ha' := (List.mem_filter.1 ha).2
    rw [List.mem_append, List.mem_singleton] at hb
    rcases hb with rfl | hb
    · exact ha'
    · exact ahead_trans ha' (List.mem_filter.1 hb).2
theorem rises_put (r : Rt) (l : List Rt) (h : RisesR l) : RisesR (putL r l) := by rw [putL_is r l h]; exact rises_mid r l h
theorem mem_put (r x : Rt) (l : List Rt) (h : RisesR l) : x ∈ putL r l ↔ x = r ∨ (x ∈ l ∧ sameK r x = false) := by
  rw [putL_is r l h]
  unfold midR
  simp only [List.mem_append, List.mem_filter, List.mem_singleton]
  constructor
  · rintro ((⟨h1, h2⟩ | h1) | ⟨h1, h2⟩)
    · exact .inr ⟨h1, ahead_unlike' h2⟩
    · exact .inl h1
    · exact .inr ⟨h1, ahead_unlike h2⟩
  · rintro (h1 | ⟨h1, h2⟩)
    · exact .inl (.inr h1)
    · cases hq : aheadK r x with
      | true => exact .inr ⟨h1, rfl⟩
      | false => exact .inl (.inl ⟨h1, ahead_total r x h2 hq⟩)
/-- Two of a rising list with the same key are one. -/
theorem rises_one {l : List Rt} (h : RisesR l) {x y : Rt} (hx : x ∈ l) (hy : y ∈ l) (hs : sameK x y = true) : x = y := by
  unfold RisesR at h
  induction l with
  | nil => cases hx
  | cons z l ih =>
    rw [List.pairwise_cons] at h
    rcases List.mem_cons.1 hx with e1 | h1
    · rcases List.mem_cons.1 hy with e2 | h2
      · rw [e1, e2]
      · rw [e1, ahead_unlike (h.1 y h2)] at hs; cases hs
    · rcases List.mem_cons.1 hy with e2 | h2
      · rw [e2, ahead_unlike' (h.1 x h1)] at hs; cases hs
      · exact ih h.2 h1 h2
theorem rises_drop (A : Nat) (L peer : Int) (l : List Rt) (h : RisesR l) : RisesR (dropL A L peer l) := by unfold RisesR dropL at *; exact h.filter _
theorem mem_drop (A : Nat) (L peer : Int) (l : List Rt) (x : Rt) : x ∈ dropL A L peer l ↔ x ∈ l ∧ gone A L peer x = false := by
  unfold dropL
  rw [List.mem_filter]
  simp
/-- Was it there? -/
theorem drop_was (A : Nat) (L peer : Int) (l : List Rt) : decide ((dropL A L peer l).length < l.length) = l.any (fun x => gone A L peer x) := by
  induction l with
  | nil => rfl
  | cons x l ih =>
    have hle := dropL_length A L peer l
    unfold dropL at *
    rw [List.filter_cons, List.any_cons]
    cases h : gone A L peer x with
    | true => simp; omega
    | false => simpa using ih
/-- The route of a key. -/
def getK (A : Nat) (L peer : Int) (l : List Rt) : Option Rt := l.find? (fun x => gone A L peer x)
theorem getK_some {A : Nat} {L peer : Int} {l : List Rt} (h : RisesR l) {x : Rt} (hx : x ∈ l) (hg : gone A L peer x = true) : getK A L peer l = some x := by
  unfold getK
  cases hf : l.find? (fun x => gone A L peer x) with
  | none => rw [List.find?_eq_none] at hf; exact absurd hg (hf x hx)
  | some y =>
    have h1 := List.find?_some hf
    have h2 := List.mem_of_find?_eq_some hf
    rw [rises_one h h2 hx ?_]
    rw [sameK_iff]
    simp only [gone, Bool.and_eq_true, decide_eq_true_eq] at h1 hg
    omega
theorem getK_none {A : Nat} {L peer : Int} {l : List Rt} (h : ∀ x ∈ l, gone A L peer x = false) : getK A L peer l = none := by
  unfold getK
  rw [List.find?_eq_none]
  intro x hx
  rw [h x hx]; simp
/-- Two rising lists of the same routes are one. -/
theorem rises_eq : ∀ (l m : List Rt), RisesR l → RisesR m → (∀ x, x ∈ l ↔ x ∈ m) → l = m
  | [], [], _, _, _ => rfl
  | [], y :: m, _, _, h => absurd ((h y).2 (by simp)) (by simp)
  | x :: l, [], _, _, h => absurd ((h x).1 (by simp)) (by simp)
  | x :: l, y :: m, h1, h2, h => by
    unfold RisesR at h1 h2
    rw [List.pairwise_cons] at h1 h2
    have e : x = y := by
      rcases List.mem_cons.1 ((h x).1 (by simp)) with e | hx
      · exact e
      · rcases List.mem_cons.1 ((h y).2 (by simp)) with e | hy
        · exact e.symm
        · have a1 := h2.1 x hx
          have a2 := h1.1 y hy
          rw [ahead_asym a1] at a2; cases a2
    subst e
    have nl : ∀ z ∈ l, z ≠ x := fun z hz e => by have := h1.1 z hz; rw [e, ahead_irrefl] at this; cases this
    have nm : ∀ z ∈ m, z ≠ x := fun z hz e => by have := h2.1 z hz; rw [e, ahead_irrefl] at this; cases this
    rw [rises_eq l m h1.2 h2.2 fun z => ?_]
    constructor
    · intro hz
      rcases List.mem_cons.1 ((h z).1 (List.mem_cons_of_mem _ hz)) with e | hm
      · exact absurd e (nl z hz)
      · exact hm
    · intro hz
      rcases List.mem_cons.1 ((h z).2 (List.mem_cons_of_mem _ hz)) with e | hm
      · exact absurd e (nm z hz)
      · exact hm
/-- Does a route speak of a key that another one has? -/
theorem gone_same (r x : Rt) : gone r.A r.L r.peer x = sameK r x := rfl
theorem getK_put {A : Nat} {L peer : Int} {l : List Rt} (h : RisesR l) (r : Rt) : getK A L peer (putL r l) = if gone A L peer r then some r else getK A L peer l := by
  have hp := rises_put r l h
  cases hg : gone A L peer r with
  | true =>
    rw [if_pos rfl]
    exact getK_some hp ((mem_put r r l h).2 (.inl rfl)) hg
  | false =>
    rw [if_neg (by simp)]
    cases ho : getK A L peer l with
    | none =>
      refine getK_none fun x hx => ?_
      rcases (mem_put r x l h).1 hx with rfl | ⟨hm, _⟩
      · exact hg
      · have := List.find?_eq_none.1 ho x hm
        simpa using this
    | some x =>
      have h1 : gone A L peer x = true := by simpa using List.find?_some ho
      refine getK_some hp ((mem_put r x l h).2 (.inr ⟨List.mem_of_find?_eq_some ho, ?_⟩)) h1
      cases hs : sameK r x with
      | false => rfl
      | true =>
        rw [sameK_iff] at hs
        simp only [gone, Bool.and_eq_true, decide_eq_true_eq, Bool.and_eq_false_iff, decide_eq_false_iff_not] at h1 hg
        omega
theorem put_length (r : Rt) (l : List Rt) : (putL r l).length ≤ 2 * l.length + 1 := by
  unfold putL
  have := putF_length r l
  split <;> simp <;> omega
theorem put_length_rises (r : Rt) (l : List Rt) (h : RisesR l) : (putL r l).length ≤ l.length + 1 := by
  rw [putL_is r l h]
  unfold midR
  have key : ∀ m : List Rt, (m.filter (fun x => aheadK x r)).length + (m.filter (fun x => aheadK r x)).length ≤ m.length := by
    intro m
    induction m with
    | nil => simp
    | cons x m ih =>
      rw [List.filter_cons, List.filter_cons]
      cases h1 : aheadK x r with
      | true => rw [ahead_asym h1]; simp; omega
      | false => cases h2 : aheadK r x <;> simp <;> omega
  have := key l
  simp only [List.length_append, List.length_cons, List.length_nil]
  omega
end Go.Proofs.Ytjlmkaeepeamkaa
/- The prefixes of a list of routes that rises (plain). -/
namespace Go.Proofs.Ytjlmkaeepeamkaa
open Go.RowKit
set_option maxRecDepth 100000

def kp (x : Rt) : Nat × Int := (x.A, x.L)
def allS (s : List (Nat × Int)) (x : Rt) : List (Nat × Int) := if s.getLast? = some (kp x) then s else s ++ [kp x]
def allR (l : List Rt) : List (Nat × Int) := l.foldl allS []
theorem allR_snoc (l : List Rt) (x : Rt) : allR (l ++ [x]) = allS (allR l) x := by unfold allR; rw [List.foldl_append]; rfl
theorem allS_last (s : List (Nat × Int)) (x : Rt) : (allS s x).getLast? = some (kp x) := by
  unfold allS
  split
  · assumption
  · simp
theorem allR_last (l : List Rt) (x : Rt) : (allR (l ++ [x])).getLast? = some (kp x) := by rw [allR_snoc, allS_last]
/-- One more behind the last one. -/
theorem allR_more (l : List Rt) (z x : Rt) : allR (l ++ [z] ++ [x]) = if kp z = kp x then allR (l ++ [z]) else allR (l ++ [z]) ++ [kp x] := by
  rw [allR_snoc]
  unfold allS
  rw [allR_last]
  simp
theorem mem_allS (s : List (Nat × Int)) (x : Rt) (p : Nat × Int) : p ∈ allS s x ↔ p ∈ s ∨ p = kp x := by
  unfold allS
  split
  · rename_i h
    constructor
    · exact .inl
    · rintro (h1 | rfl)
      · exact h1
      · exact List.mem_of_getLast? h
  · simp
theorem mem_allR (l : List Rt) (p : Nat × Int) : p ∈ allR l ↔ ∃ x ∈ l, kp x = p := by
  have key : ∀ m : List Rt, p ∈ allR m.reverse ↔ ∃ x ∈ m, kp x = p := by
    intro m
    induction m with
    | nil => simp [allR]
    | cons x m ih =>
      rw [List.reverse_cons, allR_snoc, mem_allS, ih]
      constructor
      · rintro (⟨y, hy, e⟩ | e)
        · exact ⟨y, List.mem_cons_of_mem _ hy, e⟩
        · exact ⟨x, by simp, e.symm⟩
      · rintro ⟨y, hy, e⟩
        rcases List.mem_cons.1 hy with rfl | hy
        · exact .inr e.symm
        · exact .inl ⟨y, hy, e⟩
  have := key l.reverse
  rw [List.reverse_reverse] at this
  simpa using this
def lessK (p q : Nat × Int) : Prop := lessQ p.1 p.2 q.1 q.2 = true
theorem lessK_iff (p q : Nat × Int) : lessK p q ↔ p.1 < q.1 ∨ (p.1 = q.1 ∧ p.2 < q.2) := by
  unfold lessK lessQ
  simp only [Bool.or_eq_true, Bool.and_eq_true, decide_eq_true_eq]
theorem allR_rises (l : List Rt) (h : RisesR l) : (allR l).Pairwise lessK := by
  have key : ∀ m : List Rt, RisesR m.reverse → (allR m.reverse).Pairwise lessK := by
    intro m
    induction m with
    | nil => intro _; simp [allR]
    | cons x m ih =>
      intro h
      rw [List.reverse_cons] at h ⊢
      unfold RisesR at h
      rw [List.pairwise_append] at h
      obtain ⟨h1, _, h3⟩ := h
      have hp := ih h1
      cases m with
      | nil => simp [allR, allS]
      | cons z m =>
        rw [List.reverse_cons] at h1 h3 hp ⊢
        rw [allR_more]
        by_cases e : kp z = kp x
        · rw [if_pos e]; exact hp
        · rw [if_neg e, List.pairwise_append]
          refine ⟨hp, by simp, fun p hp' q hq => ?_⟩
          rw [List.mem_singleton] at hq
          subst hq
          obtain ⟨y, hy, rfl⟩ := (mem_allR _ p).1 hp'
          have zx : z.A < x.A ∨ (z.A = x.A ∧ z.L < x.L) := by
            have := (ahead_iff z x).1 (h3 z (by simp) x (by simp))
            have ne : ¬ (z.A = x.A ∧ z.L = x.L) := fun h => e (by unfold kp; rw [h.1, h.2])
            omega
          rw [lessK_iff]
          show y.A < x.A ∨ (y.A = x.A ∧ y.L < x.L)
          rcases List.mem_append.1 hy with hy | hy
          · have := (ahead_iff y z).1 ((List.pairwise_append.1 h1).2.2 y hy z (by simp))
            omega
          · rw [List.mem_singleton] at hy
            subst hy
            exact zx
  have := key l.reverse
  rw [List.reverse_reverse] at this
  exact this h
/-- Two rising lists of the same prefixes are one. -/
theorem lessK_eq : ∀ (l m : List (Nat × Int)), l.Pairwise lessK → m.Pairwise lessK → (∀ x, x ∈ l ↔ x ∈ m) → l = m
  | [], [], _, _, _ => rfl
  | [], y :: m, _, _, h => absurd ((h y).2 (by simp)) (by simp)
  | x :: l, [], _, _, h => absurd ((h x).1 (by simp)) (by simp)
  | x :: l, y :: m, h1, h2, h => by
    rw [List.pairwise_cons] at h1 h2
    have e : x = y := by
      rcases List.mem_cons.1 ((h x).1 (by simp)) with e | hx
      · exact e
      · rcases List.mem_cons.1 ((h y).2 (by simp)) with e | hy
        · exact e.symm
        · have a1 := (lessK_iff _ _).1 (h2.1 x hx)
          have a2 := (lessK_iff _ _).1 (h1.1 y hy)
          omega
    subst e
    have nl : ∀ z ∈ l, z ≠ x := fun z hz e => by have := (lessK_iff _ _).1 (h1.1 z hz); rw [e] at this; omega
    have nm : ∀ z ∈ m, z ≠ x := fun z hz e => by have := (lessK_iff _ _).1 (h2.1 z hz); rw [e] at this; omega
    rw [lessK_eq l m h1.2 h2.2 fun z => ?_]
    constructor
    · intro hz
      rcases List.mem_cons.1 ((h z).1 (List.mem_cons_of_mem _ hz)) with e | hm
      · exact absurd e (nl z hz)
      · exact hm
    · intro hz
      rcases List.mem_cons.1 ((h z).2 (List.mem_cons_of_mem _ hz)) with e | hm
      · exact absurd e (nm z hz)
      · exact hm
/-- A peer's, a prefix's routes. -/
def ofL (peer : Int) (l : List Rt) : List Rt := l.filter fun x => decide (x.peer = peer)
def whatL (A : Nat) (L : Int) (l : List Rt) : List Rt := l.filter fun x => decide (x.A = A) && decide (x.L = L)
theorem ofL_snoc (peer : Int) (l : List Rt) (x : Rt) : ofL peer (l ++ [x]) = if x.peer = peer then ofL peer l ++ [x] else ofL peer l := by
  unfold ofL
  rw [List.filter_append]
  by_cases h : x.peer = peer <;> simp [h]
theorem whatL_snoc (A : Nat) (L : Int) (l : List Rt) (x : Rt) : whatL A L (l ++ [x]) = if x.A = A ∧ x.L = L then whatL A L l ++ [x] else whatL A L l := by
  unfold whatL
  rw [List.filter_append]
  by_cases h : x.A = A <;> by_cases g : x.L = L <;> simp [h, g]
theorem rises_of (peer : Int) (l : List Rt) (h : RisesR l) : RisesR (ofL peer l) := by unfold RisesR ofL at *; exact h.filter _
theorem rises_what (A : Nat) (L : Int) (l : List Rt) (h : RisesR l) : RisesR (whatL A L l) := by unfold RisesR whatL at *; exact h.filter _
theorem mem_of (peer : Int) (l : List Rt) (x : Rt) : x ∈ ofL peer l ↔ x ∈ l ∧ x.peer = peer := by unfold ofL; rw [List.mem_filter]; simp
theorem mem_what (A : Nat) (L : Int) (l : List Rt) (x : Rt) : x ∈ whatL A L l ↔ x ∈ l ∧ x.A = A ∧ x.L = L := by unfold whatL; rw [List.mem_filter]; simp
/-- What one peer tells changes nothing of another one's. -/
theorem of_put (peer : Int) (r : Rt) (l : List Rt) (h : RisesR l) (hp : r.peer ≠ peer) : ofL peer (putL r l) = ofL peer l := by
  refine rises_eq _ _ (rises_of _ _ (rises_put r l h)) (rises_of _ _ h) fun x => ?_
  rw [mem_of, mem_of, mem_put r x l h]
  constructor
  · rintro ⟨rfl | ⟨h1, _⟩, h2⟩
    · exact absurd h2 hp
    · exact ⟨h1, h2⟩
  · rintro ⟨h1, h2⟩
    refine ⟨.inr ⟨h1, ?_⟩, h2⟩
    cases hs : sameK r x with
    | false => rfl
    | true => rw [sameK_iff] at hs; exact absurd (hs.2.2.symm.trans h2) hp
theorem of_drop (peer : Int) (A : Nat) (L p : Int) (l : List Rt) (hp : p ≠ peer) : ofL peer (dropL A L p l) = ofL peer l := by
  unfold ofL dropL
  rw [List.filter_filter]
  refine List.filter_congr fun x _ => ?_
  by_cases h : x.peer = peer
  · simp [gone, h, Ne.symm hp]
  · simp [h]
theorem eqRts_self : ∀ l : List Rt, eqRts l l = true
  | [] => rfl
  | r :: l => by show (eqRt r r && eqRts l l) = true; rw [eqRt_self, eqRts_self l]; rfl
theorem small_put {r : Rt} {l : List Rt} (hr : sizeA r.att ≤ 100000) (h : smallRs l) (hl : RisesR l) : smallRs (putL r l) := by
  intro x hx
  rcases (mem_put r x l hl).1 hx with rfl | ⟨hm, _⟩
  · exact hr
  · exact h x hm
theorem small_filter {p : Rt → Bool} {l : List Rt} (h : smallRs l) : smallRs (l.filter p) := fun x hx => h x (List.mem_filter.1 hx).1
end Go.Proofs.Ytjlmkaeepeamkaa
