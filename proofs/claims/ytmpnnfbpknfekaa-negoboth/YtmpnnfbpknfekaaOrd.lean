/- A region that draws its order, where a chain of operations stands beside two boxes that may be made at any time: by what stands, not order by order. -/
import Derived.Test.YtmpnnfbpknfekaaMem
import Derived.OrdersHeld
namespace Go.Proofs.Ytmpnnfbpknfekaa
open Go.RowKit
set_option maxRecDepth 100000

/-- a is b, but for the slots L. -/
structure Fr (L : List Nat) (b a : Act) : Prop where
  defers : a.defers = b.defers
  size : a.tmps.size = b.tmps.size
  out : ∀ t, t ∉ L → a.tmps[t]? = b.tmps[t]?
theorem Fr.refl (L : List Nat) (b : Act) : Fr L b b := ⟨rfl, rfl, fun _ _ => rfl⟩
theorem slot_put {a : Act} {s t : Nat} (v : Value) (h : s ≠ t) : (a.put (some s) v).tmps[t]? = a.tmps[t]? := by
  simp [Act.put, Array.getElem?_setIfInBounds_ne h]
theorem slot_same {a : Act} {t : Nat} (v : Value) (h : t < a.tmps.size) : (a.put (some t) v).tmps[t]? = some v := by
  simp [Act.put, h]
theorem slot_eval {a : Act} {t : Nat} {v : Value} (h : a.tmps[t]? = some v) : a.eval (.tmp t) = v := by
  show a.tmps.getD t undef = v
  rw [Array.getD_eq_getD_getElem?, h]
  rfl
theorem Fr.put {L : List Nat} {b a : Act} (h : Fr L b a) {t : Nat} (ht : t ∈ L) (v : Value) : Fr L b (a.put (some t) v) :=
  ⟨h.defers, by simp [Act.put, h.size], fun s hs => by rw [slot_put v (by rintro rfl; exact hs ht)]; exact h.out s hs⟩
theorem Fr.slot {L : List Nat} {b a : Act} (h : Fr L b a) {t : Nat} {v : Value} (ht : t ∉ L) (hv : b.tmps[t]? = some v) : a.tmps[t]? = some v := by
  rw [h.out t ht, hv]
/-- The frame, laid out. -/
theorem Fr.eq {b a : Act} : ∀ {l : List (Nat × Value)} {c : Act}, c.defers = b.defers → a.defers = b.defers → a.tmps.size = c.tmps.size → (∀ t, t ∉ l.map Prod.fst → a.tmps[t]? = c.tmps[t]?) → (∀ p ∈ l, a.tmps[p.1]? = some p.2) → a = l.foldl (fun x p => x.put (some p.1) p.2) c
  | [], c, h0, h1, h2, h3, _ => by
    obtain ⟨at1, ad⟩ := a
    obtain ⟨ct, cd⟩ := c
    simp only at h0 h1 h2 h3
    subst h0 h1
    have : at1 = ct := Array.ext_getElem? fun t => h3 t (by simp)
    rw [this]
    rfl
  | p :: r, c, h0, h1, h2, h3, h4 => by
    refine Fr.eq (l := r) (c := c.put (some p.1) p.2) h0 h1 (by rw [h2]; simp [Act.put]) (fun t ht => ?_) (fun q hq => h4 q (List.mem_cons_of_mem _ hq))
    by_cases e : p.1 = t
    · subst e
      have h5 := h4 p List.mem_cons_self
      rw [h5, slot_same]
      rw [← h2]
      exact (Array.getElem?_eq_some_iff.1 h5).1
    · rw [slot_put _ e]
      exact h3 t (by simp only [List.map_cons, List.mem_cons, not_or]; exact ⟨fun h => e h.symm, ht⟩)

section
variable {P : Program} {ops : Array Oper} {Q : Exit → Act → World → Prop}
/-- An operation that is always wanted. -/
theorem op_plain {i : Nat} {o : Oper} {K : Act → World → Prop} {a : Act} {w : World} (hi : ops[i]? = some o) (hg : o.guard = none) (h : o.wp P a w K Q) : wpOp P ops Q i K a w := by
  unfold wpOp
  simp only [hi]
  rw [if_pos (by unfold Region.wanted; rw [hg])]
  exact .inl h
/-- How many of the two boxes are still to be made. -/
def toMake (A N : Option Nat) : Nat := (if A.isSome then 0 else 1) + (if N.isSome then 0 else 1)
/-- The boxes that may be made now. -/
def mayMake (iA iN : Nat) (A N : Bool) : List Nat := (if A then [] else [iA]) ++ (if N then [] else [iN])
/-- What is to be shown of an operation: whatever stands behind it. -/
theorem op_weak {i : Nat} {K K' : Act → World → Prop} {a : Act} {w : World} (h : wpOp P ops Q i K a w) (hk : ∀ a w, K a w → K' a w) : wpOp P ops Q i K' a w := wpOp_mono hk h
/-- A chain of n operations c 0, c 1, ..; two boxes (operations iA, iN) that are made at any time; then all the rest. J k A N: what stands when k of the chain have been done, and the boxes A, N are there. -/
theorem float2 {S : World → Prop} (n iA iN : Nat) (c r : Nat → Nat) (L : Nat → Bool → Bool → Array Bool) (J : Nat → Option Nat → Option Nat → Act → World → Prop)
    (hJS : ∀ k A N a w, J k A N a w → S w)
    (hA : ∀ k N, k ≤ n → (L k false N).setIfInBounds iA true = L k true N) (hN : ∀ k A, k ≤ n → (L k A false).setIfInBounds iN true = L k A true)
    (hr : ∀ k A N, k < n → Region.ready .any ops (L k A N) = c k :: mayMake iA iN A N) (hrn : ∀ A N, (A && N) = false → Region.ready .any ops (L n A N) = mayMake iA iN A N)
    (jA : ∀ k N a w, k ≤ n → J k none N a w → wpOp P ops Q iA (fun a' w' => ∃ g, J k (some g) N a' w') a w)
    (jN : ∀ k A a w, k ≤ n → J k A none a w → wpOp P ops Q iN (fun a' w' => ∃ g, J k A (some g) a' w') a w)
    (hop : ∀ k A N a w, k < n → J k A N a w → (∀ a' w', J (k + 1) A N a' w' → wpAnyH P .any ops Q S (r (k + 1) + toMake A N) (L (k + 1) A.isSome N.isSome) a' w') → wpOp P ops Q (c k) (fun a' w' => S w' ∧ wpAnyH P .any ops Q S (r k + toMake A N - 1) ((L k A.isSome N.isSome).setIfInBounds (c k) true) a' w') a w)
    (hrk : ∀ k, k < n → 0 < r k)
    (fin : ∀ gA gN a w, J n (some gA) (some gN) a w → wpAnyH P .any ops Q S (r n) (L n true true) a w) :
    ∀ d k A N a w, k + d = n → J k A N a w → wpAnyH P .any ops Q S (r k + toMake A N) (L k A.isSome N.isSome) a w := by
  have box : ∀ k, k ≤ n → (∀ gA gN a w, J k (some gA) (some gN) a w → wpAnyH P .any ops Q S (r k + toMake (some gA) (some gN)) (L k true true) a w) →
      (k < n → ∀ A N a w, J k A N a w → wpOp P ops Q (c k) (fun a' w' => S w' ∧ wpAnyH P .any ops Q S (r k + toMake A N - 1) ((L k A.isSome N.isSome).setIfInBounds (c k) true) a' w') a w) →
      ∀ A N a w, J k A N a w → wpAnyH P .any ops Q S (r k + toMake A N) (L k A.isSome N.isSome) a w := fun k hk h2 hc => by
    have rdy : ∀ A N, (A && N) = false → Region.ready .any ops (L k A N) = (if k < n then [c k] else []) ++ mayMake iA iN A N := fun A N h => by
      by_cases e : k < n
      · rw [if_pos e, hr k A N e]; rfl
      · have : k = n := by omega
        subst this
        rw [if_neg e, hrn A N h]; rfl
    have mc : ∀ A N a w i, J k A N a w → i ∈ (if k < n then [c k] else []) → wpOp P ops Q i (fun a' w' => S w' ∧ wpAnyH P .any ops Q S (r k + toMake A N - 1) ((L k A.isSome N.isSome).setIfInBounds i true) a' w') a w := fun A N a w i h hi => by
      by_cases e : k < n
      · rw [if_pos e] at hi
        have : i = c k := by simpa using hi
        subst this
        exact hc e A N a w h
      · rw [if_neg e] at hi
        cases hi
    have h1 : ∀ g a w, J k (some g) none a w → wpAnyH P .any ops Q S (r k + toMake (some g) none) (L k true false) a w := fun g a w h => by
      have e : r k + toMake (some g) none = r k + 1 := rfl
      rw [e]
      refine wpAnyH_all (rdy true false rfl) (by simp [mayMake]) fun i hi => ?_
      rcases List.mem_append.1 hi with hi | hi
      · exact mc (some g) none a w i h hi
      · have : i = iN := by simpa [mayMake] using hi
        subst this
        refine op_weak (jN k (some g) a w hk h) fun a' w' ⟨g2, h'⟩ => ⟨hJS _ _ _ _ _ h', ?_⟩
        rw [hN k true hk]
        exact h2 g g2 a' w' h'
    have h1' : ∀ g a w, J k none (some g) a w → wpAnyH P .any ops Q S (r k + toMake none (some g)) (L k false true) a w := fun g a w h => by
      have e : r k + toMake none (some g) = r k + 1 := rfl
      rw [e]
      refine wpAnyH_all (rdy false true rfl) (by simp [mayMake]) fun i hi => ?_
      rcases List.mem_append.1 hi with hi | hi
      · exact mc none (some g) a w i h hi
      · have : i = iA := by simpa [mayMake] using hi
        subst this
        refine op_weak (jA k (some g) a w hk h) fun a' w' ⟨g2, h'⟩ => ⟨hJS _ _ _ _ _ h', ?_⟩
        rw [hA k true hk]
        exact h2 g2 g a' w' h'
    have h0 : ∀ a w, J k none none a w → wpAnyH P .any ops Q S (r k + toMake none none) (L k false false) a w := fun a w h => by
      have e : r k + toMake none none = r k + 1 + 1 := rfl
      rw [e]
      refine wpAnyH_all (rdy false false rfl) (by simp [mayMake]) fun i hi => ?_
      rcases List.mem_append.1 hi with hi | hi
      · exact mc none none a w i h hi
      · have : i = iA ∨ i = iN := by simpa [mayMake] using hi
        rcases this with rfl | rfl
        · refine op_weak (jA k none a w hk h) fun a' w' ⟨g2, h'⟩ => ⟨hJS _ _ _ _ _ h', ?_⟩
          rw [hA k false hk]
          exact h1 g2 a' w' h'
        · refine op_weak (jN k none a w hk h) fun a' w' ⟨g2, h'⟩ => ⟨hJS _ _ _ _ _ h', ?_⟩
          rw [hN k false hk]
          exact h1' g2 a' w' h'
    intro A N a w h
    cases A with
    | none =>
      cases N with
      | none => exact h0 a w h
      | some g => exact h1' g a w h
    | some g =>
      cases N with
      | none => exact h1 g a w h
      | some g2 => exact h2 g g2 a w h
  intro d
  induction d with
  | zero =>
    intro k A N a w hk h
    have hkn : k = n := by omega
    subst hkn
    exact box k (Nat.le_refl _) (fun gA gN a w h => fin gA gN a w h) (fun e => absurd e (Nat.lt_irrefl _)) A N a w h
  | succ d ih =>
    intro k A N a w hk h
    have hkn : k < n := by omega
    have hop' := fun A N a w (h : J k A N a w) => hop k A N a w hkn h fun a' w' h' => ih (k + 1) A N a' w' (by omega) h'
    refine box k (by omega) (fun gA gN a w h => ?_) (fun _ => hop') A N a w h
    have e : r k + toMake (some gA) (some gN) = (r k - 1) + 1 := by have := hrk k hkn; unfold toMake; simp; omega
    rw [e]
    refine wpAnyH_all (hr k true true hkn) (by simp) fun i hi => ?_
    have : i = c k := by simpa [mayMake] using hi
    subst this
    exact hop' (some gA) (some gN) a w h
/-- A value that stands in every world that meets S. -/
theorem take_slot {S : World → Prop} {md : Region.Mode} {i d : Nat} {oi : Oper} {v : Value} {fuel : Nat} {listed : Array Bool} {a : Act} {w : World} (hi : ops[i]? = some oi) (hd : oi.dst = some d) (hg : oi.guard = none)
    (hs : Region.noSelect ops = true) (hf : Region.free md ops listed i = true) (hr : (Region.ready md ops listed).contains i = true)
    (hQ : ∀ c a a' w, Q (.panic c) a w → Q (.panic c) a' w) (hy : ∀ w, S w → (execOp a.eval oi).run P w = .ok (.value v) w) (hS : S w)
    (h : wpAnyH P md ops Q S fuel (listed.setIfInBounds i true) (a.put (some d) v) w) : wpAnyH P md ops Q S (fuel + 1) listed a w :=
  wpAnyH_take hi hs hf hr (fun _ _ _ h => hQ _ _ _ _ h) (.inl ⟨by unfold Region.wanted; rw [hg], hy⟩) hS (by rw [hd]; exact h)
theorem op_move (a : Act) (w : World) (o : Oper) (x : Operand) (v : Value) (ho : o.op = .move x) (hx : a.eval x = v) : (execOp a.eval o).run P w = .ok (.value v) w := by
  unfold execOp
  rw [ho]
  simp only [hx]
  rfl
theorem op_extract (a : Act) (w : World) (o : Oper) (x : Operand) (k : Nat) (vs : Array Value) (v : Value) (ho : o.op = .extract x k) (hx : a.eval x = .tuple vs) (hv : vs[k]? = some v) : (execOp a.eval o).run P w = .ok (.value v) w := by
  unfold execOp
  rw [ho]
  simp only [hx]
  simp [hv, go_sem]
end
end Go.Proofs.Ytmpnnfbpknfekaa
