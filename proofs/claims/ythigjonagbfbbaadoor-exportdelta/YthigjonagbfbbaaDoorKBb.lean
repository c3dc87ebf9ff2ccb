/- A region that draws its order, where a chain of operations stands beside two boxes that may be made at any time: by what stands, not order by order. -/
import Derived.Test.YthigjonagbfbbaaDoorKAa
import Derived.OrdersHeld
import Derived.Test.YthigjonagbfbbaaDoorMix
namespace Go.Proofs.YthigjonagbfbbaaDoor
open Go.RowKit
set_option maxRecDepth 100000

/-- a is b, but for the slots L. -/
structure Fr (L : List Nat) (b a : Act) : Prop where
  defers : a.defers = b.defers
  size : a.tmps.size = b.tmps.size
  out : ∀ t, t ∉ L → a.tmps[t]? = b.tmps[t]?
theorem Fr.refl (L : List Nat) (b : Act) : Fr L b b := ⟨rfl, rfl, fun _ _ => rfl⟩
theorem slot_put {a : Act} {s t : Nat} (v : Value) (h : s ≠ t) : (a.put (some s) v).tmps[t]? = a.tmps[t]? := by
  simp [Act.put, Array.getElem?_setIfInBounds_ne h]
theorem slot_same {a : Act} {t : Nat} (v : Value) (h : t < a.tmps.size) : (a.put (some t) v).tmps[t]? = some v := by
  simp [Act.put, h]
theorem slot_eval {a : Act} {t : Nat} {v : Value} (h : a.tmps[t]? = some v) : a.eval (.tmp t) = v := by
  show a.tmps.getD t undef = v
  rw [Array.getD_eq_getD_getElem?, h]
  rfl
theorem Fr.put {L : List Nat} {b a : Act} (h : Fr L b a) {t : Nat} (ht : t ∈ L) (v : Value) : Fr L b (a.put (some t) v) :=
  ⟨h.defers, by simp [Act.put, h.size], fun s hs => by rw [slot_put v (by rintro rfl; exact hs ht)]; exact h.out s hs⟩
theorem Fr.slot {L : List Nat} {b a : Act} (h : Fr L b a) {t : Nat} {v : Value} (ht : t ∉ L) (hv : b.tmps[t]? = some v) : a.tmps[t]? = some v := by
  rw [h.out t ht, hv]
/-- The frame, laid out. -/
theorem Fr.eq {b a : Act} : ∀ {l : List (Nat × Value)} {c : Act}, c.defers = b.defers → a.defers = b.defers → a.tmps.size = c.tmps.size → (∀ t, t ∉ l.map Prod.fst → a.tmps[t]? = c.tmps[t]?) → (∀ p ∈ l, a.tmps[p.1]? = some p.2) → a = l.foldl (fun x p => x.put (some p.1) p.2) c
  | [], c, h0, h1, h2, h3, _ => by
    obtain ⟨at1, ad⟩ := a
    obtain ⟨ct, cd⟩ := c
    simp only at h0 h1 h2 h3
    subst h0 h1
    have : at1 = ct := Array.ext_getElem? fun t => h3 t (by simp)
    rw [this]
    rfl
  | p :: r, c, h0, h1, h2, h3, h4 => by
    refine Fr.eq (l := r) (c := c.put (some p.1) p.2) h0 h1 (by rw [h2]; simp [Act.put]) (fun t ht => ?_) (fun q hq => h4 q (List.mem_cons_of_mem _ hq))
    by_cases e : p.1 = t
    · subst e
      have h5 := h4 p List.mem_cons_self
      rw [h5, slot_same]
      rw [← h2]
      exact (Array.getElem?_eq_some_iff.1 h5).1
    · rw [slot_put _ e]
      exact h3 t (by simp only [List.map_cons, List.mem_cons, not_or]; exact ⟨fun h => e h.symm, ht⟩)

section
variable {P : Program} {ops : Array Oper} {Q : Exit → Act → World → Prop}
/-- An operation that is always wanted. -/
theorem op_plain {i : Nat} {o : Oper} {K : Act → World → Prop} {a : Act} {w : World} (hi : ops[i]? = some o) (hg : o.guard = none) (h : o.wp P a w K Q) : wpOp P ops Q i K a w := by
  unfold wpOp
  simp only [hi]
  rw [if_pos (by unfold Region.wanted; rw [hg])]
  exact .inl h
/-- How many of the two boxes are still to be made. -/
def toMake (A N : Option Nat) : Nat := (if A.isSome then 0 else 1) + (if N.isSome then 0 else 1)
/-- The boxes that may be made now. -/
def mayMake (iA iN : Nat) (A N : Bool) : List Nat := (if A then [] else [iA]) ++ (if N then [] else [iN])
/-- What is to be shown of an operation: whatever stands behind it. -/
theorem op_weak {i : Nat} {K K' : Act → World → Prop} {a : Act} {w : World} (h : wpOp P ops Q i K a w) (hk : ∀ a w, K a w → K' a w) : wpOp P ops Q i K' a w := wpOp_mono hk h
/-- A chain of n operations c 0, c 1, ..; two boxes (operations iA, iN) that are made at any time; then all the rest. J k A N: what stands when k of the chain have been done, and the boxes A, N are there. -/
theorem float2 {S : World → Prop} (n iA iN : Nat) (c r : Nat → Nat) (L : Nat → Bool → Bool → Array Bool) (J : Nat → Option Nat → Option Nat → Act → World → Prop)
    (hJS : ∀ k A N a w, J k A N a w → S w)
    (hA : ∀ k N, k ≤ n → (L k false N).setIfInBounds iA true = L k true N) (hN : ∀ k A, k ≤ n → (L k A false).setIfInBounds iN true = L k A true)
    (hr : ∀ k A N, k < n → Region.ready .any ops (L k A N) = c k :: mayMake iA iN A N) (hrn : ∀ A N, (A && N) = false → Region.ready .any ops (L n A N) = mayMake iA iN A N)
    (jA : ∀ k N a w, k ≤ n → J k none N a w → wpOp P ops Q iA (fun a' w' => ∃ g, J k (some g) N a' w') a w)
    (jN : ∀ k A a w, k ≤ n → J k A none a w → wpOp P ops Q iN (fun a' w' => ∃ g, J k A (some g) a' w') a w)
    (hop : ∀ k A N a w, k < n → J k A N a w → (∀ a' w', J (k + 1) A N a' w' → wpAnyH P .any ops Q S (r (k + 1) + toMake A N) (L (k + 1) A.isSome N.isSome) a' w') → wpOp P ops Q (c k) (fun a' w' => S w' ∧ wpAnyH P .any ops Q S (r k + toMake A N - 1) ((L k A.isSome N.isSome).setIfInBounds (c k) true) a' w') a w)
    (hrk : ∀ k, k < n → 0 < r k)
    (fin : ∀ gA gN a w, J n (some gA) (some gN) a w → wpAnyH P .any ops Q S (r n) (L n true true) a w) :
    ∀ d k A N a w, k + d = n → J k A N a w → wpAnyH P .any ops Q S (r k + toMake A N) (L k A.isSome N.isSome) a w := by
  have box : ∀ k, k ≤ n → (∀ gA gN a w, J k (some gA) (some gN) a w → wpAnyH P .any ops Q S (r k + toMake (some gA) (some gN)) (L k true true) a w) →
      (k < n → ∀ A N a w, J k A N a w → wpOp P ops Q (c k) (fun a' w' => S w' ∧ wpAnyH P .any ops Q S (r k + toMake A N - 1) ((L k A.isSome N.isSome).setIfInBounds (c k) true) a' w') a w) →
      ∀ A N a w, J k A N a w → wpAnyH P .any ops Q S (r k + toMake A N) (L k A.isSome N.isSome) a w := fun k hk h2 hc => by
    have rdy : ∀ A N, (A && N) = false → Region.ready .any ops (L k A N) = (if k < n then [c k] else []) ++ mayMake iA iN A N := fun A N h => by
      by_cases e : k < n
      · rw [if_pos e, hr k A N e]; rfl
      · have : k = n := by omega
        subst this
        rw [if_neg e, hrn A N h]; rfl
    have mc : ∀ A N a w i, J k A N a w → i ∈ (if k < n then [c k] else []) → wpOp P ops Q i (fun a' w' => S w' ∧ wpAnyH P .any ops Q S (r k + toMake A N - 1) ((L k A.isSome N.isSome).setIfInBounds i true) a' w') a w := fun A N a w i h hi => by
      by_cases e : k < n
      · rw [if_pos e] at hi
        have : i = c k := by simpa using hi
        subst this
        exact hc e A N a w h
      · rw [if_neg e] at hi
        cases hi
    have h1 : ∀ g a w, J k (some g) none a w → wpAnyH P .any ops Q S (r k + toMake (some g) none) (L k true false) a w := fun g a w h => by
      have e : r k + toMake (some g) none = r k + 1 := rfl
      rw [e]
      refine wpAnyH_all (rdy true false rfl) (by simp [mayMake]) fun i hi => ?_
      rcases List.mem_append.1 hi with hi | hi
      · exact mc (some g) none a w i h hi
      · have : i = iN := by simpa [mayMake] using hi
        subst this
        refine op_weak (jN k (some g) a w hk h) fun a' w' ⟨g2, h'⟩ => ⟨hJS _ _ _ _ _ h', ?_⟩
        rw [hN k true hk]
        exact h2 g g2 a' w' h'
    have h1' : ∀ g a w, J k none (some g) a w → wpAnyH P .any ops Q S (r k + toMake none (some g)) (L k false true) a w := fun g a w h => by
      have e : r k + toMake none (some g) = r k + 1 := rfl
      rw [e]
      refine wpAnyH_all (rdy false true rfl) (by simp [mayMake]) fun i hi => ?_
      rcases List.mem_append.1 hi with hi | hi
      · exact mc none (some g) a w i h hi
      · have : i = iA := by simpa [mayMake] using hi
        subst this
        refine op_weak (jA k (some g) a w hk h) fun a' w' ⟨g2, h'⟩ => ⟨hJS _ _ _ _ _ h', ?_⟩
        rw [hA k true hk]
        exact h2 g2 g a' w' h'
    have h0 : ∀ a w, J k none none a w → wpAnyH P .any ops Q S (r k + toMake none none) (L k false false) a w := fun a w h => by
      have e : r k + toMake none none = r k + 1 + 1 := rfl
      rw [e]
      refine wpAnyH_all (rdy false false rfl) (by simp [mayMake]) fun i hi => ?_
      rcases List.mem_append.1 hi with hi | hi
      · exact mc none none a w i h hi
      · have : i = iA ∨ i = iN := by simpa [mayMake] using hi
        rcases this with rfl | rfl
        · refine op_weak (jA k none a w hk h) fun a' w' ⟨g2, h'⟩ => ⟨hJS _ _ _ _ _ h', ?_⟩
          rw [hA k false hk]
          exact h1 g2 a' w' h'
        · refine op_weak (jN k none a w hk h) fun a' w' ⟨g2, h'⟩ => ⟨hJS _ _ _ _ _ h', ?_⟩
          rw [hN k false hk]
          exact h1' g2 a' w' h'
    intro A N a w h
    cases A with
    | none =>
      cases N with
      | none => exact h0 a w h
      | some g => exact h1' g a w h
    | some g =>
      cases N with
      | none => exact h1 g a w h
      | some g2 => exact h2 g g2 a w h
  intro d
  induction d with
  | zero =>
    intro k A N a w hk h
    have hkn : k = n := by omega
    subst hkn
    exact box k (Nat.le_refl _) (fun gA gN a w h => fin gA gN a w h) (fun e => absurd e (Nat.lt_irrefl _)) A N a w h
  | succ d ih =>
    intro k A N a w hk h
    have hkn : k < n := by omega
    have hop' := fun A N a w (h : J k A N a w) => hop k A N a w hkn h fun a' w' h' => ih (k + 1) A N a' w' (by omega) h'
    refine box k (by omega) (fun gA gN a w h => ?_) (fun _ => hop') A N a w h
    have e : r k + toMake (some gA) (some gN) = (r k - 1) + 1 := by have := hrk k hkn; unfold toMake; simp; omega
    rw [e]
    refine wpAnyH_all (hr k true true hkn) (by simp) fun i hi => ?_
    have : i = c k := by simpa [mayMake] using hi
    subst this
    exact hop' (some gA) (some gN) a w h
/-- A value that stands in every world that meets S. -/
theorem take_slot {S : World → Prop} {md : Region.Mode} {i d : Nat} {oi : Oper} {v : Value} {fuel : Nat} {listed : Array Bool} {a : Act} {w : World} (hi : ops[i]? = some oi) (hd : oi.dst = some d) (hg : oi.guard = none)
    (hs : Region.noSelect ops = true) (hf : Region.free md ops listed i = true) (hr : (Region.ready md ops listed).contains i = true)
    (hQ : ∀ c a a' w, Q (.panic c) a w → Q (.panic c) a' w) (hy : ∀ w, S w → (execOp a.eval oi).run P w = .ok (.value v) w) (hS : S w)
    (h : wpAnyH P md ops Q S fuel (listed.setIfInBounds i true) (a.put (some d) v) w) : wpAnyH P md ops Q S (fuel + 1) listed a w :=
  wpAnyH_take hi hs hf hr (fun _ _ _ h => hQ _ _ _ _ h) (.inl ⟨by unfold Region.wanted; rw [hg], hy⟩) hS (by rw [hd]; exact h)
theorem op_move (a : Act) (w : World) (o : Oper) (x : Operand) (v : Value) (ho : o.op = .move x) (hx : a.eval x = v) : (execOp a.eval o).run P w = .ok (.value v) w := by
  unfold execOp
  rw [ho]
  simp only [hx]
  rfl
theorem op_extract (a : Act) (w : World) (o : Oper) (x : Operand) (k : Nat) (vs : Array Value) (v : Value) (ho : o.op = .extract x k) (hx : a.eval x = .tuple vs) (hv : vs[k]? = some v) : (execOp a.eval o).run P w = .ok (.value v) w := by
  unfold execOp
  rw [ho]
  simp only [hx]
  simp [hv, go_sem]
end
end Go.Proofs.YthigjonagbfbbaaDoor
/- A region that draws its order: what only reads is taken first, in a given order; then two chains of operations, in whatever order they come. Nothing of the program is named here. -/
namespace Go.Proofs.YthigjonagbfbbaaDoor
open Go.RowKit
set_option maxRecDepth 100000

section
variable {P : Program} {ops : Array Oper} {Q : Exit → Act → World → Prop} {S : World → Prop}
/-- The operations of a list, each of which only reads, one behind the other. -/
def wpPre (P : Program) (ops : Array Oper) (S : World → Prop) (K : Act → Prop) : List Nat → Act → Prop
  | [], a => K a
  | k :: r, a => ∃ o v, ops[k]? = some o ∧ YieldsIf P ops S o v a ∧ wpPre P ops S K r (a.put o.dst v)
def preB (ops : Array Oper) : List Nat → Array Bool → Bool
  | [], _ => true
  | k :: r, listed => (Region.ready .any ops listed).contains k && Region.free .any ops listed k && preB ops r (listed.setIfInBounds k true)
def preL : List Nat → Array Bool → Array Bool
  | [], listed => listed
  | k :: r, listed => preL r (listed.setIfInBounds k true)
theorem anyH_pre (hs : Region.noSelect ops = true) (hQ : ∀ c a a' w, Q (.panic c) a w → Q (.panic c) a' w) {w : World} (hS : S w) {f : Nat} : ∀ (l : List Nat) (listed : Array Bool) (a : Act), preB ops l listed = true →
    wpPre P ops S (fun a' => wpAnyH P .any ops Q S f (preL l listed) a' w) l a → wpAnyH P .any ops Q S (f + l.length) listed a w
  | [], _, _, _, h => h
  | k :: r, listed, a, hB, h => by
    simp only [preB, Bool.and_eq_true] at hB
    obtain ⟨o, v, ho, hy, h⟩ := h
    exact wpAnyH_take ho hs hB.1.2 hB.1.1 (fun _ _ _ h => hQ _ _ _ _ h) hy hS (anyH_pre hs hQ hS r _ _ hB.2 h)
theorem pre_q {K : Act → Prop} {o : Oper} {l : List Nat} {k : Nat} {a a' : Act} {v : Value} (ho : ops[k]? = some o) (hw : Region.wanted o (yielded ops a.tmps) = true) (hy : ∀ w, S w → (execOp a.eval o).run P w = .ok (.value v) w) (ha : a.put o.dst v = a') (h : wpPre P ops S K l a') :
    wpPre P ops S K (k :: l) a := ⟨o, v, ho, .inl ⟨hw, hy⟩, by rw [ha]; exact h⟩
/-- Two chains: c of n operations, d of m; J i j: what stands when i of the one and j of the other have been done. -/
theorem grid2 (n m r : Nat) (c d : Nat → Nat) (Ls : Nat → Nat → Array Bool) (J : Nat → Nat → Act → World → Prop)
    (hc : ∀ i j, i < n → j ≤ m → (Ls i j).setIfInBounds (c i) true = Ls (i + 1) j) (hd : ∀ i j, i ≤ n → j < m → (Ls i j).setIfInBounds (d j) true = Ls i (j + 1))
    (hr : ∀ i j, i ≤ n → j ≤ m → ¬ (i = n ∧ j = m) → Region.ready .any ops (Ls i j) ≠ [] ∧ ∀ x ∈ Region.ready .any ops (Ls i j), (i < n ∧ x = c i) ∨ (j < m ∧ x = d j))
    (sc : ∀ i j a w, i < n → j ≤ m → J i j a w → wpOp P ops Q (c i) (fun a' w' => S w' ∧ J (i + 1) j a' w') a w)
    (sd : ∀ i j a w, i ≤ n → j < m → J i j a w → wpOp P ops Q (d j) (fun a' w' => S w' ∧ J i (j + 1) a' w') a w)
    (fin : ∀ a w, J n m a w → wpAnyH P .any ops Q S r (Ls n m) a w) :
    ∀ (t i j : Nat) (a : Act) (w : World), (n - i) + (m - j) = t → i ≤ n → j ≤ m → J i j a w → wpAnyH P .any ops Q S (r + t) (Ls i j) a w
  | 0, i, j, a, w, ht, hi, hj, h => by
    obtain rfl : i = n := by omega
    obtain rfl : j = m := by omega
    exact fin a w h
  | t + 1, i, j, a, w, ht, hi, hj, h => by
    obtain ⟨hne, hall⟩ := hr i j hi hj (by omega)
    refine wpAnyH_all rfl hne fun x hx => ?_
    rcases hall x hx with ⟨h1, rfl⟩ | ⟨h1, rfl⟩
    · refine wpOp_mono (fun a' w' h9 => ⟨h9.1, ?_⟩) (sc i j a w h1 hj h)
      rw [hc i j h1 hj]
      exact grid2 n m r c d Ls J hc hd hr sc sd fin t (i + 1) j a' w' (by omega) (by omega) hj h9.2
    · refine wpOp_mono (fun a' w' h9 => ⟨h9.1, ?_⟩) (sd i j a w hi h1 h)
      rw [hd i j hi h1]
      exact grid2 n m r c d Ls J hc hd hr sc sd fin t i (j + 1) a' w' (by omega) hi (by omega) h9.2
end
/-- The region: what it is to be shown. -/
theorem region_held {P : Program} {id : Nat} {Q : Exit → Act → World → Prop} {a : Act} {w : World} {l : List Oper} (S : World → Prop) (hm : P.follows .mixedOrders = true)
    (h : wpAnyH P .any l.toArray (fun e a w => (∀ c, e ≠ .panic c) ∧ Q e a w) S l.length (Array.replicate l.length false) a w.drew) : (Code.region id l.toArray true).wp P Q a w := by
  have h2 : (Code.region id l.toArray true).wp P (fun e a w => (∀ c, e ≠ .panic c) ∧ Q e a w) a w := wp_region_held (S := S) hm (by simpa using h)
  exact Code.wp_mono (fun _ _ _ h => h.2) h2
theorem noPanicQ {Q : Exit → Act → World → Prop} : ∀ c a a' w, (fun e a w => (∀ c, e ≠ Exit.panic c) ∧ Q e a w) (.panic c) a w → (fun e a w => (∀ c, e ≠ Exit.panic c) ∧ Q e a w) (.panic c) a' w := fun c _ _ _ h => absurd rfl (h.1 c)
end Go.Proofs.YthigjonagbfbbaaDoor
/- Two calls in a region that draws its order, in whatever order they come. Nothing of the program is named here. -/
namespace Go.Proofs.YthigjonagbfbbaaDoor
open Go.RowKit
set_option maxRecDepth 100000

theorem put_comm (a : Act) {s t : Nat} (v u : Value) (h : s ≠ t) : (a.put (some s) v).put (some t) u = (a.put (some t) u).put (some s) v := by
  unfold Act.put
  simp only [Act.mk.injEq, and_true]
  exact Array.setIfInBounds_comm _ _ h
section
variable {P : Program} {ops : Array Oper} {Q : Exit → Act → World → Prop} {S : World → Prop}
theorem any_two {x y : Nat} {ox oy : Oper} {dx dy : Nat} {vx vy : Value} {f : Nat} {listed : Array Bool} {a : Act} {w : World} (J10 J01 J11 : World → Prop)
    (hx : ops[x]? = some ox) (hy : ops[y]? = some oy) (hne : dx ≠ dy) (gx : ox.guard = none) (gy : oy.guard = none) (hxy : x ≠ y)
    (hr : Region.ready .any ops listed = [x, y]) (hrx : Region.ready .any ops (listed.setIfInBounds x true) = [y]) (hry : Region.ready .any ops (listed.setIfInBounds y true) = [x])
    (sx0 : ∀ K : Act → World → Prop, (∀ w', J10 w' → K (a.put (some dx) vx) w') → ox.wp P a w K Q)
    (sy0 : ∀ K : Act → World → Prop, (∀ w', J01 w' → K (a.put (some dy) vy) w') → oy.wp P a w K Q)
    (sx1 : ∀ w1, J01 w1 → ∀ K : Act → World → Prop, (∀ w', J11 w' → K ((a.put (some dy) vy).put (some dx) vx) w') → ox.wp P (a.put (some dy) vy) w1 K Q)
    (sy1 : ∀ w1, J10 w1 → ∀ K : Act → World → Prop, (∀ w', J11 w' → K ((a.put (some dx) vx).put (some dy) vy) w') → oy.wp P (a.put (some dx) vx) w1 K Q)
    (hS10 : ∀ w', J10 w' → S w') (hS01 : ∀ w', J01 w' → S w') (hS11 : ∀ w', J11 w' → S w')
    (fin : ∀ w', J11 w' → wpAnyH P .any ops Q S f ((listed.setIfInBounds x true).setIfInBounds y true) ((a.put (some dx) vx).put (some dy) vy) w') : wpAnyH P .any ops Q S (f + 2) listed a w := by
  refine wpAnyH_all hr (by simp) fun i hi => ?_
  have hi2 : i = x ∨ i = y := by simpa using hi
  rcases hi2 with rfl | rfl
  · refine op_plain hx gx (sx0 _ fun w' h => ⟨hS10 w' h, ?_⟩)
    refine wpAnyH_all hrx (by simp) fun j hj => ?_
    obtain rfl : j = y := by simpa using hj
    exact op_plain hy gy (sy1 w' h _ fun w2 h2 => ⟨hS11 w2 h2, fin w2 h2⟩)
  · refine op_plain hy gy (sy0 _ fun w' h => ⟨hS01 w' h, ?_⟩)
    refine wpAnyH_all hry (by simp) fun j hj => ?_
    obtain rfl : j = x := by simpa using hj
    refine op_plain hx gx (sx1 w' h _ fun w2 h2 => ⟨hS11 w2 h2, ?_⟩)
    rw [Array.setIfInBounds_comm _ _ (Ne.symm hxy), ← put_comm a vx vy hne]
    exact fin w2 h2
theorem anyH_next (pre : List Nat) (f : Nat) {g : Nat} {listed : Array Bool} {a : Act} {w : World} (hs : Region.noSelect ops = true) (hg : g = f + pre.length) (hB : preB ops pre listed = true) (hS : S w)
    (h : wpPre P ops S (fun a' => wpAnyH P .any ops (fun e a w => (∀ c, e ≠ Exit.panic c) ∧ Q e a w) S f (preL pre listed) a' w) pre a) : wpAnyH P .any ops (fun e a w => (∀ c, e ≠ Exit.panic c) ∧ Q e a w) S g listed a w := by
  rw [hg]
  exact anyH_pre hs noPanicQ hS pre listed a hB h
end
theorem region_pre {P : Program} {id : Nat} {Q : Exit → Act → World → Prop} {a : Act} {w : World} {l : List Oper} (S : World → Prop) (pre : List Nat) (f : Nat) (hm : P.follows .mixedOrders = true) (hs : Region.noSelect l.toArray = true) (hg : l.length = f + pre.length) (hB : preB l.toArray pre (Array.replicate l.length false) = true) (hS : S w.drew)
    (h : wpPre P l.toArray S (fun a' => wpAnyH P .any l.toArray (fun e a w => (∀ c, e ≠ Exit.panic c) ∧ Q e a w) S f (preL pre (Array.replicate l.length false)) a' w.drew) pre a) : (Code.region id l.toArray true).wp P Q a w :=
  region_held S hm (anyH_next pre f hs hg hB hS h)
theorem region_pre2 {P : Program} {id : Nat} {Q : Exit → Act → World → Prop} {a : Act} {w : World} {l : List Oper} (S : World → Prop) (pre : List Nat) (f : Nat) (lst : Array Bool) (hm : P.follows .mixedOrders = true) (hs : Region.noSelect l.toArray = true) (hg : l.length = f + pre.length) (hB : preB l.toArray pre (Array.replicate l.length false) = true) (hL : preL pre (Array.replicate l.length false) = lst) (hS : S w.drew)
    (h : wpPre P l.toArray S (fun a' => wpAnyH P .any l.toArray (fun e a w => (∀ c, e ≠ Exit.panic c) ∧ Q e a w) S f lst a' w.drew) pre a) : (Code.region id l.toArray true).wp P Q a w :=
  region_pre S pre f hm hs hg hB hS (by rw [hL]; exact h)
end Go.Proofs.YthigjonagbfbbaaDoor
