/- A region that draws its order, where a chain of operations stands beside two boxes that may be made at any time: by what stands, not order by order. -/
import Derived.Test.YtempaadgheondabDoorHMem
import Derived.OrdersHeld
import Derived.Test.YtempaadgheondabDoorBrd2
import Derived.Test.YtempaadgheondabDoorHAt
import Derived.Deep.MidRow
namespace Go.Proofs.YtempaadgheondabDoor
open Go.RowKit
set_option maxRecDepth 100000

/-- a is b, but for the slots L. -/
structure Fr (L : List Nat) (b a : Act) : Prop where
  defers : a.defers = b.defers
  size : a.tmps.size = b.tmps.size
  out : ∀ t, t ∉ L → a.tmps[t]? = b.tmps[t]?
theorem Fr.refl (L : List Nat) (b : Act) : Fr L b b := ⟨rfl, rfl, fun _ _ => rfl⟩
theorem slot_put {a : Act} {s t : Nat} (v : Value) (h : s ≠ t) : (a.put (some s) v).tmps[t]? = a.tmps[t]? := by
  simp [Act.put, Array.getElem?_setIfInBounds_ne h]
theorem slot_same {a : Act} {t : Nat} (v : Value) (h : t < a.tmps.size) : (a.put (some t) v).tmps[t]? = some v := by
  simp [Act.put, h]
theorem slot_eval {a : Act} {t : Nat} {v : Value} (h : a.tmps[t]? = some v) : a.eval (.tmp t) = v := by
  show a.tmps.getD t undef = v
  rw [Array.getD_eq_getD_getElem?, h]
  rfl
theorem Fr.put {L : List Nat} {b a : Act} (h : Fr L b a) {t : Nat} (ht : t ∈ L) (v : Value) : Fr L b (a.put (some t) v) :=
  ⟨h.defers, by simp [Act.put, h.size], fun s hs => by rw [slot_put v (by rintro rfl; exact hs ht)]; exact h.out s hs⟩
theorem Fr.slot {L : List Nat} {b a : Act} (h : Fr L b a) {t : Nat} {v : Value} (ht : t ∉ L) (hv : b.tmps[t]? = some v) : a.tmps[t]? = some v := by
  rw [h.out t ht, hv]
/-- The frame, laid out. -/
theorem Fr.eq {b a : Act} : ∀ {l : List (Nat × Value)} {c : Act}, c.defers = b.defers → a.defers = b.defers → a.tmps.size = c.tmps.size → (∀ t, t ∉ l.map Prod.fst → a.tmps[t]? = c.tmps[t]?) → (∀ p ∈ l, a.tmps[p.1]? = some p.2) → a = l.foldl (fun x p => x.put (some p.1) p.2) c
  | [], c, h0, h1, h2, h3, _ => by
    obtain ⟨at1, ad⟩ := a
    obtain ⟨ct, cd⟩ := c
    simp only at h0 h1 h2 h3
    subst h0 h1
    have : at1 = ct := Array.ext_getElem? fun t => h3 t (by simp)
    rw [this]
    rfl
  | p :: r, c, h0, h1, h2, h3, h4 => by
    refine Fr.eq (l := r) (c := c.put (some p.1) p.2) h0 h1 (by rw [h2]; simp [Act.put]) (fun t ht => ?_) (fun q hq => h4 q (List.mem_cons_of_mem _ hq))
    by_cases e : p.1 = t
    · subst e
      have h5 := h4 p List.mem_cons_self
      rw [h5, slot_same]
      rw [← h2]
      exact (Array.getElem?_eq_some_iff.1 h5).1
    · rw [slot_put _ e]
      exact h3 t (by simp only [List.map_cons, List.mem_cons, not_or]; exact ⟨fun h => e h.symm, ht⟩)

section
variable {P : Program} {ops : Array Oper} {Q : Exit → Act → World → Prop}
/-- An operation that is always wanted. -/
theorem op_plain {i : Nat} {o : Oper} {K : Act → World → Prop} {a : Act} {w : World} (hi : ops[i]? = some o) (hg : o.guard = none) (h : o.wp P a w K Q) : wpOp P ops Q i K a w := by
  unfold wpOp
  simp only [hi]
  rw [if_pos (by unfold Region.wanted; rw [hg])]
  exact .inl h
/-- How many of the two boxes are still to be made. -/
def toMake (A N : Option Nat) : Nat := (if A.isSome then 0 else 1) + (if N.isSome then 0 else 1)
/-- The boxes that may be made now. -/
def mayMake (iA iN : Nat) (A N : Bool) : List Nat := (if A then [] else [iA]) ++ (if N then [] else [iN])
/-- What is to be shown of an operation: whatever stands behind it. -/
theorem op_weak {i : Nat} {K K' : Act → World → Prop} {a : Act} {w : World} (h : wpOp P ops Q i K a w) (hk : ∀ a w, K a w → K' a w) : wpOp P ops Q i K' a w := wpOp_mono hk h
/-- A chain of n operations c 0, c 1, ..; two boxes (operations iA, iN) that are made at any time; then all the rest. J k A N: what stands when k of the chain have been done, and the boxes A, N are there. -/
theorem float2 {S : World → Prop} (n iA iN : Nat) (c r : Nat → Nat) (L : Nat → Bool → Bool → Array Bool) (J : Nat → Option Nat → Option Nat → Act → World → Prop)
    (hJS : ∀ k A N a w, J k A N a w → S w)
    (hA : ∀ k N, k ≤ n → (L k false N).setIfInBounds iA true = L k true N) (hN : ∀ k A, k ≤ n → (L k A false).setIfInBounds iN true = L k A true)
    (hr : ∀ k A N, k < n → Region.ready .any ops (L k A N) = c k :: mayMake iA iN A N) (hrn : ∀ A N, (A && N) = false → Region.ready .any ops (L n A N) = mayMake iA iN A N)
    (jA : ∀ k N a w, k ≤ n → J k none N a w → wpOp P ops Q iA (fun a' w' => ∃ g, J k (some g) N a' w') a w)
    (jN : ∀ k A a w, k ≤ n → J k A none a w → wpOp P ops Q iN (fun a' w' => ∃ g, J k A (some g) a' w') a w)
    (hop : ∀ k A N a w, k < n → J k A N a w → (∀ a' w', J (k + 1) A N a' w' → wpAnyH P .any ops Q S (r (k + 1) + toMake A N) (L (k + 1) A.isSome N.isSome) a' w') → wpOp P ops Q (c k) (fun a' w' => S w' ∧ wpAnyH P .any ops Q S (r k + toMake A N - 1) ((L k A.isSome N.isSome).setIfInBounds (c k) true) a' w') a w)
    (hrk : ∀ k, k < n → 0 < r k)
    (fin : ∀ gA gN a w, J n (some gA) (some gN) a w → wpAnyH P .any ops Q S (r n) (L n true true) a w) :
    ∀ d k A N a w, k + d = n → J k A N a w → wpAnyH P .any ops Q S (r k + toMake A N) (L k A.isSome N.isSome) a w := by
  have box : ∀ k, k ≤ n → (∀ gA gN a w, J k (some gA) (some gN) a w → wpAnyH P .any ops Q S (r k + toMake (some gA) (some gN)) (L k true true) a w) →
      (k < n → ∀ A N a w, J k A N a w → wpOp P ops Q (c k) (fun a' w' => S w' ∧ wpAnyH P .any ops Q S (r k + toMake A N - 1) ((L k A.isSome N.isSome).setIfInBounds (c k) true) a' w') a w) →
      ∀ A N a w, J k A N a w → wpAnyH P .any ops Q S (r k + toMake A N) (L k A.isSome N.isSome) a w := fun k hk h2 hc => by
    have rdy : ∀ A N, (A && N) = false → Region.ready .any ops (L k A N) = (if k < n then [c k] else []) ++ mayMake iA iN A N := fun A N h => by
      by_cases e : k < n
      · rw [if_pos e, hr k A N e]; rfl
      · have : k = n := by omega
        subst this
        rw [if_neg e, hrn A N h]; rfl
    have mc : ∀ A N a w i, J k A N a w → i ∈ (if k < n then [c k] else []) → wpOp P ops Q i (fun a' w' => S w' ∧ wpAnyH P .any ops Q S (r k + toMake A N - 1) ((L k A.isSome N.isSome).setIfInBounds i true) a' w') a w := fun A N a w i h hi => by
      by_cases e : k < n
      · rw [if_pos e] at hi
        have : i = c k := by simpa using hi
        subst this
        exact hc e A N a w h
      · rw [if_neg e] at hi
        cases hi
    have h1 : ∀ g a w, J k (some g) none a w → wpAnyH P .any ops Q S (r k + toMake (some g) none) (L k true false) a w := fun g a w h => by
      have e : r k + toMake (some g) none = r k + 1 := rfl
      rw [e]
      refine wpAnyH_all (rdy true false rfl) (by simp [mayMake]) fun i hi => ?_
      rcases List.mem_append.1 hi with hi | hi
      · exact mc (some g) none a w i h hi
      · have : i = iN := by simpa [mayMake] using hi
        subst this
        refine op_weak (jN k (some g) a w hk h) fun a' w' ⟨g2, h'⟩ => ⟨hJS _ _ _ _ _ h', ?_⟩
        rw [hN k true hk]
        exact h2 g g2 a' w' h'
    have h1' : ∀ g a w, J k none (some g) a w → wpAnyH P .any ops Q S (r k + toMake none (some g)) (L k false true) a w := fun g a w h => by
      have e : r k + toMake none (some g) = r k + 1 := rfl
      rw [e]
      refine wpAnyH_all (rdy false true rfl) (by simp [mayMake]) fun i hi => ?_
      rcases List.mem_append.1 hi with hi | hi
      · exact mc none (some g) a w i h hi
      · have : i = iA := by simpa [mayMake] using hi
        subst this
        refine op_weak (jA k (some g) a w hk h) fun a' w' ⟨g2, h'⟩ => ⟨hJS _ _ _ _ _ h', ?_⟩
        rw [hA k true hk]
        exact h2 g2 g a' w' h'
    have h0 : ∀ a w, J k none none a w → wpAnyH P .any ops Q S (r k + toMake none none) (L k false false) a w := fun a w h => by
      have e : r k + toMake none none = r k + 1 + 1 := rfl
      rw [e]
      refine wpAnyH_all (rdy false false rfl) (by simp [mayMake]) fun i hi => ?_
      rcases List.mem_append.1 hi with hi | hi
      · exact mc none none a w i h hi
      · have : i = iA ∨ i = iN := by simpa [mayMake] using hi
        rcases this with rfl | rfl
        · refine op_weak (jA k none a w hk h) fun a' w' ⟨g2, h'⟩ => ⟨hJS _ _ _ _ _ h', ?_⟩
          rw [hA k false hk]
          exact h1 g2 a' w' h'
        · refine op_weak (jN k none a w hk h) fun a' w' ⟨g2, h'⟩ => ⟨hJS _ _ _ _ _ h', ?_⟩
          rw [hN k false hk]
          exact h1' g2 a' w' h'
    intro A N a w h
    cases A with
    | none =>
      cases N with
      | none => exact h0 a w h
      | some g => exact h1' g a w h
    | some g =>
      cases N with
      | none => exact h1 g a w h
      | some g2 => exact h2 g g2 a w h
  intro d
  induction d with
  | zero =>
    intro k A N a w hk h
    have hkn : k = n := by omega
    subst hkn
    exact box k (Nat.le_refl _) (fun gA gN a w h => fin gA gN a w h) (fun e => absurd e (Nat.lt_irrefl _)) A N a w h
  | succ d ih =>
    intro k A N a w hk h
    have hkn : k < n := by omega
    have hop' := fun A N a w (h : J k A N a w) => hop k A N a w hkn h fun a' w' h' => ih (k + 1) A N a' w' (by omega) h'
    refine box k (by omega) (fun gA gN a w h => ?_) (fun _ => hop') A N a w h
    have e : r k + toMake (some gA) (some gN) = (r k - 1) + 1 := by have := hrk k hkn; unfold toMake; simp; omega
    rw [e]
    refine wpAnyH_all (hr k true true hkn) (by simp) fun i hi => ?_
    have : i = c k := by simpa [mayMake] using hi
    subst this
    exact hop' (some gA) (some gN) a w h
/-- A value that stands in every world that meets S. -/
theorem take_slot {S : World → Prop} {md : Region.Mode} {i d : Nat} {oi : Oper} {v : Value} {fuel : Nat} {listed : Array Bool} {a : Act} {w : World} (hi : ops[i]? = some oi) (hd : oi.dst = some d) (hg : oi.guard = none)
    (hs : Region.noSelect ops = true) (hf : Region.free md ops listed i = true) (hr : (Region.ready md ops listed).contains i = true)
    (hQ : ∀ c a a' w, Q (.panic c) a w → Q (.panic c) a' w) (hy : ∀ w, S w → (execOp a.eval oi).run P w = .ok (.value v) w) (hS : S w)
    (h : wpAnyH P md ops Q S fuel (listed.setIfInBounds i true) (a.put (some d) v) w) : wpAnyH P md ops Q S (fuel + 1) listed a w :=
  wpAnyH_take hi hs hf hr (fun _ _ _ h => hQ _ _ _ _ h) (.inl ⟨by unfold Region.wanted; rw [hg], hy⟩) hS (by rw [hd]; exact h)
theorem op_move (a : Act) (w : World) (o : Oper) (x : Operand) (v : Value) (ho : o.op = .move x) (hx : a.eval x = v) : (execOp a.eval o).run P w = .ok (.value v) w := by
  unfold execOp
  rw [ho]
  simp only [hx]
  rfl
theorem op_extract (a : Act) (w : World) (o : Oper) (x : Operand) (k : Nat) (vs : Array Value) (v : Value) (ho : o.op = .extract x k) (hx : a.eval x = .tuple vs) (hv : vs[k]? = some v) : (execOp a.eval o).run P w = .ok (.value v) w := by
  unfold execOp
  rw [ho]
  simp only [hx]
  simp [hv, go_sem]
end
end Go.Proofs.YtempaadgheondabDoor
/- '.., m := attr.Decode(append(append([]byte{}, x...), y...))': the boxes of the two answers are made at any time. -/
namespace Go.Proofs.YtempaadgheondabDoor
open Go.RowKit
set_option maxRecDepth 100000

def zA : Array Value := #[.int .i64 0, .slice none 0 0, .int .u32 0, .int .i64 0, .int .i64 0, .slice none 0 0, .slice none 0 0]
def zN : Array Value := #[.int .i64 0, .int .i64 0, .slice none 0 0]
/-- What stands while the boxes A and N are made or not: the frame, all that was, the boxes. -/
structure Two (Ls : List Nat) (b : Act) (w0 : World) (dA dN : Nat) (A N : Option Nat) (a : Act) (W : World) : Prop where
  fr : Fr Ls b a
  over : Below w0.heap.size w0 W
  boxA : ∀ g, A = some g → a.tmps[dA]? = some (.pointer (some ⟨g, 0, none⟩)) ∧ w0.heap.size ≤ g ∧ W.heap[g]? = some (.cells zA 27 (0, 0))
  boxN : ∀ g, N = some g → a.tmps[dN]? = some (.pointer (some ⟨g, 0, none⟩)) ∧ w0.heap.size ≤ g ∧ W.heap[g]? = some (.cells zN 32 (0, 0))
section
variable {Ls : List Nat} {b a : Act} {w0 W W' : World} {dA dN : Nat} {A N : Option Nat}
theorem Two.put (h : Two Ls b w0 dA dN A N a W) {s : Nat} (hs : s ∈ Ls) (hA : s ≠ dA) (hN : s ≠ dN) (v : Value) : Two Ls b w0 dA dN A N (a.put (some s) v) W :=
  ⟨h.fr.put hs v, h.over, fun g e => by rw [slot_put v hA]; exact h.boxA g e, fun g e => by rw [slot_put v hN]; exact h.boxN g e⟩
theorem Two.keep (h : Two Ls b w0 dA dN A N a W) (hb : Below w0.heap.size W W') (hk : ∀ (X : Nat) c t, W.heap[X]? = some (.cells c t (0, 0)) → t ≠ 5 → W'.heap[X]? = W.heap[X]?) : Two Ls b w0 dA dN A N a W' :=
  ⟨h.fr, h.over.trans hb, fun g e => ⟨(h.boxA g e).1, (h.boxA g e).2.1, by rw [hk g _ _ (h.boxA g e).2.2 (by decide)]; exact (h.boxA g e).2.2⟩,
    fun g e => ⟨(h.boxN g e).1, (h.boxN g e).2.1, by rw [hk g _ _ (h.boxN g e).2.2 (by decide)]; exact (h.boxN g e).2.2⟩⟩
theorem Two.later (h : Two Ls b w0 dA dN A N a W) (hb : Below W.heap.size W W') : Two Ls b w0 dA dN A N a W' :=
  h.keep (hb.mono h.over.size) fun X _ _ hX _ => hb.block X (Array.getElem?_eq_some_iff.1 hX).1
theorem Two.makeA (h : Two Ls b w0 dA dN none N a W) (hA : dA ∈ Ls) (hne : dA ≠ dN) (hsz : dA < b.tmps.size) : Two Ls b w0 dA dN (some W.heap.size) N (a.put (some dA) (.pointer (some ⟨W.heap.size, 0, none⟩))) (W.alloc (.cells zA 27)) := by
  have h1 := h.later ((Below.refl _ W).alloc (Nat.le_refl _) (.cells zA 27))
  refine ⟨h.fr.put hA _, h1.over, fun g e => ?_, fun g e => by rw [slot_put _ hne]; exact h1.boxN g e⟩
  obtain rfl : W.heap.size = g := by simpa using e
  exact ⟨slot_same _ (by rw [h.fr.size]; exact hsz), h.over.size, heap_alloc_new _ _⟩
theorem Two.makeN (h : Two Ls b w0 dA dN A none a W) (hN : dN ∈ Ls) (hne : dN ≠ dA) (hsz : dN < b.tmps.size) : Two Ls b w0 dA dN A (some W.heap.size) (a.put (some dN) (.pointer (some ⟨W.heap.size, 0, none⟩))) (W.alloc (.cells zN 32)) := by
  have h1 := h.later ((Below.refl _ W).alloc (Nat.le_refl _) (.cells zN 32))
  refine ⟨h.fr.put hN _, h1.over, fun g e => by rw [slot_put _ hne]; exact h1.boxA g e, fun g e => ?_⟩
  obtain rfl : W.heap.size = g := by simpa using e
  exact ⟨slot_same _ (by rw [h.fr.size]; exact hsz), h.over.size, heap_alloc_new _ _⟩
end
/-- append, and all blocks that are not the row's own. -/
theorem app_keep {w : World} {B : Nat} {v : Value} {ys : List Nat} (zs : List Nat) (a : Option Addr) (c : Nat) (ho : w.ownsRow B 5 1 v ys.length (bcells ys)) (hB : B ≤ w.heap.size) (hl : ys.length + zs.length ≤ 500000) (h : BRd w a zs) :
    ∃ v' w', (Builtin.append_ #[28, 28] 28 #[v, .slice a zs.length c]).run Tryd.prog w = .ok v' w' ∧ w'.ownsRow B 5 1 v' (ys ++ zs).length (bcells (ys ++ zs)) ∧ Below B w w' ∧ ∀ (X : Nat) c t, w.heap[X]? = some (.cells c t (0, 0)) → t ≠ 5 → w'.heap[X]? = w.heap[X]? := by
  have ho2 := ho
  have other : ∀ (X : Nat) c t, w.heap[X]? = some (.cells c t (0, 0)) → t ≠ 5 → v.ownBlock ≠ some X := fun X c t hX ht e => by
    rcases ho.2 with ⟨e1, _⟩ | ⟨g', cap, cur, e1, _, hc, _⟩
    · rw [e1] at e; cases e
    · rw [e1] at e
      cases e
      rw [hX] at hc
      simp only [Option.some.injEq, Obj.cells.injEq] at hc
      exact ht hc.2.1
  cases a with
  | none =>
    have hz : zs = [] := by
      cases zs with
      | nil => rfl
      | cons z r => obtain ⟨b, off, e, _⟩ := h.1.2 (by simp); cases e
    subst hz
    rcases ho.2 with ⟨e, h0⟩ | ⟨g, cap, cur, e, _, _, hc, _⟩
    · subst e
      exact ⟨_, w, append_nn elemU8 w c, by rw [List.append_nil]; exact ho2, Below.refl _ _, fun _ _ _ _ _ => rfl⟩
    · subst e
      exact ⟨_, w, append_nil elemU8 w _ _ cap c hc, by rw [List.append_nil]; exact ho2, Below.refl _ _, fun _ _ _ _ _ => rfl⟩
  | some ad =>
    have hc : ∀ j x, (bcells zs)[j]? = some x → w.cell? (ad.add j) = some x := fun j x hx => by
      have hj : j < zs.length := by have := (List.getElem?_eq_some_iff.1 hx).1; rwa [bcells_length] at this
      obtain ⟨b, off, e, h5⟩ := h.1.2 (by omega)
      cases e
      rw [Addr.add_mid, h5 j hj, ← hx]
      simp [bcells, hj]
    obtain ⟨v', w', hr, h2, h3, h4, _⟩ := app_more elemU8 ho2 hB ad zs.length c (bcells zs) (by rw [bcells_length]; omega) hc (bcells_one _) (by omega)
    exact ⟨v', w', hr, by rw [bcells_app, List.length_append]; exact h2, h3, fun X c t hX ht => h4.block X (Array.getElem?_eq_some_iff.1 hX).1 (Ne.symm (other X c t hX ht))⟩
/-- A row of bytes is in no box. -/
theorem brd_box {w : World} {a : Option Addr} {bs : List Nat} {g : Nat} {c : Array Value} {t : TypeId} (h : BRd w a bs) (hg : w.heap[g]? = some (.cells c t (0, 0))) (hc : ∀ (j : Nat) x, c[j]? ≠ some (.int .u8 x)) (vs : List Value) (o : Nat) : BRd (w.setCells g o vs) a bs := by
  refine h.keeps ((Keeps.refl (fun k => k = g) w).setCells g o vs (.inl rfl)) fun x hx h0 e => ?_
  obtain ⟨b, off, e1, h5⟩ := h.1.2 h0
  rw [hx] at e1
  cases e1
  subst e
  have h6 := h5 0 h0
  simp only [World.cell?, hg] at h6
  exact hc _ _ h6
section
variable {a : Act} {w : World} {dst : Option Tmp} {ty : TypeId} {pos : String} {after : Array Edge} {K : Act → World → Prop} {Q : Exit → Act → World → Prop}
theorem run_build0 : (execOp a.eval { dst := dst, op := .buildSlice 28 0 #[], type := ty, pos := pos, after := after, guard := none }).run Tryd.prog w = .ok (.value (.slice (some ⟨w.heap.size, 0, none⟩) 0 0)) (w.alloc (.cells #[] 5)) := by
  unfold execOp
  simp [go_sem]
theorem run_allocA : (execOp a.eval { dst := dst, op := .alloc 27, type := ty, pos := pos, after := after, guard := none }).run Tryd.prog w = .ok (.value (.pointer (some ⟨w.heap.size, 0, none⟩))) (w.alloc (.cells zA 27)) := by
  unfold execOp
  simp [go_sem, zA]
theorem run_allocN : (execOp a.eval { dst := dst, op := .alloc 32, type := ty, pos := pos, after := after, guard := none }).run Tryd.prog w = .ok (.value (.pointer (some ⟨w.heap.size, 0, none⟩))) (w.alloc (.cells zN 32)) := by
  unfold execOp
  simp [go_sem, zN]
theorem run_dec (ρ : Operand → Value) (x : Operand) (v : Value) (hf : ρ (.func 7) = .func (.func 7) #[] #[]) (hx : ρ x = v) :
    (execOp ρ { dst := dst, op := .call { callee := .value (.func 7), args := #[x], argTypes := #[28] }, type := ty, pos := pos, after := after, guard := none }).run Tryd.prog w = .ok (.enter 7 #[v]) w := by
  unfold execOp
  simp [resolve, invoke, hf, hx, go_sem]
theorem call_dec (x : Operand) (v : Value) (hx : a.eval x = v) (h : Calls Tryd.prog 7 #[v] w fun e w' => ∃ u, e = .returned u ∧ K (a.put dst u) w') :
    Oper.wp Tryd.prog { dst := dst, op := .call { callee := .value (.func 7), args := #[x], argTypes := #[28] }, type := ty, pos := pos, after := after, guard := none } a w K Q := by
  unfold Oper.wp
  rw [run_dec a.eval x v rfl hx]
  refine Calls.mono h ?_
  rintro _ w' ⟨u, rfl, hk⟩
  exact hk
theorem wp_of_run {o : Oper} {v : Value} {w' : World} (hr : (execOp a.eval o).run Tryd.prog w = .ok (.value v) w') (h : K (a.put o.dst v) w') : Oper.wp Tryd.prog o a w K Q := by
  unfold Oper.wp
  rw [hr]
  exact h
end
/-- What stands behind the call. -/
structure Past (w0 : World) (R : World → Array Value → Array Value → World → Prop) (cA cN : Array Value) (Wc w1 : World) (A N : Option Nat) (W : World) : Prop where
  r : R Wc cA cN w1
  sA : cA.size = 7
  sN : cN.size = 3
  oA : cA.all (·.oneCell') = true
  oN : cN.all (·.oneCell') = true
  c0 : Below w0.heap.size w0 Wc
  c1 : Wc.heap.size ≤ w1.heap.size
  c2 : w1.heap.size ≤ W.heap.size
  blk : ∀ k, Wc.heap.size ≤ k → k < w1.heap.size → W.heap[k]? = w1.heap[k]?
  nA : ∀ g, A = some g → g < Wc.heap.size ∨ w1.heap.size ≤ g
  nN : ∀ g, N = some g → g < Wc.heap.size ∨ w1.heap.size ≤ g
theorem Past.later {w0 : World} {R : World → Array Value → Array Value → World → Prop} {cA cN : Array Value} {Wc w1 W W' : World} {A N : Option Nat} (h : Past w0 R cA cN Wc w1 A N W) (hb : Below W.heap.size W W') : Past w0 R cA cN Wc w1 A N W' :=
  ⟨h.r, h.sA, h.sN, h.oA, h.oN, h.c0, h.c1, Nat.le_trans h.c2 hb.size, fun k h1 h2 => by have := h.c2; rw [hb.block k (by omega)]; exact h.blk k h1 h2, h.nA, h.nN⟩
/-- The chain's states: nothing; the empty row; the first bytes; all of them; the call is done. -/
def J2 (Ls : List Nat) (b : Act) (w0 : World) (dA dN s0 s2 s5 s8 s9 : Nat) (xs ys : List Nat) (R : World → Array Value → Array Value → World → Prop) : Nat → Option Nat → Option Nat → Act → World → Prop
  | 0, A, N, a, W => Two Ls b w0 dA dN A N a W
  | 1, A, N, a, W => Two Ls b w0 dA dN A N a W ∧ ∃ v, a.tmps[s0]? = some v ∧ W.ownsRow w0.heap.size 5 1 v ([] : List Nat).length (bcells [])
  | 2, A, N, a, W => Two Ls b w0 dA dN A N a W ∧ ∃ v, a.tmps[s2]? = some v ∧ W.ownsRow w0.heap.size 5 1 v xs.length (bcells xs)
  | 3, A, N, a, W => Two Ls b w0 dA dN A N a W ∧ ∃ v, a.tmps[s5]? = some v ∧ W.ownsRow w0.heap.size 5 1 v (xs ++ ys).length (bcells (xs ++ ys))
  | _, A, N, a, W => Two Ls b w0 dA dN A N a W ∧ ∃ cA cN Wc w1, a.tmps[s8]? = some (.agg cA) ∧ a.tmps[s9]? = some (.agg cN) ∧ Past w0 R cA cN Wc w1 A N W
theorem J2.two {Ls : List Nat} {b : Act} {w0 : World} {dA dN s0 s2 s5 s8 s9 : Nat} {xs ys : List Nat} {R : World → Array Value → Array Value → World → Prop} : ∀ {k : Nat} {A N : Option Nat} {a : Act} {W : World}, J2 Ls b w0 dA dN s0 s2 s5 s8 s9 xs ys R k A N a W → Two Ls b w0 dA dN A N a W
  | 0, _, _, _, _, h => h
  | 1, _, _, _, _, h => h.1
  | 2, _, _, _, _, h => h.1
  | 3, _, _, _, _, h => h.1
  | _ + 4, _, _, _, _, h => h.1
/-- A box is made. -/
theorem J2.make {Ls : List Nat} {b : Act} {w0 : World} {dA dN s0 s2 s5 s8 s9 : Nat} {xs ys : List Nat} {R : World → Array Value → Array Value → World → Prop} {k : Nat} {A N A' N' : Option Nat} {a : Act} {W W' : World} {d : Nat} {v : Value} (h : J2 Ls b w0 dA dN s0 s2 s5 s8 s9 xs ys R k A N a W)
    (h2 : Two Ls b w0 dA dN A' N' (a.put (some d) v) W') (hb : Below W.heap.size W W') (hd : d ≠ s0 ∧ d ≠ s2 ∧ d ≠ s5 ∧ d ≠ s8 ∧ d ≠ s9) (hA : ∀ g, A' = some g → A = some g ∨ g = W.heap.size) (hN : ∀ g, N' = some g → N = some g ∨ g = W.heap.size) :
    J2 Ls b w0 dA dN s0 s2 s5 s8 s9 xs ys R k A' N' (a.put (some d) v) W' := by
  obtain ⟨d0, d2, d5, d8, d9⟩ := hd
  match k, h with
  | 0, _ => exact h2
  | 1, ⟨_, u, h3, h4⟩ => exact ⟨h2, u, by rw [slot_put v d0]; exact h3, own_later h4 hb⟩
  | 2, ⟨_, u, h3, h4⟩ => exact ⟨h2, u, by rw [slot_put v d2]; exact h3, own_later h4 hb⟩
  | 3, ⟨_, u, h3, h4⟩ => exact ⟨h2, u, by rw [slot_put v d5]; exact h3, own_later h4 hb⟩
  | _ + 4, ⟨_, cA, cN, Wc, w1, h3, h4, h5⟩ =>
    have h6 := h5.later hb
    refine ⟨h2, cA, cN, Wc, w1, by rw [slot_put v d8]; exact h3, by rw [slot_put v d9]; exact h4, h6.r, h6.sA, h6.sN, h6.oA, h6.oN, h6.c0, h6.c1, h6.c2, h6.blk, fun g e => ?_, fun g e => ?_⟩
    · rcases hA g e with e | rfl
      · exact h5.nA g e
      · exact .inr h5.c2
    · rcases hN g e with e | rfl
      · exact h5.nN g e
      · exact .inr h5.c2
def remA : Nat → Nat
  | 0 => 9
  | 1 => 8
  | 2 => 7
  | 3 => 6
  | _ => 2
def chainA (i0 i2 i5 i6 : Nat) : Nat → Nat
  | 0 => i0
  | 1 => i2
  | 2 => i5
  | _ => i6
theorem there_of {w : World} {g : Nat} {c : Array Value} {t : TypeId} (h : w.heap[g]? = some (.cells c t (0, 0))) (n : Nat) (hn : n ≤ c.size) : w.there g 0 n := fun j hj => by
  refine ⟨?_, ?_⟩
  · simp only [World.cell?, h, Nat.zero_add]
    rw [Array.getElem?_eq_getElem (by omega)]
    rfl
  · simp [World.frozen?, h]
theorem range_keep {w : World} {g g' : Nat} {cs vs : List Value} (h : w.rangeAt g 0 cs) (hne : g ≠ g') : (w.setCells g' 0 vs).rangeAt g 0 cs := World.rangeAt_setCells_apart h g' 0 vs (.inl hne)
section
variable {ops : Array Oper} {Q : Exit → Act → World → Prop}
set_option maxHeartbeats 1000000 in
theorem dec2_region (Ls : List Nat) (b : Act) (w0 W0 : World) (dA dN s0 sx s2 sy s5 s6 s7 s8 s9 i0 i2 i5 i6 i7 i8 i9 iA iN iS iT : Nat) (xs ys : List Nat) (ax ay : Option Addr) (cx cy : Nat) (R : World → Array Value → Array Value → World → Prop) (L : Nat → Bool → Bool → Array Bool)
    (hQ : ∀ c a a' w, Q (.panic c) a w → Q (.panic c) a' w)
    (o0 : ∃ ty po af, ops[i0]? = some { dst := some s0, op := .buildSlice 28 0 #[], type := ty, pos := po, after := af, guard := none })
    (o2 : ∃ po af, ops[i2]? = some { dst := some s2, op := .call { callee := .builtin .append, args := #[.tmp s0, .tmp sx], argTypes := #[28, 28] }, type := 28, pos := po, after := af, guard := none })
    (o5 : ∃ po af, ops[i5]? = some { dst := some s5, op := .call { callee := .builtin .append, args := #[.tmp s2, .tmp sy], argTypes := #[28, 28] }, type := 28, pos := po, after := af, guard := none })
    (o6 : ∃ ty po af, ops[i6]? = some { dst := some s6, op := .call { callee := .value (.func 7), args := #[.tmp s5], argTypes := #[28] }, type := ty, pos := po, after := af, guard := none })
    (o7 : ∃ ty po af, ops[i7]? = some { dst := some s7, op := .move (.tmp s6), type := ty, pos := po, after := af, guard := none })
    (o8 : ∃ ty po af, ops[i8]? = some { dst := some s8, op := .extract (.tmp s7) 0, type := ty, pos := po, after := af, guard := none })
    (o9 : ∃ ty po af, ops[i9]? = some { dst := some s9, op := .extract (.tmp s7) 1, type := ty, pos := po, after := af, guard := none })
    (oA : ∃ ty po af, ops[iA]? = some { dst := some dA, op := .alloc 27, type := ty, pos := po, after := af, guard := none })
    (oN : ∃ ty po af, ops[iN]? = some { dst := some dN, op := .alloc 32, type := ty, pos := po, after := af, guard := none })
    (oS : ∃ ty po af, ops[iS]? = some { dst := none, op := .store 27 (.tmp dA) (.tmp s8), type := ty, pos := po, after := af, guard := none })
    (oT : ∃ ty po af, ops[iT]? = some { dst := none, op := .store 32 (.tmp dN) (.tmp s9), type := ty, pos := po, after := af, guard := none })
    (hns : Region.noSelect ops = true)
    (hA : ∀ k N, k ≤ 4 → (L k false N).setIfInBounds iA true = L k true N) (hN : ∀ k A, k ≤ 4 → (L k A false).setIfInBounds iN true = L k A true)
    (hr : ∀ k A N, k < 4 → Region.ready .any ops (L k A N) = chainA i0 i2 i5 i6 k :: mayMake iA iN A N) (hrn : ∀ A N, (A && N) = false → Region.ready .any ops (L 4 A N) = mayMake iA iN A N)
    (hl0 : ∀ A N, (L 0 A N).setIfInBounds i0 true = L 1 A N) (hl1 : ∀ A N, (L 1 A N).setIfInBounds i2 true = L 2 A N) (hl2 : ∀ A N, (L 2 A N).setIfInBounds i5 true = L 3 A N)
    (t7 : ∀ A N, Region.free .any ops ((L 3 A N).setIfInBounds i6 true) i7 = true ∧ (Region.ready .any ops ((L 3 A N).setIfInBounds i6 true)).contains i7 = true)
    (t8 : ∀ A N, Region.free .any ops (((L 3 A N).setIfInBounds i6 true).setIfInBounds i7 true) i8 = true ∧ (Region.ready .any ops (((L 3 A N).setIfInBounds i6 true).setIfInBounds i7 true)).contains i8 = true)
    (t9 : ∀ A N, Region.free .any ops ((((L 3 A N).setIfInBounds i6 true).setIfInBounds i7 true).setIfInBounds i8 true) i9 = true ∧ (Region.ready .any ops ((((L 3 A N).setIfInBounds i6 true).setIfInBounds i7 true).setIfInBounds i8 true)).contains i9 = true)
    (hl3 : ∀ A N, ((((L 3 A N).setIfInBounds i6 true).setIfInBounds i7 true).setIfInBounds i8 true).setIfInBounds i9 true = L 4 A N)
    (hrS : Region.ready .any ops (L 4 true true) = [iS]) (hrT : Region.ready .any ops ((L 4 true true).setIfInBounds iS true) = [iT]) (hrE : Region.ready .any ops (((L 4 true true).setIfInBounds iS true).setIfInBounds iT true) = [])
    (hLs : Ls = [dA, dN, s0, s2, s5, s6, s7, s8, s9]) (hnd : Ls.Nodup) (hsz : ∀ s ∈ Ls, s < b.tmps.size)
    (hsx : sx ∉ Ls) (hsy : sy ∉ Ls) (hx : b.tmps[sx]? = some (.slice ax xs.length cx)) (hy : b.tmps[sy]? = some (.slice ay ys.length cy)) (rx : BRd w0 ax xs) (ry : BRd w0 ay ys) (hlen : xs.length + ys.length ≤ 500000)
    (hD : ∀ W v, Below w0.heap.size w0 W → W.ownsRow w0.heap.size 5 1 v (xs ++ ys).length (bcells (xs ++ ys)) → Calls Tryd.prog 7 #[v] W fun e w' => ∃ cA cN, e = .returned (.tuple #[.agg cA, .agg cN]) ∧ cA.size = 7 ∧ cN.size = 3 ∧ cA.all (·.oneCell') = true ∧ cN.all (·.oneCell') = true ∧ R W cA cN w' ∧ Below W.heap.size W w')
    (fin : ∀ gA gN cA cN Wc w1 W a, Fr Ls b a → a.tmps[dA]? = some (.pointer (some ⟨gA, 0, none⟩)) → a.tmps[dN]? = some (.pointer (some ⟨gN, 0, none⟩)) → R Wc cA cN w1 → Below w0.heap.size w0 Wc → Wc.heap.size ≤ w1.heap.size → w1.heap.size ≤ W.heap.size → (∀ k, Wc.heap.size ≤ k → k < w1.heap.size → W.heap[k]? = w1.heap[k]?) → Below w0.heap.size w0 W → w0.heap.size ≤ gA → w0.heap.size ≤ gN → W.rangeAt gA 0 cA.toList → W.rangeAt gN 0 cN.toList → Q .normal a W)
    (hW0 : Below w0.heap.size w0 W0) :
    wpAnyH Tryd.prog .any ops Q (fun W => Below w0.heap.size w0 W) 11 (L 0 false false) b W0 := by
  subst hLs
  have mem : ∀ {s : Nat}, s ∈ [dA, dN, s0, s2, s5, s6, s7, s8, s9] → s < b.tmps.size := fun h => hsz _ h
  simp only [List.nodup_cons, List.mem_cons, List.not_mem_nil, or_false, not_or] at hnd
  obtain ⟨⟨a1, a2, a3, a4, a5, a6, a7, a8⟩, ⟨b2, b3, b4, b5, b6, b7, b8⟩, ⟨c3, c4, c5, c6, c7, c8⟩, ⟨e4, e5, e6, e7, e8⟩, ⟨f5, f6, f7, f8⟩, ⟨g6, g7, g8⟩, ⟨h7, h8⟩, i8', _⟩ := hnd
  have key := float2 (P := Tryd.prog) (ops := ops) (Q := Q) (S := fun W => Below w0.heap.size w0 W) 4 iA iN (chainA i0 i2 i5 i6) remA L (J2 [dA, dN, s0, s2, s5, s6, s7, s8, s9] b w0 dA dN s0 s2 s5 s8 s9 xs ys R)
    (fun k A N a w h => h.two.over) hA hN hr hrn
    (fun k N a w hk h => by
      obtain ⟨ty, po, af, ho⟩ := oA
      refine op_plain ho rfl (wp_of_run run_allocA ⟨w.heap.size, ?_⟩)
      exact h.make (h.two.makeA (by simp) a1 (mem (by simp))) ((Below.refl _ w).alloc (Nat.le_refl _) _) ⟨a2, a3, a4, a7, a8⟩ (fun g e => .inr (by simpa using e.symm)) (fun g e => .inl e))
    (fun k A a w hk h => by
      obtain ⟨ty, po, af, ho⟩ := oN
      refine op_plain ho rfl (wp_of_run run_allocN ⟨w.heap.size, ?_⟩)
      exact h.make (h.two.makeN (by simp) (Ne.symm a1) (mem (by simp))) ((Below.refl _ w).alloc (Nat.le_refl _) _) ⟨b2, b3, b4, b7, b8⟩ (fun g e => .inl e) (fun g e => .inr (by simpa using e.symm)))
    ?_ (fun k hk => by match k, hk with | 0, _ => decide | 1, _ => decide | 2, _ => decide | 3, _ => decide) ?_
  · exact key 4 0 none none b W0 rfl ⟨Fr.refl _ _, hW0, fun _ e => by (cases e), fun _ e => by (cases e)⟩
  · -- the chain
    intro k A N a w hk h go
    match k, hk, h, go with
    | 0, _, h, go =>
      obtain ⟨ty, po, af, ho⟩ := o0
      have hT : Two _ _ _ _ _ _ _ _ _ := h
      refine op_plain ho rfl (wp_of_run run_build0 ?_)
      have hb : Below w.heap.size w (w.alloc (.cells #[] 5)) := (Below.refl _ w).alloc (Nat.le_refl _) _
      have h1 := (hT.later hb).put (s := s0) (by simp) (Ne.symm a2) (Ne.symm b2) (.slice (some ⟨w.heap.size, 0, none⟩) 0 0)
      have := go _ _ ⟨h1, _, slot_same _ (by rw [hT.fr.size]; exact mem (by simp)), own_base (own_empty w) hT.over.size⟩
      rw [← hl0] at this
      have ef : remA 0 + toMake A N - 1 = remA (0 + 1) + toMake A N := by show 9 + toMake A N - 1 = 8 + toMake A N; omega
      rw [ef]
      exact ⟨h1.over, this⟩
    | 1, _, h, go =>
      obtain ⟨po, af, ho⟩ := o2
      obtain ⟨hT, v, hv, hw⟩ := h
      obtain ⟨v', w', hrun, h2, h3, h4⟩ := app_keep xs ax cx hw hT.over.size (by simp; omega) (rx.below hT.over)
      refine op_plain ho rfl (kept_append_intro (w' := w') (.tmp s0) (.tmp sx) v (.slice ax xs.length cx) v' (slot_eval hv) (slot_eval (hT.fr.slot hsx hx)) hrun ?_)
      have h5 := (hT.keep h3 h4).put (s := s2) (by simp) (Ne.symm a3) (Ne.symm b3) v'
      have := go _ _ ⟨h5, _, slot_same _ (by rw [hT.fr.size]; exact mem (by simp)), h2⟩
      rw [← hl1] at this
      have ef : remA 1 + toMake A N - 1 = remA (1 + 1) + toMake A N := by show 8 + toMake A N - 1 = 7 + toMake A N; omega
      rw [ef]
      exact ⟨h5.over, this⟩
    | 2, _, h, go =>
      obtain ⟨po, af, ho⟩ := o5
      obtain ⟨hT, v, hv, hw⟩ := h
      obtain ⟨v', w', hrun, h2, h3, h4⟩ := app_keep ys ay cy hw hT.over.size hlen (ry.below hT.over)
      refine op_plain ho rfl (kept_append_intro (w' := w') (.tmp s2) (.tmp sy) v (.slice ay ys.length cy) v' (slot_eval hv) (slot_eval (hT.fr.slot hsy hy)) hrun ?_)
      have h5 := (hT.keep h3 h4).put (s := s5) (by simp) (Ne.symm a4) (Ne.symm b4) v'
      have := go _ _ ⟨h5, _, slot_same _ (by rw [hT.fr.size]; exact mem (by simp)), h2⟩
      rw [← hl2] at this
      have ef : remA 2 + toMake A N - 1 = remA (2 + 1) + toMake A N := by show 7 + toMake A N - 1 = 6 + toMake A N; omega
      rw [ef]
      exact ⟨h5.over, this⟩
    | 3, _, h, go =>
      obtain ⟨ty, po, af, ho⟩ := o6
      obtain ⟨hT, v, hv, hw⟩ := h
      refine op_plain ho rfl (call_dec (.tmp s5) v (slot_eval hv) ((hD w v hT.over hw).mono ?_))
      rintro _ w' ⟨cA, cN, rfl, z1, z2, z3, z4, z5, hb⟩
      refine ⟨_, rfl, hT.over.trans (hb.mono hT.over.size), ?_⟩
      have hT' := hT.later hb
      have q6 := hT'.put (s := s6) (by simp) (Ne.symm a5) (Ne.symm b5) (.tuple #[.agg cA, .agg cN])
      have q7 := q6.put (s := s7) (by simp) (Ne.symm a6) (Ne.symm b6) (.tuple #[.agg cA, .agg cN])
      have q8 := q7.put (s := s8) (by simp) (Ne.symm a7) (Ne.symm b7) (.agg cA)
      have q9 := q8.put (s := s9) (by simp) (Ne.symm a8) (Ne.symm b8) (.agg cN)
      have e6 : (a.put (some s6) (.tuple #[.agg cA, .agg cN])).tmps[s6]? = some (.tuple #[.agg cA, .agg cN]) := slot_same _ (by rw [hT.fr.size]; exact mem (by simp))
      have e7 : ((a.put (some s6) (.tuple #[.agg cA, .agg cN])).put (some s7) (.tuple #[.agg cA, .agg cN])).tmps[s7]? = some (.tuple #[.agg cA, .agg cN]) := slot_same _ (by rw [q6.fr.size]; exact mem (by simp))
      have e8 : (((a.put (some s6) (.tuple #[.agg cA, .agg cN])).put (some s7) (.tuple #[.agg cA, .agg cN])).put (some s8) (.agg cA)).tmps[s8]? = some (.agg cA) := slot_same _ (by rw [q7.fr.size]; exact mem (by simp))
      have fin4 := go _ _ ⟨q9, cA, cN, w, w', by rw [slot_put _ (Ne.symm i8')]; exact e8, slot_same _ (by rw [q8.fr.size]; exact mem (by simp)), z5, z1, z2, z3, z4, hT.over, hb.size, Nat.le_refl _, fun _ _ _ => rfl,
        fun g e => .inl (Array.getElem?_eq_some_iff.1 (hT.boxA g e).2.2).1, fun g e => .inl (Array.getElem?_eq_some_iff.1 (hT.boxN g e).2.2).1⟩
      have ef : remA 3 + toMake A N - 1 = (remA 4 + toMake A N) + 1 + 1 + 1 := by show 6 + toMake A N - 1 = 2 + toMake A N + 1 + 1 + 1; omega
      have ec : chainA i0 i2 i5 i6 3 = i6 := rfl
      rw [ef, ec]
      obtain ⟨ty7, po7, af7, ho7⟩ := o7
      obtain ⟨ty8, po8, af8, ho8⟩ := o8
      obtain ⟨ty9, po9, af9, ho9⟩ := o9
      refine take_slot ho7 rfl rfl hns (t7 _ _).1 (t7 _ _).2 hQ (fun w _ => op_move _ w _ _ _ rfl (slot_eval e6)) q6.over ?_
      refine take_slot ho8 rfl rfl hns (t8 _ _).1 (t8 _ _).2 hQ (fun w _ => op_extract _ w _ _ _ _ _ rfl (slot_eval e7) rfl) q7.over ?_
      refine take_slot ho9 rfl rfl hns (t9 _ _).1 (t9 _ _).2 hQ (fun w _ => op_extract _ w _ _ _ _ _ rfl (slot_eval (by rw [slot_put _ (Ne.symm h7)]; exact e7)) rfl) q8.over ?_
      rw [hl3]
      exact fin4
  · -- the stores
    intro gA gN a w h
    obtain ⟨hT, cA, cN, Wc, w1, h8, h9, hP⟩ := h
    obtain ⟨tyS, poS, afS, hoS⟩ := oS
    obtain ⟨tyT, poT, afT, hoT⟩ := oT
    obtain ⟨pA, lA, bA⟩ := hT.boxA gA rfl
    obtain ⟨pN, lN, bN⟩ := hT.boxN gN rfl
    have hne : gN ≠ gA := fun e => by
      subst e
      rw [bA] at bN
      simp at bN
    have kA : Keeps (fun k => k = gA ∨ k = gN) w (w.setCells gA 0 cA.toList) := (Keeps.refl _ w).setCells gA 0 _ (.inl (.inl rfl))
    have kN : Keeps (fun k => k = gA ∨ k = gN) w ((w.setCells gA 0 cA.toList).setCells gN 0 cN.toList) := kA.setCells gN 0 _ (.inl (.inr rfl))
    have oA : Below w0.heap.size w0 (w.setCells gA 0 cA.toList) := hT.over.trans (kA.below _ hT.over.size (fun k e => by rcases e with rfl | rfl <;> assumption))
    have oN : Below w0.heap.size w0 ((w.setCells gA 0 cA.toList).setCells gN 0 cN.toList) := hT.over.trans (kN.below _ hT.over.size (fun k e => by rcases e with rfl | rfl <;> assumption))
    have thA : w.there gA 0 cA.size := there_of bA _ (by rw [hP.sA]; decide)
    have thN : (w.setCells gA 0 cA.toList).there gN 0 cN.size := World.there_setCells (there_of bN _ (by rw [hP.sN]; decide)) _ _ _
    have infA : (Tryd.prog.info? 27).map (·.size) = some cA.size := by rw [hP.sA]; kernel_rfl
    have infN : (Tryd.prog.info? 32).map (·.size) = some cN.size := by rw [hP.sN]; kernel_rfl
    have r2 : remA 4 = 0 + 1 + 1 := rfl
    rw [r2]
    refine wpAnyH_all hrS (by simp) fun i hi => ?_
    obtain rfl : i = iS := by simpa using hi
    refine op_plain hoS rfl ?_
    unfold Oper.wp execOp
    simp only [slot_eval pA, slot_eval h8, Sem.run_bind, run_storeAt_mid w gA 0 27 cA thA infA hP.oA, Result.andThen_ok, Sem.run_pure]
    refine ⟨oA, ?_⟩
    refine wpAnyH_all hrT (by simp) fun i hi => ?_
    obtain rfl : i = iT := by simpa using hi
    refine op_plain hoT rfl ?_
    unfold Oper.wp execOp
    have e1 : (a.put none undef).eval (.tmp dN) = .pointer (some ⟨gN, 0, none⟩) := slot_eval pN
    have e2 : (a.put none undef).eval (.tmp s9) = .agg cN := slot_eval h9
    simp only [e1, e2, Sem.run_bind, run_storeAt_mid (w.setCells gA 0 cA.toList) gN 0 32 cN thN infN hP.oN, Result.andThen_ok, Sem.run_pure]
    refine ⟨oN, ?_⟩
    refine wpAnyH_done hrE ?_ _
    refine fin gA gN cA cN Wc w1 _ _ hT.fr pA pN hP.r hP.c0 hP.c1 (Nat.le_trans hP.c2 kN.size) (fun k k1 k2 => ?_) oN lA lN ?_ ?_
    · have := hP.c2
      rw [kN.block k (by omega) (fun e => ?_)]
      · exact hP.blk k k1 k2
      · rcases e with rfl | rfl
        · have := hP.nA _ rfl; omega
        · have := hP.nN _ rfl; omega
    · exact range_keep (World.rangeAt_setCells_same w gA 0 cA.toList (by simpa using thA)) (Ne.symm hne)
    · exact World.rangeAt_setCells_same _ gN 0 cN.toList (by simpa using thN)
end
/-- The same, from the region's beginning; the frame laid out behind it. -/
theorem Fr.lay9 {t0 t1 t2 t3 t4 t5 t6 t7 t8 : Nat} {b a : Act} (h : Fr [t0, t1, t2, t3, t4, t5, t6, t7, t8] b a) (hsz : ∀ s ∈ [t0, t1, t2, t3, t4, t5, t6, t7, t8], s < b.tmps.size) {v0 v1 : Value} (h0 : a.tmps[t0]? = some v0) (h1 : a.tmps[t1]? = some v1) :
    ∃ x2 x3 x4 x5 x6 x7 x8, a = ((((((((b.put (some t0) v0).put (some t1) v1).put (some t2) x2).put (some t3) x3).put (some t4) x4).put (some t5) x5).put (some t6) x6).put (some t7) x7).put (some t8) x8 := by
  have get : ∀ t, t ∈ [t0, t1, t2, t3, t4, t5, t6, t7, t8] → ∃ x, a.tmps[t]? = some x := fun t ht => ⟨_, Array.getElem?_eq_getElem (by rw [h.size]; exact hsz t ht)⟩
  obtain ⟨x2, h2⟩ := get t2 (by simp)
  obtain ⟨x3, h3⟩ := get t3 (by simp)
  obtain ⟨x4, h4⟩ := get t4 (by simp)
  obtain ⟨x5, h5⟩ := get t5 (by simp)
  obtain ⟨x6, h6⟩ := get t6 (by simp)
  obtain ⟨x7, h7⟩ := get t7 (by simp)
  obtain ⟨x8, h8⟩ := get t8 (by simp)
  refine ⟨x2, x3, x4, x5, x6, x7, x8, Fr.eq (b := b) (l := [(t0, v0), (t1, v1), (t2, x2), (t3, x3), (t4, x4), (t5, x5), (t6, x6), (t7, x7), (t8, x8)]) (c := b) rfl h.defers h.size h.out fun p hp => ?_⟩
  simp only [List.mem_cons, List.not_mem_nil, or_false] at hp
  rcases hp with rfl | rfl | rfl | rfl | rfl | rfl | rfl | rfl | rfl <;> assumption
end Go.Proofs.YtempaadgheondabDoor
