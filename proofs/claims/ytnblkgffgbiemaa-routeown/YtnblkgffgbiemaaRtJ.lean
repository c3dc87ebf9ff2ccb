/- 'a, b := route.Own(r), route.Own(r)': the boxes of both are made at any time. -/
import Derived.Test.YtnblkgffgbiemaaWRouteSame
import Derived.Test.YtnblkgffgbiemaaOrd
import Derived.Test.YtnblkgffgbiemaaGrid
namespace Go.Proofs.Ytnblkgffgbiemaa
open Go.RowKit
set_option maxRecDepth 100000

/-- All blocks of w1 that are no route's box are so in w. -/
def TB (w1 w : World) : Prop := ∀ (k : Nat) cur t, w1.heap[k]? = some (.cells cur t (0, 0)) → t ≠ 31 → w.heap[k]? = w1.heap[k]?
theorem TB.refl (w : World) : TB w w := fun _ _ _ _ _ => rfl
theorem TB.below {w1 w w' : World} (h : TB w1 w) (hb : Below w.heap.size w w') : TB w1 w' := fun k cur t hk ht => by
  have h1 := h k cur t hk ht
  rw [hb.block k (by rw [hk] at h1; exact (Array.getElem?_eq_some_iff.1 h1).1), h1]
theorem TB.puts {w1 w : World} {Y : Nat} {C0 : Array Value} (h : TB w1 w) (hY : Bl w Y C0) (vs : List Value) : TB w1 (w.setCells Y 0 vs) := fun k cur t hk ht => by
  have h1 := h k cur t hk ht
  rw [heap_setCells Y vs 0 w k (fun e => ?_), h1]
  subst e
  unfold Bl at hY
  rw [hk, hY] at h1
  injection h1 with h1
  injection h1 with _ h9 _
  exact ht h9.symm
theorem OwnAt.tb {w1 w : World} {B : Nat} {pa : Option Addr} {pc : Nat} {ca : Option Addr} {cc : Nat} {ra : Option Addr} {rc : Nat} {a : At} (h : OwnAt w1 B pa pc ca cc ra rc a) (ht : TB w1 w) : OwnAt w B pa pc ca cc ra rc a := by
  have hc : ∀ (e size n : Nat) (u : Value) (ys : List Value), e ≠ 31 → w1.ownsRow B e size u n ys → w.ownsRow B e size u n ys := fun e size n u ys hne hu => by
    refine ⟨hu.1, ?_⟩
    rcases hu.2 with hh | ⟨g, cap, cur, e1, hg, hcur, rest⟩
    · exact .inl hh
    · exact .inr ⟨g, cap, cur, e1, hg, by rw [ht g cur e hcur hne]; exact hcur, rest⟩
  obtain ⟨h1, h2, h3⟩ := h
  refine ⟨?_, hc _ _ _ _ _ (by decide) h2, ?_⟩
  · obtain ⟨cs, q1, q2⟩ := h1
    refine ⟨cs, hc _ _ _ _ _ (by decide) q1, fun i s hi => ?_⟩
    obtain ⟨p1, u, p2, p3⟩ := q2 i s hi
    exact ⟨p1, u, p2, hc _ _ _ _ _ (by decide) p3⟩
  · obtain ⟨cs, q1, q2⟩ := h3
    refine ⟨cs, hc _ _ _ _ _ (by decide) q1, fun i s hi => ?_⟩
    obtain ⟨p0, p1, u, p2, p3⟩ := q2 i s hi
    exact ⟨p0, p1, u, p2, hc _ _ _ _ _ (by decide) p3⟩
section
variable {a : Act} {w : World} {dst : Option Tmp} {ty : TypeId} {pos : String} {after : Array Edge} {K : Act → World → Prop} {Q : Exit → Act → World → Prop}
theorem run_ownc (ρ : Operand → Value) (x : Operand) (v : Value) (hf : ρ (.func 17) = .func (.func 17) #[] #[]) (hx : ρ x = v) :
    (execOp ρ { dst := dst, op := .call { callee := .value (.func 17), args := #[x], argTypes := #[31] }, type := ty, pos := pos, after := after, guard := none }).run Try.prog w = .ok (.enter 17 #[v]) w := by
  unfold execOp
  simp [resolve, invoke, hf, hx, go_sem]
theorem call_own (x : Operand) (v : Value) (hx : a.eval x = v) (h : Calls Try.prog 17 #[v] w fun e w' => ∃ u, e = .returned u ∧ K (a.put dst u) w') :
    Oper.wp Try.prog { dst := dst, op := .call { callee := .value (.func 17), args := #[x], argTypes := #[31] }, type := ty, pos := pos, after := after, guard := none } a w K Q := by
  unfold Oper.wp
  rw [run_ownc a.eval x v rfl hx]
  refine Calls.mono h ?_
  rintro _ w' ⟨u, rfl, hk⟩
  exact hk
end
/-- What stands while the boxes are made or not. -/
structure RJ (b : Act) (w0 : World) (C : Array Value) (A N : Option Nat) (a : Act) (W : World) : Prop where
  fr : Fr [3, 4, 14, 15, 16, 17] b a
  s14 : a.tmps[14]? = some (.agg C)
  s16 : a.tmps[16]? = some (.agg C)
  over : Below w0.heap.size w0 W
  boxA : ∀ g, A = some g → a.tmps[3]? = some (.pointer (some ⟨g, 0, none⟩)) ∧ w0.heap.size ≤ g ∧ Bl W g zR
  boxN : ∀ g, N = some g → a.tmps[4]? = some (.pointer (some ⟨g, 0, none⟩)) ∧ w0.heap.size ≤ g ∧ Bl W g zR
  apart : ∀ g h, A = some g → N = some h → g ≠ h
section
variable {b a : Act} {w0 W W' : World} {C : Array Value} {A N : Option Nat}
theorem RJ.later (h : RJ b w0 C A N a W) (hb : Below W.heap.size W W') : RJ b w0 C A N a W' :=
  ⟨h.fr, h.s14, h.s16, h.over.trans (hb.mono h.over.size), fun g e => ⟨(h.boxA g e).1, (h.boxA g e).2.1, (h.boxA g e).2.2.below hb⟩, fun g e => ⟨(h.boxN g e).1, (h.boxN g e).2.1, (h.boxN g e).2.2.below hb⟩, h.apart⟩
theorem RJ.put (h : RJ b w0 C A N a W) (s : Nat) (hs : s = 15 ∨ s = 17) (v : Value) : RJ b w0 C A N (a.put (some s) v) W :=
  ⟨h.fr.put (by rcases hs with rfl | rfl <;> simp) v, by rw [slot_put v (by omega)]; exact h.s14, by rw [slot_put v (by omega)]; exact h.s16, h.over, fun g e => ⟨by rw [slot_put v (by omega)]; exact (h.boxA g e).1, (h.boxA g e).2⟩, fun g e => ⟨by rw [slot_put v (by omega)]; exact (h.boxN g e).1, (h.boxN g e).2⟩, h.apart⟩
theorem RJ.makeA (h : RJ b w0 C none N a W) (hz : b.tmps.size = 104) : RJ b w0 C (some W.heap.size) N (a.put (some 3) (.pointer (some ⟨W.heap.size, 0, none⟩))) (W.alloc (.cells zR 31)) := by
  have h1 := h.later ((Below.refl _ W).alloc (Nat.le_refl _) (.cells zR 31))
  refine ⟨h.fr.put (by simp) _, by rw [slot_put _ (by omega)]; exact h.s14, by rw [slot_put _ (by omega)]; exact h.s16, h1.over, fun g e => ?_, fun g e => ⟨by rw [slot_put _ (by omega)]; exact (h1.boxN g e).1, (h1.boxN g e).2⟩, fun g k e1 e2 => ?_⟩
  · obtain rfl : W.heap.size = g := by simpa using e
    exact ⟨slot_same _ (by rw [h.fr.size, hz]; omega), h.over.size, Bl.new _ _⟩
  · obtain rfl : W.heap.size = g := by simpa using e1
    have := (h.boxN k e2).2.2.lt
    omega
theorem RJ.makeN (h : RJ b w0 C A none a W) (hz : b.tmps.size = 104) : RJ b w0 C A (some W.heap.size) (a.put (some 4) (.pointer (some ⟨W.heap.size, 0, none⟩))) (W.alloc (.cells zR 31)) := by
  have h1 := h.later ((Below.refl _ W).alloc (Nat.le_refl _) (.cells zR 31))
  refine ⟨h.fr.put (by simp) _, by rw [slot_put _ (by omega)]; exact h.s14, by rw [slot_put _ (by omega)]; exact h.s16, h1.over, fun g e => ⟨by rw [slot_put _ (by omega)]; exact (h1.boxA g e).1, (h1.boxA g e).2⟩, fun g e => ?_, fun g k e1 e2 => ?_⟩
  · obtain rfl : W.heap.size = g := by simpa using e
    exact ⟨slot_same _ (by rw [h.fr.size, hz]; omega), h.over.size, Bl.new _ _⟩
  · obtain rfl : W.heap.size = k := by simpa using e2
    have := (h.boxA g e1).2.2.lt
    omega
end
/-- A copy: its slot, and its memory, new since B, all there in w1. -/
def Cpy (s : Nat) (r : Rt) (B : Nat) (w1 : World) (a : Act) (W : World) (pa : Option Addr) (pc : Nat) (ca : Option Addr) (cc : Nat) (ra : Option Addr) (rc : Nat) : Prop :=
  a.tmps[s]? = some (.agg (rtC pa pc ca cc ra rc r)) ∧ OwnAt w1 B pa pc ca cc ra rc r.att ∧ TB w1 W ∧ w1.heap.size ≤ W.heap.size
theorem Cpy.later {s : Nat} {r : Rt} {B : Nat} {w1 : World} {a : Act} {W W' : World} {pa : Option Addr} {pc : Nat} {ca : Option Addr} {cc : Nat} {ra : Option Addr} {rc : Nat} (h : Cpy s r B w1 a W pa pc ca cc ra rc) (hb : Below W.heap.size W W') : Cpy s r B w1 a W' pa pc ca cc ra rc :=
  ⟨h.1, h.2.1, h.2.2.1.below hb, Nat.le_trans h.2.2.2 hb.size⟩
theorem Cpy.put {s : Nat} {r : Rt} {B : Nat} {w1 : World} {a : Act} {W : World} {pa : Option Addr} {pc : Nat} {ca : Option Addr} {cc : Nat} {ra : Option Addr} {rc : Nat} (h : Cpy s r B w1 a W pa pc ca cc ra rc) (t : Nat) (ht : t ≠ s) (v : Value) : Cpy s r B w1 (a.put (some t) v) W pa pc ca cc ra rc :=
  ⟨by rw [slot_put v ht]; exact h.1, h.2⟩
def J3 (b : Act) (w0 : World) (C : Array Value) (r : Rt) : Nat → Option Nat → Option Nat → Act → World → Prop
  | 0, A, N, a, W => RJ b w0 C A N a W
  | 1, A, N, a, W => RJ b w0 C A N a W ∧ ∃ w1 pa pc ca cc ra rc, Cpy 15 r w0.heap.size w1 a W pa pc ca cc ra rc
  | _, A, N, a, W => RJ b w0 C A N a W ∧ ∃ w1 pa pc ca cc ra rc, Cpy 15 r w0.heap.size w1 a W pa pc ca cc ra rc ∧ ∃ B2 w2 pa2 pc2 ca2 cc2 ra2 rc2, w1.heap.size ≤ B2 ∧ Cpy 17 r B2 w2 a W pa2 pc2 ca2 cc2 ra2 rc2
theorem J3.base {b : Act} {w0 : World} {C : Array Value} {r : Rt} : ∀ {k : Nat} {A N : Option Nat} {a : Act} {W : World}, J3 b w0 C r k A N a W → RJ b w0 C A N a W
  | 0, _, _, _, _, h => h
  | 1, _, _, _, _, h => h.1
  | _ + 2, _, _, _, _, h => h.1
theorem J3.make {b : Act} {w0 : World} {C : Array Value} {r : Rt} {A' N' : Option Nat} {t : Nat} {v : Value} {W' : World} (ht : t = 3 ∨ t = 4) : ∀ {k : Nat} {A N : Option Nat} {a : Act} {W : World}, J3 b w0 C r k A N a W → RJ b w0 C A' N' (a.put (some t) v) W' → Below W.heap.size W W' → J3 b w0 C r k A' N' (a.put (some t) v) W'
  | 0, _, _, _, _, _, h, _ => h
  | 1, _, _, _, _, h, h1, hb => by
    obtain ⟨_, w1, pa, pc, ca, cc, ra, rc, h2⟩ := h
    exact ⟨h1, w1, pa, pc, ca, cc, ra, rc, (h2.later hb).put t (by omega) v⟩
  | _ + 2, _, _, _, _, h, h1, hb => by
    obtain ⟨_, w1, pa, pc, ca, cc, ra, rc, h2, B2, w2, pa2, pc2, ca2, cc2, ra2, rc2, hB, h3⟩ := h
    exact ⟨h1, w1, pa, pc, ca, cc, ra, rc, (h2.later hb).put t (by omega) v, B2, w2, pa2, pc2, ca2, cc2, ra2, rc2, hB, (h3.later hb).put t (by omega) v⟩
def chain3 (k : Nat) : Nat := if k = 0 then 1 else 3
def L3 (k : Nat) (A N : Bool) : Array Bool := #[true, decide (1 ≤ k), true, decide (2 ≤ k), A, N, false, false]
section
variable {ops : Array Oper} {Q : Exit → Act → World → Prop}
set_option maxHeartbeats 800000 in
theorem own_chain (b : Act) (w0 W0 : World) (r : Rt) (pa : Option Addr) (pc : Nat) (ca : Option Addr) (cc : Nat) (ra : Option Addr) (rc : Nat) (X : Nat)
    (o1 : ∃ ty po af, ops[1]? = some { dst := some 15, op := .call { callee := .value (.func 17), args := #[.tmp 14], argTypes := #[31] }, type := ty, pos := po, after := af, guard := none })
    (o3 : ∃ ty po af, ops[3]? = some { dst := some 17, op := .call { callee := .value (.func 17), args := #[.tmp 16], argTypes := #[31] }, type := ty, pos := po, after := af, guard := none })
    (o4 : ∃ ty po af, ops[4]? = some { dst := some 3, op := .alloc 31, type := ty, pos := po, after := af, guard := none })
    (o5 : ∃ ty po af, ops[5]? = some { dst := some 4, op := .alloc 31, type := ty, pos := po, after := af, guard := none })
    (o6 : ∃ ty po af, ops[6]? = some { dst := none, op := .store 31 (.tmp 3) (.tmp 15), type := ty, pos := po, after := af, guard := none })
    (o7 : ∃ ty po af, ops[7]? = some { dst := none, op := .store 31 (.tmp 4) (.tmp 17), type := ty, pos := po, after := af, guard := none })
    (hr0 : ∀ A N, Region.ready .any ops (L3 0 A N) = 1 :: mayMake 4 5 A N) (hr1 : ∀ A N, Region.ready .any ops (L3 1 A N) = 3 :: mayMake 4 5 A N) (hrn : ∀ A N, (A && N) = false → Region.ready .any ops (L3 2 A N) = mayMake 4 5 A N)
    (hr6 : Region.ready .any ops (L3 2 true true) = [6]) (hr7 : Region.ready .any ops ((L3 2 true true).setIfInBounds 6 true) = [7]) (hrE : Region.ready .any ops (((L3 2 true true).setIfInBounds 6 true).setIfInBounds 7 true) = [])
    (hz : b.tmps.size = 104) (hX : Bl w0 X (rtC pa pc ca cc ra rc r)) (hR : AtRd w0 pa ca ra r.att) (hl : sizeA r.att ≤ 100000)
    (fin : ∀ gA gN a W w1 pa1 pc1 ca1 cc1 ra1 rc1 B2 w2 pa2 pc2 ca2 cc2 ra2 rc2, Fr [3, 4, 14, 15, 16, 17] b a → a.tmps[3]? = some (.pointer (some ⟨gA, 0, none⟩)) → a.tmps[4]? = some (.pointer (some ⟨gN, 0, none⟩)) → a.tmps[14]? = some (.agg (rtC pa pc ca cc ra rc r)) → a.tmps[15]? = some (.agg (rtC pa1 pc1 ca1 cc1 ra1 rc1 r)) → a.tmps[16]? = some (.agg (rtC pa pc ca cc ra rc r)) → a.tmps[17]? = some (.agg (rtC pa2 pc2 ca2 cc2 ra2 rc2 r)) →
      w0.heap.size ≤ gA → w0.heap.size ≤ gN → Bl W gA (rtC pa1 pc1 ca1 cc1 ra1 rc1 r) → Bl W gN (rtC pa2 pc2 ca2 cc2 ra2 rc2 r) → OwnAt w1 w0.heap.size pa1 pc1 ca1 cc1 ra1 rc1 r.att → TB w1 W → w1.heap.size ≤ B2 → OwnAt w2 B2 pa2 pc2 ca2 cc2 ra2 rc2 r.att → TB w2 W → Below w0.heap.size w0 W → Q .normal a W)
    (hb : RJ b w0 (rtC pa pc ca cc ra rc r) none none b W0) :
    wpAnyH Try.prog .any ops Q (fun W => Bl W X (rtC pa pc ca cc ra rc r)) 6 (L3 0 false false) b W0 := by
  have key := float2 (P := Try.prog) (ops := ops) (Q := Q) (S := fun W => Bl W X (rtC pa pc ca cc ra rc r)) 2 4 5 chain3 (fun k => 4 - k) L3 (J3 b w0 (rtC pa pc ca cc ra rc r) r)
    (fun k A N a w h => hX.below h.base.over) (fun k N hk => rfl) (fun k A hk => rfl)
    (fun k A N hk => by match k, hk with | 0, _ => exact hr0 A N | 1, _ => exact hr1 A N) hrn
    (fun k N a w hk h => by
      obtain ⟨ty, po, af, ho⟩ := o4
      refine op_plain ho rfl (kept_alloc_intro _ (run_allocR w) ⟨w.heap.size, ?_⟩)
      exact h.make (.inl rfl) (h.base.makeA hz) ((Below.refl _ w).alloc (Nat.le_refl _) _))
    (fun k A a w hk h => by
      obtain ⟨ty, po, af, ho⟩ := o5
      refine op_plain ho rfl (kept_alloc_intro _ (run_allocR w) ⟨w.heap.size, ?_⟩)
      exact h.make (.inr rfl) (h.base.makeN hz) ((Below.refl _ w).alloc (Nat.le_refl _) _))
    ?_ (fun k hk => by show 0 < 4 - k; omega) ?_
  · exact key 2 0 none none b W0 rfl hb
  · intro k A N a w hk h go
    rcases (show k = 0 ∨ k = 1 by omega) with rfl | rfl
    · obtain ⟨ty, po, af, ho⟩ := o1
      have hT : RJ _ _ _ _ _ _ _ := h
      refine op_plain ho rfl (call_own (.tmp 14) _ (slot_eval hT.s14) ?_)
      refine (own_any pa pc ca cc ra rc r w hl (hR.below hT.over)).mono ?_
      rintro e w1 ⟨⟨pa1, pc1, ca1, cc1, ra1, rc1, rfl, ho1⟩, hb1⟩
      refine ⟨_, rfl, ?_⟩
      have h1 := (hT.later hb1).put 15 (.inl rfl) (rtV pa1 pc1 ca1 cc1 ra1 rc1 r)
      have := go _ _ ⟨h1, w1, pa1, pc1, ca1, cc1, ra1, rc1, slot_same _ (by rw [hT.fr.size, hz]; omega), ho1.base hT.over.size, TB.refl _, Nat.le_refl _⟩
      have ef : (fun k => 4 - k) 0 + toMake A N - 1 = (fun k => 4 - k) (0 + 1) + toMake A N := by show 4 + toMake A N - 1 = 3 + toMake A N; omega
      rw [ef]
      exact ⟨hX.below h1.over, this⟩
    · obtain ⟨ty, po, af, ho⟩ := o3
      obtain ⟨hT, w1, pa1, pc1, ca1, cc1, ra1, rc1, hc1⟩ := h
      refine op_plain ho rfl (call_own (.tmp 16) _ (slot_eval hT.s16) ?_)
      refine (own_any pa pc ca cc ra rc r w hl (hR.below hT.over)).mono ?_
      rintro e w2 ⟨⟨pa2, pc2, ca2, cc2, ra2, rc2, rfl, ho2⟩, hb2⟩
      refine ⟨_, rfl, ?_⟩
      have h1 := (hT.later hb2).put 17 (.inr rfl) (rtV pa2 pc2 ca2 cc2 ra2 rc2 r)
      have := go _ _ ⟨h1, w1, pa1, pc1, ca1, cc1, ra1, rc1, (hc1.later hb2).put 17 (by omega) _, w.heap.size, w2, pa2, pc2, ca2, cc2, ra2, rc2, hc1.2.2.2, slot_same _ (by rw [hT.fr.size, hz]; omega), ho2, TB.refl _, Nat.le_refl _⟩
      have ef : (fun k => 4 - k) 1 + toMake A N - 1 = (fun k => 4 - k) (1 + 1) + toMake A N := by show 3 + toMake A N - 1 = 2 + toMake A N; omega
      rw [ef]
      exact ⟨hX.below h1.over, this⟩
  · intro gA gN a w h
    obtain ⟨hT, w1, pa1, pc1, ca1, cc1, ra1, rc1, hc1, B2, w2, pa2, pc2, ca2, cc2, ra2, rc2, hB2, hc2⟩ := h
    obtain ⟨p3, gA1, bA⟩ := hT.boxA gA rfl
    obtain ⟨p4, gN1, bN⟩ := hT.boxN gN rfl
    have hne := hT.apart gA gN rfl rfl
    show wpAnyH Try.prog .any ops Q _ (1 + 1) (L3 2 true true) a w
    refine wpAnyH_all hr6 (by simp) fun i hi => ?_
    obtain rfl : i = 6 := by simpa using hi
    obtain ⟨ty6, po6, af6, ho6⟩ := o6
    refine op_plain ho6 rfl (kept_store_intro _ _ _ (.agg (rtC pa1 pc1 ca1 cc1 ra1 rc1 r)) (slot_eval p3) (slot_eval hc1.1) (run_storeR bA rfl (RC.rt _ _ _ _ _ _ _)) ?_)
    have over6 := below_puts hT.over gA1 (rtC pa1 pc1 ca1 cc1 ra1 rc1 r).toList
    refine ⟨hX.below over6, ?_⟩
    refine wpAnyH_all hr7 (by simp) fun i hi => ?_
    obtain rfl : i = 7 := by simpa using hi
    obtain ⟨ty7, po7, af7, ho7⟩ := o7
    have bN6 : Bl (w.setCells gA 0 (rtC pa1 pc1 ca1 cc1 ra1 rc1 r).toList) gN zR := bN.apart (Ne.symm hne)
    have bA6 : Bl (w.setCells gA 0 (rtC pa1 pc1 ca1 cc1 ra1 rc1 r).toList) gA (rtC pa1 pc1 ca1 cc1 ra1 rc1 r) := bA.put rfl
    refine op_plain ho7 rfl (kept_store_intro _ _ _ (.agg (rtC pa2 pc2 ca2 cc2 ra2 rc2 r)) (slot_eval p4) (slot_eval hc2.1) (run_storeR bN6 rfl (RC.rt _ _ _ _ _ _ _)) ?_)
    have over7 := below_puts over6 gN1 (rtC pa2 pc2 ca2 cc2 ra2 rc2 r).toList
    refine ⟨hX.below over7, hrE, ?_⟩
    exact fin gA gN a _ w1 pa1 pc1 ca1 cc1 ra1 rc1 B2 w2 pa2 pc2 ca2 cc2 ra2 rc2 hT.fr p3 p4 hT.s14 hc1.1 hT.s16 hc2.1 gA1 gN1 (bA6.apart hne) (bN6.put rfl) hc1.2.1 ((hc1.2.2.1.puts bA _).puts bN6 _) hB2 hc2.2.1 ((hc2.2.2.1.puts bA _).puts bN6 _) over7
end
end Go.Proofs.Ytnblkgffgbiemaa
