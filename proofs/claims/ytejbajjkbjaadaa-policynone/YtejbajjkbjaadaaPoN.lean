/- PolicyNone's rules, and its region that draws. -/
import Derived.Test.YtejbajjkbjaadaaPoG
import Derived.Test.YtejbajjkbjaadaaTpT
namespace Go.Proofs.Ytejbajjkbjaadaa
open Go.RowKit
set_option maxRecDepth 100000

/-- The rules of 255.0.0.0/32 alone. -/
def noneL (pf : Int) : Nat → List Rul
  | 0 => []
  | k + 1 => noneL pf k ++ [⟨4278190080, 32, 0, 32, (((k : Nat) : Int) % 2 == 0), pf⟩]
theorem noneL_length (pf : Int) (k : Nat) : (noneL pf k).length = k := by
  induction k with
  | zero => rfl
  | succ k ih => simp [noneL, ih]
theorem noneL_mem (pf : Int) (k : Nat) : ∀ r ∈ noneL pf k, r.A = 4278190080 ∧ r.L = 32 := by
  induction k with
  | zero => intro r hr; simp [noneL] at hr
  | succ k ih =>
    intro r hr
    rcases List.mem_append.1 hr with h | h
    · exact ih r h
    · simp at h; subst h; exact ⟨rfl, rfl⟩
theorem cov_none {A : Nat} {L : Int} (h : ¬ (A = 4278190080 ∧ L = 32)) : covB 4278190080 32 A L = false := by
  cases hc : covB 4278190080 32 A L with
  | false => rfl
  | true =>
    exfalso
    unfold covB at hc
    simp only [Bool.and_eq_true, decide_eq_true_eq] at hc
    obtain ⟨⟨⟨_, h2⟩, h3⟩, h4⟩ := hc
    obtain ⟨n, rfl, hn, h5⟩ := rightB_len h2
    have e : n = 32 := by omega
    subst e
    rw [show ((32 : Int)).toNat = 32 from rfl, cutTo_all] at h4
    exact h ⟨h4, rfl⟩
theorem apply_noneL {A : Nat} {L : Int} (h : ¬ (A = 4278190080 ∧ L = 32)) (pf : Int) (k : Nat) : applyR (noneL pf k) A L = (-1, true) :=
  applyR_none fun i r hr => by
    obtain ⟨e1, e2⟩ := noneL_mem pf k r (List.mem_iff_getElem?.2 ⟨i, hr⟩)
    unfold spk
    rw [e1, e2, cov_none h]
    rfl
theorem apply_deny {A : Nat} {L : Int} (h : ¬ (A = 4278190080 ∧ L = 32)) (hr : rightB A L = true) (hA : A < 4294967296) (pf : Int) (k : Nat) : applyR (noneL pf k ++ [⟨0, 0, 0, 32, true, 0⟩]) A L = (0, false) := by
  have hs : spk A L ⟨0, 0, 0, 32, true, 0⟩ = true := by
    obtain ⟨n, rfl, hn, h5⟩ := rightB_len hr
    have hc : covB 0 0 A n = true := by
      have := covB_both (A := 0) (n := 0) (B := A) (M := n) (by decide) hr (by omega)
      rw [cutTo_none A hA] at this
      simpa using this
    unfold spk ftB
    rw [hc, decide_eq_true (show (0 : Int) ≤ (n : Int) by omega), decide_eq_true (show (n : Int) ≤ 32 by omega)]
    rfl
  refine (applyR_some (k := k) (r := ⟨0, 0, 0, 32, true, 0⟩) (by rw [List.getElem?_append_right (by rw [noneL_length]; exact Nat.le_refl _), noneL_length]; simp) hs fun i r hi hir => ?_).trans rfl
  rw [List.getElem?_append_left (by rw [noneL_length]; exact hi)] at hir
  obtain ⟨e1, e2⟩ := noneL_mem pf k r (List.mem_iff_getElem?.2 ⟨i, hir⟩)
  unfold spk
  rw [e1, e2, cov_none h]
  rfl
/-- What stands while the rules are laid. -/
structure NSt (w wq : World) (A : Nat) (L pf : Int) (v : Value) (k : Nat) : Prop where
  o : wq.ownsRow (w.heap.size + 1) 32 6 v k (rcells (noneL pf k))
  b : Below w.heap.size w wq
  z : w.heap.size + 1 ≤ wq.heap.size
  p0 : wq.cell? ⟨w.heap.size, 0, none⟩ = some (.int .u32 (A : Int))
  p1 : wq.cell? ⟨w.heap.size, 1, none⟩ = some (.int .i64 L)
theorem NSt.rules {w wq : World} {A k : Nat} {L pf : Int} {v : Value} (h : NSt w wq A L pf v k) : ∃ a c, v = .slice a k c ∧ RulesIn wq a (noneL pf k) :=
  rules_own h.o (noneL_length pf k) fun r hr => by rw [(noneL_mem pf k r hr).1]; omega
theorem NSt.more {w wq : World} {A k : Nat} {L pf : Int} {v : Value} {b : Bool} (h : NSt w wq A L pf v k) (hb : b = (((k : Nat) : Int) % 2 == 0)) (hk : k < 16) :
    ∃ v' w', (Builtin.append_ #[22, 22] 22 #[v, .slice (some ⟨wq.heap.size, 0, none⟩) 1 1]).run Try.prog (wq.alloc (.cells #[.int .u32 4278190080, .int .i64 32, .int .i64 0, .int .i64 32, .bool b, .int .i64 pf] 32)) = .ok v' w' ∧ NSt w w' A L pf v' (k + 1) := by
  subst hb
  obtain ⟨v', w', hr, ho, hb⟩ := app_new elemRule h.o h.z 1 [.int .u32 4278190080, .int .i64 32, .int .i64 0, .int .i64 32, .bool (((k : Nat) : Int) % 2 == 0), .int .i64 pf] rfl (by simp [Value.oneCell']) (by omega) wq.heap.size rfl
  refine ⟨v', w', hr, ⟨?_, h.b.trans (hb.mono (by omega)), Nat.le_trans h.z hb.size, ?_, ?_⟩⟩
  · rw [show noneL pf (k + 1) = noneL pf k ++ [⟨4278190080, 32, 0, 32, (((k : Nat) : Int) % 2 == 0), pf⟩] from rfl, rcells_app]
    exact ho
  · rw [hb.cell (p := ⟨w.heap.size, 0, none⟩) (Nat.lt_succ_self _)]; exact h.p0
  · rw [hb.cell (p := ⟨w.heap.size, 1, none⟩) (Nat.lt_succ_self _)]; exact h.p1
def denyR : Rul := ⟨0, 0, 0, 32, true, 0⟩
section
variable {a : Act} {w : World} {dst : Option Tmp} {ty : TypeId} {pos : String} {after : Array Edge} {K : Act → World → Prop} {Q : Exit → Act → World → Prop}
theorem wp_rules0 (h : K (a.put dst (.slice (some ⟨w.heap.size, 0, none⟩) 0 0)) (w.alloc (.cells #[] 32))) : Oper.wp Try.prog { dst := dst, op := .buildSlice 22 0 #[], type := ty, pos := pos, after := after, guard := none } a w K Q := by
  have hr : (execOp a.eval { dst := dst, op := .buildSlice 22 0 #[], type := ty, pos := pos, after := after, guard := none }).run Try.prog w = .ok (.value (.slice (some ⟨w.heap.size, 0, none⟩) 0 0)) (w.alloc (.cells #[] 32)) := by
    unfold execOp
    simp [go_sem]
  unfold Oper.wp
  rw [hr]
  exact h
theorem wp_rules1 (x : Nat) (r : Rul) (hx : a.tmps[x]? = some (ruleV r)) (h : K (a.put dst (.slice (some ⟨w.heap.size, 0, none⟩) 1 1)) (w.alloc (.cells #[.int .u32 (r.A : Int), .int .i64 r.L, .int .i64 r.mn, .int .i64 r.mx, .bool r.d, .int .i64 r.pf] 32))) : Oper.wp Try.prog { dst := dst, op := .buildSlice 22 1 #[(0, .tmp x)], type := ty, pos := pos, after := after, guard := none } a w K Q := by
  have hr : (execOp a.eval { dst := dst, op := .buildSlice 22 1 #[(0, .tmp x)], type := ty, pos := pos, after := after, guard := none }).run Try.prog w = .ok (.value (.slice (some ⟨w.heap.size, 0, none⟩) 1 1)) (w.alloc (.cells #[.int .u32 (r.A : Int), .int .i64 r.L, .int .i64 r.mn, .int .i64 r.mx, .bool r.d, .int .i64 r.pf] 32)) := by
    unfold execOp
    simp [hx, go_sem, ruleV]
  unfold Oper.wp
  rw [hr]
  exact h
end
/-- The rules behind none: what append makes of it, wherever the empty row lies. -/
theorem app_all {w1 : World} {B g k c : Nat} {a : Option Addr} {l : List Rul} (ho : w1.ownsRow B 32 6 (.slice (some ⟨g, 0, none⟩) 0 0) 0 []) (hB : B ≤ w1.heap.size) (hl : l.length = k) (h : RulesIn w1 a l) (hk : k < 16) :
    ∃ v' w', (Builtin.append_ #[22, 22] 22 #[.slice (some ⟨g, 0, none⟩) 0 0, .slice a k c]).run Try.prog w1 = .ok v' w' ∧ w'.ownsRow B 32 6 v' k (rcells l) ∧ Below B w1 w' ∧ w1.grownBy w' (some g) := by
  have key : ∀ ad, a = some ad → (∀ j u, (rcells l)[j]? = some u → w1.cell? (ad.add j) = some u) → ∃ v' w', (Builtin.append_ #[22, 22] 22 #[.slice (some ⟨g, 0, none⟩) 0 0, .slice a k c]).run Try.prog w1 = .ok v' w' ∧ w'.ownsRow B 32 6 v' k (rcells l) ∧ Below B w1 w' ∧ w1.grownBy w' (some g) := fun ad e hc => by
    subst e
    obtain ⟨v', w', h1, h2, h3, h4, _⟩ := app_more elemRule ho hB ad k c (rcells l) (by rw [rcells_length, hl]) hc (rcells_one l) (by omega)
    exact ⟨v', w', h1, by simpa using h2, h3, h4⟩
  rcases h with h | ⟨g', o', e, h⟩
  · subst h
    simp at hl
    subst hl
    cases a with
    | none => exact ⟨_, _, append_nothing elemRule w1 _ 0 0 c (Nat.le_refl _), ho, Below.refl _ _, World.grownBy.refl _ _⟩
    | some ad => exact key ad rfl (fun j u hu => by simp [rcells] at hu)
  · exact key _ e (fun j u hu => by rw [Addr.add_mid]; exact cells_of_rd l o' h j u hu)
set_option maxHeartbeats 800000 in
theorem deny_orders {ops : Array Oper} {Q : Exit → Act → World → Prop} {L0 Lf : Array Bool} {f : Nat} (b : Act) (w0 W0 : World) (k c : Nat) (a : Option Addr) (l : List Rul) (hl : l.length = k) (hk : k < 16) (hri : RulesIn w0 a l)
    (o0 : ∃ po af, ops[0]? = some { dst := some 36, op := .buildSlice 22 0 #[], type := 22, pos := po, after := af, guard := none })
    (o2 : ∃ po af, ops[2]? = some { dst := some 38, op := .call { callee := .builtin .append, args := #[.tmp 36, .tmp 37], argTypes := #[22, 22] }, type := 22, pos := po, after := af, guard := none })
    (o4 : ∃ po af, ops[4]? = some { dst := some 40, op := .buildSlice 22 1 #[(0, .tmp 39)], type := 22, pos := po, after := af, guard := none })
    (r0 : Region.ready .any ops L0 = [0, 4]) (r4 : Region.ready .any ops (L0.setIfInBounds 4 true) = [0]) (r40 : Region.ready .any ops ((L0.setIfInBounds 4 true).setIfInBounds 0 true) = [2])
    (r1 : Region.ready .any ops (L0.setIfInBounds 0 true) = [2, 4]) (r14 : Region.ready .any ops ((L0.setIfInBounds 0 true).setIfInBounds 4 true) = [2]) (r12 : Region.ready .any ops ((L0.setIfInBounds 0 true).setIfInBounds 2 true) = [4])
    (eA : ((L0.setIfInBounds 4 true).setIfInBounds 0 true).setIfInBounds 2 true = Lf) (eB : ((L0.setIfInBounds 0 true).setIfInBounds 4 true).setIfInBounds 2 true = Lf) (eC : ((L0.setIfInBounds 0 true).setIfInBounds 2 true).setIfInBounds 4 true = Lf)
    (hsz : b.tmps.size = 67) (s37 : b.tmps[37]? = some (.slice a k c)) (s39 : b.tmps[39]? = some (ruleV denyR))
    (hW0 : Below w0.heap.size w0 W0)
    (fin : ∀ W x v h, Below w0.heap.size w0 W → W.ownsRow w0.heap.size 32 6 v k (rcells l) → RulAt W h 0 denyR → wpAnyH Try.prog .any ops Q (fun W => Below w0.heap.size w0 W) f Lf (((b.put (some 36) x).put (some 38) v).put (some 40) (.slice (some ⟨h, 0, none⟩) 1 1)) W) :
    wpAnyH Try.prog .any ops Q (fun W => Below w0.heap.size w0 W) (f + 3) L0 b W0 := by
  obtain ⟨p0, f0, h0⟩ := o0
  obtain ⟨p2, f2, h2⟩ := o2
  obtain ⟨p4, f4, h4⟩ := o4
  have hs0 := hW0.size
  refine wpAnyH_all r0 (by simp) fun i hi => ?_
  have hi2 : i = 0 ∨ i = 4 := by simpa using hi
  rcases hi2 with rfl | rfl
  · refine op_plain h0 rfl (wp_rules0 ?_)
    have b1 : Below w0.heap.size w0 (W0.alloc (.cells #[] 32)) := hW0.alloc hs0 _
    have ho := own_laid W0 w0.heap.size 32 6 #[] 0 hs0 rfl (by omega)
    refine ⟨b1, ?_⟩
    refine wpAnyH_all r1 (by simp) fun i hi => ?_
    have hi2 : i = 2 ∨ i = 4 := by simpa using hi
    rcases hi2 with rfl | rfl
    · obtain ⟨v', w', hr, ho', hb', _⟩ := app_all (c := c) ho b1.size hl (hri.below b1 (Nat.le_refl _)) hk
      refine op_plain h2 rfl (opwp_append _ _ _ _ _ (slot_eval (slot_same _ (by rw [hsz]; decide))) (slot_eval (by rw [slot_put _ (by decide)]; exact s37)) hr ?_)
      have b2 := b1.trans hb'
      refine ⟨b2, ?_⟩
      refine wpAnyH_all r12 (by simp) fun i hi => ?_
      obtain rfl : i = 4 := by simpa using hi
      refine op_plain h4 rfl (wp_rules1 39 denyR (by rw [slot_put _ (by decide), slot_put _ (by decide)]; exact s39) ?_)
      have b3 := b2.alloc b2.size (.cells #[.int .u32 (denyR.A : Int), .int .i64 denyR.L, .int .i64 denyR.mn, .int .i64 denyR.mx, .bool denyR.d, .int .i64 denyR.pf] 32)
      refine ⟨b3, ?_⟩
      rw [eC]
      exact fin _ _ _ _ b3 (ho'.alloc _) (box_rule w' denyR 32)
    · refine op_plain h4 rfl (wp_rules1 39 denyR (by rw [slot_put _ (by decide)]; exact s39) ?_)
      have b2 := b1.alloc b1.size (.cells #[.int .u32 (denyR.A : Int), .int .i64 denyR.L, .int .i64 denyR.mn, .int .i64 denyR.mx, .bool denyR.d, .int .i64 denyR.pf] 32)
      refine ⟨b2, ?_⟩
      refine wpAnyH_all r14 (by simp) fun i hi => ?_
      obtain rfl : i = 2 := by simpa using hi
      obtain ⟨v', w', hr, ho', hb', hg'⟩ := app_all (c := c) (ho.alloc _) b2.size hl (hri.below b2 (Nat.le_refl _)) hk
      refine op_plain h2 rfl (opwp_append _ _ _ _ _ (slot_eval (by rw [slot_put _ (by decide)]; exact slot_same _ (by rw [hsz]; decide))) (slot_eval (by rw [slot_put _ (by decide), slot_put _ (by decide)]; exact s37)) hr ?_)
      have b3 := b2.trans hb'
      refine ⟨b3, ?_⟩
      rw [eB, put_comm (b.put (some 36) _) _ v' (by decide)]
      have R := box_rule (W0.alloc (.cells #[] 32)) denyR 32
      have hne : (W0.alloc (.cells #[] 32)).heap.size ≠ W0.heap.size := by simp
      have kb := hg'.block (W0.alloc (.cells #[] 32)).heap.size R.lt (fun e => hne (Option.some.inj e))
      exact fin _ _ _ _ b3 ho' ⟨by rw [World.cell?_of_block kb]; exact R.c0, by rw [World.cell?_of_block kb]; exact R.c1, by rw [World.cell?_of_block kb]; exact R.c2, by rw [World.cell?_of_block kb]; exact R.c3, by rw [World.cell?_of_block kb]; exact R.c4, by rw [World.cell?_of_block kb]; exact R.c5⟩
  · refine op_plain h4 rfl (wp_rules1 39 denyR s39 ?_)
    have b1 := hW0.alloc hs0 (.cells #[.int .u32 (denyR.A : Int), .int .i64 denyR.L, .int .i64 denyR.mn, .int .i64 denyR.mx, .bool denyR.d, .int .i64 denyR.pf] 32)
    have R := box_rule W0 denyR 32
    refine ⟨b1, ?_⟩
    refine wpAnyH_all r4 (by simp) fun i hi => ?_
    obtain rfl : i = 0 := by simpa using hi
    refine op_plain h0 rfl (wp_rules0 ?_)
    have b2 := b1.alloc b1.size (.cells #[] 32)
    refine ⟨b2, ?_⟩
    refine wpAnyH_all r40 (by simp) fun i hi => ?_
    obtain rfl : i = 2 := by simpa using hi
    have ho := own_laid (W0.alloc (.cells #[.int .u32 (denyR.A : Int), .int .i64 denyR.L, .int .i64 denyR.mn, .int .i64 denyR.mx, .bool denyR.d, .int .i64 denyR.pf] 32)) w0.heap.size 32 6 #[] 0 b1.size rfl (by omega)
    obtain ⟨v', w', hr, ho', hb', hg'⟩ := app_all (c := c) ho b2.size hl (hri.below b2 (Nat.le_refl _)) hk
    refine op_plain h2 rfl (opwp_append _ _ _ _ _ (slot_eval (slot_same _ (by simp [Act.put, hsz]))) (slot_eval (by rw [slot_put _ (by decide), slot_put _ (by decide)]; exact s37)) hr ?_)
    have b3 := b2.trans hb'
    refine ⟨b3, ?_⟩
    rw [eA, put_comm b _ _ (show (40 : Nat) ≠ 36 by decide), put_comm (b.put (some 36) _) _ v' (show (40 : Nat) ≠ 38 by decide)]
    have R2 := R.below ((Below.refl _ _).alloc (Nat.le_refl _) (.cells #[] 32)) (Nat.le_refl _)
    have hne : W0.heap.size ≠ (W0.alloc (.cells #[.int .u32 (denyR.A : Int), .int .i64 denyR.L, .int .i64 denyR.mn, .int .i64 denyR.mx, .bool denyR.d, .int .i64 denyR.pf] 32)).heap.size := by simp
    have kb := hg'.block W0.heap.size R2.lt (fun e => hne (Option.some.inj e))
    exact fin _ _ _ _ b3 ho' ⟨by rw [World.cell?_of_block kb]; exact R2.c0, by rw [World.cell?_of_block kb]; exact R2.c1, by rw [World.cell?_of_block kb]; exact R2.c2, by rw [World.cell?_of_block kb]; exact R2.c3, by rw [World.cell?_of_block kb]; exact R2.c4, by rw [World.cell?_of_block kb]; exact R2.c5⟩
end Go.Proofs.Ytejbajjkbjaadaa
