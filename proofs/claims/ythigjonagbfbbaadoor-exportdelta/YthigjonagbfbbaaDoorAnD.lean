/- A region that draws its order in which something is read that a later operation (d) turns: what is read stands till d has come up. Nothing of the program is named here. -/
import Derived.Test.YthigjonagbfbbaaDoorKBb
namespace Go.Proofs.YthigjonagbfbbaaDoor
open Go.RowKit
set_option maxRecDepth 100000

section
variable {P : Program} {ops : Array Oper} {Q : Exit → Act → World → Prop} {S : World → Prop} {md : Region.Mode} {d : Nat}
/-- Whatever order is picked from here on, and S holds behind every operation that is carried out ahead of d. -/
def wpAnyD (P : Program) (md : Region.Mode) (ops : Array Oper) (Q : Exit → Act → World → Prop) (S : World → Prop) (d : Nat) : Nat → Array Bool → Act → World → Prop
  | 0, listed, a, w => Region.ready md ops listed = [] ∧ Q .normal a w
  | fuel + 1, listed, a, w =>
    (Region.ready md ops listed = [] → Q .normal a w) ∧
    ∀ i ∈ Region.ready md ops listed, wpOp P ops Q i (fun a' w' => (((listed.setIfInBounds i true).getD d false = false → S w') ∧ wpAnyD P md ops Q S d fuel (listed.setIfInBounds i true) a' w')) a w
theorem wpAny_of_D : ∀ (fuel : Nat) (listed : Array Bool) (a : Act) (w : World), wpAnyD P md ops Q S d fuel listed a w → wpAny P md ops Q fuel listed a w
  | 0, _, _, _, h => h
  | fuel + 1, _, _, _, h => ⟨h.1, fun i hi => wpOp_mono (fun a' w' h' => wpAny_of_D fuel _ a' w' h'.2) (h.2 i hi)⟩
theorem getD_other {l : Array Bool} {i k : Nat} (h : i ≠ k) : (l.setIfInBounds i true).getD k false = l.getD k false := by
  simp [Array.getD_eq_getD_getElem?, Array.getElem?_setIfInBounds_ne h]
/-- An operation that d waits for may be taken first, if it yields its value in every world that meets S. -/
theorem wpAnyD_first {i : Nat} {oi : Oper} {v : Value} (hi : ops[i]? = some oi) (hsel : ∀ (j : Nat) (o : Oper) cs b, ops[j]? = some o → o.op ≠ .select cs b)
    (hQ : ∀ c a w, Q (.panic c) (a.put oi.dst v) w → Q (.panic c) a w) (hd : ∀ od, ops[d]? = some od → ∃ e ∈ od.after, Region.binds md e = true ∧ e.on = i) (hid : i ≠ d) :
    ∀ (fuel : Nat) (listed : Array Bool) (a : Act) (w : World),
      (∀ j oj, ops[j]? = some oj → j ≠ i → listed.getD j true = false → (∀ e ∈ oj.after, Region.binds md e = true → e.on ≠ i) → oi.apart ops oj = true) →
      i ∈ Region.ready md ops listed → YieldsIf P ops S oi v a → S w → listed.getD d false = false →
      wpAnyD P md ops Q S d fuel (listed.setIfInBounds i true) (a.put oi.dst v) w → wpAnyD P md ops Q S d (fuel + 1) listed a w := by
  intro fuel
  induction fuel with
  | zero =>
    intro listed a w _ hr hy hS _ H
    refine ⟨fun h => (by rw [h] at hr; cases hr), fun j hj => ?_⟩
    by_cases hji : j = i
    · subst hji; exact hy.wpOp hi hS ⟨fun _ => hS, H⟩
    · have := ready_mono hj hji
      rw [H.1] at this
      cases this
  | succ fuel ih =>
    intro listed a w hfree hr hy hS hdl H
    refine ⟨fun h => (by rw [h] at hr; cases hr), fun j hj => ?_⟩
    by_cases hji : j = i
    · subst hji; exact hy.wpOp hi hS ⟨fun _ => hS, H⟩
    · have h1 := H.2 j (ready_mono hj hji)
      obtain ⟨hjun, oj, hoj, hall⟩ := mem_ready.1 hj
      have hnot : ∀ e ∈ oj.after, Region.binds md e = true → e.on ≠ i := fun e he hb heq => by
        have h1 := hall e he hb
        have h0 := (mem_ready.1 hr).1
        rw [heq] at h1
        rcases Nat.lt_or_ge i listed.size with h' | h'
        · simp [h'] at h0 h1; rw [h0] at h1; cases h1
        · simp [Array.getElem?_eq_none h'] at h1
      have hjd : j ≠ d := fun e => by
        subst e
        obtain ⟨e, he, hb, heq⟩ := hd oj hoj
        exact hnot e he hb heq
      have h2 := wpOp_putIf hoj (hfree j oj hoj hji hjun hnot) (fun cs b => hsel i oi cs b hi) (fun cs b => hsel j oj cs b hoj) hQ hy h1
      have hfree' : ∀ k ok, ops[k]? = some ok → k ≠ i → (listed.setIfInBounds j true).getD k true = false →
          (∀ e ∈ ok.after, Region.binds md e = true → e.on ≠ i) → oi.apart ops ok = true := fun k ok hk hki hun hno => by
        refine hfree k ok hk hki ?_ hno
        by_cases hjk : j = k
        · subst hjk; exact hjun
        · rw [getD_set_ne true hjk] at hun; exact hun
      have hdl2 : (listed.setIfInBounds j true).getD d false = false := by rw [getD_other hjd]; exact hdl
      refine wpOp_mono (fun a' w' h3 => ?_) h2
      have hS' : S w' := h3.2.1 (by rw [getD_other hjd, getD_other hid]; exact hdl)
      refine ⟨fun _ => hS', ih (listed.setIfInBounds j true) a' w' hfree' (ready_mono hr (Ne.symm hji)) h3.1 hS' hdl2 ?_⟩
      rw [Array.setIfInBounds_comm _ _ hji]
      exact h3.2.2
theorem wpAnyD_take {i : Nat} {oi : Oper} {v : Value} {fuel : Nat} {listed : Array Bool} {a : Act} {w : World} (hi : ops[i]? = some oi)
    (hs : Region.noSelect ops = true) (hf : Region.free md ops listed i = true) (hr : (Region.ready md ops listed).contains i = true)
    (hQ : ∀ c a w, Q (.panic c) (a.put oi.dst v) w → Q (.panic c) a w) (hd : ∀ od, ops[d]? = some od → ∃ e ∈ od.after, Region.binds md e = true ∧ e.on = i) (hid : i ≠ d) (hy : YieldsIf P ops S oi v a) (hS : S w) (hdl : listed.getD d false = false)
    (h : wpAnyD P md ops Q S d fuel (listed.setIfInBounds i true) (a.put oi.dst v) w) : wpAnyD P md ops Q S d (fuel + 1) listed a w :=
  wpAnyD_first hi (Region.noSelect_spec hs) hQ hd hid fuel listed a w (Region.free_spec hi hf) (by simpa using hr) hy hS hdl h
theorem wpAnyD_all {rs : List Nat} {fuel : Nat} {listed : Array Bool} {a : Act} {w : World} (hr : Region.ready md ops listed = rs) (hne : rs ≠ [])
    (h : ∀ i ∈ rs, wpOp P ops Q i (fun a' w' => (((listed.setIfInBounds i true).getD d false = false → S w') ∧ wpAnyD P md ops Q S d fuel (listed.setIfInBounds i true) a' w')) a w) : wpAnyD P md ops Q S d (fuel + 1) listed a w :=
  ⟨fun h0 => absurd (hr ▸ h0) hne, hr ▸ h⟩
theorem wpAnyD_one {i : Nat} {fuel : Nat} {listed : Array Bool} {a : Act} {w : World} (hr : Region.ready md ops listed = [i])
    (h : wpOp P ops Q i (fun a' w' => (((listed.setIfInBounds i true).getD d false = false → S w') ∧ wpAnyD P md ops Q S d fuel (listed.setIfInBounds i true) a' w')) a w) : wpAnyD P md ops Q S d (fuel + 1) listed a w :=
  wpAnyD_all hr (by simp) fun j hj => by
    obtain rfl : j = i := by simpa using hj
    exact h
theorem wpAnyD_done {listed : Array Bool} {a : Act} {w : World} (hr : Region.ready md ops listed = []) (h : Q .normal a w) : wpAnyD P md ops Q S d 0 listed a w := ⟨hr, h⟩
def waitsB (md : Region.Mode) (ops : Array Oper) (d i : Nat) : Bool := match ops[d]? with
  | none => true
  | some o => o.after.any fun e => Region.binds md e && e.on == i
def lookD (md : Region.Mode) (ops : Array Oper) (d i : Nat) (listed : Array Bool) : Bool := Region.noSelect ops && Region.free md ops listed i && (Region.ready md ops listed).contains i && waitsB md ops d i && !(listed.getD d false) && !(i == d)
theorem anyD_q {i : Nat} {o : Oper} {v : Value} {fuel : Nat} {listed : Array Bool} {a a' : Act} {w : World} (hB : lookD md ops d i listed = true) (hi : ops[i]? = some o) (hw : Region.wanted o (yielded ops a.tmps) = true) (hy : ∀ w, S w → (execOp a.eval o).run P w = .ok (.value v) w) (ha : a.put o.dst v = a') (hS : S w)
    (h : wpAnyD P md ops (fun e a w => (∀ c, e ≠ Exit.panic c) ∧ Q e a w) S d fuel (listed.setIfInBounds i true) a' w) : wpAnyD P md ops (fun e a w => (∀ c, e ≠ Exit.panic c) ∧ Q e a w) S d (fuel + 1) listed a w := by
  simp only [lookD, Bool.and_eq_true, Bool.not_eq_true', beq_eq_false_iff_ne] at hB
  obtain ⟨⟨⟨⟨⟨h1, h2⟩, h3⟩, h4⟩, h5⟩, h6⟩ := hB
  refine wpAnyD_take (v := v) hi h1 h2 h3 (fun c a w h => absurd rfl (h.1 c)) (fun od hod => ?_) h6 (.inl ⟨hw, hy⟩) hS h5 (by rw [ha]; exact h)
  unfold waitsB at h4
  rw [hod] at h4
  simp only at h4
  obtain ⟨e, he, h7⟩ := Array.any_eq_true'.1 h4
  simp only [Bool.and_eq_true, beq_iff_eq] at h7
  exact ⟨e, he, h7.1, h7.2⟩
/-- Two operations that may come either way round; what they answer may hang on it. -/
theorem anyD_two {x y : Nat} {ox oy : Oper} {dx dy ix iy : Nat} {f : Nat} {listed : Array Bool} {a : Act} {w : World} (J00 : World → Prop) (Jx Jy : Value → World → Prop) (J11 : Value → Value → World → Prop)
    (hx : ops[x]? = some ox) (hy : ops[y]? = some oy) (hne : dx ≠ dy) (kx : dy ≠ ix) (ky : dx ≠ iy) (gx : ox.guard = none) (gy : oy.guard = none) (hxy : x ≠ y)
    (hr : Region.ready md ops listed = [x, y]) (hrx : Region.ready md ops (listed.setIfInBounds x true) = [y]) (hry : Region.ready md ops (listed.setIfInBounds y true) = [x])
    (h0 : J00 w)
    (sx0 : ∀ b w, b.tmps[ix]? = a.tmps[ix]? → J00 w → ∀ K : Act → World → Prop, (∀ v w', Jx v w' → K (b.put (some dx) v) w') → ox.wp P b w K Q)
    (sy0 : ∀ b w, b.tmps[iy]? = a.tmps[iy]? → J00 w → ∀ K : Act → World → Prop, (∀ u w', Jy u w' → K (b.put (some dy) u) w') → oy.wp P b w K Q)
    (sx1 : ∀ b u w, b.tmps[ix]? = a.tmps[ix]? → Jy u w → ∀ K : Act → World → Prop, (∀ v w', J11 v u w' → K (b.put (some dx) v) w') → ox.wp P b w K Q)
    (sy1 : ∀ b v w, b.tmps[iy]? = a.tmps[iy]? → Jx v w → ∀ K : Act → World → Prop, (∀ u w', J11 v u w' → K (b.put (some dy) u) w') → oy.wp P b w K Q)
    (hSx : ∀ v w', Jx v w' → S w') (hSy : ∀ u w', Jy u w' → S w') (hS11 : ∀ v u w', J11 v u w' → S w')
    (fin : ∀ v u w', J11 v u w' → wpAnyD P md ops Q S d f ((listed.setIfInBounds x true).setIfInBounds y true) ((a.put (some dx) v).put (some dy) u) w') : wpAnyD P md ops Q S d (f + 2) listed a w := by
  have po : ∀ (b : Act) (s t : Nat) (v : Value), s ≠ t → (b.put (some s) v).tmps[t]? = b.tmps[t]? := fun b s t v h => by simp [Act.put, Array.getElem?_setIfInBounds_ne h]
  refine wpAnyD_all hr (by simp) fun i hi => ?_
  have hi2 : i = x ∨ i = y := by simpa using hi
  rcases hi2 with rfl | rfl
  · refine op_plain hx gx (sx0 a w rfl h0 _ fun v w' h => ⟨fun _ => hSx v w' h, ?_⟩)
    refine wpAnyD_one hrx ?_
    exact op_plain hy gy (sy1 _ v w' (po _ _ _ _ ky) h _ fun u w2 h2 => ⟨fun _ => hS11 v u w2 h2, fin v u w2 h2⟩)
  · refine op_plain hy gy (sy0 a w rfl h0 _ fun u w' h => ⟨fun _ => hSy u w' h, ?_⟩)
    refine wpAnyD_one hry ?_
    refine op_plain hx gx (sx1 _ u w' (po _ _ _ _ kx) h _ fun v w2 h2 => ⟨fun _ => hS11 v u w2 h2, ?_⟩)
    rw [Array.setIfInBounds_comm _ _ (Ne.symm hxy), put_comm a u v hne.symm]
    exact fin v u w2 h2
end
end Go.Proofs.YthigjonagbfbbaaDoor
