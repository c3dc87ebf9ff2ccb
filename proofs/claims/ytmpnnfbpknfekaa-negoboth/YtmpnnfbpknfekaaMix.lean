/- A region that draws its order, by its text's order: operations that only read, whatever else is done ahead of them; the others one by one. Nothing of the program is named here. -/
import Derived.Test.YtmpnnfbpknfekaaMem
import Derived.OrdersHeld
namespace Go.Proofs.Ytmpnnfbpknfekaa
open Go.RowKit
set_option maxRecDepth 100000

section
variable {P : Program} {ops : Array Oper} {Q : Exit → Act → World → Prop} {S : World → Prop} {L : Nat → Bool}
/-- In the text's order: what only reads yields its value in every world that meets S; what L names is done in the world at hand, and S stands behind it. -/
def wpMix (P : Program) (ops : Array Oper) (Q : Exit → Act → World → Prop) (S : World → Prop) (L : Nat → Bool) : List Oper → Nat → Act → World → Prop
  | [], _, a, w => Q .normal a w
  | o :: l, k, a, w => if L k = true then wpOp P ops Q k (fun a' w' => S w' ∧ wpMix P ops Q S L l (k + 1) a' w') a w else ∃ v, YieldsIf P ops S o v a ∧ wpMix P ops Q S L l (k + 1) (a.put o.dst v) w
/-- May it be walked so? -/
def lexMix (ops : Array Oper) (L : Nat → Bool) : Nat → Nat → Array Bool → Bool
  | 0, _, listed => (Region.ready .any ops listed).isEmpty
  | g + 1, k, listed => (if L k then decide (Region.ready .any ops listed = [k]) else (Region.ready .any ops listed).contains k && Region.free .any ops listed k) && lexMix ops L g (k + 1) (listed.setIfInBounds k true)
theorem anyH_mix (hs : Region.noSelect ops = true) (hQ : ∀ c a a' w, Q (.panic c) a w → Q (.panic c) a' w) : ∀ (l : List Oper) (k : Nat) (listed : Array Bool) (a : Act) (w : World), (∀ j, l[j]? = ops[k + j]?) → lexMix ops L l.length k listed = true → S w →
    wpMix P ops Q S L l k a w → wpAnyH P .any ops Q S l.length listed a w
  | [], _, _, _, _, _, hB, _, h => ⟨by simpa [lexMix] using hB, h⟩
  | o :: l, k, listed, a, w, hl, hB, hS, h => by
    have h0 : ops[k]? = some o := by simpa using (hl 0).symm
    have hl' : ∀ j, l[j]? = ops[k + 1 + j]? := fun j => by have := hl (j + 1); simpa [Nat.add_assoc, Nat.add_comm 1 j] using this
    simp only [List.length_cons, lexMix, Bool.and_eq_true] at hB
    obtain ⟨hr, hB'⟩ := hB
    rw [wpMix] at h
    by_cases e : L k = true
    · rw [if_pos e] at hr h
      have hr2 : Region.ready .any ops listed = [k] := by simpa using hr
      refine wpAnyH_all hr2 (by simp) fun i hi => ?_
      obtain rfl : i = k := by simpa using hi
      exact wpOp_mono (fun a' w' h9 => ⟨h9.1, anyH_mix hs hQ l (i + 1) _ a' w' hl' hB' h9.1 h9.2⟩) h
    · rw [if_neg e] at h
      rw [if_neg e, Bool.and_eq_true] at hr
      obtain ⟨v, hy, h⟩ := h
      exact wpAnyH_take h0 hs hr.2 hr.1 (fun _ _ _ h => hQ _ _ _ _ h) hy hS (anyH_mix hs hQ l (k + 1) _ _ w hl' hB' hS h)
theorem mix_q {o : Oper} {l : List Oper} {k : Nat} {a a' : Act} {w : World} {v : Value} (hL : L k = false) (hw : Region.wanted o (yielded ops a.tmps) = true) (hy : ∀ w, S w → (execOp a.eval o).run P w = .ok (.value v) w) (ha : a.put o.dst v = a') (h : wpMix P ops Q S L l (k + 1) a' w) :
    wpMix P ops Q S L (o :: l) k a w := by
  rw [wpMix, if_neg (by rw [hL]; simp)]
  exact ⟨v, .inl ⟨hw, hy⟩, by rw [ha]; exact h⟩
theorem mix_s {o : Oper} {l : List Oper} {k : Nat} {a a' : Act} {w : World} (hL : L k = false) (hw : Region.wanted o (yielded ops a.tmps) = false) (ha : a.put o.dst undef = a') (h : wpMix P ops Q S L l (k + 1) a' w) :
    wpMix P ops Q S L (o :: l) k a w := by
  rw [wpMix, if_neg (by rw [hL]; simp)]
  exact ⟨undef, .inr ⟨hw, rfl⟩, by rw [ha]; exact h⟩
theorem mix_l {o : Oper} {l : List Oper} {k : Nat} {a : Act} {w : World} (hL : L k = true) (ho : ops[k]? = some o) (hw : Region.wanted o (yielded ops a.tmps) = true) (h : o.wp P a w (fun a' w' => S w' ∧ wpMix P ops Q S L l (k + 1) a' w') Q) :
    wpMix P ops Q S L (o :: l) k a w := by
  rw [wpMix, if_pos hL]
  unfold wpOp
  rw [ho]
  simp only [hw, if_true]
  exact .inl h
theorem mix_ls {o : Oper} {l : List Oper} {k : Nat} {a a' : Act} {w : World} (hL : L k = true) (ho : ops[k]? = some o) (hw : Region.wanted o (yielded ops a.tmps) = false) (ha : a.put o.dst undef = a') (hS : S w) (h : wpMix P ops Q S L l (k + 1) a' w) :
    wpMix P ops Q S L (o :: l) k a w := by
  rw [wpMix, if_pos hL]
  unfold wpOp
  rw [ho]
  simp only [hw, Bool.false_eq_true, if_false]
  rw [ha]
  exact ⟨hS, h⟩
end
/-- The region. -/
theorem region_mix {P : Program} {id : Nat} {Q : Exit → Act → World → Prop} {a : Act} {w : World} {l : List Oper} (S : World → Prop) (L : Nat → Bool) (hm : P.follows .mixedOrders = true) (hs : Region.noSelect l.toArray = true) (hB : lexMix l.toArray L l.length 0 (Array.replicate l.length false) = true)
    (hS : S w.drew) (h : wpMix P l.toArray (fun e a w => (∀ c, e ≠ .panic c) ∧ Q e a w) S L l 0 a w.drew) : (Code.region id l.toArray true).wp P Q a w := by
  have h1 := anyH_mix (Q := fun e a w => (∀ c, e ≠ .panic c) ∧ Q e a w) hs (fun c a a' w h => absurd rfl (h.1 c)) l 0 (Array.replicate l.length false) a w.drew (fun j => by simp) hB hS h
  have h2 : (Code.region id l.toArray true).wp P (fun e a w => (∀ c, e ≠ .panic c) ∧ Q e a w) a w := wp_region_held (S := S) hm (by simpa using h1)
  exact Code.wp_mono (fun _ _ _ h => h.2) h2
section
variable {P : Program} {ops : Array Oper} {Q : Exit → Act → World → Prop} {S : World → Prop} {L : Nat → Bool}
/-- The same in an order that is given: the operations' numbers. -/
def wpOrd (P : Program) (ops : Array Oper) (Q : Exit → Act → World → Prop) (S : World → Prop) (L : Nat → Bool) : List Nat → Act → World → Prop
  | [], a, w => Q .normal a w
  | k :: l, a, w => if L k = true then wpOp P ops Q k (fun a' w' => S w' ∧ wpOrd P ops Q S L l a' w') a w else ∃ o v, ops[k]? = some o ∧ YieldsIf P ops S o v a ∧ wpOrd P ops Q S L l (a.put o.dst v) w
def lexOrd (ops : Array Oper) (L : Nat → Bool) : List Nat → Array Bool → Bool
  | [], listed => (Region.ready .any ops listed).isEmpty
  | k :: l, listed => (if L k then decide (Region.ready .any ops listed = [k]) else (Region.ready .any ops listed).contains k && Region.free .any ops listed k) && lexOrd ops L l (listed.setIfInBounds k true)
theorem anyH_ord (hs : Region.noSelect ops = true) (hQ : ∀ c a a' w, Q (.panic c) a w → Q (.panic c) a' w) : ∀ (l : List Nat) (listed : Array Bool) (a : Act) (w : World), lexOrd ops L l listed = true → S w →
    wpOrd P ops Q S L l a w → wpAnyH P .any ops Q S l.length listed a w
  | [], _, _, _, hB, _, h => ⟨by simpa [lexOrd] using hB, h⟩
  | k :: l, listed, a, w, hB, hS, h => by
    simp only [lexOrd, Bool.and_eq_true] at hB
    obtain ⟨hr, hB'⟩ := hB
    rw [wpOrd] at h
    by_cases e : L k = true
    · rw [if_pos e] at hr h
      have hr2 : Region.ready .any ops listed = [k] := by simpa using hr
      refine wpAnyH_all hr2 (by simp) fun i hi => ?_
      obtain rfl : i = k := by simpa using hi
      exact wpOp_mono (fun a' w' h9 => ⟨h9.1, anyH_ord hs hQ l _ a' w' hB' h9.1 h9.2⟩) h
    · rw [if_neg e] at h
      rw [if_neg e, Bool.and_eq_true] at hr
      obtain ⟨o, v, h0, hy, h⟩ := h
      exact wpAnyH_take h0 hs hr.2 hr.1 (fun _ _ _ h => hQ _ _ _ _ h) hy hS (anyH_ord hs hQ l _ _ w hB' hS h)
theorem ord_q {o : Oper} {l : List Nat} {k : Nat} {a a' : Act} {w : World} {v : Value} (hL : L k = false) (ho : ops[k]? = some o) (hw : Region.wanted o (yielded ops a.tmps) = true) (hy : ∀ w, S w → (execOp a.eval o).run P w = .ok (.value v) w) (ha : a.put o.dst v = a') (h : wpOrd P ops Q S L l a' w) :
    wpOrd P ops Q S L (k :: l) a w := by
  rw [wpOrd, if_neg (by rw [hL]; simp)]
  exact ⟨o, v, ho, .inl ⟨hw, hy⟩, by rw [ha]; exact h⟩
theorem ord_l {o : Oper} {l : List Nat} {k : Nat} {a : Act} {w : World} (hL : L k = true) (ho : ops[k]? = some o) (hw : Region.wanted o (yielded ops a.tmps) = true) (h : o.wp P a w (fun a' w' => S w' ∧ wpOrd P ops Q S L l a' w') Q) :
    wpOrd P ops Q S L (k :: l) a w := by
  rw [wpOrd, if_pos hL]
  unfold wpOp
  rw [ho]
  simp only [hw, if_true]
  exact .inl h
end
theorem region_ord {P : Program} {id : Nat} {Q : Exit → Act → World → Prop} {a : Act} {w : World} {l : List Oper} (S : World → Prop) (L : Nat → Bool) (ord : List Nat) (hm : P.follows .mixedOrders = true) (hs : Region.noSelect l.toArray = true) (hl : l.length = ord.length) (hB : lexOrd l.toArray L ord (Array.replicate l.length false) = true)
    (hS : S w.drew) (h : wpOrd P l.toArray (fun e a w => (∀ c, e ≠ .panic c) ∧ Q e a w) S L ord a w.drew) : (Code.region id l.toArray true).wp P Q a w := by
  have h1 := anyH_ord (Q := fun e a w => (∀ c, e ≠ .panic c) ∧ Q e a w) hs (fun c a a' w h => absurd rfl (h.1 c)) ord (Array.replicate l.length false) a w.drew hB hS h
  rw [← hl] at h1
  have h2 : (Code.region id l.toArray true).wp P (fun e a w => (∀ c, e ≠ .panic c) ∧ Q e a w) a w := wp_region_held (S := S) hm (by simpa using h1)
  exact Code.wp_mono (fun _ _ _ h => h.2) h2
end Go.Proofs.Ytmpnnfbpknfekaa
