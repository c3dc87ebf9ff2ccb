/- A region that draws its order, whose operations are quiet but for the last one, which ends it. Nothing of the program is named here. -/
import Derived.Test.YtempaadgheondaaDoorLater
import Derived.OrdersHeld
namespace Go.Proofs.YtempaadgheondaaDoor
open Go.RowKit
set_option maxRecDepth 100000

section
variable {P : Program} {ops : Array Oper} {C : World → Prop} {Q : Exit → Act → World → Prop} {L : Nat}
/-- In whatever world of the class the operation L comes up, it ends the region. -/
def Ends (P : Program) (ops : Array Oper) (C : World → Prop) (Q : Exit → Act → World → Prop) (L : Nat) (a : Act) : Prop := ∀ w, C w → wpOp P ops Q L (fun _ _ => False) a w
/-- In whatever order they come up: all are quiet, and L ends it. -/
def anyT (P : Program) (ops : Array Oper) (C : World → Prop) (Q : Exit → Act → World → Prop) (L : Nat) : Nat → Array Bool → Act → Prop
  | 0, _, _ => False
  | n + 1, listed, a => Region.ready .any ops listed ≠ [] ∧ ∀ i ∈ Region.ready .any ops listed, if i = L then Ends P ops C Q L a else qOp P ops C i (anyT P ops C Q L n (listed.setIfInBounds i true)) a
theorem anyT_any : ∀ (n : Nat) (listed : Array Bool) (a : Act) (w : World), C w → anyT P ops C Q L n listed a → wpAny P .any ops Q n listed a w
  | 0, _, _, _, _, h => absurd h id
  | n + 1, listed, a, w, hw, h => by
    refine ⟨fun h0 => absurd h0 h.1, fun i hi => ?_⟩
    have h1 := h.2 i hi
    by_cases e : i = L
    · rw [if_pos e] at h1
      subst e
      exact wpOp_mono (fun _ _ h9 => absurd h9 id) (h1 w hw)
    · rw [if_neg e] at h1
      exact wpOp_of_qOp hw (fun a' w' hw' h9 => anyT_any n _ a' w' hw' h9) h1
theorem ends_put {oi oL : Oper} {v : Value} {a : Act} (hL : ops[L]? = some oL) (hap : oi.apart ops oL = true) (hsi : ∀ cs b, oi.op ≠ .select cs b) (hsL : ∀ cs b, oL.op ≠ .select cs b)
    (hQ : ∀ c (a : Act) (d : Option Tmp) (v : Value) w, Q (.panic c) (a.put d v) w → Q (.panic c) a w) (hy : YieldsIn P ops C oi v a) (h : Ends P ops C Q L (a.put oi.dst v)) : Ends P ops C Q L a := fun w hw => by
  have hy2 : YieldsIf P ops (fun _ => False) oi v a := by
    rcases hy with ⟨h1, _⟩ | h1
    · exact .inl ⟨h1, fun _ h9 => absurd h9 id⟩
    · exact .inr h1
  exact wpOp_mono (fun _ _ h9 => h9.2) (wpOp_putIf hL hap hsi hsL (fun c a w h9 => hQ c a _ _ w h9) hy2 (h w hw))
theorem anyT_first {i : Nat} {oi oL : Oper} {v : Value} (hi : ops[i]? = some oi) (hL : ops[L]? = some oL) (hne : i ≠ L) (hs : ∀ (j : Nat) (o : Oper) cs b, ops[j]? = some o → o.op ≠ .select cs b) (hQ : ∀ c (a : Act) (d : Option Tmp) (v : Value) w, Q (.panic c) (a.put d v) w → Q (.panic c) a w) :
    ∀ (n : Nat) (listed : Array Bool) (a : Act),
      (∀ j oj, ops[j]? = some oj → j ≠ i → listed.getD j true = false → (∀ e ∈ oj.after, Region.binds .any e = true → e.on ≠ i) → oi.apart ops oj = true) →
      i ∈ Region.ready .any ops listed → YieldsIn P ops C oi v a → anyT P ops C Q L n (listed.setIfInBounds i true) (a.put oi.dst v) → anyT P ops C Q L (n + 1) listed a
  | 0, _, _, _, _, _, H => absurd H id
  | n + 1, listed, a, hfree, hr, hy, H => by
    refine ⟨fun h => (by rw [h] at hr; cases hr), fun j hj => ?_⟩
    by_cases hji : j = i
    · subst hji
      rw [if_neg hne]
      exact hy.qOp hi H
    · have h1 := H.2 j (ready_mono hj hji)
      obtain ⟨hjun, oj, hoj, hall⟩ := mem_ready.1 hj
      have hnot : ∀ e ∈ oj.after, Region.binds .any e = true → e.on ≠ i := fun e he hb heq => by
        have g1 := hall e he hb
        have g0 := (mem_ready.1 hr).1
        rw [heq] at g1
        rcases Nat.lt_or_ge i listed.size with h' | h'
        · simp [h'] at g0 g1; rw [g0] at g1; cases g1
        · simp [Array.getElem?_eq_none h'] at g1
      have hap := hfree j oj hoj hji hjun hnot
      by_cases e : j = L
      · rw [if_pos e] at h1 ⊢
        subst e
        exact ends_put hoj hap (fun cs b => hs i oi cs b hi) (fun cs b => hs j oj cs b hoj) hQ hy h1
      · rw [if_neg e] at h1 ⊢
        have h2 := qOp_put hoj hap (fun cs b => hs i oi cs b hi) (fun cs b => hs j oj cs b hoj) hy h1
        refine qOp_mono (fun a' h3 => anyT_first hi hL hne hs hQ n (listed.setIfInBounds j true) a' (fun k ok hk hki hun hno => hfree k ok hk hki (by
          by_cases hjk : j = k
          · subst hjk; exact hjun
          · rw [getD_set_ne true hjk] at hun; exact hun) hno) (ready_mono hr (Ne.symm hji)) h3.1 ?_) h2
        rw [Array.setIfInBounds_comm _ _ hji]
        exact h3.2
theorem anyT_lex {oL : Oper} (hL : ops[L]? = some oL) (hs : ∀ (j : Nat) (o : Oper) cs b, ops[j]? = some o → o.op ≠ .select cs b) (hQ : ∀ c (a : Act) (d : Option Tmp) (v : Value) w, Q (.panic c) (a.put d v) w → Q (.panic c) a w) :
    ∀ (l : List Oper) (k : Nat) (listed : Array Bool) (a : Act), k + l.length = L → (∀ j, j < l.length → l[j]? = ops[k + j]?) → Region.lexFrom .any ops (l.length + 1) k listed = true → wpQuiet P ops C (fun a' => Ends P ops C Q L a') l a → anyT P ops C Q L (l.length + 1) listed a
  | [], k, listed, a, hk, _, hB, h => by
    have e : k = L := hk
    subst e
    simp only [List.length_nil, Region.lexFrom, Bool.and_eq_true] at hB
    obtain ⟨⟨hr, _⟩, hB'⟩ := hB
    have hr2 : k ∈ Region.ready .any ops listed := by simpa using hr
    refine ⟨fun h0 => (by rw [h0] at hr2; cases hr2), fun j hj => ?_⟩
    by_cases e : j = k
    · rw [if_pos e]; exact h
    · have h9 := ready_mono hj e
      have h8 : Region.ready .any ops (listed.setIfInBounds k true) = [] := by simpa using hB'
      rw [h8] at h9
      cases h9
  | o :: l, k, listed, a, hk, hl, hB, h => by
    have h0 : ops[k]? = some o := by simpa using (hl 0 (by simp)).symm
    rw [List.length_cons, Region.lexFrom] at hB
    simp only [Bool.and_eq_true] at hB
    obtain ⟨⟨hr, hf⟩, hB'⟩ := hB
    have hst : qOp P ops C k (wpQuiet P ops C (fun a' => Ends P ops C Q L a') l) a := by unfold qOp; simp only [h0]; exact h
    obtain ⟨v, hy, hK⟩ := yieldsIn_of_qOp h0 hst
    refine anyT_first h0 hL (by simp at hk; omega) hs hQ (l.length + 1) listed a (Region.free_spec h0 hf) (by simpa using hr) hy ?_
    exact anyT_lex hL hs hQ l (k + 1) _ _ (by simp at hk; omega) (fun j hj => by
      have := hl (j + 1) (by simp; omega)
      simpa [Nat.add_assoc, Nat.add_comm 1 j] using this) hB' hK
end
/-- The region, all of whose operations but the last are quiet in the worlds in which all that was there stands; the last one ends it. -/
theorem region_ends {P : Program} {id : Nat} {Q : Exit → Act → World → Prop} {a : Act} {w : World} {l : List Oper} {o : Oper} (hm : P.follows .mixedOrders = true) (hB : Region.lexB .any l.toArray = true) (hQ : ∀ c (a : Act) (d : Option Tmp) (v : Value) w, Q (.panic c) (a.put d v) w → Q (.panic c) a w) (ho : l.getLast? = some o)
    (h : wpQuiet P l.toArray (fun w' => ∃ x : Later w, w' = x.w) (fun a' => Region.wanted o (yielded l.toArray a'.tmps) = true ∧ ∀ x : Later w, o.wp P a' x.w (fun _ _ => False) Q) l.dropLast a) : (Code.region id l.toArray true).wp P Q a w := by
  have hne : l ≠ [] := by intro e; rw [e] at ho; cases ho
  have hlen : 0 < l.length := List.length_pos_iff.2 hne
  simp only [Region.lexB, Bool.and_eq_true] at hB
  have hL : l.toArray[l.length - 1]? = some o := by
    rw [List.getElem?_toArray, ← List.getLast?_eq_getElem?]
    exact ho
  refine wp_region_any hm (anyT_any (C := fun w' => ∃ x : Later w, w' = x.w) (L := l.length - 1) _ _ _ _ ⟨⟨{ w with drawn := w.drawn + 1 }, ⟨rfl, rfl, rfl, Nat.le_refl _, fun _ _ => rfl⟩⟩, rfl⟩ ?_)
  have hmono : ∀ (m : List Oper) (a : Act), wpQuiet P l.toArray (fun w' => ∃ x : Later w, w' = x.w) (fun a' => Region.wanted o (yielded l.toArray a'.tmps) = true ∧ ∀ x : Later w, o.wp P a' x.w (fun _ _ => False) Q) m a → wpQuiet P l.toArray (fun w' => ∃ x : Later w, w' = x.w) (fun a' => Ends P l.toArray (fun w' => ∃ x : Later w, w' = x.w) Q (l.length - 1) a') m a := by
    intro m
    induction m with
    | nil =>
      intro a h9
      have h8 : Region.wanted o (yielded l.toArray a.tmps) = true ∧ ∀ x : Later w, o.wp P a x.w (fun _ _ => False) Q := h9
      show Ends _ _ _ _ _ _
      intro w' hw'
      obtain ⟨x, rfl⟩ := hw'
      unfold wpOp
      rw [hL]
      simp only [h8.1, if_true]
      exact .inl (h8.2 x)
    | cons p m ih =>
      intro a h9
      unfold wpQuiet at h9 ⊢
      split
      · rename_i hw
        rw [if_pos hw] at h9
        exact Oper.quiet_mono ih h9
      · rename_i hw
        rw [if_neg hw] at h9
        exact ih _ h9
  have hd : l.dropLast.length + 1 = l.toArray.size := by rw [List.length_dropLast, List.size_toArray]; omega
  have := anyT_lex (C := fun w' => ∃ x : Later w, w' = x.w) (Q := Q) hL (Region.noSelect_spec hB.1) hQ l.dropLast 0 (Array.replicate l.toArray.size false) a (by rw [List.length_dropLast]; omega) (fun j hj => by
    rw [Nat.zero_add, List.getElem?_toArray, List.getElem?_dropLast, if_pos (by rw [List.length_dropLast] at hj; exact hj)]) (by rw [hd]; exact hB.2) (hmono _ _ h)
  rwa [hd] at this
end Go.Proofs.YtempaadgheondaaDoor
