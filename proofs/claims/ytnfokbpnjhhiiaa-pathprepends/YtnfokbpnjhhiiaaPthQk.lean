/- Numbers behind a row of the call's own; Clone. -/
import Derived.Test.YtnfokbpnjhhiiaaPthPr
namespace Go.Proofs.Ytnfokbpnjhhiiaa
open Go.RowKit
set_option maxRecDepth 100000

/-- Numbers that are read, behind a row of the call's own. -/
theorem app_ird {w : World} {B g n k : Nat} {ys : List Int} (zs : List Int) (a : Option Addr) (c : Nat) (hn : ys.length = n) (ho : w.ownsRow B 3 1 (.slice (some ⟨g, 0, none⟩) n k) n (icells ys)) (hB : B ≤ w.heap.size) (hl : n + zs.length ≤ 200000) (h : IRd w a zs) :
    ∃ v' w', (Builtin.append_ #[36, 36] 36 #[.slice (some ⟨g, 0, none⟩) n k, .slice a zs.length c]).run Try.prog w = .ok v' w' ∧ w'.ownsRow B 3 1 v' (ys ++ zs).length (icells (ys ++ zs)) ∧ Below B w w' := by
  have key : ∀ ad : Addr, a = some ad → (∀ j x, (icells zs)[j]? = some x → w.cell? (ad.add j) = some x) → ∃ v' w', (Builtin.append_ #[36, 36] 36 #[.slice (some ⟨g, 0, none⟩) n k, .slice a zs.length c]).run Try.prog w = .ok v' w' ∧ w'.ownsRow B 3 1 v' (ys ++ zs).length (icells (ys ++ zs)) ∧ Below B w w' := by
    intro ad e hc
    subst e
    obtain ⟨v', w', hr, h2, h3, _, _⟩ := app_more elemInt ho hB ad zs.length c (icells zs) (by rw [icells_length]; omega) hc (icells_one _) (by omega)
    exact ⟨v', w', hr, by rw [icells_app, List.length_append, hn]; exact h2, h3⟩
  cases a with
  | none =>
    have h0 : zs = [] := by
      cases zs with
      | nil => rfl
      | cons z r => obtain ⟨b, off, e, _⟩ := h (by simp); cases e
    subst h0
    have hk : n ≤ k := by
      rcases ho.2 with ⟨e, _⟩ | ⟨g', cap, cur, e, _, _, h1, _⟩
      · cases e
      · simp only [Value.slice.injEq] at e
        obtain ⟨_, _, rfl⟩ := e
        exact h1
    exact ⟨_, w, append_none elemInt w _ n k c hk, by rw [List.append_nil, hn]; exact ho, Below.refl _ _⟩
  | some ad =>
    cases zs with
    | nil => exact key ad rfl (fun j x hx => by simp [icells] at hx)
    | cons y r =>
      obtain ⟨b, off, e, hc⟩ := h (by simp)
      refine key ad rfl (fun j x hx => ?_)
      cases e
      have hj : j < (y :: r).length := by have := (List.getElem?_eq_some_iff.1 hx).1; rwa [icells_length] at this
      have h5 := hc j _ (List.getElem?_eq_getElem hj)
      rw [icells_get _ j _ (List.getElem?_eq_getElem hj)] at hx
      cases hx
      rw [Addr.add_mid]
      exact h5
theorem eql_nil (a : Option Addr) (l c : Nat) (w : World) : (binOp .eql 36 (.slice a l c) (.slice none 0 0)).run Try.prog w = .ok (.bool a.isNone) w := by
  simp only [binOp]
  simp [run_equal_slice_nil w 36 3 a l c Try.underlying36]
section
attribute [local go_sem ↓] kept_appendI
attribute [local go_sem] eql_nil
set_option maxHeartbeats 800000 in
theorem clone_any (a : Option Addr) (c : Nat) (zs : List Int) (w : World) (hl : zs.length ≤ 100000) (h : IRd w a zs) :
    Calls Try.prog 36 #[.slice a zs.length c] w fun e w' => ∃ v, e = .returned v ∧ w'.ownsRow w.heap.size 3 1 v zs.length (icells zs) ∧ Below w.heap.size w w' := by
  cases a with
  | none =>
    have h0 : zs = [] := by
      cases zs with
      | nil => rfl
      | cons z r => obtain ⟨b, off, e, _⟩ := h (by simp); cases e
    subst h0
    go_enter Try.func36, Try.ntmps36
    go_wp2
    go_ret
    exact ⟨_, rfl, own_nil _ _ _ _, Below.refl _ _⟩
  | some ad =>
    have hb0 : Below w.heap.size w (w.alloc (.cells #[] 3)) := (Below.refl _ _).alloc (Nat.le_refl _) _
    have h1 := own_made w w.heap.size 3 1 #[] 0 (Nat.le_refl _) rfl (by omega)
    obtain ⟨v', w', hr, ho, hb⟩ := app_ird (n := 0) (ys := []) zs (some ad) c rfl h1 hb0.size (by omega) (h.below hb0)
    have HR := hide hr
    have HO : Hid (w'.ownsRow w.heap.size 3 1 v' zs.length (icells zs)) := ho
    have HB := hide (hb0.trans hb)
    clear hr ho hb h h1
    generalize zs.length = n at *
    go_enter Try.func36, Try.ntmps36
    go_wp2_with fail
    refine kept_appendI_intro _ _ _ _ v' (w' := w') (by rfl) (by rfl) (by exact HR.out) ?_
    go_wp2
    go_ret
    exact ⟨_, rfl, HO.out, HB.out⟩
end
/-- A path of one segment. -/
theorem own_path_one {w : World} {B : Nat} {u : Value} {zs : List Int} (b : Bool) (hu : w.ownsRow B 3 1 u zs.length (icells zs)) (hB : B ≤ w.heap.size) : OwnPath (w.alloc (.cells #[.bool b, u] 38)) B (.slice (some ⟨w.heap.size, 0, none⟩) 1 1) [(b, zs)] := by
  refine ⟨[.bool b, u], own_made w B 38 2 #[.bool b, u] 1 hB rfl (by omega), fun i s hi => ?_⟩
  cases i with
  | zero =>
    simp at hi
    subst hi
    exact ⟨rfl, u, rfl, hu.alloc _⟩
  | succ i => simp at hi
end Go.Proofs.Ytnfokbpnjhhiiaa
