/- A path of the call's own. -/
import Derived.Test.YtolpaimmmhoiiaaPthPl
import Derived.Test.YtolpaimmmhoiiaaApE
import Derived.Test.YtolpaimmmhoiiaaHSm
import Derived.Test.YtolpaimmmhoiiaaIntR
namespace Go.Proofs.Ytolpaimmmhoiiaa
open Go.RowKit
set_option maxRecDepth 100000

theorem Try.infoSeg : (Try.prog.info? 47).map (fun i => (i.zero, i.size, i.bytes)) = some (some (.agg #[.bool false, .slice none 0 0]), 2, 32) := by kernel_rfl
theorem elemSeg : Elem 35 47 2 32 := by
  obtain ⟨i, h1, h2, h3, h4⟩ := info_parts Try.infoSeg
  exact ⟨Try.underlying35, ⟨i, _, h1, h2, h3, h4, rfl⟩, by omega, by omega⟩
/-- v is a row of the segments ss, all of it new since B. -/
def OwnPath (w : World) (B : Nat) (v : Value) (ss : List (Bool × List Int)) : Prop :=
  ∃ cs, w.ownsRow B 47 2 v ss.length cs ∧ ∀ i s, ss[i]? = some s → cs[i * 2]? = some (.bool s.1) ∧ ∃ u, cs[i * 2 + 1]? = some u ∧ w.ownsRow B 3 1 u s.2.length (icells s.2)
theorem OwnPath.later {w w' : World} {B : Nat} {v : Value} {ss : List (Bool × List Int)} (h : OwnPath w B v ss) (hb : Below w.heap.size w w') : OwnPath w' B v ss := by
  obtain ⟨cs, ho, hc⟩ := h
  refine ⟨cs, own_later ho hb, fun i s hi => ?_⟩
  obtain ⟨h1, u, h2, h3⟩ := hc i s hi
  exact ⟨h1, u, h2, own_later h3 hb⟩
theorem OwnPath.nil (w : World) (B : Nat) : OwnPath w B (.slice none 0 0) [] := ⟨[], own_nil _ _ _ _, fun i s h => by simp at h⟩
theorem own_ird {w : World} {B : Nat} {u : Value} {zs : List Int} (h : w.ownsRow B 3 1 u zs.length (icells zs)) : ∃ a c, u = .slice a zs.length c ∧ IRd w a zs := by
  have hh := h
  rcases h.2 with ⟨rfl, h0⟩ | ⟨g, cap, cur, rfl, _⟩
  · exact ⟨none, 0, by rw [h0], fun hp => absurd hp (by omega)⟩
  · refine ⟨_, _, rfl, fun _ => ⟨g, 0, rfl, fun j z hj => ?_⟩⟩
    have hjl := (List.getElem?_eq_some_iff.1 hj).1
    rw [Nat.zero_add, hh.cellAt j (by omega)]
    exact icells_get zs j z hj
theorem OwnPath.rd {w : World} {B : Nat} {v : Value} {ss : List (Bool × List Int)} (h : OwnPath w B v ss) (hl : ss.length ≤ 1000000) (hs : ∀ s ∈ ss, s.2.length ≤ 1000000) : ∃ a c, v = .slice a ss.length c ∧ PthRd w a ss := by
  obtain ⟨cs, ho, hc⟩ := h
  have hh := ho
  rcases ho.2 with ⟨rfl, h0⟩ | ⟨g, cap, cur, rfl, _⟩
  · exact ⟨none, 0, by rw [h0], ⟨fun hp => absurd hp (by omega), by unfold maxLen; omega, fun s hm => by have := hs s hm; unfold maxLen; omega⟩⟩
  · refine ⟨_, _, rfl, ⟨fun _ => ⟨g, 0, rfl, fun i s hi => ?_⟩, by unfold maxLen; omega, fun s hm => by have := hs s hm; unfold maxLen; omega⟩⟩
    have hil := (List.getElem?_eq_some_iff.1 hi).1
    obtain ⟨h1, u, h2, h3⟩ := hc i s hi
    obtain ⟨a', c', rfl, h4⟩ := own_ird h3
    rw [Nat.zero_add, hh.cellAt (i * 2) (by omega), hh.cellAt (i * 2 + 1) (by omega)]
    exact ⟨h1, a', c', h2, h4⟩
/-- One segment more. -/
theorem OwnPath.snoc {w : World} {B : Nat} {v u : Value} {ss : List (Bool × List Int)} {b : Bool} {zs : List Int} (h : OwnPath w B v ss) (hu : w.ownsRow B 3 1 u zs.length (icells zs)) (hone : u.oneCell' = true) (hB : B ≤ w.heap.size) (hl : ss.length ≤ 100000) (H : Nat) (hH : w.heap.size = H) :
    ∃ v' w', (Builtin.append_ #[35, 35] 35 #[v, .slice (some ⟨H, 0, none⟩) 1 1]).run Try.prog (w.alloc (.cells #[.bool b, u] 47)) = .ok v' w' ∧ OwnPath w' B v' (ss ++ [(b, zs)]) ∧ Below B w w' := by
  subst hH
  obtain ⟨cs, ho, hc⟩ := h
  have hb1 : Below B w (w.alloc (.cells #[.bool b, u] 47)) := (Below.refl _ _).alloc hB _
  have hbw : Below w.heap.size w (w.alloc (.cells #[.bool b, u] 47)) := (Below.refl _ _).alloc (Nat.le_refl _) _
  obtain ⟨v', w', hr, h2, h3, h4, _⟩ := app_more elemSeg (w := w.alloc (.cells #[.bool b, u] 47)) (ho.alloc _) (by simp; omega) ⟨w.heap.size, 0, none⟩ 1 1 [.bool b, u] rfl (fun j x hx => by
    rw [Addr.add_mid, Nat.zero_add, World.cell?_alloc_mark]
    simpa using hx) (by intro x hx; simp at hx; rcases hx with rfl | rfl; rfl; exact hone) (by omega)
  have hap : ∀ (x : Value) (ys : List Int), w.ownsRow B 3 1 x ys.length (icells ys) → w'.ownsRow B 3 1 x ys.length (icells ys) := fun x ys hx =>
    own_grown (own_later hx hbw) h4 (fun k hk => own_apart hx ho (by decide) k hk)
  refine ⟨v', w', hr, ⟨_, by rw [List.length_append]; exact h2, fun i s hi => ?_⟩, hb1.trans h3⟩
  have hcl : cs.length = ss.length * 2 := ho.1
  by_cases hlt : i < ss.length
  · rw [List.getElem?_append_left hlt] at hi
    obtain ⟨g1, x, g2, g3⟩ := hc i s hi
    exact ⟨by rw [List.getElem?_append_left (by omega)]; exact g1, x, by rw [List.getElem?_append_left (by omega)]; exact g2, hap x _ g3⟩
  · rw [List.getElem?_append_right (by omega)] at hi
    have hi0 : i - ss.length = 0 := by
      have := (List.getElem?_eq_some_iff.1 hi).1
      simpa using this
    rw [hi0] at hi
    simp at hi
    subst hi
    have e1 : i = ss.length := by omega
    subst e1
    refine ⟨by rw [List.getElem?_append_right (by omega), hcl, Nat.sub_self]; rfl, u, by rw [List.getElem?_append_right (by omega), show ss.length * 2 + 1 - cs.length = 1 from by omega]; rfl, hap u zs hu⟩
end Go.Proofs.Ytolpaimmmhoiiaa
