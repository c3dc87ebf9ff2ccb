/- A path of the call's own. -/
import Derived.Test.YtnfokbpnjhhiiaaPthRd
import Derived.Test.YtnfokbpnjhhiiaaApE
namespace Go.Proofs.Ytnfokbpnjhhiiaa
open Go.RowKit
set_option maxRecDepth 100000

theorem Try.infoSeg : (Try.prog.info? 38).map (fun i => (i.zero, i.size, i.bytes)) = some (some (.agg #[.bool false, .slice none 0 0]), 2, 32) := by kernel_rfl
theorem Try.infoInt : (Try.prog.info? 3).map (fun i => (i.zero, i.size, i.bytes)) = some (some (.int .i64 0), 1, 8) := by kernel_rfl
theorem elemSeg : Elem 22 38 2 32 := by
  obtain ⟨i, h1, h2, h3, h4⟩ := info_parts Try.infoSeg
  exact ⟨Try.underlying22, ⟨i, _, h1, h2, h3, h4, rfl⟩, by omega, by omega⟩
theorem elemInt : Elem 36 3 1 8 := by
  obtain ⟨i, h1, h2, h3, h4⟩ := info_parts Try.infoInt
  exact ⟨Try.underlying36, ⟨i, _, h1, h2, h3, h4, rfl⟩, by omega, by omega⟩
/-- The cells of numbers. -/
def icells (l : List Int) : List Value := l.map fun z => Value.int .i64 z
theorem icells_app (l r : List Int) : icells (l ++ r) = icells l ++ icells r := by simp [icells]
theorem icells_one (l : List Int) : ∀ u ∈ icells l, u.oneCell' = true := by
  intro u hu
  obtain ⟨i, _, rfl⟩ := List.mem_map.1 hu
  rfl
theorem icells_length (l : List Int) : (icells l).length = l.length := by simp [icells]
theorem icells_get (l : List Int) (j : Nat) (z : Int) (h : l[j]? = some z) : (icells l)[j]? = some (.int .i64 z) := by simp [icells, h]
theorem own_base {w : World} {B B' e size n : Nat} {v : Value} {xs : List Value} (h : w.ownsRow B e size v n xs) (hB : B' ≤ B) : w.ownsRow B' e size v n xs := by
  refine ⟨h.1, ?_⟩
  rcases h.2 with hh | ⟨g, cap, cur, e1, hg, rest⟩
  · exact .inl hh
  · exact .inr ⟨g, cap, cur, e1, by omega, rest⟩
/-- Rows of unlike elements lie in unlike blocks. -/
theorem own_apart {w : World} {B B' e e' size size' n n' : Nat} {v v' : Value} {xs xs' : List Value} (h : w.ownsRow B e size v n xs) (h' : w.ownsRow B' e' size' v' n' xs') (hne : e ≠ e') (b : Nat) (hb : v.ownBlock = some b) : v'.ownBlock ≠ some b := by
  intro hb'
  rcases h.2 with ⟨rfl, _⟩ | ⟨g, cap, cur, rfl, _, hc, _⟩
  · simp [Value.ownBlock] at hb
  · rcases h'.2 with ⟨rfl, _⟩ | ⟨g', cap', cur', rfl, _, hc', _⟩
    · simp [Value.ownBlock] at hb'
    · simp [Value.ownBlock] at hb hb'
      subst hb hb'
      rw [hc] at hc'
      simp at hc'
      exact hne hc'.2
theorem own_grown {w w' : World} {B e size n : Nat} {v : Value} {xs : List Value} {row : Option Nat} (h : w.ownsRow B e size v n xs) (hg : w.grownBy w' row) (hne : ∀ b, v.ownBlock = some b → row ≠ some b) : w'.ownsRow B e size v n xs := by
  refine ⟨h.1, ?_⟩
  rcases h.2 with hh | ⟨g, cap, cur, e1, hb, hc, rest⟩
  · exact .inl hh
  · refine .inr ⟨g, cap, cur, e1, hb, ?_, rest⟩
    rw [hg.block g (Array.getElem?_eq_some_iff.1 hc).1 (fun e => hne g (by rw [e1]; rfl) e.symm)]
    exact hc
/-- v is a row of the segments ss, all of it new since B. -/
def OwnPath (w : World) (B : Nat) (v : Value) (ss : List (Bool × List Int)) : Prop :=
  ∃ cs, w.ownsRow B 38 2 v ss.length cs ∧ ∀ i s, ss[i]? = some s → cs[i * 2]? = some (.bool s.1) ∧ ∃ u, cs[i * 2 + 1]? = some u ∧ w.ownsRow B 3 1 u s.2.length (icells s.2)
theorem OwnPath.later {w w' : World} {B : Nat} {v : Value} {ss : List (Bool × List Int)} (h : OwnPath w B v ss) (hb : Below w.heap.size w w') : OwnPath w' B v ss := by
  obtain ⟨cs, ho, hc⟩ := h
  refine ⟨cs, own_later ho hb, fun i s hi => ?_⟩
  obtain ⟨h1, u, h2, h3⟩ := hc i s hi
  exact ⟨h1, u, h2, own_later h3 hb⟩
theorem OwnPath.nil (w : World) (B : Nat) : OwnPath w B (.slice none 0 0) [] := ⟨[], own_nil _ _ _ _, fun i s h => by simp at h⟩
theorem own_ird {w : World} {B : Nat} {u : Value} {zs : List Int} (h : w.ownsRow B 3 1 u zs.length (icells zs)) : ∃ a c, u = .slice a zs.length c ∧ IRd w a zs := by
  have hh := h
  rcases h.2 with ⟨rfl, h0⟩ | ⟨g, cap, cur, rfl, _⟩
  · exact ⟨none, 0, by rw [h0], fun hp => absurd hp (by omega)⟩
  · refine ⟨_, _, rfl, fun _ => ⟨g, 0, rfl, fun j z hj => ?_⟩⟩
    have hjl := (List.getElem?_eq_some_iff.1 hj).1
    rw [Nat.zero_add, hh.cellAt j (by omega)]
    exact icells_get zs j z hj
theorem OwnPath.rd {w : World} {B : Nat} {v : Value} {ss : List (Bool × List Int)} (h : OwnPath w B v ss) (hl : ss.length ≤ 1000000) (hs : ∀ s ∈ ss, s.2.length ≤ 1000000) : ∃ a c, v = .slice a ss.length c ∧ PthRd w a ss := by
  obtain ⟨cs, ho, hc⟩ := h
  have hh := ho
  rcases ho.2 with ⟨rfl, h0⟩ | ⟨g, cap, cur, rfl, _⟩
  · exact ⟨none, 0, by rw [h0], ⟨fun hp => absurd hp (by omega), by unfold maxLen; omega, fun s hm => by have := hs s hm; unfold maxLen; omega⟩⟩
  · refine ⟨_, _, rfl, ⟨fun _ => ⟨g, 0, rfl, fun i s hi => ?_⟩, by unfold maxLen; omega, fun s hm => by have := hs s hm; unfold maxLen; omega⟩⟩
    have hil := (List.getElem?_eq_some_iff.1 hi).1
    obtain ⟨h1, u, h2, h3⟩ := hc i s hi
    obtain ⟨a', c', rfl, h4⟩ := own_ird h3
    rw [Nat.zero_add, hh.cellAt (i * 2) (by omega), hh.cellAt (i * 2 + 1) (by omega)]
    exact ⟨h1, a', c', h2, h4⟩
/-- One segment more. -/
theorem OwnPath.snoc {w : World} {B : Nat} {v u : Value} {ss : List (Bool × List Int)} {b : Bool} {zs : List Int} (h : OwnPath w B v ss) (hu : w.ownsRow B 3 1 u zs.length (icells zs)) (hone : u.oneCell' = true) (hB : B ≤ w.heap.size) (hl : ss.length ≤ 100000) (H : Nat) (hH : w.heap.size = H) :
    ∃ v' w', (Builtin.append_ #[22, 22] 22 #[v, .slice (some ⟨H, 0, none⟩) 1 1]).run Try.prog (w.alloc (.cells #[.bool b, u] 38)) = .ok v' w' ∧ OwnPath w' B v' (ss ++ [(b, zs)]) ∧ Below B w w' := by
  subst hH
  obtain ⟨cs, ho, hc⟩ := h
  have hb1 : Below B w (w.alloc (.cells #[.bool b, u] 38)) := (Below.refl _ _).alloc hB _
  have hbw : Below w.heap.size w (w.alloc (.cells #[.bool b, u] 38)) := (Below.refl _ _).alloc (Nat.le_refl _) _
  obtain ⟨v', w', hr, h2, h3, h4, _⟩ := app_more elemSeg (w := w.alloc (.cells #[.bool b, u] 38)) (ho.alloc _) (by simp; omega) ⟨w.heap.size, 0, none⟩ 1 1 [.bool b, u] rfl (fun j x hx => by
    rw [Addr.add_mid, Nat.zero_add, World.cell?_alloc_mark]
    simpa using hx) (by intro x hx; simp at hx; rcases hx with rfl | rfl; rfl; exact hone) (by omega)
  have hap : ∀ (x : Value) (ys : List Int), w.ownsRow B 3 1 x ys.length (icells ys) → w'.ownsRow B 3 1 x ys.length (icells ys) := fun x ys hx =>
    own_grown (own_later hx hbw) h4 (fun k hk => own_apart hx ho (by decide) k hk)
  refine ⟨v', w', hr, ⟨_, by rw [List.length_append]; exact h2, fun i s hi => ?_⟩, hb1.trans h3⟩
  have hcl : cs.length = ss.length * 2 := ho.1
  by_cases hlt : i < ss.length
  · rw [List.getElem?_append_left hlt] at hi
    obtain ⟨g1, x, g2, g3⟩ := hc i s hi
    exact ⟨by rw [List.getElem?_append_left (by omega)]; exact g1, x, by rw [List.getElem?_append_left (by omega)]; exact g2, hap x _ g3⟩
  · rw [List.getElem?_append_right (by omega)] at hi
    have hi0 : i - ss.length = 0 := by
      have := (List.getElem?_eq_some_iff.1 hi).1
      simpa using this
    rw [hi0] at hi
    simp at hi
    subst hi
    have e1 : i = ss.length := by omega
    subst e1
    refine ⟨by rw [List.getElem?_append_right (by omega), hcl, Nat.sub_self]; rfl, u, by rw [List.getElem?_append_right (by omega), show ss.length * 2 + 1 - cs.length = 1 from by omega]; rfl, hap u zs hu⟩
end Go.Proofs.Ytnfokbpnjhhiiaa
