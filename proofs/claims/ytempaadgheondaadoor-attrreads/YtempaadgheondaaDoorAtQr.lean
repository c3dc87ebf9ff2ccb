/- The Raws of a box put in order; which types stood. -/
import Derived.Test.YtempaadgheondaaDoorAtQs
import Derived.Test.YtempaadgheondaaDoorAtQo
namespace Go.Proofs.YtempaadgheondaaDoor
open Go.RowKit
set_option maxRecDepth 100000

theorem exists_list {α : Type} (P : Nat → α → Prop) : ∀ n, (∀ i, i < n → ∃ x, P i x) → ∃ l : List α, l.length = n ∧ ∀ i x, l[i]? = some x → P i x
  | 0, _ => ⟨[], rfl, fun i x h => by simp at h⟩
  | n + 1, h => by
    obtain ⟨l, hl, hp⟩ := exists_list P n (fun i hi => h i (by omega))
    obtain ⟨x, hx⟩ := h n (by omega)
    refine ⟨l ++ [x], by simp [hl], fun i y hi => ?_⟩
    by_cases hlt : i < l.length
    · rw [List.getElem?_append_left hlt] at hi
      exact hp i y hi
    · rw [List.getElem?_append_right (by omega)] at hi
      have h0 : i - l.length = 0 := by have := (List.getElem?_eq_some_iff.1 hi).1; simpa using this
      rw [h0] at hi
      simp at hi
      subst hi
      have : i = n := by omega
      rw [this]
      exact hx
theorem own_other {w w' : World} {B B' e e' size size' n n' g c : Nat} {v : Value} {xs xs' : List Value} (h : w.ownsRow B e size v n xs) (h' : w.ownsRow B' e' size' (.slice (some ⟨g, 0, none⟩) n' c) n' xs') (hne : e ≠ e') (hk : Keeps (fun b => b = g) w w') : w'.ownsRow B e size v n xs := by
  refine ⟨h.1, ?_⟩
  rcases h.2 with hh | ⟨g2, cap, cur, e1, hb, hc, rest⟩
  · exact .inl hh
  · refine .inr ⟨g2, cap, cur, e1, hb, ?_, rest⟩
    rw [hk.block g2 (Array.getElem?_eq_some_iff.1 hc).1 (fun h9 => by
      have := own_apart h h' hne g2 (by rw [e1]; rfl)
      exact this (by rw [h9]; rfl))]
    exact hc
/-- A row of Raws of the call's own, put in order. -/
theorem raws_sort {w : World} {B : Nat} {p : Option Addr} {c : Nat} {rs S : List (Int × Int × List Nat)} (h : OwnRaws w B (.slice p rs.length c) rs) (hl : rs.length ≤ 100000) (hS : S.Perm rs) (hup : S.Pairwise fun x y => x.2.1 < y.2.1) :
    Calls Tryd.prog 22 #[.slice p rs.length c, .func (.func 23) #[] #[]] w fun e w' => e = .returned (.tuple #[]) ∧ OwnRaws w' B (.slice p rs.length c) S ∧ ∃ g, B ≤ g ∧ Keeps (fun b => b = g) w w' ∧ ∀ (e' size' n' : Nat) (v : Value) (xs : List Value), e' ≠ 48 → w.ownsRow B e' size' v n' xs → w'.ownsRow B e' size' v n' xs := by
  by_cases h0 : rs = []
  · subst h0
    have hS0 : S = [] := List.perm_nil.1 hS
    subst hS0
    refine (sort_none p c w).mono ?_
    rintro e w' ⟨rfl, rfl⟩
    exact ⟨rfl, h, B, Nat.le_refl _, Keeps.refl _ _, fun _ _ _ _ _ _ h9 => h9⟩
  · have hpos : 0 < rs.length := List.length_pos_iff.2 h0
    obtain ⟨cs, ho, hc⟩ := h
    obtain ⟨g, hp⟩ : ∃ g, p = some ⟨g, 0, none⟩ := by
      rcases ho.2 with ⟨_, e⟩ | ⟨g, cap, cur, e, _⟩
      · omega
      · simp only [Value.slice.injEq] at e
        exact ⟨g, e.1⟩
    subst hp
    have hgB : B ≤ g := (own_block ho g rfl).1
    obtain ⟨Z, hZl, hZ⟩ := exists_list (fun i (z : RE × (Int × Int × List Nat)) => rs[i]? = some z.2 ∧ z.1.1 = z.2.1 ∧ z.1.2.1 = z.2.2.1 ∧ cs[i * 3]? = some (.int .i64 z.1.1) ∧ cs[i * 3 + 1]? = some (.int .i64 z.1.2.1) ∧ cs[i * 3 + 2]? = some (.slice z.1.2.2.1 z.1.2.2.2.1 z.1.2.2.2.2) ∧ w.ownsRow B 5 1 (.slice z.1.2.2.1 z.1.2.2.2.1 z.1.2.2.2.2) z.2.2.2.length (bcells z.2.2.2)) rs.length (fun i hi => by
      obtain ⟨h1, h2, u, h3, h4⟩ := hc i _ (List.getElem?_eq_getElem hi)
      obtain ⟨a', c', rfl⟩ := own_shape h4
      exact ⟨((rs[i].1, rs[i].2.1, a', rs[i].2.2.length, c'), rs[i]), List.getElem?_eq_getElem hi, rfl, rfl, h1, h2, h3, h4⟩)
    have hfst : ∀ i x, (Z.map fun z => z.1)[i]? = some x → ∃ z : RE × (Int × Int × List Nat), Z[i]? = some z ∧ z.1 = x := fun i x hx => by
      rw [List.getElem?_map] at hx
      cases hz : Z[i]? with
      | none => rw [hz] at hx; cases hx
      | some z => rw [hz] at hx; exact ⟨z, hz, Option.some.inj hx⟩
    have hR : RowsE cs (Z.map fun z => z.1) := fun i x hx => by
      obtain ⟨z, hz, rfl⟩ := hfst i x hx
      obtain ⟨_, _, _, g1, g2, g3, _⟩ := hZ i z hz
      exact ⟨g1, g2, g3⟩
    have hsnd : (Z.map fun z => z.2) = rs := by
      apply List.ext_getElem?
      intro i
      rw [List.getElem?_map]
      by_cases hi : i < Z.length
      · rw [List.getElem?_eq_getElem hi, (hZ i _ (List.getElem?_eq_getElem hi)).1]; rfl
      · rw [List.getElem?_eq_none (by omega), List.getElem?_eq_none (by omega)]; rfl
    refine (sort_row (Z.map fun z => z.1) B g rs.length c cs w ho (by rw [List.length_map]; exact hZl) hR hl).mono ?_
    rintro e w' ⟨rfl, d', cs', hperm, hsort, ho', hR', hk⟩
    obtain ⟨Z', hZp, e1, e2⟩ := sort_lift (fun x : RE => x.2.1) (fun r : Int × Int × List Nat => r.2.1) d' Z hperm hsort (fun z hz => by
      obtain ⟨i, hi, rfl⟩ := List.mem_iff_getElem.1 hz
      exact (hZ i _ (List.getElem?_eq_getElem hi)).2.2.1) S (by rw [hsnd]; exact hS) hup
    have hSl : S.length = rs.length := hS.length_eq
    refine ⟨rfl, ⟨cs', by rw [hSl]; exact ho', fun i r hr => ?_⟩, g, hgB, hk, fun e' size' n' v xs hne h9 => own_other h9 ho hne hk⟩
    rw [← e2, List.getElem?_map] at hr
    cases hz : Z'[i]? with
    | none => rw [hz] at hr; cases hr
    | some z =>
      rw [hz] at hr
      have ez : z.2 = r := Option.some.inj hr
      have hzm : z ∈ Z := hZp.mem_iff.1 (List.mem_of_getElem? hz)
      obtain ⟨j, hj, ej⟩ := List.mem_iff_getElem.1 hzm
      obtain ⟨_, q1, q2, _, _, _, q6⟩ := hZ j z (by rw [List.getElem?_eq_getElem hj, ej])
      obtain ⟨g1, g2, g3⟩ := hR' i z.1 (by rw [← e1, List.getElem?_map, hz]; rfl)
      rw [← ez]
      exact ⟨by rw [g1, q1], by rw [g2, q2], _, g3, own_other q6 ho (by decide) hk⟩
/-- The Raws of a box, put in order. -/
theorem box_sort {w : World} {X B : Nat} {x b : At} {seen : List Nat} {p : Option Addr} {c : Nat} (h : Box w X B x) (hr : Rel x b seen) (hl : x.raws.length ≤ 100000) (hv : w.cell? ⟨X, 6, none⟩ = some (.slice p x.raws.length c)) :
    Calls Tryd.prog 22 #[.slice p x.raws.length c, .func (.func 23) #[] #[]] w fun e w' => e = .returned (.tuple #[]) ∧ Box w' X B b ∧ Keeps (NotBox X B) w w' := by
  obtain ⟨p6, k6, q6, o6⟩ := h.c6
  rw [hv] at q6
  simp only [Option.some.injEq, Value.slice.injEq, true_and] at q6
  obtain ⟨rfl, rfl⟩ := q6
  refine (raws_sort o6 hl hr.perm hr.up).mono ?_
  rintro e w' ⟨rfl, hO, g, hg, hk, hoth⟩
  have hXB := h.lt
  have hX := h.pos
  have cX : ∀ j, w'.cell? ⟨X, j, none⟩ = w.cell? ⟨X, j, none⟩ := fun j => hk.cell ⟨X, j, none⟩ hX (fun e => by simp only at e; omega)
  have fX : ∀ j, w'.frozen? ⟨X, j, none⟩ = false := fun j => by
    rw [World.frozen?_of_block (w := w) (hk.block X hX (fun e => by omega))]
    exact h.fz j
  obtain ⟨p1, k1, q1, o1⟩ := h.c1
  obtain ⟨p5, k5, q5, o5⟩ := h.c5
  have oP : OwnPath w' B (.slice p1 x.path.length k1) x.path := by
    obtain ⟨cs, ho, hc⟩ := o1
    refine ⟨cs, hoth _ _ _ _ _ (by decide) ho, fun i s hi => ?_⟩
    obtain ⟨g1, u, g2, g3⟩ := hc i s hi
    exact ⟨g1, u, g2, hoth _ _ _ _ _ (by decide) g3⟩
  have eb := hr.eq
  have hlen : b.raws.length = x.raws.length := hr.perm.length_eq
  refine ⟨rfl, ?_, ⟨hk.os, hk.tape, hk.output, hk.size, fun k hk2 hn => hk.block k hk2 (fun e => hn (.inr (by omega)))⟩⟩
  rw [eb]
  exact ⟨by rw [cX]; exact h.c0, ⟨p1, k1, by rw [cX]; exact q1, oP⟩, by rw [cX]; exact h.c2, by rw [cX]; exact h.c3, by rw [cX]; exact h.c4, ⟨p5, k5, by rw [cX]; exact q5, hoth _ _ _ _ _ (by decide) o5⟩, ⟨p, c, by rw [cX]; show _ = some (Value.slice p b.raws.length c); rw [hlen]; exact hv, by show OwnRaws w' B (.slice p b.raws.length c) b.raws; rw [hlen]; exact hO⟩, fX, hXB⟩
/-- Which types stood: the cells of block Y. -/
def Stood (w : World) (Y : Nat) (seen : List Nat) : Prop := ∀ i, i < 256 → w.cell? ⟨Y, i, none⟩ = some (.bool (decide (i ∈ seen))) ∧ w.frozen? ⟨Y, i, none⟩ = false
theorem Stood.keeps {F : Nat → Prop} {w w' : World} {Y : Nat} {seen : List Nat} (h : Stood w Y seen) (hk : Keeps F w w') (hF : ¬ F Y) : Stood w' Y seen := fun i hi => by
  have hY := World.block_lt_of_cell? w _ (h i hi).1
  simp only at hY
  exact ⟨by rw [hk.cell ⟨Y, i, none⟩ hY hF]; exact (h i hi).1, by rw [World.frozen?_of_block (w := w) (hk.block Y hY hF)]; exact (h i hi).2⟩
theorem Stood.put {w : World} {Y : Nat} {seen : List Nat} (h : Stood w Y seen) (t : Nat) (ht : t < 256) : Stood (w.setCell ⟨Y, t, none⟩ (.bool true)) Y (t :: seen) := fun i hi => by
  refine ⟨?_, by rw [World.frozen?_setCell]; exact (h i hi).2⟩
  by_cases e : i = t
  · subst e
    rw [World.cell?_setCell_same _ _ _ (h i hi).1]
    simp
  · rw [World.cell?_setCell_other _ _ _ _ (by intro e9; injection e9 with _ e2 _; exact e e2.symm), (h i hi).1]
    congr 2
    rw [Bool.eq_iff_iff]
    simp only [decide_eq_true_eq, List.mem_cons]
    constructor
    · exact fun h9 => .inr h9
    · rintro (h9 | h9)
      · exact absurd h9 e
      · exact h9
theorem infoSeen : (Tryd.prog.info? 61).map (fun i => (i.zero, i.size, i.bytes)) = some (some (.agg (Array.replicate 256 (.bool false))), 256, 256) := by kernel_rfl
theorem run_alloc_seen (w : World) : (Instr.alloc 61 true (.tuple #[])).run Tryd.prog w = .ok (.pointer (some ⟨w.heap.size, 0, none⟩)) (w.alloc (.cells (Array.replicate 256 (.bool false)) 61)) := by
  obtain ⟨i0, hi0, hz0, _, _⟩ := info_parts infoSeen
  simp [Instr.alloc, zeroValue, typeInfo, hi0, hz0, newVar, newRow, Value.cells]
theorem stood_new (w : World) : Stood (w.alloc (.cells (Array.replicate 256 (.bool false)) 61)) w.heap.size [] := fun i hi => by
  refine ⟨?_, by simp [go_sem]⟩
  rw [World.cell?_alloc_mark, Array.getElem?_replicate, if_pos hi]
  simp
end Go.Proofs.YtempaadgheondaaDoor
