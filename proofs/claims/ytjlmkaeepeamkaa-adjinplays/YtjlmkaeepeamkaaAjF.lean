/- Rows of routes of the call's own, with all that they lead to; entries of a map one by one. -/
import Derived.Test.YtjlmkaeepeamkaaAjE
namespace Go.Proofs.Ytjlmkaeepeamkaa
open Go.RowKit Go.ChangeMaps Go.MapKept
set_option maxRecDepth 100000

/-- What is kept of a route: how large it is. -/
def okR (r : Rt) : Prop := sizeA r.att ≤ 100000 ∧ r.att.next < 4294967296 ∧ ∀ q ∈ r.att.raws, ∀ x ∈ q.2.2, x < 256
theorem okR.rd {w : World} {B : Nat} {pa : Option Addr} {pc : Nat} {ca : Option Addr} {cc : Nat} {ra : Option Addr} {rc : Nat} {r : Rt} (h : okR r) (ho : OwnAt w B pa pc ca cc ra rc r.att) : AtRd w pa ca ra r.att := ho.rd h.1 h.2.1 h.2.2
theorem okR.of {w : World} {pa ca ra : Option Addr} {r : Rt} (hs : sizeA r.att ≤ 100000) (h : AtRd w pa ca ra r.att) : okR r := ⟨hs, h.next, h.raws.bytes⟩
/-- A block that no attributes lie in. -/
def Alien (w : World) (k : Nat) : Prop := ∀ C t z, w.heap[k]? = some (.cells C t z) → t = 36
theorem OwnAt.alien {F : Nat → Prop} {w w' : World} {B : Nat} {pa : Option Addr} {pc : Nat} {ca : Option Addr} {cc : Nat} {ra : Option Addr} {rc : Nat} {a : At} (h : OwnAt w B pa pc ca cc ra rc a) (hk : Keeps F w w') (hF : ∀ k, F k → Alien w k) : OwnAt w' B pa pc ca cc ra rc a := by
  have hc : ∀ (e size n : Nat) (u : Value) (ys : List Value), e ≠ 36 → w.ownsRow B e size u n ys → w'.ownsRow B e size u n ys := fun e size n u ys hne hu => by
    refine ⟨hu.1, ?_⟩
    rcases hu.2 with hh | ⟨g, cap, cur, e1, hg, hcur, rest⟩
    · exact .inl hh
    · exact .inr ⟨g, cap, cur, e1, hg, by rw [hk.block g (Array.getElem?_eq_some_iff.1 hcur).1 (fun hf => hne (hF g hf _ _ _ hcur))]; exact hcur, rest⟩
  obtain ⟨h1, h2, h3⟩ := h
  refine ⟨?_, hc _ _ _ _ _ (by decide) h2, ?_⟩
  · obtain ⟨cs, q1, q2⟩ := h1
    refine ⟨cs, hc _ _ _ _ _ (by decide) q1, fun i s hi => ?_⟩
    obtain ⟨p1, u, p2, p3⟩ := q2 i s hi
    exact ⟨p1, u, p2, hc _ _ _ _ _ (by decide) p3⟩
  · obtain ⟨cs, q1, q2⟩ := h3
    refine ⟨cs, hc _ _ _ _ _ (by decide) q1, fun i s hi => ?_⟩
    obtain ⟨p0, p1, u, p2, p3⟩ := q2 i s hi
    exact ⟨p0, p1, u, p2, hc _ _ _ _ _ (by decide) p3⟩
/-- The cells cs are those of the routes l, and all that they lead to is new since B. -/
def RowsR (w : World) (B : Nat) (cs : List Value) (l : List Rt) : Prop := ∀ i r, l[i]? = some r → okR r ∧ ∃ pa pc ca cc ra rc, (∀ (j : Nat) x, (rtC pa pc ca cc ra rc r)[j]? = some x → cs[i * 11 + j]? = some x) ∧ OwnAt w B pa pc ca cc ra rc r.att
/-- v is a row of the routes l: its cells and all that they lead to are new since B. -/
def OwnTb (w : World) (B : Nat) (v : Value) (l : List Rt) : Prop := ∃ cs, w.ownsRow B 36 11 v l.length cs ∧ RowsR w B cs l
theorem OwnTb.nil (w : World) (B : Nat) : OwnTb w B (.slice none 0 0) [] := ⟨[], own_nil _ _ _ _, fun i s h => by simp at h⟩
theorem RowsR.keeps {F : Nat → Prop} {w w' : World} {B : Nat} {cs : List Value} {l : List Rt} (h : RowsR w B cs l) (hk : Keeps F w w') (hF : ∀ b, B ≤ b → ¬ F b) : RowsR w' B cs l := fun i r hi => by
  obtain ⟨h0, pa, pc, ca, cc, ra, rc, h1, h2⟩ := h i r hi
  exact ⟨h0, pa, pc, ca, cc, ra, rc, h1, h2.keeps hk hF⟩
theorem RowsR.alien {F : Nat → Prop} {w w' : World} {B : Nat} {cs : List Value} {l : List Rt} (h : RowsR w B cs l) (hk : Keeps F w w') (hF : ∀ k, F k → Alien w k) : RowsR w' B cs l := fun i r hi => by
  obtain ⟨h0, pa, pc, ca, cc, ra, rc, h1, h2⟩ := h i r hi
  exact ⟨h0, pa, pc, ca, cc, ra, rc, h1, h2.alien hk hF⟩
theorem OwnTb.keeps {F : Nat → Prop} {w w' : World} {B : Nat} {v : Value} {l : List Rt} (h : OwnTb w B v l) (hk : Keeps F w w') (hF : ∀ b, B ≤ b → ¬ F b) : OwnTb w' B v l := by
  obtain ⟨cs, ho, hc⟩ := h
  exact ⟨cs, own_keeps ho hk hF, hc.keeps hk hF⟩
theorem OwnTb.later {w w' : World} {B : Nat} {v : Value} {l : List Rt} (h : OwnTb w B v l) (hb : Below w.heap.size w w') : OwnTb w' B v l :=
  h.keeps (F := fun _ => False) (Keeps.of_below hb _) (fun _ _ => id)
theorem OwnTb.base {w : World} {B B' : Nat} {v : Value} {l : List Rt} (h : OwnTb w B v l) (hB : B' ≤ B) : OwnTb w B' v l := by
  obtain ⟨cs, ho, hc⟩ := h
  refine ⟨cs, own_base ho hB, fun i r hi => ?_⟩
  obtain ⟨h0, pa, pc, ca, cc, ra, rc, h1, h2⟩ := hc i r hi
  exact ⟨h0, pa, pc, ca, cc, ra, rc, h1, h2.base hB⟩
theorem OwnTb.ok {w : World} {B : Nat} {v : Value} {l : List Rt} (h : OwnTb w B v l) : ∀ r ∈ l, okR r := fun r hr => by
  obtain ⟨cs, ho, hc⟩ := h
  obtain ⟨i, hi⟩ := List.mem_iff_getElem?.1 hr
  exact (hc i r hi).1
theorem OwnTb.rd {w : World} {B : Nat} {v : Value} {l : List Rt} (h : OwnTb w B v l) : ∃ a c, v = .slice a l.length c ∧ RtsRd w a l := by
  obtain ⟨cs, ho, hc⟩ := h
  have hh := ho
  rcases ho.2 with ⟨rfl, h0⟩ | ⟨g, cap, cur, rfl, _⟩
  · exact ⟨none, 0, by rw [h0], fun hp => absurd hp (by omega)⟩
  · refine ⟨_, _, rfl, fun _ => ⟨g, 0, rfl, fun i r hi => ?_⟩⟩
    have hil := (List.getElem?_eq_some_iff.1 hi).1
    obtain ⟨h0, pa, pc, ca, cc, ra, rc, h1, h2⟩ := hc i r hi
    refine ⟨pa, pc, ca, cc, ra, rc, fun j x hx => ?_, h0.rd h2⟩
    have hj : j < 11 := by have := (Array.getElem?_eq_some_iff.1 hx).1; rwa [rtC_size] at this
    rw [Nat.zero_add, hh.cellAt (i * 11 + j) (by omega)]
    exact h1 j x hx
/-- One route more. -/
theorem OwnTb.snoc {w : World} {B : Nat} {v : Value} {l : List Rt} {r : Rt} {pa : Option Addr} {pc : Nat} {ca : Option Addr} {cc : Nat} {ra : Option Addr} {rc : Nat} (h : OwnTb w B v l) (hB : B ≤ w.heap.size) (hr : OwnAt w B pa pc ca cc ra rc r.att) (hk : okR r) (hl : l.length ≤ 500000) :
    ∃ a' c' w', (Builtin.append_ #[26, 26] 26 #[v, .slice (some ⟨w.heap.size, 0, none⟩) 1 1]).run Try.prog (w.alloc (.cells (rtC pa pc ca cc ra rc r) 36)) = .ok (.slice a' (l.length + 1) c') w' ∧ OwnTb w' B (.slice a' (l.length + 1) c') (l ++ [r]) ∧ Below B w w' := by
  obtain ⟨cs, ho, hc⟩ := h
  have hbw : Below w.heap.size w (w.alloc (.cells (rtC pa pc ca cc ra rc r) 36)) := (Below.refl _ _).alloc (Nat.le_refl _) _
  obtain ⟨v', w', hrun, h2, h3, h4, _⟩ := app_more elemRoute (w := w.alloc (.cells (rtC pa pc ca cc ra rc r) 36)) (ho.alloc _) (by simp; omega) ⟨w.heap.size, 0, none⟩ 1 1 (rtC pa pc ca cc ra rc r).toList rfl (fun j u hu => by
    rw [Addr.add_mid, Nat.zero_add, World.cell?_alloc_mark]
    simpa using hu) (fun u hu => by
    have := (RC.rt pa pc ca cc ra rc r).2
    rw [Array.all_eq_true'] at this
    exact this u (by simpa using hu)) (by omega)
  obtain ⟨a', c', rfl⟩ := own_shape h2
  have hkk : Keeps (fun k => v.ownBlock = some k) w w' := ((Keeps.refl _ w).alloc _).grown h4 (fun b hb => .inl hb)
  have hal : ∀ k, v.ownBlock = some k → Alien w k := fun k hk C t z hC => by
    rcases ho.2 with ⟨e1, _⟩ | ⟨g, cap, cur, e1, _, hcur, _⟩
    · rw [e1] at hk; simp [Value.ownBlock] at hk
    · rw [e1] at hk
      simp [Value.ownBlock] at hk
      subst hk
      rw [hC] at hcur
      injection hcur with hcur
      injection hcur
  refine ⟨a', c', w', hrun, ⟨_, by rw [List.length_append]; exact h2, fun i s hi => ?_⟩, ((Below.refl _ _).alloc hB _).trans h3⟩
  have hcl : cs.length = l.length * 11 := ho.1
  by_cases hlt : i < l.length
  · rw [List.getElem?_append_left hlt] at hi
    obtain ⟨g0, qa, qb, qc, qd, qe, qf, g1, g2⟩ := hc i s hi
    refine ⟨g0, qa, qb, qc, qd, qe, qf, fun j x hx => ?_, g2.alien hkk hal⟩
    have hj : j < 11 := by have := (Array.getElem?_eq_some_iff.1 hx).1; rwa [rtC_size] at this
    rw [List.getElem?_append_left (by omega)]
    exact g1 j x hx
  · rw [List.getElem?_append_right (by omega)] at hi
    have hi0 : i - l.length = 0 := by
      have := (List.getElem?_eq_some_iff.1 hi).1
      simpa using this
    rw [hi0] at hi
    simp at hi
    subst hi
    refine ⟨hk, pa, pc, ca, cc, ra, rc, fun j x hx => ?_, hr.alien hkk hal⟩
    rw [List.getElem?_append_right (by omega), show i * 11 + j - cs.length = j from by omega, Array.getElem?_toList]
    exact hx
/-- Those that have been told. -/
def told (es : List MapEntry) (seen : Array Nat) : List MapEntry := es.filter (fun e => seen.contains e.born)
theorem told_none (es : List MapEntry) : told es #[] = [] := by unfold told; rw [List.filter_eq_nil_iff]; simp
theorem told_all {es : Array MapEntry} {seen : Array Nat} (h : (leftOf es seen).size = 0) : told es.toList seen = es.toList := List.filter_eq_self.2 (all_seen es seen h)
theorem told_more : ∀ {l : List MapEntry} {seen : Array Nat} {e : MapEntry}, (l.map (·.born)).Nodup → e ∈ l → seen.contains e.born = false → (told l (seen.push e.born)).Perm (e :: told l seen)
  | [], _, _, _, h, _ => by simp at h
  | x :: l, seen, e, hn, he, hs => by
    simp only [List.map_cons, List.nodup_cons] at hn
    have hx : ∀ y, told (x :: l) y = if y.contains x.born then x :: told l y else told l y := fun y => by
      unfold told; rw [List.filter_cons]
    rw [hx, hx, contains_push]
    rcases List.mem_cons.1 he with rfl | he
    · rw [hs]
      simp only [beq_self_eq_true, Bool.or_true, if_true, Bool.false_eq_true, if_false]
      refine List.Perm.cons e (List.Perm.of_eq ?_)
      unfold told
      refine List.filter_congr fun y hy => ?_
      rw [contains_push]
      have : (y.born == e.born) = false := by
        simp only [beq_eq_false_iff_ne]
        intro h
        exact hn.1 (List.mem_map.2 ⟨y, hy, h⟩)
      rw [this, Bool.or_false]
    · have hne : (x.born == e.born) = false := by
        simp only [beq_eq_false_iff_ne]
        intro h
        exact hn.1 (List.mem_map.2 ⟨e, he, h.symm⟩)
      rw [hne, Bool.or_false]
      have ih := told_more hn.2 he hs
      split
      · exact (ih.cons x).trans (List.Perm.swap _ _ _)
      · exact ih
end Go.Proofs.Ytjlmkaeepeamkaa
