/- A loop over a map's entries, whichever comes next. -/
import Derived.Test.YthbgalknhodgnaaMem
import Derived.Maps.Range
import Derived.Maps.RangeRun
import Derived.MapKept
namespace Go.Proofs.Ythbgalknhodgnaa
open Go.RowKit Go.ChangeMaps Go.MapKept
set_option maxRecDepth 100000

/-- Those that have been told. -/
def told (es : List MapEntry) (seen : Array Nat) : List MapEntry := es.filter (fun e => seen.contains e.born)
theorem told_none (es : List MapEntry) : told es #[] = [] := by unfold told; rw [List.filter_eq_nil_iff]; simp
theorem told_all {es : Array MapEntry} {seen : Array Nat} (h : (leftOf es seen).size = 0) : told es.toList seen = es.toList := List.filter_eq_self.2 (all_seen es seen h)
theorem told_more : ∀ {l : List MapEntry} {seen : Array Nat} {e : MapEntry}, (l.map (·.born)).Nodup → e ∈ l → seen.contains e.born = false → (told l (seen.push e.born)).Perm (e :: told l seen)
  | [], _, _, _, h, _ => by simp at h
  | x :: l, seen, e, hn, he, hs => by
    simp only [List.map_cons, List.nodup_cons] at hn
    have hx : ∀ y, told (x :: l) y = if y.contains x.born then x :: told l y else told l y := fun y => by
      unfold told; rw [List.filter_cons]
    rw [hx, hx, contains_push]
    rcases List.mem_cons.1 he with rfl | he
    · rw [hs]
      simp only [beq_self_eq_true, Bool.or_true, if_true, Bool.false_eq_true, if_false]
      refine List.Perm.cons e (List.Perm.of_eq ?_)
      unfold told
      refine List.filter_congr fun y hy => ?_
      rw [contains_push]
      have : (y.born == e.born) = false := by
        simp only [beq_eq_false_iff_ne]
        intro h
        exact hn.1 (List.mem_map.2 ⟨y, hy, h⟩)
      rw [this, Bool.or_false]
    · have hne : (x.born == e.born) = false := by
        simp only [beq_eq_false_iff_ne]
        intro h
        exact hn.1 (List.mem_map.2 ⟨e, he, h.symm⟩)
      rw [hne, Bool.or_false]
      have ih := told_more hn.2 he hs
      split
      · exact (ih.cons x).trans (List.Perm.swap _ _ _)
      · exact ih
/-- A loop over the map's entries: its iterator, block r. -/
structure It (w : World) (b r : Nat) (es : Array MapEntry) (clock : Nat) (seen : Array Nat) : Prop where
  it : ∃ c0, w.heap[r]? = some (.mapIter (some b) clock seen c0) ∧ clock ≤ c0
  map : w.heap[b]? = some (.map es clock)
theorem It.keeps {F : Nat → Prop} {w w' : World} {b r : Nat} {es : Array MapEntry} {clock : Nat} {seen : Array Nat} (h : It w b r es clock seen) (hk : Keeps F w w') (hb : ¬ F b) (hr : ¬ F r) : It w' b r es clock seen := by
  obtain ⟨⟨c0, h1, h2⟩, h3⟩ := h
  exact ⟨⟨c0, by rw [hk.block r (Array.getElem?_eq_some_iff.1 h1).1 hr]; exact h1, h2⟩, by rw [hk.block b (Array.getElem?_eq_some_iff.1 h3).1 hb]; exact h3⟩
theorem It.later {w w' : World} {b r : Nat} {es : Array MapEntry} {clock : Nat} {seen : Array Nat} (h : It w b r es clock seen) (hb : Below w.heap.size w w') : It w' b r es clock seen :=
  h.keeps (F := fun _ => False) (Keeps.of_below hb _) id id
theorem It.left {w : World} {b r : Nat} {es : Array MapEntry} {clock : Nat} {seen : Array Nat} (h : It w b r es clock seen) : w.rangeLeft b r = (leftOf es seen).size := by
  obtain ⟨⟨c0, h1, h2⟩, h3⟩ := h
  simp only [World.rangeLeft, h1, h3]
/-- The next entry, or that there is none. -/
theorem It.next {w : World} {b r : Nat} {es : Array MapEntry} {clock : Nat} {seen : Array Nat} (h : It w b r es clock seen) (hs : Stamped es clock) (hne : r ≠ b) :
    ((leftOf es seen).size = 0 ∧ ∀ ty, (Instr.next (.pointer (some ⟨r, 0, none⟩)) false ty).run Try.prog w = .ok (.tuple #[.bool false]) w) ∨
    ∃ e w', e ∈ es.toList ∧ seen.contains e.born = false ∧ (∀ ty, (Instr.next (.pointer (some ⟨r, 0, none⟩)) false ty).run Try.prog w = .ok (.tuple #[.bool true, e.key, e.val]) w') ∧ (Instr.entry (.pointer (some ⟨r, 0, none⟩))).run Try.prog w' = .ok (.tuple #[e.key, e.val]) w' ∧ It w' b r es clock (seen.push e.born) ∧ Keeps (fun k => k = r) w w' ∧ (leftOf es (seen.push e.born)).size < (leftOf es seen).size := by
  obtain ⟨⟨c0, h1, h2⟩, h3⟩ := h
  rcases run_next_at (P := Try.prog) w 0 r b clock c0 seen es clock h1 h3 hs.1 h2 with ⟨k1, k2⟩ | ⟨e, he, w1, hw, hrun⟩
  · exact .inl ⟨k1, fun _ => k2⟩
  · obtain ⟨hem, hes⟩ := mem_left he
    have hr1 : w1.heap[r]? = some (.mapIter (some b) clock seen c0) := by rcases hw with rfl | rfl <;> exact h1
    have hb1 : w1.heap[b]? = some (.map es clock) := by rcases hw with rfl | rfl <;> exact h3
    have hset := heap_set (o' := .mapIter (some b) clock (seen.push e.born) clock) hr1
    have hb' : (setBlock w1 r (.mapIter (some b) clock (seen.push e.born) clock)).heap[b]? = some (.map es clock) := (hset.2 b (fun e1 => hne e1.symm)).trans hb1
    refine .inr ⟨e, _, hem, hes, fun _ => hrun, run_entry_at _ r b clock seen es clock e hset.1 hb' hem ((stamped_iff es clock).1 hs).2.1, ⟨⟨clock, hset.1, Nat.le_refl _⟩, hb'⟩, ?_, left_shrinks es seen e he⟩
    rcases hw with rfl | rfl <;> exact ⟨rfl, rfl, rfl, by simp [setBlock], fun k _ hk => hset.2 k hk⟩
end Go.Proofs.Ythbgalknhodgnaa
