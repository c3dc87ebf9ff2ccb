/- Prefixes put in order; the table's Prefixes. -/
import Derived.Test.YtjlmkaeepeamkaaAjW
import Derived.Test.YtjlmkaeepeamkaaPfxAp
namespace Go.Proofs.Ytjlmkaeepeamkaa
open Go.RowKit Go.ChangeMaps Go.MapKept
set_option maxRecDepth 100000

/-- The cells of prefixes. -/
def qcells : List (Nat × Int) → List Value
  | [] => []
  | p :: r => .int .u32 (p.1 : Int) :: .int .i64 p.2 :: qcells r
theorem qcells_snoc (l : List (Nat × Int)) (p : Nat × Int) : qcells (l ++ [p]) = qcells l ++ [.int .u32 (p.1 : Int), .int .i64 p.2] := by
  induction l with
  | nil => rfl
  | cons a l ih => simp only [List.cons_append, qcells, ih]
theorem qcells_get (ps : List (Nat × Int)) : ∀ (i : Nat) (p : Nat × Int), ps[i]? = some p → (qcells ps)[i * 2]? = some (.int .u32 (p.1 : Int)) ∧ (qcells ps)[i * 2 + 1]? = some (.int .i64 p.2) := by
  induction ps with
  | nil => intro i p h; simp at h
  | cons a l ih =>
    intro i p h
    cases i with
    | zero => simp at h; subst h; exact ⟨rfl, rfl⟩
    | succ i =>
      have := ih i p (by simpa using h)
      rw [show (i + 1) * 2 = i * 2 + 1 + 1 from by omega]
      simpa [qcells] using this
theorem qcells_length (ps : List (Nat × Int)) : (qcells ps).length = ps.length * 2 := by
  induction ps with
  | nil => rfl
  | cons a l ih => simp only [qcells, List.length_cons, ih]; omega
/-- A row of prefixes of the call's own. -/
def OwnPx (w : World) (B : Nat) (v : Value) (ps : List (Nat × Int)) : Prop := w.ownsRow B 29 2 v ps.length (qcells ps)
theorem OwnPx.snoc {w : World} {B : Nat} {v : Value} {l : List (Nat × Int)} {p : Nat × Int} (h : OwnPx w B v l) (hB : B ≤ w.heap.size) (hl : l.length ≤ 500000) :
    ∃ a' c' w', (Builtin.append_ #[44, 44] 44 #[v, .slice (some ⟨w.heap.size, 0, none⟩) 1 1]).run Try.prog (w.alloc (.cells #[.int .u32 (p.1 : Int), .int .i64 p.2] 29)) = .ok (.slice a' (l.length + 1) c') w' ∧ OwnPx w' B (.slice a' (l.length + 1) c') (l ++ [p]) ∧ Below B w w' := by
  obtain ⟨v', w', hrun, h2, h3, h4, _⟩ := app_more elemPfx (w := w.alloc (.cells #[.int .u32 (p.1 : Int), .int .i64 p.2] 29)) (World.ownsRow.alloc h _) (by simp; omega) ⟨w.heap.size, 0, none⟩ 1 1 [.int .u32 (p.1 : Int), .int .i64 p.2] rfl (fun j u hu => by
    rw [Addr.add_mid, Nat.zero_add, World.cell?_alloc_mark]
    simpa using hu) (fun u hu => by simp at hu; rcases hu with rfl | rfl <;> rfl) (by omega)
  obtain ⟨a', c', rfl⟩ := own_shape h2
  refine ⟨a', c', w', hrun, ?_, ((Below.refl _ _).alloc hB _).trans h3⟩
  unfold OwnPx
  rw [qcells_snoc, List.length_append]
  exact h2
/-! The order of prefixes. -/
def encP (p : Nat × Int) : List Value := [.int .u32 (p.1 : Int), .int .i64 p.2]
def cfQ (p q : Nat × Int) : Int := cmpP p.1 p.2 q.1 q.2
theorem ltQ (p q : Nat × Int) : ltOf cfQ p q = true ↔ lessK p q := by unfold ltOf cfQ; rw [decide_eq_true_eq, lessK_iff]; exact cmpP_neg _ _ _ _
theorem swoQ : Sort.SWO (ltOf cfQ) where
  irrefl x := by rw [not_true, ltQ, lessK_iff]; omega
  trans x y z h1 h2 := by rw [ltQ, lessK_iff] at *; omega
  ntrans x y z h1 h2 := by rw [not_true, ltQ, lessK_iff] at *; omega
theorem isAggPfx : ∀ w, (isAgg 29).run Try.prog w = .ok true w := Try.isAgg29
theorem sizeOfPfx : ∀ w, (Go.sizeOf 29).run Try.prog w = .ok 2 w := Try.sizeOf29
theorem getQ (d : Array (Nat × Int)) (i : Nat) (h : i < d.size) : d.toList[i]? = some d[i]! := by
  rw [Array.getElem?_toList, Array.getElem?_eq_getElem h, getElem!_pos d i h]
theorem flat_qcells (d : Array (Nat × Int)) : (Sort.flatK encP 2 d).toList = qcells d.toList := by
  apply List.ext_getElem?
  intro k
  by_cases hk : k < d.size * 2
  · have hi : k / 2 < d.size := by omega
    obtain ⟨h0, h1⟩ := qcells_get d.toList (k / 2) _ (getQ d (k / 2) hi)
    rw [Array.getElem?_toList, Array.getElem?_eq_getElem (by rw [Sort.size_flatK]; exact hk)]
    have h9 := Sort.get_flatK encP 2 d k hk
    rw [getElem!_pos _ _ (by rw [Sort.size_flatK]; exact hk)] at h9
    rw [h9]
    have e : k % 2 = 0 ∨ k % 2 = 1 := by omega
    rcases e with e | e
    · rw [e, show k = k / 2 * 2 from by omega, h0, show k / 2 * 2 / 2 = k / 2 from by omega]; rfl
    · rw [e, show k = k / 2 * 2 + 1 from by omega, h1, show (k / 2 * 2 + 1) / 2 = k / 2 from by omega]; rfl
  · rw [List.getElem?_eq_none (by rw [Array.length_toList, Sort.size_flatK]; omega), List.getElem?_eq_none (by rw [qcells_length]; simp; omega)]
theorem enters_cmp : ∀ args w, (callFunc 32 args).run Try.prog w = .ok (.enter 32 args) w := enters_of Try.func32 (by kernel_rfl) rfl
theorem sortPx (B : Nat) (v : Value) (l : List (Nat × Int)) (w : World) (h : OwnPx w B v l) (hn : l.length ≤ 100000) :
    Calls Try.prog 31 #[v, .func (.func 32) #[] #[]] w fun e w' => e = .returned (.tuple #[]) ∧ (∃ l', l'.Perm l ∧ (l'.Pairwise fun x y => ¬ lessK y x) ∧ OwnPx w' B v l') ∧ Keeps (fun g => v.ownBlock = some g) w w' := by
  have ho := h
  unfold OwnPx at ho
  by_cases hl0 : l.length = 0
  · have e0 : ∃ p c, v = .slice p 0 c := by
      rcases ho.2 with ⟨e, _⟩ | ⟨g', cap, cur, e, _⟩
      · exact ⟨_, _, e⟩
      · exact ⟨_, _, by rw [e, hl0]⟩
    obtain ⟨p, c, rfl⟩ := e0
    refine Calls.mono (AnyF.slices_SortFunc_none sortP p c _ w) ?_
    rintro e w' ⟨rfl, rfl⟩
    have : l = [] := List.eq_nil_of_length_eq_zero hl0
    subst this
    exact ⟨rfl, ⟨[], List.Perm.refl _, List.Pairwise.nil, h⟩, Keeps.refl _ _⟩
  · obtain ⟨b, c, cur, rfl, hgb, hblk, hcap, hmax, hcs, htk⟩ : ∃ b c cur, v = .slice (some ⟨b, 0, none⟩) l.length c ∧ B ≤ b ∧ w.heap[b]? = some (.cells cur 29 (0, 0)) ∧ l.length ≤ c ∧ c ≤ maxLen ∧ cur.size = c * 2 ∧ cur.toList.take (l.length * 2) = qcells l := by
      rcases ho.2 with ⟨_, e⟩ | ⟨g', cap, cur, e, h1, h2, h3, h4, h5, h6⟩
      · exact absurd e hl0
      · exact ⟨g', cap, cur, e, h1, h2, h3, h4, h5, h6⟩
    have hsz : l.toArray.size = l.length := by simp
    have hH : Sort.HoldsK encP 2 w b 0 l.toArray := by
      intro j hj
      rw [Sort.size_flatK, hsz] at hj
      refine ⟨?_, by rw [Nat.zero_add]; exact ho.frozenAt j⟩
      rw [Nat.zero_add, ho.cellAt j (by omega)]
      have h8 : (Sort.flatK encP 2 l.toArray).toList = qcells l := flat_qcells l.toArray
      rw [← h8, Array.getElem?_toList, Array.getElem?_eq_getElem (by rw [Sort.size_flatK, hsz]; exact hj)]
      show _ = some (Sort.flatK encP 2 l.toArray)[j]!
      rw [getElem!_pos _ _ (by rw [Sort.size_flatK, hsz]; exact hj)]
    have hgl : b < w.heap.size := (Array.getElem?_eq_some_iff.1 hblk).1
    have hcon := AnyQ.slices_SortFunc sortP 2 isAggPfx sizeOfPfx encP (fun _ => rfl) (fun x v hv => by simp [encP] at hv; rcases hv with rfl | rfl <;> rfl) cfQ swoQ 32 #[] b 0 c l.toArray w enters_cmp (fun m os dk _ x y => (compare_any x.1 y.1 x.2 y.2 _).mono fun e w' ⟨h1, os', h2⟩ => ⟨h1, 0, os', h2⟩) hH hgl (by rw [hsz]; omega)
    rw [hsz] at hcon
    refine Calls.mono hcon ?_
    rintro e w' ⟨rfl, d', m, os, hp, hs, rfl⟩
    have hd' : d'.size = l.length := by rw [hp.1, hsz]
    have hF : (Sort.flatK encP 2 d').size = l.length * 2 := by rw [Sort.size_flatK, hd']
    have hheap : (sortWorldK encP 2 w b 0 m d' os).heap[b]? = some (.cells (Sort.putCells id 0 (Sort.flatK encP 2 d') cur) 29 (0, 0)) := by
      unfold sortWorldK
      rw [Sort.heap_grow_old _ _ (by show b < (Sort.putRowK encP 2 (Sort.ahead w m) b 0 d').heap.size; rw [Sort.size_putRowK]; exact hgl)]
      show ((w.heap.modify b (Sort.onCells (Sort.putCells id 0 (Sort.flatK encP 2 d')))))[b]? = _
      rw [Array.getElem?_modify, if_pos rfl, hblk]
      rfl
    refine ⟨rfl, ⟨d'.toList, ?_, ?_, ?_⟩, ?_⟩
    · have h9 := hp.2.2
      have e1 : d'.extract 0 l.length = d' := by rw [← hd']; simp
      have e2 : l.toArray.extract 0 l.length = l.toArray := by have := Array.extract_size (xs := l.toArray); rwa [hsz] at this
      rw [e1, e2] at h9
      simpa using h9
    · rw [List.pairwise_iff_getElem]
      intro i j hi hj hij
      have h9 := hs i j (Nat.zero_le _) hij (by rw [← hd']; simpa using hj)
      rw [getElem!_pos d' j (by simpa using hj), getElem!_pos d' i (by simpa using hi), not_true, ltQ] at h9
      simp only [Array.getElem_toList]
      exact h9
    · unfold OwnPx
      rw [← flat_qcells, show d'.toList.length = l.length from by rw [Array.length_toList, hd']]
      refine ⟨by rw [Array.length_toList, hF], .inr ⟨b, c, _, rfl, hgb, hheap, hcap, hmax, ?_, ?_⟩⟩
      · unfold Sort.putCells; rw [Array.size_mapIdx, hcs]
      · rw [← hF]; exact take_put _ _ (by rw [hF, hcs]; omega)
    · refine ⟨rfl, rfl, rfl, size_sortWorldK_c _ 2 w b 0 m d' os, fun k hk hne => ?_⟩
      unfold sortWorldK
      rw [Sort.heap_grow_old _ _ (by rw [Sort.size_putRowK]; exact hk)]
      show ((w.heap.modify b (Sort.onCells (Sort.putCells id 0 (Sort.flatK encP 2 d')))))[k]? = _
      rw [Array.getElem?_modify, if_neg (fun e => hne (by rw [← e]; rfl))]
end Go.Proofs.Ytjlmkaeepeamkaa
