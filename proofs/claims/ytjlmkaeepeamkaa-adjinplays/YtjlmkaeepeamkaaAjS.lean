/- Routes put in order. -/
import Derived.Test.YtjlmkaeepeamkaaShTb
import Derived.Test.YtjlmkaeepeamkaaAjG
import Derived.Shelf.SlSortCmp.NoneTotal
namespace Go.Proofs.Ytjlmkaeepeamkaa
open Go.RowKit
set_option maxRecDepth 100000

/-- Where a route's parts lie, and the route. -/
abbrev PT : Type := (Option Addr × Nat × Option Addr × Nat × Option Addr × Nat) × Rt
def cellsT (t : PT) : Array Value := rtC t.1.1 t.1.2.1 t.1.2.2.1 t.1.2.2.2.1 t.1.2.2.2.2.1 t.1.2.2.2.2.2 t.2
theorem cellsT_size (t : PT) : (cellsT t).size = 11 := rfl
/-- What stands at the places of a row. -/
theorem rows_parts {w : World} {B : Nat} {cs : List Value} {l : List Rt} (h : RowsR w B cs l) : ∃ g : Nat → PT, ∀ i r, l[i]? = some r → (g i).2 = r ∧ okR r ∧ (∀ (j : Nat) x, (cellsT (g i))[j]? = some x → cs[i * 11 + j]? = some x) ∧ OwnAt w B (g i).1.1 (g i).1.2.1 (g i).1.2.2.1 (g i).1.2.2.2.1 (g i).1.2.2.2.2.1 (g i).1.2.2.2.2.2 r.att := by
  refine Classical.axiomOfChoice (r := fun i (t : PT) => ∀ r, l[i]? = some r → t.2 = r ∧ okR r ∧ (∀ (j : Nat) x, (cellsT t)[j]? = some x → cs[i * 11 + j]? = some x) ∧ OwnAt w B t.1.1 t.1.2.1 t.1.2.2.1 t.1.2.2.2.1 t.1.2.2.2.2.1 t.1.2.2.2.2.2 r.att) fun i => ?_
  cases hi : l[i]? with
  | none => exact ⟨((none, 0, none, 0, none, 0), noR), fun r hr => by cases hr⟩
  | some r =>
    obtain ⟨h0, pa, pc, ca, cc, ra, rc, h1, h2⟩ := h i r hi
    exact ⟨((pa, pc, ca, cc, ra, rc), r), fun r' hr => by cases hr; exact ⟨rfl, h0, h1, h2⟩⟩
theorem isAggRoute : ∀ w, (isAgg 36).run Try.prog w = .ok true w := Try.isAgg36
theorem sizeOfRoute : ∀ w, (Go.sizeOf 36).run Try.prog w = .ok 11 w := Try.sizeOf36
theorem getN (d : Array Nat) (i : Nat) (h : i < d.size) : d.toList[i]? = some d[i]! := by
  rw [Array.getElem?_toList, Array.getElem?_eq_getElem h, getElem!_pos d i h]
/-- The flat cells of d. -/
theorem flatN (g : Nat → PT) (d : Array Nat) (i x : Nat) (h : d.toList[i]? = some x) (j : Nat) (v : Value) (hv : (cellsT (g x))[j]? = some v) : (Sort.flatK (fun q => (cellsT (g q)).toList) 11 d).toList[i * 11 + j]? = some v := by
  have hi : i < d.size := by have := (List.getElem?_eq_some_iff.1 h).1; simpa using this
  have hx : d[i]! = x := by have := getN d i hi; rw [h] at this; exact (Option.some.inj this).symm
  have hj : j < 11 := by have := (Array.getElem?_eq_some_iff.1 hv).1; rwa [cellsT_size] at this
  have hlt : i * 11 + j < d.size * 11 := by omega
  rw [Array.getElem?_toList, Array.getElem?_eq_getElem (by rw [Sort.size_flatK]; exact hlt)]
  have h9 := Sort.get_flatK (fun q => (cellsT (g q)).toList) 11 d (i * 11 + j) hlt
  rw [getElem!_pos _ _ (by rw [Sort.size_flatK]; exact hlt), show (i * 11 + j) / 11 = i from by omega, show (i * 11 + j) % 11 = j from by omega, hx] at h9
  rw [h9]
  have hv2 : (cellsT (g x)).toList[j]? = some v := by rw [Array.getElem?_toList]; exact hv
  rw [List.getElem!_eq_getElem?_getD, hv2]
  rfl
theorem take_put (F cur : Array Value) (h : F.size ≤ cur.size) : (Sort.putCells id 0 F cur).toList.take F.size = F.toList := by
  apply List.ext_getElem?
  intro k
  rw [List.getElem?_take]
  by_cases hk : k < F.size
  · rw [if_pos hk, Array.getElem?_toList, Array.getElem?_toList]
    unfold Sort.putCells
    rw [Array.getElem?_mapIdx, Array.getElem?_eq_getElem (show k < cur.size by omega), Array.getElem?_eq_getElem hk]
    simp only [Option.map_some, Nat.zero_le, Nat.zero_add, true_and, hk, if_true, id, Nat.sub_zero]
    rw [getElem!_pos F k hk]
  · rw [if_neg hk, Array.getElem?_toList, Array.getElem?_eq_none (by omega)]
/-- The parts that a row of n begins with. -/
theorem range_map {l : List Rt} {g : Nat → PT} (h : ∀ i r, l[i]? = some r → (g i).2 = r) : (List.range l.length).map (fun i => (g i).2) = l := by
  apply List.ext_getElem?
  intro i
  rw [List.getElem?_map]
  by_cases hi : i < l.length
  · rw [List.getElem?_range hi, List.getElem?_eq_getElem hi, Option.map_some, h i _ (List.getElem?_eq_getElem hi)]
  · rw [List.getElem?_eq_none (by simpa using hi), List.getElem?_eq_none (by omega)]
    rfl
theorem sortTb (cf : Rt → Rt → Int) (k : Nat) (hO : Sort.SWO (ltOf cf)) (eg : ∀ args w, (callFunc k args).run Try.prog w = .ok (.enter k args) w)
    (hc : ∀ (s t : PT) w, Calls Try.prog k #[.agg (cellsT s), .agg (cellsT t)] w fun e w' => e = .returned (.int .i64 (cf s.2 t.2)) ∧ ∃ os, w' = Sort.grow w os)
    (B : Nat) (v : Value) (l : List Rt) (w : World) (h : OwnTb w B v l) (hn : l.length ≤ 100000) :
    Calls Try.prog 27 #[v, .func (.func k) #[] #[]] w fun e w' => e = .returned (.tuple #[]) ∧ (∃ l', l'.Perm l ∧ (l'.Pairwise fun x y => ltOf cf y x = false) ∧ OwnTb w' B v l') ∧ Keeps (fun g => v.ownBlock = some g) w w' := by
  obtain ⟨cs, ho, hR⟩ := h
  obtain ⟨g, hg⟩ := rows_parts hR
  by_cases hl0 : l.length = 0
  · have e0 : ∃ p c, v = .slice p 0 c := by
      rcases ho.2 with ⟨e, _⟩ | ⟨g', cap, cur, e, _⟩
      · exact ⟨_, _, e⟩
      · exact ⟨_, _, by rw [e, hl0]⟩
    obtain ⟨p, c, rfl⟩ := e0
    refine Calls.mono (AnyF.slices_SortFunc_none sortR p c _ w) ?_
    rintro e w' ⟨rfl, rfl⟩
    have : l = [] := List.eq_nil_of_length_eq_zero hl0
    subst this
    exact ⟨rfl, ⟨[], List.Perm.refl _, List.Pairwise.nil, cs, ho, hR⟩, Keeps.refl _ _⟩
  · obtain ⟨b, c, cur, rfl, hgb, hblk, hcap, hmax, hcs, htk⟩ : ∃ b c cur, v = .slice (some ⟨b, 0, none⟩) l.length c ∧ B ≤ b ∧ w.heap[b]? = some (.cells cur 36 (0, 0)) ∧ l.length ≤ c ∧ c ≤ maxLen ∧ cur.size = c * 11 ∧ cur.toList.take (l.length * 11) = cs := by
      rcases ho.2 with ⟨_, e⟩ | ⟨g', cap, cur, e, h1, h2, h3, h4, h5, h6⟩
      · exact absurd e hl0
      · exact ⟨g', cap, cur, e, h1, h2, h3, h4, h5, h6⟩
    have hsz : (List.range l.length).toArray.size = l.length := by simp
    have hH : Sort.HoldsK (fun q => (cellsT (g q)).toList) 11 w b 0 (List.range l.length).toArray := by
      intro j hj
      rw [Sort.size_flatK, hsz] at hj
      have hi : j / 11 < l.length := by omega
      obtain ⟨_, _, h3, _⟩ := hg (j / 11) _ (List.getElem?_eq_getElem hi)
      refine ⟨?_, by rw [Nat.zero_add]; exact ho.frozenAt j⟩
      rw [Nat.zero_add, ho.cellAt j (by omega)]
      have hc9 : (cellsT (g (j / 11)))[j % 11]? = some (cellsT (g (j / 11)))[j % 11]! := by
        rw [Array.getElem?_eq_getElem (by rw [cellsT_size]; omega), getElem!_pos _ _ (by rw [cellsT_size]; omega)]
      have h9 := h3 (j % 11) _ hc9
      rw [show j / 11 * 11 + j % 11 = j from by omega] at h9
      rw [h9]
      have h8 := flatN g (List.range l.length).toArray (j / 11) (j / 11) (by simp [hi]) (j % 11) _ hc9
      rw [show j / 11 * 11 + j % 11 = j from by omega, Array.getElem?_toList] at h8
      show _ = some (Sort.flatK (fun q => (cellsT (g q)).toList) 11 (List.range l.length).toArray)[j]!
      rw [getElem!_def (Sort.flatK (fun q => (cellsT (g q)).toList) 11 (List.range l.length).toArray), h8]
    have hgl : b < w.heap.size := (Array.getElem?_eq_some_iff.1 hblk).1
    have hO2 : Sort.SWO (ltOf (fun i j : Nat => cf (g i).2 (g j).2)) := ⟨fun x => hO.irrefl _, fun x y z h1 h2 => hO.trans _ _ _ h1 h2, fun x y z h1 h2 => hO.ntrans _ _ _ h1 h2⟩
    have hcon := AnyQ.slices_SortFunc sortR 11 isAggRoute sizeOfRoute (fun q => (cellsT (g q)).toList) (fun _ => rfl) (fun x v hv => by
      have := (RC.rt (g x).1.1 (g x).1.2.1 (g x).1.2.2.1 (g x).1.2.2.2.1 (g x).1.2.2.2.2.1 (g x).1.2.2.2.2.2 (g x).2).2
      rw [Array.all_eq_true'] at this
      exact this v (Array.mem_toList_iff.1 hv)) (fun i j : Nat => cf (g i).2 (g j).2) hO2 k #[] b 0 c (List.range l.length).toArray w eg (fun m os dk _ x y => (hc (g x) (g y) _).mono fun e w' ⟨h1, os', h2⟩ => ⟨h1, 0, os', h2⟩) hH hgl (by rw [hsz]; omega)
    rw [hsz] at hcon
    refine Calls.mono hcon ?_
    rintro e w' ⟨rfl, d', m, os, hp, hs, rfl⟩
    have hd' : d'.size = l.length := by rw [hp.1, hsz]
    have hF : (Sort.flatK (fun q => (cellsT (g q)).toList) 11 d').size = l.length * 11 := by rw [Sort.size_flatK, hd']
    have hheap : (sortWorldK (fun q => (cellsT (g q)).toList) 11 w b 0 m d' os).heap[b]? = some (.cells (Sort.putCells id 0 (Sort.flatK (fun q => (cellsT (g q)).toList) 11 d') cur) 36 (0, 0)) := by
      unfold sortWorldK
      rw [Sort.heap_grow_old _ _ (by show b < (Sort.putRowK (fun q => (cellsT (g q)).toList) 11 (Sort.ahead w m) b 0 d').heap.size; rw [Sort.size_putRowK]; exact hgl)]
      show ((w.heap.modify b (Sort.onCells (Sort.putCells id 0 (Sort.flatK (fun q => (cellsT (g q)).toList) 11 d')))))[b]? = _
      rw [Array.getElem?_modify, if_pos rfl, hblk]
      rfl
    have hperm : d'.toList.Perm (List.range l.length) := by
      have h9 := hp.2.2
      have e1 : d'.extract 0 l.length = d' := by rw [← hd']; simp
      have e2 : (List.range l.length).toArray.extract 0 l.length = (List.range l.length).toArray := by have := Array.extract_size (xs := (List.range l.length).toArray); rwa [hsz] at this
      rw [e1, e2] at h9
      simpa using h9
    have hkk : Keeps (fun k => (Value.slice (some ⟨b, 0, none⟩) l.length c).ownBlock = some k) w (sortWorldK (fun q => (cellsT (g q)).toList) 11 w b 0 m d' os) := by
      refine ⟨rfl, rfl, rfl, size_sortWorldK_c _ 11 w b 0 m d' os, fun k hk hne => ?_⟩
      unfold sortWorldK
      rw [Sort.heap_grow_old _ _ (by rw [Sort.size_putRowK]; exact hk)]
      show ((w.heap.modify b (Sort.onCells (Sort.putCells id 0 (Sort.flatK (fun q => (cellsT (g q)).toList) 11 d')))))[k]? = _
      rw [Array.getElem?_modify, if_neg (fun e => hne (by rw [← e]; rfl))]
    have hal : ∀ k, (Value.slice (some ⟨b, 0, none⟩) l.length c).ownBlock = some k → Alien w k := fun k hk C t z hC => by
      simp [Value.ownBlock] at hk
      subst hk
      rw [hC] at hblk
      injection hblk with hblk
      injection hblk
    refine ⟨rfl, ⟨d'.toList.map (fun i => (g i).2), ?_, ?_, (Sort.flatK (fun q => (cellsT (g q)).toList) 11 d').toList, ?_, ?_⟩, hkk⟩
    · have := hperm.map (fun i => (g i).2)
      rwa [range_map (fun i r hi => (hg i r hi).1)] at this
    · rw [List.pairwise_map, List.pairwise_iff_getElem]
      intro i j hi hj hij
      have h9 := hs i j (Nat.zero_le _) hij (by rw [← hd']; simpa using hj)
      rw [getElem!_pos d' j (by simpa using hj), getElem!_pos d' i (by simpa using hi)] at h9
      simp only [Array.getElem_toList]
      exact h9
    · rw [show (d'.toList.map (fun i => (g i).2)).length = l.length from by rw [List.length_map, Array.length_toList, hd']]
      refine ⟨by rw [Array.length_toList, hF], .inr ⟨b, c, _, rfl, hgb, hheap, hcap, hmax, ?_, ?_⟩⟩
      · unfold Sort.putCells; rw [Array.size_mapIdx, hcs]
      · rw [← hF]; exact take_put _ _ (by rw [hF, hcs]; have := Nat.mul_le_mul_right 11 hcap; omega)
    · intro i r hi
      rw [List.getElem?_map] at hi
      cases hx : d'.toList[i]? with
      | none => rw [hx] at hi; cases hi
      | some x =>
        rw [hx] at hi
        simp only [Option.map_some, Option.some.injEq] at hi
        have hxl : x < l.length := List.mem_range.1 (hperm.mem_iff.1 (List.mem_of_getElem? hx))
        obtain ⟨q1, q2, _, q4⟩ := hg x _ (List.getElem?_eq_getElem hxl)
        have hr : l[x] = r := q1.symm.trans hi
        rw [hr] at q2 q4
        refine ⟨q2, (g x).1.1, (g x).1.2.1, (g x).1.2.2.1, (g x).1.2.2.2.1, (g x).1.2.2.2.2.1, (g x).1.2.2.2.2.2, fun j u hu => flatN g d' i x hx j u (by rw [← hi] at hu; exact hu), q4.alien hkk hal⟩
end Go.Proofs.Ytjlmkaeepeamkaa
