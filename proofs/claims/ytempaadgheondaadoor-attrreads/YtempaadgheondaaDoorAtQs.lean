/- Raws put in order. -/
import Derived.Test.YtempaadgheondaaDoorShPl
import Derived.Test.YtempaadgheondaaDoorAtQ
import Derived.Test.YtempaadgheondaaDoorHPlain
import Derived.Test.YtempaadgheondaaDoorHRaw
import Derived.Shelf.SlSortCmp.NoneTotal
namespace Go.Proofs.YtempaadgheondaaDoor
open Go.RowKit
set_option maxRecDepth 100000

/-- A Raw's cells, in plain numbers: flags, type, where its bytes lie. -/
abbrev RE : Type := Int × Int × Option Addr × Nat × Nat
def encE (x : RE) : List Value := [.int .i64 x.1, .int .i64 x.2.1, .slice x.2.2.1 x.2.2.2.1 x.2.2.2.2]
def cfE (x y : RE) : Int := if x.2.1 < y.2.1 then -1 else if y.2.1 < x.2.1 then 1 else 0
theorem ltE (x y : RE) : ltOf cfE x y = decide (x.2.1 < y.2.1) := by
  unfold ltOf cfE
  by_cases h1 : x.2.1 < y.2.1
  · simp [h1]
  · by_cases h2 : y.2.1 < x.2.1 <;> simp [h1, h2]
theorem swoE : Sort.SWO (ltOf cfE) where
  irrefl x := by rw [ltE]; simp
  trans x y z h1 h2 := by rw [ltE] at *; simp at *; omega
  ntrans x y z h1 h2 := by rw [ltE] at *; simp at *; omega
set_option maxHeartbeats 800000 in
theorem byType_any (x y : RE) (w : World) : Calls Tryd.prog 23 #[.agg (encE x).toArray, .agg (encE y).toArray] w fun e w' => e = .returned (.int .i64 (cfE x y)) ∧ ∃ q os', w' = Sort.grow (w.drewN q) os' := by
  have K := hide (fun W => cmpi_any x.2.1 y.2.1 W)
  have hr : cfE x y = (if x.2.1 < y.2.1 then -1 else if y.2.1 < x.2.1 then 1 else 0) := rfl
  rw [hr]
  generalize (if x.2.1 < y.2.1 then (-1 : Int) else if y.2.1 < x.2.1 then 1 else 0) = r at *
  obtain ⟨xf, xt, xa, xn, xc⟩ := x
  obtain ⟨yf, yt, ya, yn, yc⟩ := y
  simp only [encE] at *
  go_enter Tryd.func23, Tryd.ntmps23
  go_wp2_with fail
  refine (K.out _).mono ?_
  rintro e w' ⟨rfl, rfl⟩
  go_wp2
  go_ret
  exact ⟨rfl, 0, _, by rw [Sort.alloc_eq_grow, Sort.alloc_eq_grow, Sort.grow_grow]; rfl⟩
/-- The cells cs are those of d. -/
def RowsE (cs : List Value) (d : List RE) : Prop := ∀ i x, d[i]? = some x → cs[i * 3]? = some (.int .i64 x.1) ∧ cs[i * 3 + 1]? = some (.int .i64 x.2.1) ∧ cs[i * 3 + 2]? = some (.slice x.2.2.1 x.2.2.2.1 x.2.2.2.2)
theorem isAggRaw : ∀ w, (isAgg 48).run Tryd.prog w = .ok true w := Tryd.isAgg48
theorem sizeOfRaw : ∀ w, (Go.sizeOf 48).run Tryd.prog w = .ok 3 w := Tryd.sizeOf48
theorem getE (d : Array RE) (i : Nat) (h : i < d.size) : d.toList[i]? = some d[i]! := by
  rw [Array.getElem?_toList, Array.getElem?_eq_getElem h, getElem!_pos d i h]
/-- The flat cells of d. -/
theorem flatE (d : Array RE) (i : Nat) (x : RE) (h : d.toList[i]? = some x) : (Sort.flatK encE 3 d).toList[i * 3]? = some (.int .i64 x.1) ∧ (Sort.flatK encE 3 d).toList[i * 3 + 1]? = some (.int .i64 x.2.1) ∧ (Sort.flatK encE 3 d).toList[i * 3 + 2]? = some (.slice x.2.2.1 x.2.2.2.1 x.2.2.2.2) := by
  have hi : i < d.size := by have := (List.getElem?_eq_some_iff.1 h).1; simpa using this
  have hx : d[i]! = x := by have := getE d i hi; rw [h] at this; exact (Option.some.inj this).symm
  have key : ∀ q, q < 3 → (Sort.flatK encE 3 d).toList[i * 3 + q]? = some ((encE x)[q]!) := by
    intro q hq
    have hlt : i * 3 + q < d.size * 3 := by omega
    rw [Array.getElem?_toList, Array.getElem?_eq_getElem (by rw [Sort.size_flatK]; exact hlt)]
    have h9 := Sort.get_flatK encE 3 d (i * 3 + q) hlt
    rw [getElem!_pos _ _ (by rw [Sort.size_flatK]; exact hlt), show (i * 3 + q) / 3 = i from by omega, show (i * 3 + q) % 3 = q from by omega, hx] at h9
    rw [h9]
  exact ⟨key 0 (by omega), key 1 (by omega), key 2 (by omega)⟩
theorem holdsE {w : World} {B g n c : Nat} {cs : List Value} {d : Array RE} (ho : w.ownsRow B 48 3 (.slice (some ⟨g, 0, none⟩) n c) n cs) (hd : d.size = n) (hR : RowsE cs d.toList) : Sort.HoldsK encE 3 w g 0 d := by
  intro j hj
  rw [Sort.size_flatK] at hj
  have hi : j / 3 < d.size := by omega
  obtain ⟨h0, h1, h2⟩ := hR (j / 3) _ (getE d (j / 3) hi)
  refine ⟨?_, by rw [Nat.zero_add]; exact ho.frozenAt j⟩
  rw [Nat.zero_add, ho.cellAt j (by omega)]
  show _ = some (Sort.flatK encE 3 d)[j]!
  rw [Sort.get_flatK encE 3 d j hj]
  have e : j % 3 = 0 ∨ j % 3 = 1 ∨ j % 3 = 2 := by omega
  rcases e with e | e | e
  · rw [e, show j = j / 3 * 3 from by omega, h0, show j / 3 * 3 / 3 = j / 3 from by omega]; rfl
  · rw [e, show j = j / 3 * 3 + 1 from by omega, h1, show (j / 3 * 3 + 1) / 3 = j / 3 from by omega]; rfl
  · rw [e, show j = j / 3 * 3 + 2 from by omega, h2, show (j / 3 * 3 + 2) / 3 = j / 3 from by omega]; rfl
theorem take_put (F cur : Array Value) (h : F.size ≤ cur.size) : (Sort.putCells id 0 F cur).toList.take F.size = F.toList := by
  apply List.ext_getElem?
  intro k
  rw [List.getElem?_take]
  by_cases hk : k < F.size
  · rw [if_pos hk, Array.getElem?_toList, Array.getElem?_toList]
    unfold Sort.putCells
    rw [Array.getElem?_mapIdx, Array.getElem?_eq_getElem (show k < cur.size by omega), Array.getElem?_eq_getElem hk]
    simp only [Option.map_some, Nat.zero_le, Nat.zero_add, true_and, hk, if_true, id, Nat.sub_zero]
    rw [getElem!_pos F k hk]
  · rw [if_neg hk, Array.getElem?_toList, Array.getElem?_eq_none (by omega)]
theorem sort_row (d : List RE) (B g n c : Nat) (cs : List Value) (w : World) (ho : w.ownsRow B 48 3 (.slice (some ⟨g, 0, none⟩) n c) n cs) (hd : d.length = n) (hR : RowsE cs d) (hn : n ≤ 100000) :
    Calls Tryd.prog 22 #[.slice (some ⟨g, 0, none⟩) n c, .func (.func 23) #[] #[]] w fun e w' => e = .returned (.tuple #[]) ∧ ∃ d' cs', d'.Perm d ∧ (d'.Pairwise fun x y => x.2.1 ≤ y.2.1) ∧ w'.ownsRow B 48 3 (.slice (some ⟨g, 0, none⟩) n c) n cs' ∧ RowsE cs' d' ∧ Keeps (fun b => b = g) w w' := by
  have hsz : d.toArray.size = n := by simpa using hd
  have eg : ∀ args w, (callFunc 23 args).run Tryd.prog w = .ok (.enter 23 args) w := enters_of Tryd.func23 (by kernel_rfl) rfl
  have hH : Sort.HoldsK encE 3 w g 0 d.toArray := holdsE ho hsz (by simpa using hR)
  obtain ⟨cur, hg, hgb, hcap, hmax, hcs, htk⟩ : ∃ cur, w.heap[g]? = some (.cells cur 48 (0, 0)) ∧ B ≤ g ∧ n ≤ c ∧ c ≤ maxLen ∧ cur.size = c * 3 ∧ cur.toList.take (n * 3) = cs := by
    rcases ho.2 with ⟨e, _⟩ | ⟨g', cap, cur, e, h1, h2, h3, h4, h5, h6⟩
    · cases e
    · simp only [Value.slice.injEq, Option.some.injEq, Addr.mk.injEq, and_true, true_and] at e
      obtain ⟨rfl, rfl⟩ := e
      exact ⟨cur, h2, h1, h3, h4, h5, h6⟩
  have hgl : g < w.heap.size := (Array.getElem?_eq_some_iff.1 hg).1
  have hcon := AnyQ.slices_SortFunc sortR 3 isAggRaw sizeOfRaw encE (fun _ => rfl) (fun x v hv => by simp [encE] at hv; rcases hv with rfl | rfl | rfl <;> rfl) cfE swoE 23 #[] g 0 c d.toArray w eg (fun m os dk _ x y => byType_any x y _) hH hgl (by rw [hsz]; omega)
  rw [hsz] at hcon
  refine Calls.mono hcon ?_
  rintro e w' ⟨rfl, d', m, os, hp, hs, rfl⟩
  have hd' : d'.size = n := by rw [hp.1, hsz]
  have hF : (Sort.flatK encE 3 d').size = n * 3 := by rw [Sort.size_flatK, hd']
  have hheap : (sortWorldK encE 3 w g 0 m d' os).heap[g]? = some (.cells (Sort.putCells id 0 (Sort.flatK encE 3 d') cur) 48 (0, 0)) := by
    unfold sortWorldK
    rw [Sort.heap_grow_old _ _ (by show g < (Sort.putRowK encE 3 (Sort.ahead w m) g 0 d').heap.size; rw [Sort.size_putRowK]; exact hgl)]
    show ((w.heap.modify g (Sort.onCells (Sort.putCells id 0 (Sort.flatK encE 3 d')))))[g]? = _
    rw [Array.getElem?_modify, if_pos rfl, hg]
    rfl
  refine ⟨rfl, d'.toList, (Sort.flatK encE 3 d').toList, ?_, ?_, ?_, fun i x hx => flatE d' i x hx, ?_⟩
  · have h9 := hp.2.2
    rw [← hsz] at h9
    have e1 : d'.extract 0 d.toArray.size = d' := by rw [hsz, ← hd']; simp
    have e2 : d.toArray.extract 0 d.toArray.size = d.toArray := by simp
    rw [e1, e2] at h9
    simpa using h9
  · rw [List.pairwise_iff_getElem]
    intro i j hi hj hij
    have h9 := hs i j (Nat.zero_le _) hij (by rw [← hd']; simpa using hj)
    rw [ltE, getElem!_pos d' j (by simpa using hj), getElem!_pos d' i (by simpa using hi)] at h9
    simp only [decide_eq_false_iff_not, Int.not_lt] at h9
    simpa using h9
  · refine ⟨by rw [Array.length_toList, hF], .inr ⟨g, c, _, rfl, hgb, hheap, hcap, hmax, ?_, ?_⟩⟩
    · unfold Sort.putCells; rw [Array.size_mapIdx, hcs]
    · rw [← hF]; exact take_put _ _ (by rw [hF, hcs]; omega)
  · refine ⟨rfl, rfl, rfl, size_sortWorldK_c encE 3 w g 0 m d' os, fun k hk hne => ?_⟩
    unfold sortWorldK
    rw [Sort.heap_grow_old _ _ (by rw [Sort.size_putRowK]; exact hk)]
    show ((w.heap.modify g (Sort.onCells (Sort.putCells id 0 (Sort.flatK encE 3 d')))))[k]? = _
    rw [Array.getElem?_modify, if_neg (fun e => hne e.symm)]
theorem sort_none (p : Option Addr) (c : Nat) (w : World) : Calls Tryd.prog 22 #[.slice p 0 c, .func (.func 23) #[] #[]] w fun e w' => e = .returned (.tuple #[]) ∧ w' = w :=
  AnyF.slices_SortFunc_none sortR p c _ w
end Go.Proofs.YtempaadgheondaaDoor
