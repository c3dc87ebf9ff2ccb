/- What the table 'said' holds, out of the row's list. -/
import Derived.Test.YthigjonagbfbbaaDoorCards
import Derived.Test.YthigjonagbfbbaaDoorTie
import Derived.WalkKit
import Derived.ProofKit
import Derived.OpenShut
import Derived.Deep.DeepHandedRow
import Derived.Lib.LaidTab
import Derived.Test.YthigjonagbfbbaaDoorAtQ
namespace Go.Proofs.YthigjonagbfbbaaDoor
open Go.ChangeShapes Go.WideShapes Go.ChangeAt Go.RowKit
set_option maxRecDepth 100000

theorem gSaid : Tryd.prog.globalNamed "interregnum/attr.said" = some 0 := by kernel_rfl
theorem gSaidType : (Tryd.prog.globals[0]?).map (·.type) = some 127 := by kernel_rfl
theorem cellsTab : Tryd.prog.cellsOf 127 = 36 := by kernel_rfl
theorem cellsRow : Tryd.prog.cellsOf 126 = 4 := by kernel_rfl
theorem cellsInt : Tryd.prog.cellsOf 3 = 1 := by kernel_rfl
set_option maxRecDepth 100000 in
/-- A row of the table, cell for cell. -/
theorem four_of {w : World} {base : Nat} {sp : Nat → Bool} {held : Bool} {fuel : Nat} {cs : List Value} {z0 z1 z2 z3 : Int} {x : DataW Unit × List MemPlace} (hl : cs.length = 4)
    (h : DataW.trod (fun _ => ()) Tryd.prog w base sp held fuel 126 cs = some x) (hx : x.1 = .agg [.lit (.int .i64 z0), .lit (.int .i64 z1), .lit (.int .i64 z2), .lit (.int .i64 z3)]) :
    cs = [.int .i64 z0, .int .i64 z1, .int .i64 z2, .int .i64 z3] := by
  obtain ⟨xs, k, _, hxe, _, hxl, hf⟩ := DataW.trod_struct Tryd.underlying126 h
  have hxl4 : xs.length = 4 := hxl
  clear hxl
  match xs, hxl4, cs, hl with
  | [y0, y1, y2, y3], _, [c0, c1, c2, c3], _ =>
    have g0 := hf 0 _ rfl
    have g1 := hf 1 _ rfl
    have g2 := hf 2 _ rfl
    have g3 := hf 3 _ rfl
    simp [cellsInt] at g0 g1 g2 g3
    obtain ⟨n0, e0, q0, _⟩ := DataW.trod_int Tryd.underlying3 g0
    obtain ⟨n1, e1, q1, _⟩ := DataW.trod_int Tryd.underlying3 g1
    obtain ⟨n2, e2, q2, _⟩ := DataW.trod_int Tryd.underlying3 g2
    obtain ⟨n3, e3, q3, _⟩ := DataW.trod_int Tryd.underlying3 g3
    rw [hxe, q0, q1, q2, q3] at hx
    simp at hx e0 e1 e2 e3
    obtain ⟨rfl, rfl, rfl, rfl⟩ := hx
    rw [e0, e1, e2, e3]
theorem said_of {W : World} (h : laidMet Tryd.prog [("interregnum/attr.said", Rows.laid_interregnum_attr_said)] W) : Said W := by
  obtain ⟨ps, ⟨g, t, cs, fuel, p, q, hg, ht, hvar, hd, _, _⟩, _⟩ := h
  obtain rfl := Option.some.inj (gSaid.symm.trans hg)
  obtain rfl := Option.some.inj (gSaidType.symm.trans ht)
  obtain ⟨xs, m, _, hxe, hlen, hxl, hrow⟩ := DataW.trod_array Tryd.underlying127 hd
  rw [cellsTab] at hlen
  have hsz : cs.size = 36 := by simpa using hlen
  have hxs : xs.map (·.1) = (match (Rows.laid_interregnum_attr_said : DataW Unit) with | .agg l => l | _ => []) := by
    have := congrArg Prod.fst hxe
    unfold Rows.laid_interregnum_attr_said at this ⊢
    simp only [DataW.agg.injEq] at this
    exact this.symm
  have key : ∀ i, i < 9 → (cs.toList.drop (i * 4)).take 4 = [.int .i64 (saidL.getD (i * 4) 0), .int .i64 (saidL.getD (i * 4 + 1) 0), .int .i64 (saidL.getD (i * 4 + 2) 0), .int .i64 (saidL.getD (i * 4 + 3) 0)] := fun i hi => by
    have hr := hrow i hi
    rw [cellsRow, List.getElem?_eq_getElem (by omega)] at hr
    refine four_of (by simp; omega) hr ?_
    have h9 : (xs.map (·.1))[i]? = some (xs[i]'(by omega)).1 := by rw [List.getElem?_map, List.getElem?_eq_getElem (by omega)]; rfl
    rw [hxs] at h9
    rcases (by omega : i = 0 ∨ i = 1 ∨ i = 2 ∨ i = 3 ∨ i = 4 ∨ i = 5 ∨ i = 6 ∨ i = 7 ∨ i = 8) with rfl | rfl | rfl | rfl | rfl | rfl | rfl | rfl | rfl <;> exact (Option.some.inj h9).symm
  intro k z hk
  have hk36 : k < 36 := by have := (List.getElem?_eq_some_iff.1 hk).1; simpa [saidL] using this
  rw [World.var?_cell hg hvar k, ← Array.getElem?_toList]
  have hz : saidL.getD k 0 = z := by rw [List.getD_eq_getElem?_getD, hk]; rfl
  have h9 := congrArg (fun l => l[k % 4]?) (key (k / 4) (by omega))
  simp only [List.getElem?_take, List.getElem?_drop] at h9
  rw [if_pos (by omega), show k / 4 * 4 + k % 4 = k by omega] at h9
  rw [h9, ← hz]
  rcases (by omega : k % 4 = 0 ∨ k % 4 = 1 ∨ k % 4 = 2 ∨ k % 4 = 3) with e | e | e | e
  · rw [e, show k = k / 4 * 4 by omega]; simp; 
  · rw [e]; conv => rhs; rw [show k = k / 4 * 4 + 1 by omega]
    simp
  · rw [e]; conv => rhs; rw [show k = k / 4 * 4 + 2 by omega]
    simp
  · rw [e]; conv => rhs; rw [show k = k / 4 * 4 + 3 by omega]
    simp
/-- A world for the witness: the table holds what its initialiser lays. -/
noncomputable def laidW (os : Os) : World :=
  { World.holding Tryd.prog os ⟨#[], #[], []⟩ with heap := (World.holding Tryd.prog os ⟨#[], #[], []⟩).heap.modify 0 fun
      | .cells _ t frozen => .cells (saidL.map fun z => Value.int .i64 z).toArray t frozen
      | o => o }
end Go.Proofs.YthigjonagbfbbaaDoor
