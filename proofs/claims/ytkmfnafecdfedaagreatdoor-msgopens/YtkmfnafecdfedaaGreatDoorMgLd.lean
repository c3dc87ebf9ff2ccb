/- What the table 'said' of msg holds, out of the row's list. -/
import Derived.Test.YtkmfnafecdfedaaGreatDoorCards
import Derived.Test.YtkmfnafecdfedaaGreatDoorTie
import Derived.WalkKit
import Derived.ProofKit
import Derived.OpenShut
import Derived.Deep.DeepHandedRow
import Derived.Lib.LaidTab
import Derived.Test.YtkmfnafecdfedaaGreatDoorMgH
namespace Go.Proofs.YtkmfnafecdfedaaGreatDoor
open Go.ChangeShapes Go.WideShapes Go.ChangeAt Go.RowKit

theorem gSaidM : Tryz.prog.globalNamed "interregnum/msg.said" = some 0 := by kernel_rfl
theorem gSaidMType : (Tryz.prog.globals[0]?).map (·.type) = some 83 := by kernel_rfl
theorem cellsTabM : Tryz.prog.cellsOf 83 = 10 := by kernel_rfl
theorem cellsRowM : Tryz.prog.cellsOf 82 = 2 := by kernel_rfl
theorem cellsIntM : Tryz.prog.cellsOf 3 = 1 := by kernel_rfl
set_option maxRecDepth 100000 in
/-- A row of the table, cell for cell. -/
theorem two_of {w : World} {base : Nat} {sp : Nat → Bool} {held : Bool} {fuel : Nat} {cs : List Value} {z0 z1 : Int} {x : DataW Unit × List MemPlace} (hl : cs.length = 2)
    (h : DataW.trod (fun _ => ()) Tryz.prog w base sp held fuel 82 cs = some x) (hx : x.1 = .agg [.lit (.int .i64 z0), .lit (.int .i64 z1)]) :
    cs = [.int .i64 z0, .int .i64 z1] := by
  obtain ⟨xs, k, _, hxe, _, hxl, hf⟩ := DataW.trod_struct Tryz.underlying82 h
  have hxl4 : xs.length = 2 := hxl
  clear hxl
  match xs, hxl4, cs, hl with
  | [y0, y1], _, [c0, c1], _ =>
    have g0 := hf 0 _ rfl
    have g1 := hf 1 _ rfl
    simp [cellsIntM] at g0 g1
    obtain ⟨n0, e0, q0, _⟩ := DataW.trod_int Tryz.underlying3 g0
    obtain ⟨n1, e1, q1, _⟩ := DataW.trod_int Tryz.underlying3 g1
    rw [hxe, q0, q1] at hx
    simp at hx e0 e1
    obtain ⟨rfl, rfl⟩ := hx
    rw [e0, e1]
theorem saidM_of {W : World} (h : laidMet Tryz.prog [("interregnum/attr.said", Rows.laid_interregnum_attr_said), ("interregnum/msg.said", Rows.laid_interregnum_msg_said)] W) : SaidM W := by
  obtain ⟨ps, ⟨_, _, _, _, _, _, _, _, _, _, ⟨g, t, cs, fuel, p, q, hg, ht, hvar, hd, _, _⟩, _⟩, _⟩ := h
  obtain rfl := Option.some.inj (gSaidM.symm.trans hg)
  obtain rfl := Option.some.inj (gSaidMType.symm.trans ht)
  obtain ⟨xs, m, _, hxe, hlen, hxl, hrow⟩ := DataW.trod_array Tryz.underlying83 hd
  rw [cellsTabM] at hlen
  have hsz : cs.size = 10 := by simpa using hlen
  have hxs : xs.map (·.1) = (match (Rows.laid_interregnum_msg_said : DataW Unit) with | .agg l => l | _ => []) := by
    have := congrArg Prod.fst hxe
    unfold Rows.laid_interregnum_msg_said at this ⊢
    simp only [DataW.agg.injEq] at this
    exact this.symm
  have key : ∀ i, i < 5 → (cs.toList.drop (i * 2)).take 2 = [.int .i64 (saidML.getD (i * 2) 0), .int .i64 (saidML.getD (i * 2 + 1) 0)] := fun i hi => by
    have hr := hrow i hi
    rw [cellsRowM, List.getElem?_eq_getElem (by omega)] at hr
    refine two_of (by simp; omega) hr ?_
    have h9 : (xs.map (·.1))[i]? = some (xs[i]'(by omega)).1 := by rw [List.getElem?_map, List.getElem?_eq_getElem (by omega)]; rfl
    rw [hxs] at h9
    rcases (by omega : i = 0 ∨ i = 1 ∨ i = 2 ∨ i = 3 ∨ i = 4) with rfl | rfl | rfl | rfl | rfl <;> exact (Option.some.inj h9).symm
  intro k z hk
  have hk10 : k < 10 := by have := (List.getElem?_eq_some_iff.1 hk).1; simpa [saidML] using this
  rw [World.var?_cell hg hvar k, ← Array.getElem?_toList]
  have hz : saidML.getD k 0 = z := by rw [List.getD_eq_getElem?_getD, hk]; rfl
  have h9 := congrArg (fun l => l[k % 2]?) (key (k / 2) (by omega))
  simp only [List.getElem?_take, List.getElem?_drop] at h9
  rw [if_pos (by omega), show k / 2 * 2 + k % 2 = k by omega] at h9
  rw [h9, ← hz]
  rcases (by omega : k % 2 = 0 ∨ k % 2 = 1) with e | e
  · rw [e, show k = k / 2 * 2 by omega]; simp
  · rw [e]; conv => rhs; rw [show k = k / 2 * 2 + 1 by omega]
    simp
def saidAL : List Int := [0, 0, 0, 0, 64, 1, 1, 1, 64, 0, 65535, 1, 64, 4, 4, 4, 128, 4, 4, 4, 64, 4, 4, 4, 64, 0, 0, 1, 192, 8, 8, 8, 192, 4, 65535, 4]
def layAt (l : List Int) (o : Obj) : Obj := match o with
  | .cells _ t frozen => .cells (l.map fun z => Value.int .i64 z).toArray t frozen
  | o => o
/-- A world for the witness: the tables hold what their initialisers lay. -/
noncomputable def laidWM (os : Os) : World :=
  { World.holding Tryz.prog os ⟨#[], #[], []⟩ with heap := ((World.holding Tryz.prog os ⟨#[], #[], []⟩).heap.modify 0 (layAt saidML)).modify 1 (layAt saidAL) }
end Go.Proofs.YtkmfnafecdfedaaGreatDoor
