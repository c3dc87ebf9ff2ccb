/- An OPEN, out of its reading. -/
import Derived.Test.YtkmfnafecdfedaaGreatDoorCpOf
import Derived.Test.YtkmfnafecdfedaaGreatDoorRmO
namespace Go.Proofs.YtkmfnafecdfedaaGreatDoor
open Go.ChangeShapes Go.WideShapes Go.ChangeAt Go.RowKit

set_option maxRecDepth 100000 in
theorem open_cells {H : Type} {enc : TypeId × Value → H} {W : World} {fuel : Nat} {cs : List Value} {x : DataW H × List MemPlace} (h : DataW.trod enc Tryz.prog W 0 (fun _ => true) true fuel 28 cs = some x) (hl : cs.length = 12) :
    ∃ (a h : Int) (i : Nat) (c : Cp), cs = (openZ a h i c).toList ∧ i < 4294967296 := by
  obtain ⟨xs, k, _, _, _, hxl, hf⟩ := DataW.trod_struct Tryz.underlying28 h
  match xs, hxl, cs, hl with
  | [y0, y1, y2, y3], _, [v0, v1, v2, v3, v4, v5, v6, v7, v8, v9, v10, v11], _ =>
    have k0 : Tryz.prog.cellsOf 3 = 1 := by kernel_rfl
    have k1 : Tryz.prog.cellsOf 24 = 1 := by kernel_rfl
    have k2 : Tryz.prog.cellsOf 26 = 9 := by kernel_rfl
    have g0 := hf 0 _ rfl
    have g1 := hf 1 _ rfl
    have g2 := hf 2 _ rfl
    have g3 := hf 3 _ rfl
    simp [k0, k1, k2] at g0 g1 g2 g3
    obtain ⟨a, e0, _, _⟩ := DataW.trod_int Tryz.underlying3 g0
    obtain ⟨h9, e1, _, _⟩ := DataW.trod_int Tryz.underlying3 g1
    obtain ⟨i, e2, _, wi⟩ := DataW.trod_int Tryz.underlying24 g2
    obtain ⟨c, e3⟩ := caps_of g3 rfl
    simp at e0 e1 e2
    have hb := bounds_u32 wi
    obtain ⟨n, rfl⟩ := Int.eq_ofNat_of_zero_le hb.1
    subst e0 e1 e2
    simp [capC] at e3
    obtain ⟨rfl, rfl, rfl, rfl, rfl, rfl, rfl, rfl, rfl⟩ := e3
    exact ⟨_, _, n, c, rfl, by omega⟩
set_option maxRecDepth 100000 in
theorem open_val {H : Type} {enc : TypeId × Value → H} {W : World} {base : Nat} {v : Value} {d : DataW H} {p : List MemPlace} (hv : Value.okWide Tryz.prog W .any base 28 v) (h : DataW.Trod enc Tryz.prog W 0 (fun _ => true) true 28 v d p) :
    ∃ (a h : Int) (i : Nat) (c : Cp), v = .agg (openZ a h i c) ∧ i < 4294967296 := by
  obtain ⟨cs, rfl, hs⟩ := okWide_struct Tryz.underlying28 hv
  have k : Tryz.prog.cellsOf 28 = 12 := by kernel_rfl
  rw [k] at hs
  obtain ⟨fuel, hf⟩ := h
  obtain ⟨a, h9, i, c, e, hi⟩ := open_cells hf (by simpa [Value.cells] using hs)
  refine ⟨a, h9, i, c, ?_, hi⟩
  have e2 : cs = openZ a h9 i c := Array.ext' e
  rw [e2]
end Go.Proofs.YtkmfnafecdfedaaGreatDoor
