/- Capabilities, out of their reading. -/
import Derived.Test.YtkmfnafecdfedaaGreatDoorHCp
import Derived.ProofKit
import Derived.OpenShut
import Derived.ChangeOld
namespace Go.Proofs.YtkmfnafecdfedaaGreatDoor
open Go.ChangeShapes Go.WideShapes Go.ChangeAt Go.RowKit

set_option maxRecDepth 100000 in
theorem caps_of {H : Type} {enc : TypeId × Value → H} {W : World} {fuel : Nat} {cs : List Value} {x : DataW H × List MemPlace} (h : DataW.trod enc Tryz.prog W 0 (fun _ => true) true fuel 26 cs = some x) (hl : cs.length = 9) : ∃ c : Cp, cs = (capC c).toList := by
  obtain ⟨xs, k, _, hxe, _, hxl, hf⟩ := DataW.trod_struct Tryz.underlying26 h
  match xs, hxl, cs, hl with
  | [y0, y1, y2, y3, y4, y5, y6, y7, y8], _, [v0, v1, v2, v3, v4, v5, v6, v7, v8], _ =>
    have k0 : Tryz.prog.cellsOf 3 = 1 := by kernel_rfl
    have k1 : Tryz.prog.cellsOf 4 = 1 := by kernel_rfl
    have g0 := hf 0 _ rfl
    have g1 := hf 1 _ rfl
    have g2 := hf 2 _ rfl
    have g3 := hf 3 _ rfl
    have g4 := hf 4 _ rfl
    have g5 := hf 5 _ rfl
    have g6 := hf 6 _ rfl
    have g7 := hf 7 _ rfl
    have g8 := hf 8 _ rfl
    simp [k0, k1] at g0 g1 g2 g3 g4 g5 g6 g7 g8
    obtain ⟨b0, e0, _⟩ := DataW.trod_bool Tryz.underlying4 g0
    obtain ⟨z1, e1, _, _⟩ := DataW.trod_int Tryz.underlying3 g1
    obtain ⟨b2, e2, _⟩ := DataW.trod_bool Tryz.underlying4 g2
    obtain ⟨b3, e3, _⟩ := DataW.trod_bool Tryz.underlying4 g3
    obtain ⟨z4, e4, _, _⟩ := DataW.trod_int Tryz.underlying3 g4
    obtain ⟨b5, e5, _⟩ := DataW.trod_bool Tryz.underlying4 g5
    obtain ⟨b6, e6, _⟩ := DataW.trod_bool Tryz.underlying4 g6
    obtain ⟨b7, e7, _⟩ := DataW.trod_bool Tryz.underlying4 g7
    obtain ⟨z8, e8, _, _⟩ := DataW.trod_int Tryz.underlying3 g8
    simp at e0 e1 e2 e3 e4 e5 e6 e7 e8
    subst e0 e1 e2 e3 e4 e5 e6 e7 e8
    exact ⟨⟨b0, z1, b2, b3, z4, b5, b6, b7, z8⟩, rfl⟩
set_option maxRecDepth 100000 in
theorem cap_val {H : Type} {enc : TypeId × Value → H} {W : World} {base : Nat} {v : Value} {d : DataW H} {p : List MemPlace} (hv : Value.okWide Tryz.prog W .any base 26 v) (h : DataW.Trod enc Tryz.prog W 0 (fun _ => true) true 26 v d p) : ∃ c : Cp, v = capV c := by
  obtain ⟨cs, rfl, hs⟩ := okWide_struct Tryz.underlying26 hv
  have k : Tryz.prog.cellsOf 26 = 9 := by kernel_rfl
  rw [k] at hs
  obtain ⟨fuel, hf⟩ := h
  obtain ⟨c, e⟩ := caps_of hf (by simpa [Value.cells] using hs)
  refine ⟨c, ?_⟩
  have e2 : cs = capC c := Array.ext' e
  rw [e2]
  rfl
end Go.Proofs.YtkmfnafecdfedaaGreatDoor
