/- A prefix out of its reading. -/
import Derived.Test.YtejbajjkbjaadaaPfxMk
import Derived.ProofKit
import Derived.Deep.Slices
namespace Go.Proofs.Ytejbajjkbjaadaa
open Go.RowKit Go.ChangeShapes Go.WideShapes Go.ChangeAt
set_option maxRecDepth 100000

theorem pfxo_cells {H : Type} {enc : TypeId × Value → H} {W : World} {fuel : Nat} {cs : List Value} {x : DataW H × List MemPlace} (h : DataW.trod enc Try.prog W 0 (fun _ => true) true fuel 25 cs = some x) (hl : cs.length = 2) :
    ∃ (A : Nat) (L : Int), cs = [.int .u32 (A : Int), .int .i64 L] ∧ A < 4294967296 := by
  obtain ⟨xs, k, _, _, _, hxl, hf⟩ := DataW.trod_struct Try.underlying25 h
  match xs, hxl, cs, hl with
  | [y0, y1], _, [v0, v1], _ =>
    have k3 : Try.prog.cellsOf 3 = 1 := by kernel_rfl
    have k22 : Try.prog.cellsOf 23 = 1 := by kernel_rfl
    have g0 := hf 0 _ rfl
    have g1 := hf 1 _ rfl
    simp [k3, k22] at g0 g1
    obtain ⟨a, e0, _, w0⟩ := DataW.trod_int Try.underlying23 g0
    obtain ⟨l, e1, _, w1⟩ := DataW.trod_int Try.underlying3 g1
    simp at e0 e1
    subst e0 e1
    have b0 := bounds_u32 w0
    obtain ⟨A, rfl⟩ := Int.eq_ofNat_of_zero_le b0.1
    exact ⟨A, l, rfl, by omega⟩
theorem pfxo_of {H : Type} {enc : TypeId × Value → H} {W : World} {base : Nat} {v : Value} {d : DataW H} {p : List MemPlace} (hv : Value.okWide Try.prog W .any base 25 v) (h : DataW.Trod enc Try.prog W 0 (fun _ => true) true 25 v d p) :
    ∃ (A : Nat) (L : Int), v = pfx A L ∧ A < 4294967296 := by
  obtain ⟨cs, rfl, hs⟩ := okWide_struct Try.underlying25 hv
  have k : Try.prog.cellsOf 25 = 2 := by kernel_rfl
  rw [k] at hs
  obtain ⟨fuel, hf⟩ := h
  obtain ⟨A, L, e, hA⟩ := pfxo_cells hf (by simpa [Value.cells] using hs)
  refine ⟨A, L, ?_, hA⟩
  have e2 : cs = #[.int .u32 (A : Int), .int .i64 L] := Array.ext' e
  rw [e2]
  rfl
end Go.Proofs.Ytejbajjkbjaadaa
