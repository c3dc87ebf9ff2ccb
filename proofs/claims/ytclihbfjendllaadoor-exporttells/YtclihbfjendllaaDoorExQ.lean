/- A route among a law's arguments, its prefix's bound too. -/
import Derived.Test.YtclihbfjendllaaDoorAtFr
import Derived.Test.YtclihbfjendllaaDoorRtBg
import Derived.Test.YtclihbfjendllaaDoorKAk
import Derived.Test.YtclihbfjendllaaDoorKAq
import Derived.Deep.Slices
namespace Go.Proofs.YtclihbfjendllaaDoor
open Go.ChangeShapes Go.WideShapes Go.ChangeAt Go.RowKit
set_option maxRecDepth 100000

set_option maxRecDepth 100000 in
theorem route_cells2 {H : Type} {enc : TypeId × Value → H} {W : World} {fuel : Nat} {cs : List Value} {x : DataW H × List MemPlace} (h : DataW.trod enc Tryd.prog W 0 (fun _ => true) true fuel 36 cs = some x) (hl : cs.length = 11) :
    ∃ (pa : Option Addr) (pc : Nat) (ca : Option Addr) (cc : Nat) (ra : Option Addr) (rc : Nat) (r : Rt), cs = (rtC pa pc ca cc ra rc r).toList ∧ r.A < 4294967296 ∧ AtRd W pa ca ra r.att ∧
      ∀ R, (∀ n ∈ x.1.weights Tryd.prog 36, n ≤ R) → r.att.path.length * 32 ≤ R ∧ (∀ s ∈ r.att.path, s.2.length * 8 ≤ R) ∧ r.att.comms.length * 4 ≤ R ∧ r.att.raws.length * 40 ≤ R ∧ ∀ q ∈ r.att.raws, q.2.2.length * 1 ≤ R := by
  obtain ⟨xs, k, _, hxe, _, hxl, hf⟩ := DataW.trod_struct Tryd.underlying36 h
  match xs, hxl, cs, hl with
  | [y0, y1, y2, y3], _, [v0, v1, v2, v3, v4, v5, v6, v7, v8, v9, v10], _ =>
    have k0 : Tryd.prog.cellsOf 3 = 1 := by kernel_rfl
    have k1 : Tryd.prog.cellsOf 29 = 2 := by kernel_rfl
    have k2 : Tryd.prog.cellsOf 34 = 7 := by kernel_rfl
    have g0 := hf 0 _ rfl
    have g1 := hf 1 _ rfl
    have g2 := hf 2 _ rfl
    have g3 := hf 3 _ rfl
    simp [k0, k1, k2] at g0 g1 g2 g3
    obtain ⟨A, L, e0, hA⟩ := pfxo_cells g0 rfl
    obtain ⟨pe, e1, _, _⟩ := DataW.trod_int Tryd.underlying3 g1
    obtain ⟨pa, pc, ca, cc, ra, rc, a, e2, hr, _, hw⟩ := attrs_of g2 rfl
    obtain ⟨st, e3, _, _⟩ := DataW.trod_int Tryd.underlying3 g3
    simp at e0 e1 e2 e3
    obtain ⟨rfl, rfl⟩ := e0
    obtain ⟨rfl, rfl, rfl, rfl, rfl, rfl, rfl⟩ := e2
    subst e1 e3
    refine ⟨pa, pc, ca, cc, ra, rc, ⟨A, L, pe, a, st⟩, rfl, hA, hr, fun R h9 => ?_⟩
    subst hxe
    exact hw R fun n hn => h9 n (by simp only [DataW.weights, Tryd.underlying36]; exact DataW.weights_mem_each (j := 2) rfl rfl n hn)
set_option maxRecDepth 100000 in
theorem route_val2 {H : Type} {enc : TypeId × Value → H} {W : World} {base : Nat} {v : Value} {d : DataW H} {p : List MemPlace} (hv : Value.okWide Tryd.prog W .any base 36 v) (h : DataW.Trod enc Tryd.prog W 0 (fun _ => true) true 36 v d p) (hR : ∀ n ∈ d.weights Tryd.prog 36, n ≤ reachBytes) :
    ∃ (pa : Option Addr) (pc : Nat) (ca : Option Addr) (cc : Nat) (ra : Option Addr) (rc : Nat) (r : Rt), v = rtV pa pc ca cc ra rc r ∧ r.A < 4294967296 ∧ BigR r ∧ AtRd W pa ca ra r.att := by
  obtain ⟨cs, rfl, hs⟩ := okWide_struct Tryd.underlying36 hv
  have k : Tryd.prog.cellsOf 36 = 11 := by kernel_rfl
  rw [k] at hs
  obtain ⟨fuel, hf⟩ := h
  obtain ⟨pa, pc, ca, cc, ra, rc, r, e, hA, hr, hw⟩ := route_cells2 hf (by simpa [Value.cells] using hs)
  obtain ⟨w1, w2, w3, w4, w5⟩ := hw reachBytes hR
  unfold reachBytes at w1 w2 w3 w4 w5
  refine ⟨pa, pc, ca, cc, ra, rc, r, ?_, hA, ⟨by omega, fun s hs => by have := w2 s hs; omega, by omega, by omega, fun q hq => by have := w5 q hq; omega⟩, hr⟩
  have e2 : cs = rtC pa pc ca cc ra rc r := Array.ext' e
  rw [e2]
  rfl
end Go.Proofs.YtclihbfjendllaaDoor
