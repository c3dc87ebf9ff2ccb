/- Attributes among a law's arguments. -/
import Derived.Test.YthigjonagbfbbaaDoorRows
import Derived.WalkKit
import Derived.ProofKit
import Derived.OpenShut
import Derived.ShutString
import Derived.ChangeOld
import Derived.Below
import Derived.SizedLaws
import Derived.Test.YthigjonagbfbbaaDoorKAf
namespace Go.Proofs.YthigjonagbfbbaaDoor
open Go.ChangeShapes Go.WideShapes Go.ChangeAt Go.RowKit
set_option maxRecDepth 100000

theorem ownKnob_no : ownKnob Tryd.prog.godebug = none := by kernel_rfl
theorem laid_all : laidOutB Tryd.prog = true := by kernel_rfl
/-- Attributes of a size that there may be. -/
structure BigA (a : At) : Prop where
  path : a.path.length ≤ 1152921504606846976
  segs : ∀ s ∈ a.path, s.2.length ≤ 1152921504606846976
  comms : a.comms.length ≤ 1152921504606846976
  raws : a.raws.length ≤ 1152921504606846976
  datas : ∀ r ∈ a.raws, r.2.2.length ≤ 1152921504606846976
  nums : ∀ z ∈ a.comms, z < 4294967296
set_option maxRecDepth 100000 in
theorem attr_val {H : Type} {enc : TypeId × Value → H} {W : World} {base : Nat} {v : Value} {d : DataW H} {p : List MemPlace} (hv : Value.okWide Tryd.prog W .any base 34 v) (h : DataW.Trod enc Tryd.prog W 0 (fun _ => true) true 34 v d p) (hR : ∀ n ∈ d.weights Tryd.prog 34, n ≤ reachBytes) :
    ∃ (pa : Option Addr) (pc : Nat) (ca : Option Addr) (cc : Nat) (ra : Option Addr) (rc : Nat) (a : At), v = atV pa pc ca cc ra rc a ∧ AtRd W pa ca ra a ∧ BigA a := by
  obtain ⟨cs, rfl, hs⟩ := okWide_struct Tryd.underlying34 hv
  have k : Tryd.prog.cellsOf 34 = 7 := by kernel_rfl
  rw [k] at hs
  obtain ⟨fuel, hf⟩ := h
  obtain ⟨pa, pc, ca, cc, ra, rc, a, e, hr, hz, hw⟩ := attrs_of hf (by simpa [Value.cells] using hs)
  obtain ⟨w1, w2, w3, w4, w5⟩ := hw reachBytes hR
  unfold reachBytes at w1 w2 w3 w4 w5
  refine ⟨pa, pc, ca, cc, ra, rc, a, ?_, hr, ⟨by omega, fun s hs => by have := w2 s hs; omega, by omega, by omega, fun r hr => by have := w5 r hr; omega, hz⟩⟩
  have e2 : cs = #[.int .i64 a.origin, .slice pa a.path.length pc, .int .u32 (a.next : Int), .int .i64 a.med, .int .i64 a.pref, .slice ca a.comms.length cc, .slice ra a.raws.length rc] := Array.ext' e
  rw [e2]
  rfl
end Go.Proofs.YthigjonagbfbbaaDoor
