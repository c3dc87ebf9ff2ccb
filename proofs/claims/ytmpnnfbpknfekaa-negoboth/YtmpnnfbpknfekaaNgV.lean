/- A speaker's settings, a peer's, and an OPEN, as values, and out of their readings. -/
import Derived.Test.YtmpnnfbpknfekaaBase
import Derived.ProofKit
import Derived.OpenShut
import Derived.ChangeOld
import Derived.Deep.Slices
namespace Go.Proofs.Ytmpnnfbpknfekaa
open Go.RowKit Go.ChangeShapes Go.WideShapes Go.ChangeAt
set_option maxRecDepth 100000

/-- How a speaker is set up. -/
structure Cf where
  asn : Int
  id : Nat
  next : Nat
  hold : Int
  gr : Int
  ll : Int
  stale : Int
  dfr : Int
/-- An OPEN. -/
structure Opn where
  asn : Int
  hold : Int
  id : Nat
  four : Bool
  as4 : Int
  gr : Bool
  rs : Bool
  tm : Int
  fam : Bool
  fwd : Bool
  ll : Bool
  lt : Int
def cfV (c : Cf) : Value := .agg #[.int .i64 c.asn, .int .u32 (c.id : Int), .int .u32 (c.next : Int), .int .i64 c.hold, .int .i64 c.gr, .int .i64 c.ll, .int .i64 c.stale, .int .i64 c.dfr]
def opV (o : Opn) : Value := .agg #[.int .i64 o.asn, .int .i64 o.hold, .int .u32 (o.id : Int), .bool o.four, .int .i64 o.as4, .bool o.gr, .bool o.rs, .int .i64 o.tm, .bool o.fam, .bool o.fwd, .bool o.ll, .int .i64 o.lt]
def pcV (n a : Int) (ia : Option Addr) (il ic : Nat) (oa : Option Addr) (ol oc : Nat) : Value := .agg #[.int .i64 n, .int .i64 a, .slice ia il ic, .slice oa ol oc]
/-- Is a number an int64? -/
def I64 (n : Int) : Prop := -9223372036854775808 ≤ n ∧ n ≤ 9223372036854775807
theorem cf_val {H : Type} {enc : TypeId × Value → H} {W : World} {base : Nat} {v : Value} {d : DataW H} {p : List MemPlace} (hv : Value.okWide Try.prog W .any base 24 v) (h0 : DataW.Trod enc Try.prog W 0 (fun _ => true) true 24 v d p) :
    ∃ c : Cf, v = cfV c ∧ c.id < 4294967296 ∧ I64 c.asn := by
  obtain ⟨cs, rfl, hs⟩ := okWide_struct Try.underlying24 hv
  have k : Try.prog.cellsOf 24 = 8 := by kernel_rfl
  rw [k] at hs
  obtain ⟨fuel, h⟩ := h0
  obtain ⟨xs, k, _, _, _, hxl, hf⟩ := DataW.trod_struct Try.underlying24 h
  have hl : cs.toList.length = 8 := by simpa using hs
  suffices hz : ∃ c : Cf, cs.toList = [.int .i64 c.asn, .int .u32 (c.id : Int), .int .u32 (c.next : Int), .int .i64 c.hold, .int .i64 c.gr, .int .i64 c.ll, .int .i64 c.stale, .int .i64 c.dfr] ∧ c.id < 4294967296 ∧ I64 c.asn by
    obtain ⟨c, e, h1, h2⟩ := hz
    have e2 : cs = #[.int .i64 c.asn, .int .u32 (c.id : Int), .int .u32 (c.next : Int), .int .i64 c.hold, .int .i64 c.gr, .int .i64 c.ll, .int .i64 c.stale, .int .i64 c.dfr] := Array.ext' e
    exact ⟨c, by rw [e2]; rfl, h1, h2⟩
  simp only [Value.cells] at hf
  generalize cs.toList = l at *
  match xs, hxl, l, hl with
  | [y0, y1, y2, y3, y4, y5, y6, y7], _, [v0, v1, v2, v3, v4, v5, v6, v7], _ =>
    have k3 : Try.prog.cellsOf 3 = 1 := by kernel_rfl
    have k22 : Try.prog.cellsOf 22 = 1 := by kernel_rfl
    have g0 := hf 0 _ rfl
    have g1 := hf 1 _ rfl
    have g2 := hf 2 _ rfl
    have g3 := hf 3 _ rfl
    have g4 := hf 4 _ rfl
    have g5 := hf 5 _ rfl
    have g6 := hf 6 _ rfl
    have g7 := hf 7 _ rfl
    simp [k3, k22] at g0 g1 g2 g3 g4 g5 g6 g7
    obtain ⟨a0, e0, _, w0⟩ := DataW.trod_int Try.underlying3 g0
    obtain ⟨a1, e1, _, w1⟩ := DataW.trod_int Try.underlying22 g1
    obtain ⟨a2, e2, _, w2⟩ := DataW.trod_int Try.underlying22 g2
    obtain ⟨a3, e3, _, _⟩ := DataW.trod_int Try.underlying3 g3
    obtain ⟨a4, e4, _, _⟩ := DataW.trod_int Try.underlying3 g4
    obtain ⟨a5, e5, _, _⟩ := DataW.trod_int Try.underlying3 g5
    obtain ⟨a6, e6, _, _⟩ := DataW.trod_int Try.underlying3 g6
    obtain ⟨a7, e7, _, _⟩ := DataW.trod_int Try.underlying3 g7
    simp at e0 e1 e2 e3 e4 e5 e6 e7
    subst e0 e1 e2 e3 e4 e5 e6 e7
    have b1 := bounds_u32 w1
    have b2 := bounds_u32 w2
    obtain ⟨I, rfl⟩ := Int.eq_ofNat_of_zero_le b1.1
    obtain ⟨N, rfl⟩ := Int.eq_ofNat_of_zero_le b2.1
    exact ⟨⟨a0, I, N, a3, a4, a5, a6, a7⟩, rfl, by show I < _; omega, bounds_i64 w0⟩
theorem slice_any {H : Type} {enc : TypeId × Value → H} {W : World} {fuel : Nat} {cs : List Value} {x : DataW H × List MemPlace} (h : DataW.trod enc Try.prog W 0 (fun _ => true) true fuel 32 cs = some x) : ∃ (a : Option Addr) (l c : Nat), cs = [.slice a l c] := by
  rcases Go.Deep.open_slice Try.underlying32 h with ⟨e, _⟩ | ⟨y, l, c, m, n, D, Pl, e, _⟩
  · exact ⟨_, _, _, e⟩
  · exact ⟨_, _, _, e⟩
theorem pc_val {H : Type} {enc : TypeId × Value → H} {W : World} {base : Nat} {v : Value} {d : DataW H} {p : List MemPlace} (hv : Value.okWide Try.prog W .any base 34 v) (h0 : DataW.Trod enc Try.prog W 0 (fun _ => true) true 34 v d p) :
    ∃ (n a : Int) (ia : Option Addr) (il ic : Nat) (oa : Option Addr) (ol oc : Nat), v = pcV n a ia il ic oa ol oc ∧ I64 a := by
  obtain ⟨cs, rfl, hs⟩ := okWide_struct Try.underlying34 hv
  have k : Try.prog.cellsOf 34 = 4 := by kernel_rfl
  rw [k] at hs
  obtain ⟨fuel, h⟩ := h0
  obtain ⟨xs, k, _, _, _, hxl, hf⟩ := DataW.trod_struct Try.underlying34 h
  have hl : cs.toList.length = 4 := by simpa using hs
  suffices hz : ∃ (n a : Int) (ia : Option Addr) (il ic : Nat) (oa : Option Addr) (ol oc : Nat), cs.toList = [.int .i64 n, .int .i64 a, .slice ia il ic, .slice oa ol oc] ∧ I64 a by
    obtain ⟨n, a, ia, il, ic, oa, ol, oc, e, h1⟩ := hz
    have e2 : cs = #[.int .i64 n, .int .i64 a, .slice ia il ic, .slice oa ol oc] := Array.ext' e
    exact ⟨n, a, ia, il, ic, oa, ol, oc, by rw [e2]; rfl, h1⟩
  simp only [Value.cells] at hf
  generalize cs.toList = l at *
  match xs, hxl, l, hl with
  | [y0, y1, y2, y3], _, [v0, v1, v2, v3], _ =>
    have k3 : Try.prog.cellsOf 3 = 1 := by kernel_rfl
    have k25 : Try.prog.cellsOf 32 = 1 := by kernel_rfl
    have g0 := hf 0 _ rfl
    have g1 := hf 1 _ rfl
    have g2 := hf 2 _ rfl
    have g3 := hf 3 _ rfl
    simp [k3, k25] at g0 g1 g2 g3
    obtain ⟨a0, e0, _, _⟩ := DataW.trod_int Try.underlying3 g0
    obtain ⟨a1, e1, _, w1⟩ := DataW.trod_int Try.underlying3 g1
    obtain ⟨ia, il, ic, e2⟩ := slice_any g2
    obtain ⟨oa, ol, oc, e3⟩ := slice_any g3
    simp at e0 e1 e2 e3
    subst e0 e1 e2 e3
    exact ⟨a0, a1, ia, il, ic, oa, ol, oc, rfl, bounds_i64 w1⟩
theorem caps9 {H : Type} {enc : TypeId × Value → H} {W : World} {fuel : Nat} {cs : List Value} {x : DataW H × List MemPlace} (h : DataW.trod enc Try.prog W 0 (fun _ => true) true fuel 27 cs = some x) (hl : cs.length = 9) :
    ∃ (b0 : Bool) (z1 : Int) (b2 b3 : Bool) (z4 : Int) (b5 b6 b7 : Bool) (z8 : Int), cs = [.bool b0, .int .i64 z1, .bool b2, .bool b3, .int .i64 z4, .bool b5, .bool b6, .bool b7, .int .i64 z8] := by
  obtain ⟨xs, k, _, hxe, _, hxl, hf⟩ := DataW.trod_struct Try.underlying27 h
  match xs, hxl, cs, hl with
  | [y0, y1, y2, y3, y4, y5, y6, y7, y8], _, [v0, v1, v2, v3, v4, v5, v6, v7, v8], _ =>
    have k0 : Try.prog.cellsOf 3 = 1 := by kernel_rfl
    have k1 : Try.prog.cellsOf 4 = 1 := by kernel_rfl
    have g0 := hf 0 _ rfl
    have g1 := hf 1 _ rfl
    have g2 := hf 2 _ rfl
    have g3 := hf 3 _ rfl
    have g4 := hf 4 _ rfl
    have g5 := hf 5 _ rfl
    have g6 := hf 6 _ rfl
    have g7 := hf 7 _ rfl
    have g8 := hf 8 _ rfl
    simp [k0, k1] at g0 g1 g2 g3 g4 g5 g6 g7 g8
    obtain ⟨b0, e0, _⟩ := DataW.trod_bool Try.underlying4 g0
    obtain ⟨z1, e1, _, _⟩ := DataW.trod_int Try.underlying3 g1
    obtain ⟨b2, e2, _⟩ := DataW.trod_bool Try.underlying4 g2
    obtain ⟨b3, e3, _⟩ := DataW.trod_bool Try.underlying4 g3
    obtain ⟨z4, e4, _, _⟩ := DataW.trod_int Try.underlying3 g4
    obtain ⟨b5, e5, _⟩ := DataW.trod_bool Try.underlying4 g5
    obtain ⟨b6, e6, _⟩ := DataW.trod_bool Try.underlying4 g6
    obtain ⟨b7, e7, _⟩ := DataW.trod_bool Try.underlying4 g7
    obtain ⟨z8, e8, _, _⟩ := DataW.trod_int Try.underlying3 g8
    simp at e0 e1 e2 e3 e4 e5 e6 e7 e8
    subst e0 e1 e2 e3 e4 e5 e6 e7 e8
    exact ⟨b0, z1, b2, b3, z4, b5, b6, b7, z8, rfl⟩
set_option maxRecDepth 100000 in
theorem op_val {H : Type} {enc : TypeId × Value → H} {W : World} {base : Nat} {v : Value} {d : DataW H} {p : List MemPlace} (hv : Value.okWide Try.prog W .any base 29 v) (h0 : DataW.Trod enc Try.prog W 0 (fun _ => true) true 29 v d p) :
    ∃ o : Opn, v = opV o ∧ o.id < 4294967296 := by
  obtain ⟨cs, rfl, hs⟩ := okWide_struct Try.underlying29 hv
  have k : Try.prog.cellsOf 29 = 12 := by kernel_rfl
  rw [k] at hs
  obtain ⟨fuel, h⟩ := h0
  obtain ⟨xs, k, _, _, _, hxl, hf⟩ := DataW.trod_struct Try.underlying29 h
  have hl : cs.toList.length = 12 := by simpa using hs
  suffices hz : ∃ o : Opn, cs.toList = [.int .i64 o.asn, .int .i64 o.hold, .int .u32 (o.id : Int), .bool o.four, .int .i64 o.as4, .bool o.gr, .bool o.rs, .int .i64 o.tm, .bool o.fam, .bool o.fwd, .bool o.ll, .int .i64 o.lt] ∧ o.id < 4294967296 by
    obtain ⟨o, e, h1⟩ := hz
    have e2 : cs = #[.int .i64 o.asn, .int .i64 o.hold, .int .u32 (o.id : Int), .bool o.four, .int .i64 o.as4, .bool o.gr, .bool o.rs, .int .i64 o.tm, .bool o.fam, .bool o.fwd, .bool o.ll, .int .i64 o.lt] := Array.ext' e
    exact ⟨o, by rw [e2]; rfl, h1⟩
  simp only [Value.cells] at hf
  generalize cs.toList = l at *
  match xs, hxl, l, hl with
  | [y0, y1, y2, y3], _, [v0, v1, v2, v3, v4, v5, v6, v7, v8, v9, v10, v11], _ =>
    have k0 : Try.prog.cellsOf 3 = 1 := by kernel_rfl
    have k1 : Try.prog.cellsOf 22 = 1 := by kernel_rfl
    have k2 : Try.prog.cellsOf 27 = 9 := by kernel_rfl
    have g0 := hf 0 _ rfl
    have g1 := hf 1 _ rfl
    have g2 := hf 2 _ rfl
    have g3 := hf 3 _ rfl
    simp [k0, k1, k2] at g0 g1 g2 g3
    obtain ⟨a, e0, _, _⟩ := DataW.trod_int Try.underlying3 g0
    obtain ⟨h9, e1, _, _⟩ := DataW.trod_int Try.underlying3 g1
    obtain ⟨i, e2, _, wi⟩ := DataW.trod_int Try.underlying22 g2
    obtain ⟨b0, z1, b2, b3, z4, b5, b6, b7, z8, e3⟩ := caps9 g3 rfl
    simp at e0 e1 e2
    have hb := bounds_u32 wi
    obtain ⟨n, rfl⟩ := Int.eq_ofNat_of_zero_le hb.1
    subst e0 e1 e2
    simp at e3
    obtain ⟨rfl, rfl, rfl, rfl, rfl, rfl, rfl, rfl, rfl⟩ := e3
    exact ⟨⟨a, h9, n, b0, z1, b2, b3, z4, b5, b6, b7, z8⟩, rfl, by show n < _; omega⟩
end Go.Proofs.Ytmpnnfbpknfekaa
