/- What a peer is told of a route (plain); a speaker's and a peer's settings, as values. -/
import Derived.Test.YthigjonagbfbbaaDoorKAk
import Derived.Test.YthigjonagbfbbaaDoorKAl
import Derived.Test.YthigjonagbfbbaaDoorKAo
import Derived.Test.YthigjonagbfbbaaDoorKAm
import Derived.ProofKit
import Derived.Deep.Slices
namespace Go.Proofs.YthigjonagbfbbaaDoor
open Go.RowKit
set_option maxRecDepth 100000

/-- How a speaker is set up, and one of its peers. -/
structure Cfg where
  asn : Int
  id : Nat
  next : Nat
  hold : Int
  gr : Int
  ll : Int
  stale : Int
  defer_ : Int
structure Pcf where
  num : Int
  asn : Int
  inn : List Rul
  out : List Rul
def cfgC (c : Cfg) : Array Value := #[.int .i64 c.asn, .int .u32 (c.id : Int), .int .u32 (c.next : Int), .int .i64 c.hold, .int .i64 c.gr, .int .i64 c.ll, .int .i64 c.stale, .int .i64 c.defer_]
def pcfC (ia : Option Addr) (ic : Nat) (oa : Option Addr) (oc : Nat) (p : Pcf) : Array Value := #[.int .i64 p.num, .int .i64 p.asn, .slice ia p.inn.length ic, .slice oa p.out.length oc]

/-- Is a peer told of a route? -/
def tellB (c : Cfg) (pe : Pcf) (ll : Bool) (r : Rt) (src : Int) : Bool :=
  (applyR pe.out r.A r.L).2 && !(decide (r.peer = pe.num)) && !(decide (0 ≤ r.peer) && decide (src = c.asn) && decide (pe.asn = c.asn)) && !(decide (r.stale = 2) && !ll)
/-- With what attributes? -/
def toldA (c : Cfg) (pe : Pcf) (a : At) : At :=
  if pe.asn = c.asn then { a with pref := if a.pref = -1 then 100 else a.pref } else { a with path := prepP c.asn a.path, next := c.next, med := -1, pref := -1 }
/-- What Export answers. -/
def exportR (c : Cfg) (pe : Pcf) (ll : Bool) (r : Rt) (src : Int) : Option At :=
  if tellB c pe ll r src && goodA (toldA c pe r.att) then some (toldA c pe r.att) else none
/-- Export's answer, as it is told. -/
def ExpIs (w' : World) (e : Ending) (ca : Option Addr) (cc : Nat) (ra : Option Addr) (rc : Nat) : Option At → Prop
  | none => e = .returned (.tuple #[.agg zA, .bool false])
  | some a => ∃ pa pc, e = .returned (.tuple #[.agg (atC pa pc ca cc ra rc a), .bool true]) ∧ AtRd w' pa ca ra a
end Go.Proofs.YthigjonagbfbbaaDoor
/- A prefix out of its reading. -/
namespace Go.Proofs.YthigjonagbfbbaaDoor
open Go.RowKit Go.ChangeShapes Go.WideShapes Go.ChangeAt
set_option maxRecDepth 100000

theorem pfxo_cells {H : Type} {enc : TypeId × Value → H} {W : World} {fuel : Nat} {cs : List Value} {x : DataW H × List MemPlace} (h : DataW.trod enc Tryd.prog W 0 (fun _ => true) true fuel 29 cs = some x) (hl : cs.length = 2) :
    ∃ (A : Nat) (L : Int), cs = [.int .u32 (A : Int), .int .i64 L] ∧ A < 4294967296 := by
  obtain ⟨xs, k, _, _, _, hxl, hf⟩ := DataW.trod_struct Tryd.underlying29 h
  match xs, hxl, cs, hl with
  | [y0, y1], _, [v0, v1], _ =>
    have k3 : Tryd.prog.cellsOf 3 = 1 := by kernel_rfl
    have k22 : Tryd.prog.cellsOf 22 = 1 := by kernel_rfl
    have g0 := hf 0 _ rfl
    have g1 := hf 1 _ rfl
    simp [k3, k22] at g0 g1
    obtain ⟨a, e0, _, w0⟩ := DataW.trod_int Tryd.underlying22 g0
    obtain ⟨l, e1, _, w1⟩ := DataW.trod_int Tryd.underlying3 g1
    simp at e0 e1
    subst e0 e1
    have b0 := bounds_u32 w0
    obtain ⟨A, rfl⟩ := Int.eq_ofNat_of_zero_le b0.1
    exact ⟨A, l, rfl, by omega⟩
theorem pfxo_of {H : Type} {enc : TypeId × Value → H} {W : World} {base : Nat} {v : Value} {d : DataW H} {p : List MemPlace} (hv : Value.okWide Tryd.prog W .any base 29 v) (h : DataW.Trod enc Tryd.prog W 0 (fun _ => true) true 29 v d p) :
    ∃ (A : Nat) (L : Int), v = pfx A L ∧ A < 4294967296 := by
  obtain ⟨cs, rfl, hs⟩ := okWide_struct Tryd.underlying29 hv
  have k : Tryd.prog.cellsOf 29 = 2 := by kernel_rfl
  rw [k] at hs
  obtain ⟨fuel, hf⟩ := h
  obtain ⟨A, L, e, hA⟩ := pfxo_cells hf (by simpa [Value.cells] using hs)
  refine ⟨A, L, ?_, hA⟩
  have e2 : cs = #[.int .u32 (A : Int), .int .i64 L] := Array.ext' e
  rw [e2]
  rfl
end Go.Proofs.YthigjonagbfbbaaDoor
/- Rules out of their readings. -/
namespace Go.Proofs.YthigjonagbfbbaaDoor
open Go.RowKit Go.ChangeShapes Go.WideShapes Go.ChangeAt
set_option maxRecDepth 100000

theorem rule_cells {H : Type} {enc : TypeId × Value → H} {W : World} {fuel : Nat} {cs : List Value} {x : DataW H × List MemPlace} (h : DataW.trod enc Tryd.prog W 0 (fun _ => true) true fuel 95 cs = some x) (hl : cs.length = 6) :
    ∃ r : Rul, cs = [.int .u32 (r.A : Int), .int .i64 r.L, .int .i64 r.mn, .int .i64 r.mx, .bool r.d, .int .i64 r.pf] ∧ r.A < 4294967296 := by
  obtain ⟨xs, k, _, _, _, hxl, hf⟩ := DataW.trod_struct Tryd.underlying95 h
  match xs, hxl, cs, hl with
  | [y0, y1, y2, y3, y4], _, [v0, v1, v2, v3, v4, v5], _ =>
    have k3 : Tryd.prog.cellsOf 3 = 1 := by kernel_rfl
    have k4 : Tryd.prog.cellsOf 4 = 1 := by kernel_rfl
    have k31 : Tryd.prog.cellsOf 29 = 2 := by kernel_rfl
    have g0 := hf 0 _ rfl
    have g1 := hf 1 _ rfl
    have g2 := hf 2 _ rfl
    have g3 := hf 3 _ rfl
    have g4 := hf 4 _ rfl
    simp [k3, k4, k31] at g0 g1 g2 g3 g4
    obtain ⟨A, L, e0, hA⟩ := pfxo_cells g0 rfl
    obtain ⟨mn, e1, _, _⟩ := DataW.trod_int Tryd.underlying3 g1
    obtain ⟨mx, e2, _, _⟩ := DataW.trod_int Tryd.underlying3 g2
    obtain ⟨d, e3, _⟩ := DataW.trod_bool Tryd.underlying4 g3
    obtain ⟨pf, e4, _, _⟩ := DataW.trod_int Tryd.underlying3 g4
    simp at e0 e1 e2 e3 e4
    obtain ⟨rfl, rfl⟩ := e0
    subst e1 e2 e3 e4
    exact ⟨⟨A, L, mn, mx, d, pf⟩, rfl, hA⟩
theorem rule_of {H : Type} {enc : TypeId × Value → H} {W : World} {base : Nat} {v : Value} {d : DataW H} {p : List MemPlace} (hv : Value.okWide Tryd.prog W .any base 95 v) (h : DataW.Trod enc Tryd.prog W 0 (fun _ => true) true 95 v d p) :
    ∃ r : Rul, v = ruleV r ∧ r.A < 4294967296 := by
  obtain ⟨cs, rfl, hs⟩ := okWide_struct Tryd.underlying95 hv
  have k : Tryd.prog.cellsOf 95 = 6 := by kernel_rfl
  rw [k] at hs
  obtain ⟨fuel, hf⟩ := h
  obtain ⟨r, e, hA⟩ := rule_cells hf (by simpa [Value.cells] using hs)
  refine ⟨r, ?_, hA⟩
  have e2 : cs = #[.int .u32 (r.A : Int), .int .i64 r.L, .int .i64 r.mn, .int .i64 r.mx, .bool r.d, .int .i64 r.pf] := Array.ext' e
  rw [e2]
  rfl
theorem rules_of {H : Type} {enc : TypeId × Value → H} {W : World} {fuel : Nat} {a : Option Addr} {len cap : Nat} {x : DataW H × List MemPlace} (h : DataW.trod enc Tryd.prog W 0 (fun _ => true) true fuel 25 [.slice a len cap] = some x) : ∃ l : List Rul, l.length = len ∧ RulesIn W a l := by
  rcases Go.Deep.open_slice Tryd.underlying25 h with ⟨e, _⟩ | ⟨y, l, c, m, n, D, Pl, e, _, hl, hm, hmm, _, hx⟩
  · simp at e
    obtain ⟨_, rfl, _⟩ := e
    exact ⟨[], rfl, .inl rfl⟩
  · simp at e
    obtain ⟨rfl, rfl, rfl⟩ := e
    have k6 : Tryd.prog.cellsOf 95 = 6 := by kernel_rfl
    simp at hmm
    subst hmm
    have hq : ∀ i, i < len → ∃ t : Rul, (∀ b off, y = ⟨b, off, none⟩ → RulAt W b (off + i * 6) t) ∧ t.A < 4294967296 := fun i hi => by
      obtain ⟨cs', h1, h2⟩ := hx i (by omega)
      rw [k6] at h1
      obtain ⟨_, hlen, hcell⟩ := World.cells?_some h1
      obtain ⟨t, rfl, hA⟩ := rule_cells h2 hlen
      refine ⟨t, fun b off hy => ?_, hA⟩
      subst hy
      have q0 := hcell 0 (by omega)
      have q1 := hcell 1 (by omega)
      have q2 := hcell 2 (by omega)
      have q3 := hcell 3 (by omega)
      have q4 := hcell 4 (by omega)
      have q5 := hcell 5 (by omega)
      rw [Addr.add_mid, Addr.add_mid] at q0 q1 q2 q3 q4 q5
      exact ⟨q0, q1, q2, q3, q4, q5⟩
    obtain ⟨F, hF⟩ : ∃ F : Nat → Rul, ∀ i, i < len → (∀ b off, y = ⟨b, off, none⟩ → RulAt W b (off + i * 6) (F i)) ∧ (F i).A < 4294967296 :=
      ⟨fun i => if h : i < len then Classical.choose (hq i h) else ⟨0, 0, 0, 0, false, 0⟩, fun i hi => by
        simp only [dif_pos hi]
        exact Classical.choose_spec (hq i hi)⟩
    have hsp : 0 < len → y.spot = none := fun hp2 => by
      obtain ⟨cs', h1, _⟩ := hx 0 (by omega)
      rw [k6] at h1
      obtain ⟨_, hlen, hcell⟩ := World.cells?_some h1
      have h0 := hcell 0 (by omega)
      rw [List.getElem?_eq_getElem (by omega)] at h0
      simpa [Addr.add] using World.cell?_spot h0
    obtain ⟨b, off, spot⟩ := y
    by_cases hp : 0 < len
    · have hs : spot = none := hsp hp
      subst hs
      refine ⟨(List.range len).map F, by simp, .inr ⟨b, off, rfl, fun i t ht => ?_⟩⟩
      have hi : i < len := by have := (List.getElem?_eq_some_iff.1 ht).1; simpa using this
      simp [hi] at ht
      subst ht
      exact ⟨(hF i hi).1 b off rfl, (hF i hi).2⟩
    · obtain rfl : len = 0 := by omega
      exact ⟨[], rfl, .inl rfl⟩
end Go.Proofs.YthigjonagbfbbaaDoor
/- A speaker's and a peer's settings out of their readings. -/
namespace Go.Proofs.YthigjonagbfbbaaDoor
open Go.RowKit Go.ChangeShapes Go.WideShapes Go.ChangeAt
set_option maxRecDepth 100000

theorem cfg_cells {H : Type} {enc : TypeId × Value → H} {W : World} {fuel : Nat} {cs : List Value} {x : DataW H × List MemPlace} (h : DataW.trod enc Tryd.prog W 0 (fun _ => true) true fuel 24 cs = some x) (hl : cs.length = 8) :
    ∃ c : Cfg, cs = (cfgC c).toList ∧ c.next < 4294967296 := by
  obtain ⟨xs, k, _, _, _, hxl, hf⟩ := DataW.trod_struct Tryd.underlying24 h
  match xs, hxl, cs, hl with
  | [y0, y1, y2, y3, y4, y5, y6, y7], _, [v0, v1, v2, v3, v4, v5, v6, v7], _ =>
    have k3 : Tryd.prog.cellsOf 3 = 1 := by kernel_rfl
    have k22 : Tryd.prog.cellsOf 22 = 1 := by kernel_rfl
    have g0 := hf 0 _ rfl
    have g1 := hf 1 _ rfl
    have g2 := hf 2 _ rfl
    have g3 := hf 3 _ rfl
    have g4 := hf 4 _ rfl
    have g5 := hf 5 _ rfl
    have g6 := hf 6 _ rfl
    have g7 := hf 7 _ rfl
    simp [k3, k22] at g0 g1 g2 g3 g4 g5 g6 g7
    obtain ⟨a0, e0, _, _⟩ := DataW.trod_int Tryd.underlying3 g0
    obtain ⟨a1, e1, _, w1⟩ := DataW.trod_int Tryd.underlying22 g1
    obtain ⟨a2, e2, _, w2⟩ := DataW.trod_int Tryd.underlying22 g2
    obtain ⟨a3, e3, _, _⟩ := DataW.trod_int Tryd.underlying3 g3
    obtain ⟨a4, e4, _, _⟩ := DataW.trod_int Tryd.underlying3 g4
    obtain ⟨a5, e5, _, _⟩ := DataW.trod_int Tryd.underlying3 g5
    obtain ⟨a6, e6, _, _⟩ := DataW.trod_int Tryd.underlying3 g6
    obtain ⟨a7, e7, _, _⟩ := DataW.trod_int Tryd.underlying3 g7
    simp at e0 e1 e2 e3 e4 e5 e6 e7
    subst e0 e1 e2 e3 e4 e5 e6 e7
    have b1 := bounds_u32 w1
    have b2 := bounds_u32 w2
    obtain ⟨I, rfl⟩ := Int.eq_ofNat_of_zero_le b1.1
    obtain ⟨N, rfl⟩ := Int.eq_ofNat_of_zero_le b2.1
    exact ⟨⟨a0, I, N, a3, a4, a5, a6, a7⟩, rfl, by show N < _; omega⟩
theorem cfg_val {H : Type} {enc : TypeId × Value → H} {W : World} {base : Nat} {v : Value} {d : DataW H} {p : List MemPlace} (hv : Value.okWide Tryd.prog W .any base 24 v) (h : DataW.Trod enc Tryd.prog W 0 (fun _ => true) true 24 v d p) :
    ∃ c : Cfg, v = .agg (cfgC c) ∧ c.next < 4294967296 := by
  obtain ⟨cs, rfl, hs⟩ := okWide_struct Tryd.underlying24 hv
  have k : Tryd.prog.cellsOf 24 = 8 := by kernel_rfl
  rw [k] at hs
  obtain ⟨fuel, hf⟩ := h
  obtain ⟨c, e, hA⟩ := cfg_cells hf (by simpa [Value.cells] using hs)
  exact ⟨c, by rw [show cs = cfgC c from Array.ext' e], hA⟩
theorem rules_any {H : Type} {enc : TypeId × Value → H} {W : World} {fuel : Nat} {cs : List Value} {x : DataW H × List MemPlace} (h : DataW.trod enc Tryd.prog W 0 (fun _ => true) true fuel 25 cs = some x) : ∃ (a : Option Addr) (cap : Nat) (l : List Rul), cs = [.slice a l.length cap] ∧ RulesIn W a l := by
  obtain ⟨a, len, cap, rfl⟩ : ∃ a len cap, cs = [Value.slice a len cap] := by
    rcases Go.Deep.open_slice Tryd.underlying25 h with ⟨e, _⟩ | ⟨y, l, c, m, n, D, Pl, e, _⟩
    · exact ⟨_, _, _, e⟩
    · exact ⟨_, _, _, e⟩
  obtain ⟨l, rfl, hr⟩ := rules_of h
  exact ⟨a, cap, l, rfl, hr⟩
theorem pcf_cells {H : Type} {enc : TypeId × Value → H} {W : World} {fuel : Nat} {cs : List Value} {x : DataW H × List MemPlace} (h : DataW.trod enc Tryd.prog W 0 (fun _ => true) true fuel 27 cs = some x) (hl : cs.length = 4) :
    ∃ (ia : Option Addr) (ic : Nat) (oa : Option Addr) (oc : Nat) (pe : Pcf), cs = (pcfC ia ic oa oc pe).toList ∧ RulesIn W oa pe.out := by
  obtain ⟨xs, k, _, _, _, hxl, hf⟩ := DataW.trod_struct Tryd.underlying27 h
  match xs, hxl, cs, hl with
  | [y0, y1, y2, y3], _, [v0, v1, v2, v3], _ =>
    have k3 : Tryd.prog.cellsOf 3 = 1 := by kernel_rfl
    have k25 : Tryd.prog.cellsOf 25 = 1 := by kernel_rfl
    have g0 := hf 0 _ rfl
    have g1 := hf 1 _ rfl
    have g2 := hf 2 _ rfl
    have g3 := hf 3 _ rfl
    simp [k3, k25] at g0 g1 g2 g3
    obtain ⟨a0, e0, _, _⟩ := DataW.trod_int Tryd.underlying3 g0
    obtain ⟨a1, e1, _, _⟩ := DataW.trod_int Tryd.underlying3 g1
    obtain ⟨ia, ic, li, e2, _⟩ := rules_any g2
    obtain ⟨oa, oc, lo, e3, hr⟩ := rules_any g3
    simp at e0 e1 e2 e3
    subst e0 e1 e2 e3
    exact ⟨ia, ic, oa, oc, ⟨a0, a1, li, lo⟩, rfl, hr⟩
theorem pcf_val {H : Type} {enc : TypeId × Value → H} {W : World} {base : Nat} {v : Value} {d : DataW H} {p : List MemPlace} (hv : Value.okWide Tryd.prog W .any base 27 v) (h : DataW.Trod enc Tryd.prog W 0 (fun _ => true) true 27 v d p) :
    ∃ (ia : Option Addr) (ic : Nat) (oa : Option Addr) (oc : Nat) (pe : Pcf), v = .agg (pcfC ia ic oa oc pe) ∧ RulesIn W oa pe.out := by
  obtain ⟨cs, rfl, hs⟩ := okWide_struct Tryd.underlying27 hv
  have k : Tryd.prog.cellsOf 27 = 4 := by kernel_rfl
  rw [k] at hs
  obtain ⟨fuel, hf⟩ := h
  obtain ⟨ia, ic, oa, oc, pe, e, hA⟩ := pcf_cells hf (by simpa [Value.cells] using hs)
  exact ⟨ia, ic, oa, oc, pe, by rw [show cs = pcfC ia ic oa oc pe from Array.ext' e], hA⟩
end Go.Proofs.YthigjonagbfbbaaDoor
