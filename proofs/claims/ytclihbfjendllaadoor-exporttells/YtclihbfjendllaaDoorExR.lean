/- A route among a law's arguments: its path's room too. -/
import Derived.Test.YtclihbfjendllaaDoorExQ
namespace Go.Proofs.YtclihbfjendllaaDoor
open Go.ChangeShapes Go.WideShapes Go.ChangeAt Go.RowKit
set_option maxRecDepth 100000

theorem attrs_cap {H : Type} {enc : TypeId × Value → H} {W : World} {fuel : Nat} {cs : List Value} {x : DataW H × List MemPlace} (h : DataW.trod enc Tryd.prog W 0 (fun _ => true) true fuel 34 cs = some x) (hl : cs.length = 7) :
    ∀ a n c, cs[1]? = some (.slice a n c) → n ≤ c := by
  obtain ⟨xs, k, _, hxe, _, hxl, hf⟩ := DataW.trod_struct Tryd.underlying34 h
  match xs, hxl, cs, hl with
  | [y0, y1, y2, y3, y4, y5, y6], _, [v0, v1, v2, v3, v4, v5, v6], _ =>
    have k1 : Tryd.prog.cellsOf 30 = 1 := by kernel_rfl
    have g1 := hf 1 _ rfl
    simp [k1] at g1
    intro a n c hc
    simp at hc
    subst hc
    rcases Go.Deep.open_slice Tryd.underlying30 g1 with ⟨e, _⟩ | ⟨y, l, c', m, n', D, Pl, e, _, hle, _⟩
    · simp at e
      obtain ⟨_, rfl, rfl⟩ := e
      exact Nat.le_refl _
    · simp at e
      obtain ⟨_, rfl, rfl⟩ := e
      exact hle
theorem route_cap {H : Type} {enc : TypeId × Value → H} {W : World} {fuel : Nat} {cs : List Value} {x : DataW H × List MemPlace} (h : DataW.trod enc Tryd.prog W 0 (fun _ => true) true fuel 36 cs = some x) (hl : cs.length = 11) :
    ∀ a n c, cs[4]? = some (.slice a n c) → n ≤ c := by
  obtain ⟨xs, k, _, hxe, _, hxl, hf⟩ := DataW.trod_struct Tryd.underlying36 h
  match xs, hxl, cs, hl with
  | [y0, y1, y2, y3], _, [v0, v1, v2, v3, v4, v5, v6, v7, v8, v9, v10], _ =>
    have k2 : Tryd.prog.cellsOf 34 = 7 := by kernel_rfl
    have g2 := hf 2 _ rfl
    simp [k2] at g2
    intro a n c hc
    exact attrs_cap g2 rfl a n c (by simpa using hc)
set_option maxRecDepth 100000 in
theorem route_val3 {H : Type} {enc : TypeId × Value → H} {W : World} {base : Nat} {v : Value} {d : DataW H} {p : List MemPlace} (hv : Value.okWide Tryd.prog W .any base 36 v) (h : DataW.Trod enc Tryd.prog W 0 (fun _ => true) true 36 v d p) (hR : ∀ n ∈ d.weights Tryd.prog 36, n ≤ reachBytes) :
    ∃ (pa : Option Addr) (pc : Nat) (ca : Option Addr) (cc : Nat) (ra : Option Addr) (rc : Nat) (r : Rt), v = rtV pa pc ca cc ra rc r ∧ r.A < 4294967296 ∧ BigR r ∧ AtRd W pa ca ra r.att ∧ r.att.path.length ≤ pc := by
  obtain ⟨pa, pc, ca, cc, ra, rc, r, e, hA, hb, hr⟩ := route_val2 hv h hR
  refine ⟨pa, pc, ca, cc, ra, rc, r, e, hA, hb, hr, ?_⟩
  subst e
  obtain ⟨fuel, hf⟩ := h
  exact route_cap hf rfl pa _ pc rfl
end Go.Proofs.YtclihbfjendllaaDoor
