/- What happens, out of its reading. -/
import Derived.Test.YtbecchoidglaeaaGPair
import Derived.ProofKit
import Derived.Deep.Slices
namespace Go.Proofs.Ytbecchoidglaeaa
open Go.RowKit Go.ChangeShapes Go.WideShapes Go.ChangeAt
set_option maxRecDepth 100000

/-- One act, out of its reading. -/
theorem act_of {H : Type} {enc : TypeId × Value → H} {W : World} {fuel : Nat} {cs : List Value} {x : DataW H × List MemPlace} {b o : Nat} (h : DataW.trod enc Try.prog W 0 (fun _ => true) true fuel 100 cs = some x)
    (hl : cs.length = 5) (hc : ∀ j, j < 5 → W.cell? ⟨b, o + j, none⟩ = cs[j]?) : ∃ wh at_ n keep ba bl bc f, ActIn W b o wh at_ n keep ba bl bc f := by
  obtain ⟨xs, k, _, _, _, hxl, hf⟩ := DataW.trod_struct Try.underlying100 h
  match xs, hxl, cs, hl with
  | [y0, y1, y2, y3, y4], _, [v0, v1, v2, v3, v4], _ =>
    have k3 : Try.prog.cellsOf 3 = 1 := by kernel_rfl
    have k30 : Try.prog.cellsOf 37 = 1 := by kernel_rfl
    have k31 : Try.prog.cellsOf 38 = 1 := by kernel_rfl
    have g0 := hf 0 _ rfl
    have g1 := hf 1 _ rfl
    have g2 := hf 2 _ rfl
    have g3 := hf 3 _ rfl
    have g4 := hf 4 _ rfl
    simp [k3, k30, k31] at g0 g1 g2 g3 g4
    obtain ⟨wh, e0, _, w0⟩ := DataW.trod_int Try.underlying3 g0
    obtain ⟨at_, e1, _, w1⟩ := DataW.trod_int Try.underlying3 g1
    obtain ⟨n, e2, _, w2⟩ := DataW.trod_int Try.underlying3 g2
    obtain ⟨keep, e4, _, w4⟩ := DataW.trod_int Try.underlying38 g4
    simp at e0 e1 e2 e4
    subst e0 e1 e2 e4
    have hc0 := hc 0 (by omega)
    have hc1 := hc 1 (by omega)
    have hc2 := hc 2 (by omega)
    have hc3 := hc 3 (by omega)
    have hc4 := hc 4 (by omega)
    have b1 := bounds_i64 w1
    have b2 := bounds_i64 w2
    have b4 := bounds_u64 w4
    obtain ⟨ba, bl, bc, zs, e3, hrow⟩ : ∃ ba bl bc zs, v3 = .slice ba bl bc ∧ IsRow .u8 W ba bl bc zs := by
      rcases open_ints Try.underlying37 Try.underlying5 (by kernel_rfl) g3 with ⟨hcs, _⟩ | ⟨x, l, c, zs, hcs, _, hl, hm, hz, _, hcell, hwz⟩
      · simp at hcs
        exact ⟨none, 0, 0, [], hcs, .inl ⟨rfl, rfl, rfl, rfl⟩⟩
      · simp at hcs
        exact ⟨some x, l, c, zs, hcs, .inr ⟨_, rfl, hl, hm, by simpa using hz, hcell, hwz⟩⟩
    subst e3
    have hr := rw_of hrow
    have hcap : bl ≤ bc := by
      rcases hrow with ⟨_, h1, h2, _⟩ | ⟨x, _, h1, _⟩
      · omega
      · exact h1
    refine ⟨wh, at_, n, keep, ba, bl, bc, _, ⟨hc0, hc1, hc2, hc3, hc4, hr.1, fun e => ?_, hr.2, by omega, by omega, by omega, hcap⟩⟩
    rcases hrow with ⟨_, h1, h2, _⟩ | ⟨x, h1, _⟩
    · exact ⟨h1, h2⟩
    · rw [e] at h1; cases h1
/-- What happens, out of its reading. -/
theorem acts_of {H : Type} {enc : TypeId × Value → H} {W : World} {fuel : Nat} {a : Option Addr} {len cap : Nat} {x : DataW H × List MemPlace} (h : DataW.trod enc Try.prog W 0 (fun _ => true) true fuel 52 [.slice a len cap] = some x) : len ≤ maxLen ∧ Acts W a len := by
  rcases Go.Deep.open_slice Try.underlying52 h with ⟨e, _⟩ | ⟨y, l, c, m, n, D, Pl, e, _, hl, hm, hmm, _, hx⟩
  · simp at e
    obtain ⟨_, rfl, _⟩ := e
    exact ⟨Nat.zero_le _, fun h => by omega⟩
  · simp at e
    obtain ⟨rfl, rfl, rfl⟩ := e
    have k5 : Try.prog.cellsOf 100 = 5 := by kernel_rfl
    simp at hmm
    subst hmm
    refine ⟨by omega, fun hp => ?_⟩
    obtain ⟨yb, yo, spot⟩ := y
    have hspot : spot = none := by
      obtain ⟨cs', h1, _⟩ := hx 0 (by omega)
      rw [k5] at h1
      obtain ⟨_, hlen, hcell⟩ := World.cells?_some h1
      have h0 := hcell 0 (by omega)
      rw [List.getElem?_eq_getElem (by omega)] at h0
      simpa [Addr.add] using World.cell?_spot h0
    subst hspot
    refine ⟨yb, yo, rfl, fun i hi => ?_⟩
    obtain ⟨cs', h1, h2⟩ := hx i (by omega)
    rw [k5] at h1
    obtain ⟨_, hlen, hcell⟩ := World.cells?_some h1
    exact act_of h2 hlen (fun j hj => by
      have := hcell j hj
      rwa [Addr.add_mid, Addr.add_mid] at this)

end Go.Proofs.Ytbecchoidglaeaa
