/- A prefix, and a list of them, out of their readings. -/
import Derived.Test.YtdaagjlijhmghaaPfxEc
import Derived.ProofKit
import Derived.Deep.Slices
namespace Go.Proofs.Ytdaagjlijhmghaa
open Go.RowKit Go.ChangeShapes Go.WideShapes Go.ChangeAt
set_option maxRecDepth 100000

theorem pfx_cells {H : Type} {enc : TypeId × Value → H} {W : World} {fuel : Nat} {cs : List Value} {x : DataW H × List MemPlace} (h : DataW.trod enc Try.prog W 0 (fun _ => true) true fuel 24 cs = some x) (hl : cs.length = 2) :
    ∃ (A : Nat) (L : Int), cs = [.int .u32 (A : Int), .int .i64 L] ∧ A < 4294967296 := by
  obtain ⟨xs, k, _, _, _, hxl, hf⟩ := DataW.trod_struct Try.underlying24 h
  match xs, hxl, cs, hl with
  | [y0, y1], _, [v0, v1], _ =>
    have k3 : Try.prog.cellsOf 3 = 1 := by kernel_rfl
    have k22 : Try.prog.cellsOf 22 = 1 := by kernel_rfl
    have g0 := hf 0 _ rfl
    have g1 := hf 1 _ rfl
    simp [k3, k22] at g0 g1
    obtain ⟨a, e0, _, w0⟩ := DataW.trod_int Try.underlying22 g0
    obtain ⟨l, e1, _, w1⟩ := DataW.trod_int Try.underlying3 g1
    simp at e0 e1
    subst e0 e1
    have b0 := bounds_u32 w0
    obtain ⟨A, rfl⟩ := Int.eq_ofNat_of_zero_le b0.1
    exact ⟨A, l, rfl, by omega⟩
theorem pfx_of {H : Type} {enc : TypeId × Value → H} {W : World} {base : Nat} {v : Value} {d : DataW H} {p : List MemPlace} (hv : Value.okWide Try.prog W .any base 24 v) (h : DataW.Trod enc Try.prog W 0 (fun _ => true) true 24 v d p) :
    ∃ (A : Nat) (L : Int), v = pfx A L ∧ A < 4294967296 := by
  obtain ⟨cs, rfl, hs⟩ := okWide_struct Try.underlying24 hv
  have k : Try.prog.cellsOf 24 = 2 := by kernel_rfl
  rw [k] at hs
  obtain ⟨fuel, hf⟩ := h
  obtain ⟨A, L, e, hA⟩ := pfx_cells hf (by simpa [Value.cells] using hs)
  refine ⟨A, L, ?_, hA⟩
  have e2 : cs = #[.int .u32 (A : Int), .int .i64 L] := Array.ext' e
  rw [e2]
  rfl
/-- A list, out of its reading. -/
theorem plist_of {H : Type} {enc : TypeId × Value → H} {W : World} {fuel : Nat} {a : Option Addr} {len cap : Nat} {x : DataW H × List MemPlace} (h : DataW.trod enc Try.prog W 0 (fun _ => true) true fuel 33 [.slice a len cap] = some x) : ∃ ps : List (Nat × Int), ps.length = len ∧ PRd W a ps := by
  rcases Go.Deep.open_slice Try.underlying33 h with ⟨e, _⟩ | ⟨y, l, c, m, n, D, Pl, e, _, hl, hm, hmm, _, hx⟩
  · simp at e
    obtain ⟨_, rfl, _⟩ := e
    exact ⟨[], rfl, ⟨fun h => absurd h (by simp), fun x hx => by simp at hx⟩⟩
  · simp at e
    obtain ⟨rfl, rfl, rfl⟩ := e
    have k2 : Try.prog.cellsOf 24 = 2 := by kernel_rfl
    simp at hmm
    subst hmm
    have hq : ∀ i, i < len → ∃ p : Nat × Int, (∀ b off, y = ⟨b, off, none⟩ → W.cell? ⟨b, off + i * 2, none⟩ = some (.int .u32 (p.1 : Int)) ∧ W.cell? ⟨b, off + i * 2 + 1, none⟩ = some (.int .i64 p.2)) ∧ p.1 < 4294967296 := fun i hi => by
      obtain ⟨cs', h1, h2⟩ := hx i (by omega)
      rw [k2] at h1
      obtain ⟨_, hlen, hcell⟩ := World.cells?_some h1
      obtain ⟨A, L, rfl, hA⟩ := pfx_cells h2 hlen
      refine ⟨(A, L), fun b off hy => ?_, hA⟩
      subst hy
      have q0 := hcell 0 (by omega)
      have q1 := hcell 1 (by omega)
      rw [Addr.add_mid, Addr.add_mid] at q0 q1
      exact ⟨q0, q1⟩
    have hF : ∃ F : Nat → Nat × Int, ∀ i, i < len → (∀ b off, y = ⟨b, off, none⟩ → W.cell? ⟨b, off + i * 2, none⟩ = some (.int .u32 ((F i).1 : Int)) ∧ W.cell? ⟨b, off + i * 2 + 1, none⟩ = some (.int .i64 (F i).2)) ∧ (F i).1 < 4294967296 :=
      ⟨fun i => if h : i < len then Classical.choose (hq i h) else (0, 0), fun i hi => by
        simp only [dif_pos hi]
        exact Classical.choose_spec (hq i hi)⟩
    obtain ⟨F, hF⟩ := hF
    refine ⟨(List.range len).map F, by simp, ⟨fun hp => ?_, fun x hx => ?_⟩⟩
    · have hp2 : 0 < len := by simpa using hp
      obtain ⟨b, off, spot⟩ := y
      have hs : spot = none := by
        obtain ⟨cs', h1, _⟩ := hx 0 (by omega)
        rw [k2] at h1
        obtain ⟨_, hlen, hcell⟩ := World.cells?_some h1
        have h0 := hcell 0 (by omega)
        rw [List.getElem?_eq_getElem (by omega)] at h0
        simpa [Addr.add] using World.cell?_spot h0
      subst hs
      refine ⟨b, off, rfl, fun i p hi => ?_⟩
      have hil : i < len := by
        have := (List.getElem?_eq_some_iff.1 hi).1
        simpa using this
      have e : p = F i := by
        have := (List.getElem?_eq_some_iff.1 hi).2
        simpa using this.symm
      rw [e]
      exact (hF i hil).1 b off rfl
    · obtain ⟨i, hi, rfl⟩ := List.mem_map.1 hx
      exact (hF i (by simpa using hi)).2
end Go.Proofs.Ytdaagjlijhmghaa
