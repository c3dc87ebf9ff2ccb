/- Rules out of their readings. -/
import Derived.Test.YtejbajjkbjaadaaPoB
import Derived.Test.YtejbajjkbjaadaaPfxO1
namespace Go.Proofs.Ytejbajjkbjaadaa
open Go.RowKit Go.ChangeShapes Go.WideShapes Go.ChangeAt
set_option maxRecDepth 100000

theorem rule_cells {H : Type} {enc : TypeId × Value → H} {W : World} {fuel : Nat} {cs : List Value} {x : DataW H × List MemPlace} (h : DataW.trod enc Try.prog W 0 (fun _ => true) true fuel 32 cs = some x) (hl : cs.length = 6) :
    ∃ r : Rul, cs = [.int .u32 (r.A : Int), .int .i64 r.L, .int .i64 r.mn, .int .i64 r.mx, .bool r.d, .int .i64 r.pf] ∧ r.A < 4294967296 := by
  obtain ⟨xs, k, _, _, _, hxl, hf⟩ := DataW.trod_struct Try.underlying32 h
  match xs, hxl, cs, hl with
  | [y0, y1, y2, y3, y4], _, [v0, v1, v2, v3, v4, v5], _ =>
    have k3 : Try.prog.cellsOf 3 = 1 := by kernel_rfl
    have k4 : Try.prog.cellsOf 4 = 1 := by kernel_rfl
    have k31 : Try.prog.cellsOf 25 = 2 := by kernel_rfl
    have g0 := hf 0 _ rfl
    have g1 := hf 1 _ rfl
    have g2 := hf 2 _ rfl
    have g3 := hf 3 _ rfl
    have g4 := hf 4 _ rfl
    simp [k3, k4, k31] at g0 g1 g2 g3 g4
    obtain ⟨A, L, e0, hA⟩ := pfxo_cells g0 rfl
    obtain ⟨mn, e1, _, _⟩ := DataW.trod_int Try.underlying3 g1
    obtain ⟨mx, e2, _, _⟩ := DataW.trod_int Try.underlying3 g2
    obtain ⟨d, e3, _⟩ := DataW.trod_bool Try.underlying4 g3
    obtain ⟨pf, e4, _, _⟩ := DataW.trod_int Try.underlying3 g4
    simp at e0 e1 e2 e3 e4
    obtain ⟨rfl, rfl⟩ := e0
    subst e1 e2 e3 e4
    exact ⟨⟨A, L, mn, mx, d, pf⟩, rfl, hA⟩
theorem rule_of {H : Type} {enc : TypeId × Value → H} {W : World} {base : Nat} {v : Value} {d : DataW H} {p : List MemPlace} (hv : Value.okWide Try.prog W .any base 32 v) (h : DataW.Trod enc Try.prog W 0 (fun _ => true) true 32 v d p) :
    ∃ r : Rul, v = ruleV r ∧ r.A < 4294967296 := by
  obtain ⟨cs, rfl, hs⟩ := okWide_struct Try.underlying32 hv
  have k : Try.prog.cellsOf 32 = 6 := by kernel_rfl
  rw [k] at hs
  obtain ⟨fuel, hf⟩ := h
  obtain ⟨r, e, hA⟩ := rule_cells hf (by simpa [Value.cells] using hs)
  refine ⟨r, ?_, hA⟩
  have e2 : cs = #[.int .u32 (r.A : Int), .int .i64 r.L, .int .i64 r.mn, .int .i64 r.mx, .bool r.d, .int .i64 r.pf] := Array.ext' e
  rw [e2]
  rfl
theorem rules_of {H : Type} {enc : TypeId × Value → H} {W : World} {fuel : Nat} {a : Option Addr} {len cap : Nat} {x : DataW H × List MemPlace} (h : DataW.trod enc Try.prog W 0 (fun _ => true) true fuel 22 [.slice a len cap] = some x) : ∃ l : List Rul, l.length = len ∧ RulesIn W a l := by
  rcases Go.Deep.open_slice Try.underlying22 h with ⟨e, _⟩ | ⟨y, l, c, m, n, D, Pl, e, _, hl, hm, hmm, _, hx⟩
  · simp at e
    obtain ⟨_, rfl, _⟩ := e
    exact ⟨[], rfl, .inl rfl⟩
  · simp at e
    obtain ⟨rfl, rfl, rfl⟩ := e
    have k6 : Try.prog.cellsOf 32 = 6 := by kernel_rfl
    simp at hmm
    subst hmm
    have hq : ∀ i, i < len → ∃ t : Rul, (∀ b off, y = ⟨b, off, none⟩ → RulAt W b (off + i * 6) t) ∧ t.A < 4294967296 := fun i hi => by
      obtain ⟨cs', h1, h2⟩ := hx i (by omega)
      rw [k6] at h1
      obtain ⟨_, hlen, hcell⟩ := World.cells?_some h1
      obtain ⟨t, rfl, hA⟩ := rule_cells h2 hlen
      refine ⟨t, fun b off hy => ?_, hA⟩
      subst hy
      have q0 := hcell 0 (by omega)
      have q1 := hcell 1 (by omega)
      have q2 := hcell 2 (by omega)
      have q3 := hcell 3 (by omega)
      have q4 := hcell 4 (by omega)
      have q5 := hcell 5 (by omega)
      rw [Addr.add_mid, Addr.add_mid] at q0 q1 q2 q3 q4 q5
      exact ⟨q0, q1, q2, q3, q4, q5⟩
    obtain ⟨F, hF⟩ : ∃ F : Nat → Rul, ∀ i, i < len → (∀ b off, y = ⟨b, off, none⟩ → RulAt W b (off + i * 6) (F i)) ∧ (F i).A < 4294967296 :=
      ⟨fun i => if h : i < len then Classical.choose (hq i h) else ⟨0, 0, 0, 0, false, 0⟩, fun i hi => by
        simp only [dif_pos hi]
        exact Classical.choose_spec (hq i hi)⟩
    have hsp : 0 < len → y.spot = none := fun hp2 => by
      obtain ⟨cs', h1, _⟩ := hx 0 (by omega)
      rw [k6] at h1
      obtain ⟨_, hlen, hcell⟩ := World.cells?_some h1
      have h0 := hcell 0 (by omega)
      rw [List.getElem?_eq_getElem (by omega)] at h0
      simpa [Addr.add] using World.cell?_spot h0
    obtain ⟨b, off, spot⟩ := y
    by_cases hp : 0 < len
    · have hs : spot = none := hsp hp
      subst hs
      refine ⟨(List.range len).map F, by simp, .inr ⟨b, off, rfl, fun i t ht => ?_⟩⟩
      have hi : i < len := by have := (List.getElem?_eq_some_iff.1 ht).1; simpa using this
      simp [hi] at ht
      subst ht
      exact ⟨(hF i hi).1 b off rfl, (hF i hi).2⟩
    · obtain rfl : len = 0 := by omega
      exact ⟨[], rfl, .inl rfl⟩
end Go.Proofs.Ytejbajjkbjaadaa
