/- Acts, and addresses, out of their readings. -/
import Derived.Test.YtfecknbneonidaaTpP
import Derived.Test.YtfecknbneonidaaPfxO1
namespace Go.Proofs.Ytfecknbneonidaa
open Go.RowKit Go.ChangeShapes Go.WideShapes Go.ChangeAt
set_option maxRecDepth 100000

theorem act_cells {H : Type} {enc : TypeId × Value → H} {W : World} {fuel : Nat} {cs : List Value} {x : DataW H × List MemPlace} (h : DataW.trod enc Try.prog W 0 (fun _ => true) true fuel 33 cs = some x) (hl : cs.length = 4) :
    ∃ t : ActRow, cs = [.bool t.dr, .int .u32 (t.A : Int), .int .i64 t.L, .int .i64 t.V] ∧ t.A < 4294967296 := by
  obtain ⟨xs, k, _, _, _, hxl, hf⟩ := DataW.trod_struct Try.underlying33 h
  match xs, hxl, cs, hl with
  | [y0, y1, y2], _, [v0, v1, v2, v3], _ =>
    have k3 : Try.prog.cellsOf 3 = 1 := by kernel_rfl
    have k4 : Try.prog.cellsOf 4 = 1 := by kernel_rfl
    have k31 : Try.prog.cellsOf 31 = 2 := by kernel_rfl
    have g0 := hf 0 _ rfl
    have g1 := hf 1 _ rfl
    have g2 := hf 2 _ rfl
    simp [k3, k4, k31] at g0 g1 g2
    obtain ⟨dr, e0, _⟩ := DataW.trod_bool Try.underlying4 g0
    obtain ⟨A, L, e1, hA⟩ := pfxo_cells g1 rfl
    obtain ⟨V, e2, _, _⟩ := DataW.trod_int Try.underlying3 g2
    simp at e0 e1 e2
    obtain ⟨rfl, rfl⟩ := e1
    subst e0 e2
    exact ⟨⟨dr, A, L, V⟩, rfl, hA⟩
theorem acts_of {H : Type} {enc : TypeId × Value → H} {W : World} {fuel : Nat} {a : Option Addr} {len cap : Nat} {x : DataW H × List MemPlace} (h : DataW.trod enc Try.prog W 0 (fun _ => true) true fuel 22 [.slice a len cap] = some x) : ∃ (g o : Nat) (l : List ActRow), l.length = len ∧ (0 < len → a = some ⟨g, o, none⟩) ∧ ActsRd W g o l := by
  rcases Go.Deep.open_slice Try.underlying22 h with ⟨e, _⟩ | ⟨y, l, c, m, n, D, Pl, e, _, hl, hm, hmm, _, hx⟩
  · simp at e
    obtain ⟨_, rfl, _⟩ := e
    exact ⟨0, 0, [], rfl, fun h => absurd h (by omega), fun i t ht => by simp at ht⟩
  · simp at e
    obtain ⟨rfl, rfl, rfl⟩ := e
    have k4 : Try.prog.cellsOf 33 = 4 := by kernel_rfl
    simp at hmm
    subst hmm
    have hq : ∀ i, i < len → ∃ t : ActRow, (∀ b off, y = ⟨b, off, none⟩ → W.cell? ⟨b, off + i * 4, none⟩ = some (.bool t.dr) ∧ W.cell? ⟨b, off + i * 4 + 1, none⟩ = some (.int .u32 (t.A : Int)) ∧ W.cell? ⟨b, off + i * 4 + 2, none⟩ = some (.int .i64 t.L) ∧ W.cell? ⟨b, off + i * 4 + 3, none⟩ = some (.int .i64 t.V)) ∧ t.A < 4294967296 := fun i hi => by
      obtain ⟨cs', h1, h2⟩ := hx i (by omega)
      rw [k4] at h1
      obtain ⟨_, hlen, hcell⟩ := World.cells?_some h1
      obtain ⟨t, rfl, hA⟩ := act_cells h2 hlen
      refine ⟨t, fun b off hy => ?_, hA⟩
      subst hy
      have q0 := hcell 0 (by omega)
      have q1 := hcell 1 (by omega)
      have q2 := hcell 2 (by omega)
      have q3 := hcell 3 (by omega)
      rw [Addr.add_mid, Addr.add_mid] at q0 q1 q2 q3
      exact ⟨q0, q1, q2, q3⟩
    obtain ⟨F, hF⟩ : ∃ F : Nat → ActRow, ∀ i, i < len → (∀ b off, y = ⟨b, off, none⟩ → W.cell? ⟨b, off + i * 4, none⟩ = some (.bool (F i).dr) ∧ W.cell? ⟨b, off + i * 4 + 1, none⟩ = some (.int .u32 ((F i).A : Int)) ∧ W.cell? ⟨b, off + i * 4 + 2, none⟩ = some (.int .i64 (F i).L) ∧ W.cell? ⟨b, off + i * 4 + 3, none⟩ = some (.int .i64 (F i).V)) ∧ (F i).A < 4294967296 :=
      ⟨fun i => if h : i < len then Classical.choose (hq i h) else ⟨false, 0, 0, 0⟩, fun i hi => by
        simp only [dif_pos hi]
        exact Classical.choose_spec (hq i hi)⟩
    have hsp : 0 < len → y.spot = none := fun hp2 => by
      obtain ⟨cs', h1, _⟩ := hx 0 (by omega)
      rw [k4] at h1
      obtain ⟨_, hlen, hcell⟩ := World.cells?_some h1
      have h0 := hcell 0 (by omega)
      rw [List.getElem?_eq_getElem (by omega)] at h0
      simpa [Addr.add] using World.cell?_spot h0
    obtain ⟨b, off, spot⟩ := y
    by_cases hp : 0 < len
    · have hs : spot = none := hsp hp
      subst hs
      refine ⟨b, off, (List.range len).map F, by simp, fun _ => rfl, fun i t ht => ?_⟩
      have hi : i < len := by have := (List.getElem?_eq_some_iff.1 ht).1; simpa using this
      simp [hi] at ht
      subst ht
      obtain ⟨q0, q1, q2, q3⟩ := (hF i hi).1 b off rfl
      exact ⟨q0, q1, q2, q3, (hF i hi).2⟩
    · obtain rfl : len = 0 := by omega
      exact ⟨0, 0, [], rfl, fun h => absurd h (by omega), fun i t ht => by simp at ht⟩
theorem addrs_of {H : Type} {enc : TypeId × Value → H} {W : World} {fuel : Nat} {a : Option Addr} {len cap : Nat} {x : DataW H × List MemPlace} (h : DataW.trod enc Try.prog W 0 (fun _ => true) true fuel 23 [.slice a len cap] = some x) : ∃ (g o : Nat) (l : List Nat), l.length = len ∧ (0 < len → a = some ⟨g, o, none⟩) ∧ AddrsRd W g o l := by
  have k1 : Try.prog.cellsOf 29 = 1 := by kernel_rfl
  rcases Go.Deep.open_slice1 Try.underlying23 k1 h with ⟨e, _⟩ | ⟨y, l, c, m, n, V, D, Pl, e, _, hl, hm, hmm, hxe, hx⟩
  · simp at e
    obtain ⟨_, rfl, _⟩ := e
    exact ⟨0, 0, [], rfl, fun h => absurd h (by omega), fun i t ht => by simp at ht⟩
  · simp at e
    obtain ⟨rfl, rfl, rfl⟩ := e
    simp at hmm
    subst hmm
    have hq : ∀ i, i < len → ∃ z : Nat, W.cell? (y.add i) = some (.int .u32 (z : Int)) ∧ z < 4294967296 := fun i hi => by
      obtain ⟨h1, h2⟩ := hx i (by omega)
      obtain ⟨z, e0, _, hw⟩ := DataW.trod_int Try.underlying29 h2
      have hb := bounds_u32 hw
      simp at e0
      obtain ⟨q, rfl⟩ := Int.eq_ofNat_of_zero_le hb.1
      exact ⟨q, by rw [h1, e0], by omega⟩
    obtain ⟨F, hF⟩ : ∃ F : Nat → Nat, ∀ i, i < len → W.cell? (y.add i) = some (.int .u32 ((F i : Nat) : Int)) ∧ F i < 4294967296 :=
      ⟨fun i => if h : i < len then Classical.choose (hq i h) else 0, fun i hi => by
        simp only [dif_pos hi]
        exact Classical.choose_spec (hq i hi)⟩
    by_cases hp : 0 < len
    · obtain ⟨b, off, spot⟩ := y
      have hs : spot = none := by simpa [Addr.add] using World.cell?_spot (hF 0 hp).1
      subst hs
      refine ⟨b, off, (List.range len).map F, by simp, fun _ => rfl, fun i t ht => ?_⟩
      have hi : i < len := by have := (List.getElem?_eq_some_iff.1 ht).1; simpa using this
      simp [hi] at ht
      subst ht
      have := hF i hi
      rw [Addr.add_mid] at this
      exact this
    · obtain rfl : len = 0 := by omega
      exact ⟨0, 0, [], rfl, fun h => absurd h (by omega), fun i t ht => by simp at ht⟩
end Go.Proofs.Ytfecknbneonidaa
