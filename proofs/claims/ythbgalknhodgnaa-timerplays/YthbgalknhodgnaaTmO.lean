/- What happens to timers, out of its reading. -/
import Derived.Test.YthbgalknhodgnaaBase
import Derived.ProofKit
import Derived.Deep.Slices
import Derived.SizedLaws
import Derived.Lib.Strings
namespace Go.Proofs.Ythbgalknhodgnaa
open Go.ChangeShapes Go.WideShapes Go.ChangeAt Go.RowKit
set_option maxRecDepth 100000

theorem weightsAll_memT {H : Type} {P : Program} {e : TypeId} {d : DataW H} {n : Nat} (hn : n ∈ d.weights P e) : ∀ {l : List (DataW H)}, d ∈ l → n ∈ DataW.weightsAll P e l
  | [], h => by cases h
  | x :: l, h => by
    simp only [DataW.weightsAll, List.mem_append]
    rcases List.mem_cons.1 h with rfl | h
    · exact .inl hn
    · exact .inr (weightsAll_memT hn h)
/-- What happens to timers. -/
structure Tk where
  what : Int
  moment : Int
  name : ByteArray
def TkAt (w : World) (g o : Nat) (k : Tk) : Prop := w.cell? ⟨g, o, none⟩ = some (.int .i64 k.what) ∧ w.cell? ⟨g, o + 1, none⟩ = some (.int .i64 k.moment) ∧ w.cell? ⟨g, o + 2, none⟩ = some (.string k.name)
def TksRd (w : World) (a : Option Addr) (l : List Tk) : Prop := 0 < l.length → ∃ b off, a = some ⟨b, off, none⟩ ∧ ∀ i r, l[i]? = some r → TkAt w b (off + i * 3) r
set_option maxRecDepth 100000 in
theorem act_cells {H : Type} {enc : TypeId × Value → H} {W : World} {fuel : Nat} {cs : List Value} {x : DataW H × List MemPlace} (h : DataW.trod enc Try.prog W 0 (fun _ => true) true fuel 29 cs = some x) (hl : cs.length = 3) :
    ∃ r : Tk, cs = [.int .i64 r.what, .int .i64 r.moment, .string r.name] ∧ ∀ R, (∀ n ∈ x.1.weights Try.prog 29, n ≤ R) → r.name.size ≤ R := by
  obtain ⟨xs, k, _, hxe, _, hxl, hf⟩ := DataW.trod_struct Try.underlying29 h
  match xs, hxl, cs, hl with
  | [y0, y1, y2], _, [v0, v1, v2], _ =>
    have k0 : Try.prog.cellsOf 3 = 1 := by kernel_rfl
    have k1 : Try.prog.cellsOf 9 = 1 := by kernel_rfl
    have g0 := hf 0 _ rfl
    have g1 := hf 1 _ rfl
    have g2 := hf 2 _ rfl
    simp [k0, k1] at g0 g1 g2
    obtain ⟨a, e0, _, _⟩ := DataW.trod_int Try.underlying3 g0
    obtain ⟨b, e1, _, _⟩ := DataW.trod_int Try.underlying3 g1
    obtain ⟨s, e2, e3, _⟩ := DataW.trod_string Try.underlying9 g2
    simp at e0 e1 e2
    subst e0 e1 e2
    refine ⟨⟨a, b, s⟩, rfl, fun R h9 => ?_⟩
    subst hxe
    have h8 := h9 s.size (by
      simp only [DataW.weights, Try.underlying29]
      refine DataW.weights_mem_each (j := 2) rfl rfl _ ?_
      rw [e3]
      show s.size ∈ [s.data.toList.length]
      rw [← Lib.size_eq]
      exact List.mem_singleton.2 rfl)
    exact h8
theorem bytesACT : Try.prog.bytesOf 29 = 32 := by kernel_rfl
theorem acts_of {H : Type} {enc : TypeId × Value → H} {W : World} {fuel : Nat} {v : Value} {x : DataW H × List MemPlace} (h : DataW.trod enc Try.prog W 0 (fun _ => true) true fuel 22 [v] = some x) :
    ∃ (a : Option Addr) (cap : Nat) (rs : List Tk), v = .slice a rs.length cap ∧ TksRd W a rs ∧ ∀ R, (∀ n ∈ x.1.weights Try.prog 22, n ≤ R) → rs.length * 32 ≤ R ∧ ∀ r ∈ rs, r.name.size ≤ R := by
  rcases Go.Deep.open_slice Try.underlying22 h with ⟨e, _⟩ | ⟨y, l, c, m, n, D, Pl, e, _, hl, hm, hmm, hxe, hx⟩
  · simp at e
    subst e
    exact ⟨none, 0, [], rfl, fun h => absurd h (by simp), fun R _ => ⟨by simp, fun s hs => by simp at hs⟩⟩
  · simp at e
    subst e
    have k2 : Try.prog.cellsOf 29 = 3 := by kernel_rfl
    simp at hmm
    subst hmm
    have hq : ∀ i, i < l → ∃ r : Tk, (∀ b off, y = ⟨b, off, none⟩ → TkAt W b (off + i * 3) r) ∧ ∀ R, (∀ n ∈ (D i).weights Try.prog 29, n ≤ R) → r.name.size ≤ R := fun i hi => by
      obtain ⟨cs', h1, h2⟩ := hx i (by omega)
      rw [k2] at h1
      obtain ⟨_, hlen, hcell⟩ := World.cells?_some h1
      obtain ⟨r, rfl, hR⟩ := act_cells h2 hlen
      refine ⟨r, fun b off hy => ?_, hR⟩
      subst hy
      have q0 := hcell 0 (by omega)
      have q1 := hcell 1 (by omega)
      have q2 := hcell 2 (by omega)
      rw [Addr.add_mid, Addr.add_mid] at q0 q1 q2
      exact ⟨q0, q1, q2⟩
    obtain ⟨F, hF⟩ : ∃ F : Nat → Tk, ∀ i, i < l → (∀ b off, y = ⟨b, off, none⟩ → TkAt W b (off + i * 3) (F i)) ∧ ∀ R, (∀ n ∈ (D i).weights Try.prog 29, n ≤ R) → (F i).name.size ≤ R :=
      ⟨fun i => if h : i < l then Classical.choose (hq i h) else ⟨0, 0, ⟨#[]⟩⟩, fun i hi => by
        simp only [dif_pos hi]
        exact Classical.choose_spec (hq i hi)⟩
    refine ⟨some y, m, (List.range l).map F, by simp, fun hp => ?_, fun R hR => ?_⟩
    · have hp2 : 0 < l := by simpa using hp
      obtain ⟨b, off, spot⟩ := y
      have hs : spot = none := by
        obtain ⟨cs', h1, _⟩ := hx 0 (by omega)
        rw [k2] at h1
        obtain ⟨_, hlen, hcell⟩ := World.cells?_some h1
        have h0 := hcell 0 (by omega)
        rw [List.getElem?_eq_getElem (by omega)] at h0
        simpa [Addr.add] using World.cell?_spot h0
      subst hs
      refine ⟨b, off, rfl, fun i s hi => ?_⟩
      have hil : i < l := by
        have := (List.getElem?_eq_some_iff.1 hi).1
        simpa using this
      have e : s = F i := by
        have := (List.getElem?_eq_some_iff.1 hi).2
        simpa using this.symm
      rw [e]
      exact (hF i hil).1 b off rfl
    · subst hxe
      simp only [DataW.weights, Try.underlying22] at hR
      refine ⟨?_, fun s hs => ?_⟩
      · have h9 := hR _ (List.mem_cons_self ..)
        rw [bytesACT] at h9
        simp only [List.length_map, List.length_range] at h9 ⊢
        exact Nat.le_trans (Nat.mul_le_mul_right 32 (Nat.le_add_right l _)) h9
      · obtain ⟨i, hi, rfl⟩ := List.mem_map.1 hs
        exact (hF i (by simpa using hi)).2 R fun n hn => hR n (List.mem_cons_of_mem _ (List.mem_append_left _ (weightsAll_memT hn (List.mem_map.2 ⟨i, hi, rfl⟩))))
theorem acts_val {H : Type} {enc : TypeId × Value → H} {W : World} {base : Nat} {v : Value} {d : DataW H} {p : List MemPlace} (hv : Value.okWide Try.prog W .any base 22 v) (h : DataW.Trod enc Try.prog W 0 (fun _ => true) true 22 v d p) (hR : ∀ n ∈ d.weights Try.prog 22, n ≤ reachBytes) :
    ∃ (a : Option Addr) (cap : Nat) (l : List Tk), v = .slice a l.length cap ∧ TksRd W a l ∧ ∀ x ∈ l, x.name.size ≤ 281474976710656 := by
  obtain ⟨a, len, cap, rfl⟩ := okWide_slice Try.underlying22 hv
  obtain ⟨fuel, hf⟩ := h
  obtain ⟨a', cap', l, e, hr, hw⟩ := acts_of hf
  obtain ⟨_, w2⟩ := hw reachBytes hR
  unfold reachBytes at w2
  exact ⟨a', cap', l, e, hr, fun x hx => Nat.le_trans (w2 x hx) (by omega)⟩
end Go.Proofs.Ythbgalknhodgnaa
