/- A path, out of its reading. -/
import Derived.Test.YtolpaimmmhoiiaaPthPl
import Derived.ProofKit
import Derived.Deep.Slices
import Derived.SizedLaws
namespace Go.Proofs.Ytolpaimmmhoiiaa
open Go.RowKit Go.ChangeShapes Go.WideShapes Go.ChangeAt
set_option maxRecDepth 100000

theorem weightsAll_mem {H : Type} {P : Program} {e : TypeId} {d : DataW H} {n : Nat} (hn : n ∈ d.weights P e) : ∀ {l : List (DataW H)}, d ∈ l → n ∈ DataW.weightsAll P e l
  | [], h => by simp at h
  | d0 :: r, h => by
    simp only [DataW.weightsAll, List.mem_append]
    rcases List.mem_cons.1 h with rfl | h
    · exact .inl hn
    · exact .inr (weightsAll_mem hn h)
theorem bytesInt : Try.prog.bytesOf 3 = 8 := by kernel_rfl
theorem bytesSeg : Try.prog.bytesOf 47 = 32 := by kernel_rfl
/-- Numbers, out of their reading. -/
theorem ints_of {H : Type} {enc : TypeId × Value → H} {W : World} {fuel : Nat} {v : Value} {x : DataW H × List MemPlace} (h : DataW.trod enc Try.prog W 0 (fun _ => true) true fuel 45 [v] = some x) :
    ∃ (a : Option Addr) (c : Nat) (zs : List Int), v = .slice a zs.length c ∧ IRd W a zs ∧ zs.length ≤ maxLen ∧ ∀ R, (∀ n ∈ x.1.weights Try.prog 45, n ≤ R) → zs.length * 8 ≤ R := by
  have k1 : Try.prog.cellsOf 3 = 1 := by kernel_rfl
  rcases Go.Deep.open_slice1 Try.underlying45 k1 h with ⟨e, _⟩ | ⟨y, l, c, m, n, V, D, Pl, e, _, hl, hm, hmm, hxe, hx⟩
  · simp at e
    subst e
    exact ⟨none, 0, [], rfl, fun h => absurd h (by simp), by simp, fun R _ => by simp⟩
  · simp at e
    subst e
    simp at hmm
    subst hmm
    have hq : ∀ i, i < l → ∃ z : Int, W.cell? (y.add i) = some (.int .i64 z) := fun i hi => by
      obtain ⟨h1, h2⟩ := hx i (by omega)
      obtain ⟨z, e0, _, _⟩ := DataW.trod_int Try.underlying3 h2
      simp at e0
      exact ⟨z, by rw [h1, e0]⟩
    obtain ⟨F, hF⟩ : ∃ F : Nat → Int, ∀ i, i < l → W.cell? (y.add i) = some (.int .i64 (F i)) :=
      ⟨fun i => if h : i < l then Classical.choose (hq i h) else 0, fun i hi => by
        simp only [dif_pos hi]
        exact Classical.choose_spec (hq i hi)⟩
    refine ⟨some y, m, (List.range l).map F, by simp, fun hp => ?_, by simp; omega, fun R hR => ?_⟩
    rotate_left
    · subst hxe
      have h9 := hR _ (by simp only [DataW.weights, Try.underlying45]; exact List.mem_cons_self ..)
      rw [bytesInt] at h9
      simp only [List.length_map, List.length_range] at h9 ⊢
      exact Nat.le_trans (Nat.mul_le_mul_right 8 (Nat.le_add_right l _)) h9
    have hp2 : 0 < l := by simpa using hp
    obtain ⟨b, off, spot⟩ := y
    have hs : spot = none := by simpa [Addr.add] using World.cell?_spot (hF 0 hp2)
    subst hs
    refine ⟨b, off, rfl, fun j z hj => ?_⟩
    have hjl : j < l := by
      have := (List.getElem?_eq_some_iff.1 hj).1
      simpa using this
    have e : z = F j := by
      have := (List.getElem?_eq_some_iff.1 hj).2
      simpa using this.symm
    have := hF j hjl
    rw [Addr.add_mid] at this
    rw [e]
    exact this
theorem seg_cells {H : Type} {enc : TypeId × Value → H} {W : World} {fuel : Nat} {cs : List Value} {x : DataW H × List MemPlace} (h : DataW.trod enc Try.prog W 0 (fun _ => true) true fuel 47 cs = some x) (hl : cs.length = 2) :
    ∃ (b : Bool) (a : Option Addr) (c : Nat) (zs : List Int), cs = [.bool b, .slice a zs.length c] ∧ IRd W a zs ∧ zs.length ≤ maxLen ∧ ∀ R, (∀ n ∈ x.1.weights Try.prog 47, n ≤ R) → zs.length * 8 ≤ R := by
  obtain ⟨xs, k, _, hxe, _, hxl, hf⟩ := DataW.trod_struct Try.underlying47 h
  match xs, hxl, cs, hl with
  | [y0, y1], _, [v0, v1], _ =>
    have k3 : Try.prog.cellsOf 4 = 1 := by kernel_rfl
    have k22 : Try.prog.cellsOf 45 = 1 := by kernel_rfl
    have g0 := hf 0 _ rfl
    have g1 := hf 1 _ rfl
    simp [k3, k22] at g0 g1
    obtain ⟨t, e0, _⟩ := DataW.trod_bool Try.underlying4 g0
    simp at e0
    subst e0
    obtain ⟨a, c, zs, rfl, hi, hm, hR⟩ := ints_of g1
    refine ⟨t, a, c, zs, rfl, hi, hm, fun R h9 => hR R fun n hn => h9 n ?_⟩
    subst hxe
    simp only [DataW.weights, Try.underlying47]
    exact DataW.weights_mem_each (j := 1) rfl rfl n hn
/-- A path, out of its reading. -/
theorem path_of {H : Type} {enc : TypeId × Value → H} {W : World} {fuel : Nat} {a : Option Addr} {len cap : Nat} {x : DataW H × List MemPlace} (h : DataW.trod enc Try.prog W 0 (fun _ => true) true fuel 35 [.slice a len cap] = some x) : ∃ ss : List (Bool × List Int), ss.length = len ∧ len ≤ cap ∧ PthRd W a ss ∧ ∀ R, (∀ n ∈ x.1.weights Try.prog 35, n ≤ R) → len * 32 ≤ R ∧ ∀ s ∈ ss, s.2.length * 8 ≤ R := by
  rcases Go.Deep.open_slice Try.underlying35 h with ⟨e, _⟩ | ⟨y, l, c, m, n, D, Pl, e, _, hl, hm, hmm, hxe, hx⟩
  · simp at e
    obtain ⟨_, rfl, _⟩ := e
    exact ⟨[], rfl, Nat.zero_le _, ⟨fun h => absurd h (by simp), by simp, fun x hx => by simp at hx⟩, fun R _ => ⟨by simp, fun s hs => by simp at hs⟩⟩
  · simp at e
    obtain ⟨rfl, rfl, rfl⟩ := e
    have k2 : Try.prog.cellsOf 47 = 2 := by kernel_rfl
    simp at hmm
    subst hmm
    have hq : ∀ i, i < len → ∃ s : Bool × List Int, (∀ b off, y = ⟨b, off, none⟩ → W.cell? ⟨b, off + i * 2, none⟩ = some (.bool s.1) ∧ ∃ a' c', W.cell? ⟨b, off + i * 2 + 1, none⟩ = some (.slice a' s.2.length c') ∧ IRd W a' s.2) ∧ s.2.length ≤ maxLen ∧ ∀ R, (∀ n ∈ (D i).weights Try.prog 47, n ≤ R) → s.2.length * 8 ≤ R := fun i hi => by
      obtain ⟨cs', h1, h2⟩ := hx i (by omega)
      rw [k2] at h1
      obtain ⟨_, hlen, hcell⟩ := World.cells?_some h1
      obtain ⟨t, a', c', zs, rfl, hi2, hz, hR⟩ := seg_cells h2 hlen
      refine ⟨(t, zs), fun b off hy => ?_, hz, hR⟩
      subst hy
      have q0 := hcell 0 (by omega)
      have q1 := hcell 1 (by omega)
      rw [Addr.add_mid, Addr.add_mid] at q0 q1
      exact ⟨q0, a', c', q1, hi2⟩
    obtain ⟨F, hF⟩ : ∃ F : Nat → Bool × List Int, ∀ i, i < len → (∀ b off, y = ⟨b, off, none⟩ → W.cell? ⟨b, off + i * 2, none⟩ = some (.bool (F i).1) ∧ ∃ a' c', W.cell? ⟨b, off + i * 2 + 1, none⟩ = some (.slice a' (F i).2.length c') ∧ IRd W a' (F i).2) ∧ (F i).2.length ≤ maxLen ∧ ∀ R, (∀ n ∈ (D i).weights Try.prog 47, n ≤ R) → (F i).2.length * 8 ≤ R :=
      ⟨fun i => if h : i < len then Classical.choose (hq i h) else (false, []), fun i hi => by
        simp only [dif_pos hi]
        exact Classical.choose_spec (hq i hi)⟩
    refine ⟨(List.range len).map F, by simp, hl, ⟨fun hp => ?_, by simp; omega, fun s hs => ?_⟩, fun R hR => ?_⟩
    · have hp2 : 0 < len := by simpa using hp
      obtain ⟨b, off, spot⟩ := y
      have hs : spot = none := by
        obtain ⟨cs', h1, _⟩ := hx 0 (by omega)
        rw [k2] at h1
        obtain ⟨_, hlen, hcell⟩ := World.cells?_some h1
        have h0 := hcell 0 (by omega)
        rw [List.getElem?_eq_getElem (by omega)] at h0
        simpa [Addr.add] using World.cell?_spot h0
      subst hs
      refine ⟨b, off, rfl, fun i s hi => ?_⟩
      have hil : i < len := by
        have := (List.getElem?_eq_some_iff.1 hi).1
        simpa using this
      have e : s = F i := by
        have := (List.getElem?_eq_some_iff.1 hi).2
        simpa using this.symm
      rw [e]
      exact (hF i hil).1 b off rfl
    · obtain ⟨i, hi, rfl⟩ := List.mem_map.1 hs
      exact (hF i (by simpa using hi)).2.1
    · subst hxe
      simp only [DataW.weights, Try.underlying35] at hR
      refine ⟨?_, fun s hs => ?_⟩
      · have h9 := hR _ (List.mem_cons_self ..)
        rw [bytesSeg] at h9
        simp only [List.length_map, List.length_range] at h9
        exact Nat.le_trans (Nat.mul_le_mul_right 32 (Nat.le_add_right len _)) h9
      · obtain ⟨i, hi, rfl⟩ := List.mem_map.1 hs
        exact (hF i (by simpa using hi)).2.2 R fun n hn => hR n (List.mem_cons_of_mem _ (List.mem_append_left _ (weightsAll_mem hn (List.mem_map.2 ⟨i, hi, rfl⟩))))
end Go.Proofs.Ytolpaimmmhoiiaa
