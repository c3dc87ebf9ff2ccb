/- A list of what is told, as it grows. -/
import Derived.Test.YthigjonagbfbbaaDoorKBc
import Derived.Test.YthigjonagbfbbaaDoorAtFr
import Derived.Test.YthigjonagbfbbaaDoorExF
import Derived.Test.YthigjonagbfbbaaDoorKAq
import Derived.Deep.Slices
namespace Go.Proofs.YthigjonagbfbbaaDoor
open Go.RowKit
set_option maxRecDepth 100000

theorem elemTl : Elem 48 54 9 120 := ⟨Tryd.underlying48, ⟨_, _, rfl, rfl, rfl, rfl, rfl⟩, by decide, by decide⟩
/-- The cells of what is told. -/
def tcs (l : List Tl) : List Value := (l.map fun t => (tlC t).toList).flatten
theorem tcs_snoc (l : List Tl) (t : Tl) : tcs (l ++ [t]) = tcs l ++ (tlC t).toList := by simp [tcs]
/-- What is told, as it grows. -/
def TlOwn (w : World) (N : Nat) (v : Value) (l : List Tl) : Prop := w.ownsRow N 54 9 v l.length (tcs l)
theorem tl_more {w : World} {N : Nat} {v : Value} {l : List Tl} (h : TlOwn w N v l) (hN : N ≤ w.heap.size) (t : Tl) (ht : AC t.C) (hl : l.length ≤ 100000) :
    ∃ a c w', (Builtin.append_ #[48, 48] 48 #[v, .slice (some ⟨w.heap.size, 0, none⟩) 1 1]).run Tryd.prog (w.alloc (.cells (tlC t) 54)) = .ok (.slice a (l.length + 1) c) w' ∧ TlOwn w' N (.slice a (l.length + 1) c) (l ++ [t]) ∧ Below N w w' := by
  have h9 := tlC_ok ht
  obtain ⟨v', w', hr, hrow, hbel, _, _⟩ := app_more elemTl (h.alloc (.cells (tlC t) 54)) (by simp; omega) ⟨w.heap.size, 0, none⟩ 1 1 (tlC t).toList (by simpa using h9.1) (fun j x hx => by
    rw [Addr.add_mid, Nat.zero_add]
    exact (Bk.new 54 w (tlC t)).cell j (by rw [← Array.getElem?_toList]; exact hx)) (fun u hu => Array.all_eq_true'.1 h9.2 u (by simpa using hu)) (by omega)
  obtain ⟨a, c, rfl⟩ := own_shape hrow
  refine ⟨a, c, w', hr, ?_, ((Below.refl _ _).alloc hN _).trans hbel⟩
  unfold TlOwn
  rw [tcs_snoc, List.length_append, List.length_singleton]
  exact hrow
theorem tcs_flat : ∀ (l : List Tl) (i j : Nat) (t : Tl) (v : Value), (∀ x ∈ l, AC x.C) → l[i]? = some t → (tlC t)[j]? = some v → (tcs l)[i * 9 + j]? = some v := fun l i j t v h hi hv => by
  have hj : j < 9 := by
    have h1 := (Array.getElem?_eq_some_iff.1 hv).1
    have h2 := (tlC_ok (h t (List.mem_of_getElem? hi))).1
    omega
  unfold tcs
  rw [flat9 (l.map fun t => (tlC t).toList) i j (tlC t).toList (fun x hx => by
    obtain ⟨y, hy, rfl⟩ := List.mem_map.1 hx
    simpa using (tlC_ok (h y hy)).1) (by rw [List.getElem?_map, hi]; rfl) hj, Array.getElem?_toList]
  exact hv
theorem TlOwn.rd {w : World} {N : Nat} {v : Value} {l : List Tl} (h : TlOwn w N v l) (hC : ∀ x ∈ l, AC x.C) : ∃ a c, v = .slice a l.length c ∧ TlsRd w a l := by
  obtain ⟨a, c, rfl⟩ := own_shape h
  refine ⟨a, c, rfl, fun hp => ?_, hC⟩
  obtain ⟨g, cap, e, _, _⟩ := World.ownsRow.form h hp
  injection e with e1 e2 e3
  subst e1 e3
  refine ⟨g, 0, rfl, fun i t hi j v hv => ?_⟩
  have hil := (List.getElem?_eq_some_iff.1 hi).1
  have hj : j < 9 := by
    have h1 := (Array.getElem?_eq_some_iff.1 hv).1
    have h2 := (tlC_ok (hC t (List.mem_of_getElem? hi))).1
    omega
  rw [Nat.zero_add]
  have := World.ownsRow.cellAt h (i * 9 + j) (by omega)
  rw [this]
  exact tcs_flat l i j t v hC hi hv
end Go.Proofs.YthigjonagbfbbaaDoor
/- Lists of what is told out of their readings. -/
namespace Go.Proofs.YthigjonagbfbbaaDoor
open Go.ChangeShapes Go.WideShapes Go.ChangeAt Go.RowKit
set_option maxRecDepth 100000

/-- How far attributes' parts reach. -/
def ReachA (R : Nat) (a : At) : Prop := a.path.length * 32 ≤ R ∧ (∀ s ∈ a.path, s.2.length * 8 ≤ R) ∧ a.comms.length * 4 ≤ R ∧ a.raws.length * 40 ≤ R ∧ ∀ q ∈ a.raws, q.2.2.length * 1 ≤ R
/-- What is told, and the attributes that its cells are. -/
def TlAt (W : World) (p : Tl × At) : Prop := p.1.A < 4294967296 ∧ ∃ pa pc ca cc ra rc, p.1.C = atC pa pc ca cc ra rc p.2 ∧ AtRd W pa ca ra p.2
theorem told_cells {H : Type} {enc : TypeId × Value → H} {W : World} {fuel : Nat} {cs : List Value} {x : DataW H × List MemPlace} (h : DataW.trod enc Tryd.prog W 0 (fun _ => true) true fuel 54 cs = some x) (hl : cs.length = 9) :
    ∃ p : Tl × At, cs = (tlC p.1).toList ∧ TlAt W p ∧ ∀ R, (∀ n ∈ x.1.weights Tryd.prog 54, n ≤ R) → ReachA R p.2 := by
  obtain ⟨xs, k, _, hxe, _, hxl, hf⟩ := DataW.trod_struct Tryd.underlying54 h
  match xs, hxl, cs, hl with
  | [y0, y1], _, [v0, v1, v2, v3, v4, v5, v6, v7, v8], _ =>
    have k1 : Tryd.prog.cellsOf 29 = 2 := by kernel_rfl
    have k2 : Tryd.prog.cellsOf 34 = 7 := by kernel_rfl
    have g0 := hf 0 _ rfl
    have g1 := hf 1 _ rfl
    simp [k1, k2] at g0 g1
    obtain ⟨A, L, e0, hA⟩ := pfxo_cells g0 rfl
    obtain ⟨pa, pc, ca, cc, ra, rc, a, e2, hr, _, hw⟩ := attrs_of g1 rfl
    simp at e0 e2
    obtain ⟨rfl, rfl⟩ := e0
    obtain ⟨rfl, rfl, rfl, rfl, rfl, rfl, rfl⟩ := e2
    refine ⟨(⟨A, L, atC pa pc ca cc ra rc a⟩, a), rfl, ⟨hA, pa, pc, ca, cc, ra, rc, rfl, hr⟩, fun R h9 => ?_⟩
    subst hxe
    exact hw R fun n hn => h9 n (by simp only [DataW.weights, Tryd.underlying54]; exact DataW.weights_mem_each (j := 1) rfl rfl n hn)
theorem bytesTOLD : Tryd.prog.bytesOf 54 = 120 := by kernel_rfl
theorem tolds_of {H : Type} {enc : TypeId × Value → H} {W : World} {fuel : Nat} {v : Value} {x : DataW H × List MemPlace} (h : DataW.trod enc Tryd.prog W 0 (fun _ => true) true fuel 48 [v] = some x) :
    ∃ (a : Option Addr) (cap : Nat) (ts : List (Tl × At)), v = .slice a ts.length cap ∧ TlsRd W a (ts.map Prod.fst) ∧ (∀ p ∈ ts, TlAt W p) ∧ ts.length ≤ cap ∧ ∀ R, (∀ n ∈ x.1.weights Tryd.prog 48, n ≤ R) → ts.length * 120 ≤ R ∧ ∀ p ∈ ts, ReachA R p.2 := by
  rcases Go.Deep.open_slice Tryd.underlying48 h with ⟨e, _⟩ | ⟨y, l, c, m, n, D, Pl, e, _, hl, hm, hmm, hxe, hx⟩
  · simp at e
    subst e
    exact ⟨none, 0, [], rfl, ⟨fun h => absurd h (by simp), fun t ht => by simp at ht⟩, fun p hp => by simp at hp, Nat.le_refl _, fun R _ => ⟨by simp, fun s hs => by simp at hs⟩⟩
  · simp at e
    subst e
    have k2 : Tryd.prog.cellsOf 54 = 9 := by kernel_rfl
    simp at hmm
    subst hmm
    have hq : ∀ i, i < l → ∃ p : Tl × At, TlAt W p ∧ (∀ b off, y = ⟨b, off, none⟩ → ∀ (j : Nat) (v : Value), (tlC p.1)[j]? = some v → W.cell? ⟨b, off + i * 9 + j, none⟩ = some v) ∧ ∀ R, (∀ n ∈ (D i).weights Tryd.prog 54, n ≤ R) → ReachA R p.2 := fun i hi => by
      obtain ⟨cs', h1, h2⟩ := hx i (by omega)
      rw [k2] at h1
      obtain ⟨_, hlen, hcell⟩ := World.cells?_some h1
      obtain ⟨p, rfl, hp, hR⟩ := told_cells h2 hlen
      refine ⟨p, hp, fun b off hy j v hv => ?_, hR⟩
      subst hy
      have hj : j < 9 := by
        have := (Array.getElem?_eq_some_iff.1 hv).1
        have h9 : (tlC p.1).size = 9 := by simpa using hlen
        omega
      have q := hcell j hj
      rw [Addr.add_mid, Addr.add_mid] at q
      rw [Array.getElem?_toList, hv] at q
      exact q
    obtain ⟨F, hF⟩ : ∃ F : Nat → Tl × At, ∀ i, i < l → TlAt W (F i) ∧ (∀ b off, y = ⟨b, off, none⟩ → ∀ (j : Nat) (v : Value), (tlC (F i).1)[j]? = some v → W.cell? ⟨b, off + i * 9 + j, none⟩ = some v) ∧ ∀ R, (∀ n ∈ (D i).weights Tryd.prog 54, n ≤ R) → ReachA R (F i).2 :=
      ⟨fun i => if h : i < l then Classical.choose (hq i h) else (⟨0, 0, zA⟩, noAt), fun i hi => by
        simp only [dif_pos hi]
        exact Classical.choose_spec (hq i hi)⟩
    refine ⟨some y, m, (List.range l).map F, by simp, ⟨fun hp => ?_, fun t ht => ?_⟩, fun p hp => ?_, by simpa using hl, fun R hR => ?_⟩
    · have hp2 : 0 < l := by simpa using hp
      obtain ⟨b, off, spot⟩ := y
      have hs : spot = none := by
        obtain ⟨cs', h1, _⟩ := hx 0 (by omega)
        rw [k2] at h1
        obtain ⟨_, hlen, hcell⟩ := World.cells?_some h1
        have h0 := hcell 0 (by omega)
        rw [List.getElem?_eq_getElem (by omega)] at h0
        simpa [Addr.add] using World.cell?_spot h0
      subst hs
      refine ⟨b, off, rfl, fun i t hi => ?_⟩
      have hil : i < l := by
        have := (List.getElem?_eq_some_iff.1 hi).1
        simpa using this
      have e : t = (F i).1 := by
        have := (List.getElem?_eq_some_iff.1 hi).2
        simpa using this.symm
      rw [e]
      exact (hF i hil).2.1 b off rfl
    · obtain ⟨p, hp, rfl⟩ := List.mem_map.1 ht
      obtain ⟨i, hi, rfl⟩ := List.mem_map.1 hp
      obtain ⟨_, pa, pc, ca, cc, ra, rc, e, _⟩ := (hF i (by simpa using hi)).1
      rw [e]
      exact AC.of _ _ _ _ _ _ _
    · obtain ⟨i, hi, rfl⟩ := List.mem_map.1 hp
      exact (hF i (by simpa using hi)).1
    · subst hxe
      simp only [DataW.weights, Tryd.underlying48] at hR
      refine ⟨?_, fun s hs => ?_⟩
      · have h9 := hR _ (List.mem_cons_self ..)
        rw [bytesTOLD] at h9
        simp only [List.length_map, List.length_range] at h9 ⊢
        exact Nat.le_trans (Nat.mul_le_mul_right 120 (Nat.le_add_right l _)) h9
      · obtain ⟨i, hi, rfl⟩ := List.mem_map.1 hs
        exact (hF i (by simpa using hi)).2.2 R fun n hn => hR n (List.mem_cons_of_mem _ (List.mem_append_left _ (weightsAll_mem hn (List.mem_map.2 ⟨i, hi, rfl⟩))))
/-- The argument whole. -/
theorem tolds_val {H : Type} {enc : TypeId × Value → H} {W : World} {base : Nat} {v : Value} {d : DataW H} {p : List MemPlace} (hv : Value.okWide Tryd.prog W .any base 48 v) (h : DataW.Trod enc Tryd.prog W 0 (fun _ => true) true 48 v d p) (hR : ∀ n ∈ d.weights Tryd.prog 48, n ≤ reachBytes) :
    ∃ (a : Option Addr) (cap : Nat) (ts : List (Tl × At)), v = .slice a ts.length cap ∧ TlsRd W a (ts.map Prod.fst) ∧ (∀ p ∈ ts, TlAt W p) ∧ ts.length ≤ cap ∧ ts.length ≤ 1152921504606846976 ∧ ∀ p ∈ ts, ReachA reachBytes p.2 := by
  obtain ⟨a, len, cap, rfl⟩ := okWide_slice Tryd.underlying48 hv
  obtain ⟨fuel, hf⟩ := h
  obtain ⟨a', cap', ts, e, hr, ht, hc, hw⟩ := tolds_of hf
  obtain ⟨w1, w2⟩ := hw reachBytes hR
  refine ⟨a', cap', ts, e, hr, ht, hc, ?_, w2⟩
  unfold reachBytes at w1
  omega
/-- One function from cells to attributes for a whole list. -/
theorem tolds_f (W : World) (ts : List (Tl × At)) (h : ∀ p ∈ ts, TlAt W p ∧ sizeA p.2 ≤ 100000) : ∃ f : Array Value → At, ∀ p ∈ ts, CellAt W f p.1.C := by
  haveI : Nonempty At := ⟨noAt⟩
  refine ⟨fun C => Classical.epsilon fun a => ∃ pa pc ca cc ra rc, C = atC pa pc ca cc ra rc a ∧ AtRd W pa ca ra a ∧ sizeA a ≤ 100000, fun p hp => ?_⟩
  obtain ⟨⟨_, pa, pc, ca, cc, ra, rc, e1, e2⟩, e3⟩ := h p hp
  exact Classical.epsilon_spec (p := fun a => ∃ pa pc ca cc ra rc, p.1.C = atC pa pc ca cc ra rc a ∧ AtRd W pa ca ra a ∧ sizeA a ≤ 100000) ⟨p.2, pa, pc, ca, cc, ra, rc, e1, e2, e3⟩
end Go.Proofs.YthigjonagbfbbaaDoor
