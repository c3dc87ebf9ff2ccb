/- Routes among a law's arguments. -/
import Derived.Test.YtolpaimmmhoiiaaAtFr
import Derived.Test.YtolpaimmmhoiiaaHPb
import Derived.Test.YtolpaimmmhoiiaaRtM
import Derived.Deep.Slices
import Derived.Test.YtolpaimmmhoiiaaRlA
import Derived.Test.YtolpaimmmhoiiaaDcA
namespace Go.Proofs.Ytolpaimmmhoiiaa
open Go.ChangeShapes Go.WideShapes Go.ChangeAt Go.RowKit
set_option maxRecDepth 100000

theorem pfxr_cells {H : Type} {enc : TypeId × Value → H} {W : World} {fuel : Nat} {cs : List Value} {x : DataW H × List MemPlace} (h : DataW.trod enc Try.prog W 0 (fun _ => true) true fuel 34 cs = some x) (hl : cs.length = 2) :
    ∃ (A : Nat) (L : Int), cs = [.int .u32 (A : Int), .int .i64 L] ∧ A < 4294967296 := by
  obtain ⟨xs, k, _, _, _, hxl, hf⟩ := DataW.trod_struct Try.underlying34 h
  match xs, hxl, cs, hl with
  | [y0, y1], _, [v0, v1], _ =>
    have k3 : Try.prog.cellsOf 3 = 1 := by kernel_rfl
    have k22 : Try.prog.cellsOf 32 = 1 := by kernel_rfl
    have g0 := hf 0 _ rfl
    have g1 := hf 1 _ rfl
    simp [k3, k22] at g0 g1
    obtain ⟨a, e0, _, w0⟩ := DataW.trod_int Try.underlying32 g0
    obtain ⟨l, e1, _, w1⟩ := DataW.trod_int Try.underlying3 g1
    simp at e0 e1
    subst e0 e1
    have b0 := bounds_u32 w0
    obtain ⟨A, rfl⟩ := Int.eq_ofNat_of_zero_le b0.1
    exact ⟨A, l, rfl, by omega⟩
theorem pfxr_of {H : Type} {enc : TypeId × Value → H} {W : World} {base : Nat} {v : Value} {d : DataW H} {p : List MemPlace} (hv : Value.okWide Try.prog W .any base 34 v) (h : DataW.Trod enc Try.prog W 0 (fun _ => true) true 34 v d p) :
    ∃ (A : Nat) (L : Int), v = .agg #[.int .u32 (A : Int), .int .i64 L] ∧ A < 4294967296 := by
  obtain ⟨cs, rfl, hs⟩ := okWide_struct Try.underlying34 hv
  have k : Try.prog.cellsOf 34 = 2 := by kernel_rfl
  rw [k] at hs
  obtain ⟨fuel, hf⟩ := h
  obtain ⟨A, L, e, hA⟩ := pfxr_cells hf (by simpa [Value.cells] using hs)
  refine ⟨A, L, ?_, hA⟩
  have e2 : cs = #[.int .u32 (A : Int), .int .i64 L] := Array.ext' e
  rw [e2]
set_option maxRecDepth 100000 in
theorem route_cells {H : Type} {enc : TypeId × Value → H} {W : World} {fuel : Nat} {cs : List Value} {x : DataW H × List MemPlace} (h : DataW.trod enc Try.prog W 0 (fun _ => true) true fuel 41 cs = some x) (hl : cs.length = 11) :
    ∃ (pa : Option Addr) (pc : Nat) (ca : Option Addr) (cc : Nat) (ra : Option Addr) (rc : Nat) (r : Rt), cs = (rtC pa pc ca cc ra rc r).toList ∧ AtRd W pa ca ra r.att ∧
      ∀ R, (∀ n ∈ x.1.weights Try.prog 41, n ≤ R) → r.att.path.length * 32 ≤ R ∧ (∀ s ∈ r.att.path, s.2.length * 8 ≤ R) ∧ r.att.comms.length * 4 ≤ R ∧ r.att.raws.length * 40 ≤ R ∧ ∀ q ∈ r.att.raws, q.2.2.length * 1 ≤ R := by
  obtain ⟨xs, k, _, hxe, _, hxl, hf⟩ := DataW.trod_struct Try.underlying41 h
  match xs, hxl, cs, hl with
  | [y0, y1, y2, y3], _, [v0, v1, v2, v3, v4, v5, v6, v7, v8, v9, v10], _ =>
    have k0 : Try.prog.cellsOf 3 = 1 := by kernel_rfl
    have k1 : Try.prog.cellsOf 34 = 2 := by kernel_rfl
    have k2 : Try.prog.cellsOf 39 = 7 := by kernel_rfl
    have g0 := hf 0 _ rfl
    have g1 := hf 1 _ rfl
    have g2 := hf 2 _ rfl
    have g3 := hf 3 _ rfl
    simp [k0, k1, k2] at g0 g1 g2 g3
    obtain ⟨A, L, e0, _⟩ := pfxr_cells g0 rfl
    obtain ⟨pe, e1, _, _⟩ := DataW.trod_int Try.underlying3 g1
    obtain ⟨pa, pc, ca, cc, ra, rc, a, e2, hr, _, hw⟩ := attrs_of g2 rfl
    obtain ⟨st, e3, _, _⟩ := DataW.trod_int Try.underlying3 g3
    simp at e0 e1 e2 e3
    obtain ⟨rfl, rfl⟩ := e0
    obtain ⟨rfl, rfl, rfl, rfl, rfl, rfl, rfl⟩ := e2
    subst e1 e3
    refine ⟨pa, pc, ca, cc, ra, rc, ⟨A, L, pe, a, st⟩, rfl, hr, fun R h9 => ?_⟩
    subst hxe
    exact hw R fun n hn => h9 n (by simp only [DataW.weights, Try.underlying41]; exact DataW.weights_mem_each (j := 2) rfl rfl n hn)
set_option maxRecDepth 100000 in
theorem route_val {H : Type} {enc : TypeId × Value → H} {W : World} {base : Nat} {v : Value} {d : DataW H} {p : List MemPlace} (hv : Value.okWide Try.prog W .any base 41 v) (h : DataW.Trod enc Try.prog W 0 (fun _ => true) true 41 v d p) (hR : ∀ n ∈ d.weights Try.prog 41, n ≤ reachBytes) :
    ∃ (pa : Option Addr) (pc : Nat) (ca : Option Addr) (cc : Nat) (ra : Option Addr) (rc : Nat) (r : Rt), v = rtV pa pc ca cc ra rc r ∧ AtRd W pa ca ra r.att ∧ BigR r := by
  obtain ⟨cs, rfl, hs⟩ := okWide_struct Try.underlying41 hv
  have k : Try.prog.cellsOf 41 = 11 := by kernel_rfl
  rw [k] at hs
  obtain ⟨fuel, hf⟩ := h
  obtain ⟨pa, pc, ca, cc, ra, rc, r, e, hr, hw⟩ := route_cells hf (by simpa [Value.cells] using hs)
  obtain ⟨w1, w2, w3, w4, w5⟩ := hw reachBytes hR
  unfold reachBytes at w1 w2 w3 w4 w5
  refine ⟨pa, pc, ca, cc, ra, rc, r, ?_, hr, ⟨by omega, fun s hs => by have := w2 s hs; omega, by omega, by omega, fun q hq => by have := w5 q hq; omega⟩⟩
  have e2 : cs = rtC pa pc ca cc ra rc r := Array.ext' e
  rw [e2]
  rfl
end Go.Proofs.Ytolpaimmmhoiiaa
/- Lists of routes out of their readings. -/
namespace Go.Proofs.Ytolpaimmmhoiiaa
open Go.ChangeShapes Go.WideShapes Go.ChangeAt Go.RowKit
set_option maxRecDepth 100000

/-- How far a route's parts reach. -/
def ReachR (R : Nat) (r : Rt) : Prop := r.att.path.length * 32 ≤ R ∧ (∀ s ∈ r.att.path, s.2.length * 8 ≤ R) ∧ r.att.comms.length * 4 ≤ R ∧ r.att.raws.length * 40 ≤ R ∧ ∀ q ∈ r.att.raws, q.2.2.length * 1 ≤ R
theorem bytesROUTE : Try.prog.bytesOf 41 = 136 := by kernel_rfl
theorem routes_of {H : Type} {enc : TypeId × Value → H} {W : World} {fuel : Nat} {v : Value} {x : DataW H × List MemPlace} (h : DataW.trod enc Try.prog W 0 (fun _ => true) true fuel 23 [v] = some x) :
    ∃ (a : Option Addr) (cap : Nat) (rs : List Rt), v = .slice a rs.length cap ∧ RtsRd W a rs ∧ ∀ R, (∀ n ∈ x.1.weights Try.prog 23, n ≤ R) → rs.length * 136 ≤ R ∧ ∀ r ∈ rs, ReachR R r := by
  rcases Go.Deep.open_slice Try.underlying23 h with ⟨e, _⟩ | ⟨y, l, c, m, n, D, Pl, e, _, hl, hm, hmm, hxe, hx⟩
  · simp at e
    subst e
    exact ⟨none, 0, [], rfl, fun h => absurd h (by simp), fun R _ => ⟨by simp, fun s hs => by simp at hs⟩⟩
  · simp at e
    subst e
    have k2 : Try.prog.cellsOf 41 = 11 := by kernel_rfl
    simp at hmm
    subst hmm
    have hq : ∀ i, i < l → ∃ r : Rt, (∀ b off, y = ⟨b, off, none⟩ → ∃ pa pc ca cc ra rc, RtAt W b (off + i * 11) r pa pc ca cc ra rc) ∧ ∀ R, (∀ n ∈ (D i).weights Try.prog 41, n ≤ R) → ReachR R r := fun i hi => by
      obtain ⟨cs', h1, h2⟩ := hx i (by omega)
      rw [k2] at h1
      obtain ⟨_, hlen, hcell⟩ := World.cells?_some h1
      obtain ⟨pa, pc, ca, cc, ra, rc, r, rfl, hr, hR⟩ := route_cells h2 hlen
      refine ⟨r, fun b off hy => ⟨pa, pc, ca, cc, ra, rc, fun j v hv => ?_, hr⟩, hR⟩
      subst hy
      have hj : j < 11 := by
        have := (Array.getElem?_eq_some_iff.1 hv).1
        simpa [rtC] using this
      have q := hcell j hj
      rw [Addr.add_mid, Addr.add_mid] at q
      rw [Array.getElem?_toList, hv] at q
      exact q
    obtain ⟨F, hF⟩ : ∃ F : Nat → Rt, ∀ i, i < l → (∀ b off, y = ⟨b, off, none⟩ → ∃ pa pc ca cc ra rc, RtAt W b (off + i * 11) (F i) pa pc ca cc ra rc) ∧ ∀ R, (∀ n ∈ (D i).weights Try.prog 41, n ≤ R) → ReachR R (F i) :=
      ⟨fun i => if h : i < l then Classical.choose (hq i h) else ⟨0, 0, 0, ⟨0, [], 0, 0, 0, [], []⟩, 0⟩, fun i hi => by
        simp only [dif_pos hi]
        exact Classical.choose_spec (hq i hi)⟩
    refine ⟨some y, m, (List.range l).map F, by simp, fun hp => ?_, fun R hR => ?_⟩
    · have hp2 : 0 < l := by simpa using hp
      obtain ⟨b, off, spot⟩ := y
      have hs : spot = none := by
        obtain ⟨cs', h1, _⟩ := hx 0 (by omega)
        rw [k2] at h1
        obtain ⟨_, hlen, hcell⟩ := World.cells?_some h1
        have h0 := hcell 0 (by omega)
        rw [List.getElem?_eq_getElem (by omega)] at h0
        simpa [Addr.add] using World.cell?_spot h0
      subst hs
      refine ⟨b, off, rfl, fun i s hi => ?_⟩
      have hil : i < l := by
        have := (List.getElem?_eq_some_iff.1 hi).1
        simpa using this
      have e : s = F i := by
        have := (List.getElem?_eq_some_iff.1 hi).2
        simpa using this.symm
      rw [e]
      exact (hF i hil).1 b off rfl
    · subst hxe
      simp only [DataW.weights, Try.underlying23] at hR
      refine ⟨?_, fun s hs => ?_⟩
      · have h9 := hR _ (List.mem_cons_self ..)
        rw [bytesROUTE] at h9
        simp only [List.length_map, List.length_range] at h9 ⊢
        exact Nat.le_trans (Nat.mul_le_mul_right 136 (Nat.le_add_right l _)) h9
      · obtain ⟨i, hi, rfl⟩ := List.mem_map.1 hs
        exact (hF i (by simpa using hi)).2 R fun n hn => hR n (List.mem_cons_of_mem _ (List.mem_append_left _ (weightsAll_mem hn (List.mem_map.2 ⟨i, hi, rfl⟩))))
end Go.Proofs.Ytolpaimmmhoiiaa
/- Lists of routes, of infos, among a law's arguments (written by tools/gen_dcfr.py). -/
namespace Go.Proofs.Ytolpaimmmhoiiaa
open Go.ChangeShapes Go.WideShapes Go.ChangeAt Go.RowKit
set_option maxRecDepth 100000

theorem big_of {r : Rt} (h : ReachR reachBytes r) : BigR r := by
  obtain ⟨w1, w2, w3, w4, w5⟩ := h
  unfold reachBytes at w1 w2 w3 w4 w5
  exact ⟨by omega, fun s hs => by have := w2 s hs; omega, by omega, by omega, fun q hq => by have := w5 q hq; omega⟩
theorem routes_val {H : Type} {enc : TypeId × Value → H} {W : World} {base : Nat} {v : Value} {d : DataW H} {p : List MemPlace} (hv : Value.okWide Try.prog W .any base 23 v) (h : DataW.Trod enc Try.prog W 0 (fun _ => true) true 23 v d p) (hR : ∀ n ∈ d.weights Try.prog 23, n ≤ reachBytes) :
    ∃ (a : Option Addr) (cap : Nat) (l : List Rt), v = .slice a l.length cap ∧ RtsRd W a l ∧ l.length ≤ 1152921504606846976 ∧ ∀ x ∈ l, BigR x := by
  obtain ⟨a, len, cap, rfl⟩ := okWide_slice Try.underlying23 hv
  obtain ⟨fuel, hf⟩ := h
  obtain ⟨a', cap', l, e, hr, hw⟩ := routes_of hf
  obtain ⟨w1, w2⟩ := hw reachBytes hR
  unfold reachBytes at w1
  exact ⟨a', cap', l, e, hr, by omega, fun x hx => big_of (w2 x hx)⟩
theorem routes_cap {H : Type} {enc : TypeId × Value → H} {W : World} {base : Nat} {v : Value} {d : DataW H} {p : List MemPlace} (hv : Value.okWide Try.prog W .any base 23 v) (h : DataW.Trod enc Try.prog W 0 (fun _ => true) true 23 v d p) (hR : ∀ n ∈ d.weights Try.prog 23, n ≤ reachBytes) :
    ∃ (a : Option Addr) (cap : Nat) (l : List Rt), v = .slice a l.length cap ∧ RtsRd W a l ∧ l.length ≤ 1152921504606846976 ∧ (∀ x ∈ l, BigR x) ∧ l.length ≤ cap := by
  obtain ⟨a, c, l, e, h1, h2, h3⟩ := routes_val hv h hR
  refine ⟨a, c, l, e, h1, h2, h3, ?_⟩
  obtain ⟨fuel, hf⟩ := h
  subst e
  rcases Go.Deep.open_slice Try.underlying23 hf with ⟨e, _⟩ | ⟨y, q, c', m, n, D, Pl, e, _, hl, _⟩
  · have e2 : [Value.slice a l.length c] = [.slice none 0 0] := e
    injection e2 with e3
    injection e3 with _ e4 e5
    omega
  · have e2 : [Value.slice a l.length c] = [.slice (some y) q c'] := e
    injection e2 with e3
    injection e3 with _ e4 e5
    omega
theorem inf_cells {H : Type} {enc : TypeId × Value → H} {W : World} {fuel : Nat} {cs : List Value} {x : DataW H × List MemPlace} (h : DataW.trod enc Try.prog W 0 (fun _ => true) true fuel 49 cs = some x) (hl : cs.length = 3) :
    ∃ r : Inf, cs = [.int .i64 r.peer, .int .i64 r.num, .int .u32 (r.id : Int)] ∧ r.id < 4294967296 := by
  obtain ⟨xs, k, _, _, _, hxl, hf⟩ := DataW.trod_struct Try.underlying49 h
  match xs, hxl, cs, hl with
  | [y0, y1, y2], _, [v0, v1, v2], _ =>
    have k3 : Try.prog.cellsOf 3 = 1 := by kernel_rfl
    have k4 : Try.prog.cellsOf 32 = 1 := by kernel_rfl
    have g0 := hf 0 _ rfl
    have g1 := hf 1 _ rfl
    have g2 := hf 2 _ rfl
    simp [k3, k4] at g0 g1 g2
    obtain ⟨pe, e0, _, _⟩ := DataW.trod_int Try.underlying3 g0
    obtain ⟨nu, e1, _, _⟩ := DataW.trod_int Try.underlying3 g1
    obtain ⟨i, e2, _, w2⟩ := DataW.trod_int Try.underlying32 g2
    simp at e0 e1 e2
    subst e0 e1 e2
    have b0 := bounds_u32 w2
    obtain ⟨A, rfl⟩ := Int.eq_ofNat_of_zero_le b0.1
    exact ⟨⟨pe, nu, A⟩, rfl, by show A < _; omega⟩
theorem infos_of {H : Type} {enc : TypeId × Value → H} {W : World} {fuel : Nat} {a : Option Addr} {len cap : Nat} {x : DataW H × List MemPlace} (h : DataW.trod enc Try.prog W 0 (fun _ => true) true fuel 22 [.slice a len cap] = some x) : ∃ l : List Inf, l.length = len ∧ InfsRd W a l ∧ ∀ x ∈ l, x.id < 4294967296 := by
  rcases Go.Deep.open_slice Try.underlying22 h with ⟨e, _⟩ | ⟨y, l, c, m, n, D, Pl, e, _, hl, hm, hmm, _, hx⟩
  · simp at e
    obtain ⟨_, rfl, _⟩ := e
    exact ⟨[], rfl, fun h => absurd h (Nat.lt_irrefl 0), by simp⟩
  · simp at e
    obtain ⟨rfl, rfl, rfl⟩ := e
    have k6 : Try.prog.cellsOf 49 = 3 := by kernel_rfl
    simp at hmm
    subst hmm
    have hq : ∀ i, i < len → ∃ t : Inf, (∀ b off, y = ⟨b, off, none⟩ → W.cell? ⟨b, off + i * 3, none⟩ = some (.int .i64 t.peer) ∧ W.cell? ⟨b, off + i * 3 + 1, none⟩ = some (.int .i64 t.num) ∧ W.cell? ⟨b, off + i * 3 + 2, none⟩ = some (.int .u32 (t.id : Int))) ∧ t.id < 4294967296 := fun i hi => by
      obtain ⟨cs', h1, h2⟩ := hx i (by omega)
      rw [k6] at h1
      obtain ⟨_, hlen, hcell⟩ := World.cells?_some h1
      obtain ⟨t, rfl, hA⟩ := inf_cells h2 hlen
      refine ⟨t, fun b off hy => ?_, hA⟩
      subst hy
      have q0 := hcell 0 (by omega)
      have q1 := hcell 1 (by omega)
      have q2 := hcell 2 (by omega)
      rw [Addr.add_mid, Addr.add_mid] at q0 q1 q2
      exact ⟨q0, q1, q2⟩
    obtain ⟨F, hF⟩ : ∃ F : Nat → Inf, ∀ i, i < len → (∀ b off, y = ⟨b, off, none⟩ → W.cell? ⟨b, off + i * 3, none⟩ = some (.int .i64 (F i).peer) ∧ W.cell? ⟨b, off + i * 3 + 1, none⟩ = some (.int .i64 (F i).num) ∧ W.cell? ⟨b, off + i * 3 + 2, none⟩ = some (.int .u32 ((F i).id : Int))) ∧ (F i).id < 4294967296 :=
      ⟨fun i => if h : i < len then Classical.choose (hq i h) else noI, fun i hi => by
        simp only [dif_pos hi]
        exact Classical.choose_spec (hq i hi)⟩
    have hsp : 0 < len → y.spot = none := fun hp2 => by
      obtain ⟨cs', h1, _⟩ := hx 0 (by omega)
      rw [k6] at h1
      obtain ⟨_, hlen, hcell⟩ := World.cells?_some h1
      have h0 := hcell 0 (by omega)
      rw [List.getElem?_eq_getElem (by omega)] at h0
      simpa [Addr.add] using World.cell?_spot h0
    obtain ⟨b, off, spot⟩ := y
    refine ⟨(List.range len).map F, by simp, fun hp => ?_, fun t ht => ?_⟩
    · have hs : spot = none := hsp (by simpa using hp)
      subst hs
      refine ⟨b, off, rfl, fun i t ht => ?_⟩
      have hi : i < len := by have := (List.getElem?_eq_some_iff.1 ht).1; simpa using this
      simp [hi] at ht
      subst ht
      exact (hF i hi).1 b off rfl
    · obtain ⟨i, hi, rfl⟩ := List.mem_map.1 ht
      exact (hF i (by simpa using hi)).2
theorem infos_val {H : Type} {enc : TypeId × Value → H} {W : World} {base : Nat} {v : Value} {d : DataW H} {p : List MemPlace} (hv : Value.okWide Try.prog W .any base 22 v) (h : DataW.Trod enc Try.prog W 0 (fun _ => true) true 22 v d p) :
    ∃ (a : Option Addr) (cap : Nat) (l : List Inf), v = .slice a l.length cap ∧ InfsRd W a l ∧ ∀ x ∈ l, x.id < 4294967296 := by
  obtain ⟨a, len, cap, rfl⟩ := okWide_slice Try.underlying22 hv
  obtain ⟨fuel, hf⟩ := h
  obtain ⟨l, hl, hr, hid⟩ := infos_of hf
  exact ⟨a, cap, l, by rw [hl], hr, hid⟩
end Go.Proofs.Ytolpaimmmhoiiaa
