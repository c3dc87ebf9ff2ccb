/- Lists of routes out of their readings. -/
import Derived.Test.YtjlmkaeepeamkaaRtF
import Derived.Test.YtjlmkaeepeamkaaRlA
namespace Go.Proofs.Ytjlmkaeepeamkaa
open Go.ChangeShapes Go.WideShapes Go.ChangeAt Go.RowKit
set_option maxRecDepth 100000

/-- How far a route's parts reach. -/
def ReachR (R : Nat) (r : Rt) : Prop := r.att.path.length * 32 ≤ R ∧ (∀ s ∈ r.att.path, s.2.length * 8 ≤ R) ∧ r.att.comms.length * 4 ≤ R ∧ r.att.raws.length * 40 ≤ R ∧ ∀ q ∈ r.att.raws, q.2.2.length * 1 ≤ R
theorem bytesROUTE : Try.prog.bytesOf 36 = 136 := by kernel_rfl
theorem routes_of {H : Type} {enc : TypeId × Value → H} {W : World} {fuel : Nat} {v : Value} {x : DataW H × List MemPlace} (h : DataW.trod enc Try.prog W 0 (fun _ => true) true fuel 26 [v] = some x) :
    ∃ (a : Option Addr) (cap : Nat) (rs : List Rt), v = .slice a rs.length cap ∧ RtsRd W a rs ∧ ∀ R, (∀ n ∈ x.1.weights Try.prog 26, n ≤ R) → rs.length * 136 ≤ R ∧ ∀ r ∈ rs, ReachR R r := by
  rcases Go.Deep.open_slice Try.underlying26 h with ⟨e, _⟩ | ⟨y, l, c, m, n, D, Pl, e, _, hl, hm, hmm, hxe, hx⟩
  · simp at e
    subst e
    exact ⟨none, 0, [], rfl, fun h => absurd h (by simp), fun R _ => ⟨by simp, fun s hs => by simp at hs⟩⟩
  · simp at e
    subst e
    have k2 : Try.prog.cellsOf 36 = 11 := by kernel_rfl
    simp at hmm
    subst hmm
    have hq : ∀ i, i < l → ∃ r : Rt, (∀ b off, y = ⟨b, off, none⟩ → ∃ pa pc ca cc ra rc, RtAt W b (off + i * 11) r pa pc ca cc ra rc) ∧ ∀ R, (∀ n ∈ (D i).weights Try.prog 36, n ≤ R) → ReachR R r := fun i hi => by
      obtain ⟨cs', h1, h2⟩ := hx i (by omega)
      rw [k2] at h1
      obtain ⟨_, hlen, hcell⟩ := World.cells?_some h1
      obtain ⟨pa, pc, ca, cc, ra, rc, r, rfl, hr, hR⟩ := route_cells h2 hlen
      refine ⟨r, fun b off hy => ⟨pa, pc, ca, cc, ra, rc, fun j v hv => ?_, hr⟩, hR⟩
      subst hy
      have hj : j < 11 := by
        have := (Array.getElem?_eq_some_iff.1 hv).1
        simpa [rtC] using this
      have q := hcell j hj
      rw [Addr.add_mid, Addr.add_mid] at q
      rw [Array.getElem?_toList, hv] at q
      exact q
    obtain ⟨F, hF⟩ : ∃ F : Nat → Rt, ∀ i, i < l → (∀ b off, y = ⟨b, off, none⟩ → ∃ pa pc ca cc ra rc, RtAt W b (off + i * 11) (F i) pa pc ca cc ra rc) ∧ ∀ R, (∀ n ∈ (D i).weights Try.prog 36, n ≤ R) → ReachR R (F i) :=
      ⟨fun i => if h : i < l then Classical.choose (hq i h) else ⟨0, 0, 0, ⟨0, [], 0, 0, 0, [], []⟩, 0⟩, fun i hi => by
        simp only [dif_pos hi]
        exact Classical.choose_spec (hq i hi)⟩
    refine ⟨some y, m, (List.range l).map F, by simp, fun hp => ?_, fun R hR => ?_⟩
    · have hp2 : 0 < l := by simpa using hp
      obtain ⟨b, off, spot⟩ := y
      have hs : spot = none := by
        obtain ⟨cs', h1, _⟩ := hx 0 (by omega)
        rw [k2] at h1
        obtain ⟨_, hlen, hcell⟩ := World.cells?_some h1
        have h0 := hcell 0 (by omega)
        rw [List.getElem?_eq_getElem (by omega)] at h0
        simpa [Addr.add] using World.cell?_spot h0
      subst hs
      refine ⟨b, off, rfl, fun i s hi => ?_⟩
      have hil : i < l := by
        have := (List.getElem?_eq_some_iff.1 hi).1
        simpa using this
      have e : s = F i := by
        have := (List.getElem?_eq_some_iff.1 hi).2
        simpa using this.symm
      rw [e]
      exact (hF i hil).1 b off rfl
    · subst hxe
      simp only [DataW.weights, Try.underlying26] at hR
      refine ⟨?_, fun s hs => ?_⟩
      · have h9 := hR _ (List.mem_cons_self ..)
        rw [bytesROUTE] at h9
        simp only [List.length_map, List.length_range] at h9 ⊢
        exact Nat.le_trans (Nat.mul_le_mul_right 136 (Nat.le_add_right l _)) h9
      · obtain ⟨i, hi, rfl⟩ := List.mem_map.1 hs
        exact (hF i (by simpa using hi)).2 R fun n hn => hR n (List.mem_cons_of_mem _ (List.mem_append_left _ (weightsAll_mem hn (List.mem_map.2 ⟨i, hi, rfl⟩))))
end Go.Proofs.Ytjlmkaeepeamkaa
/- Acts upon a table, out of their readings. -/
namespace Go.Proofs.Ytjlmkaeepeamkaa
open Go.ChangeShapes Go.WideShapes Go.ChangeAt Go.RowKit
set_option maxRecDepth 100000

/-- What happens to a table. -/
structure Ak where
  drop : Bool
  peer : Int
  A : Nat
  L : Int
  r : Rt
def akC (pa : Option Addr) (pc : Nat) (ca : Option Addr) (cc : Nat) (ra : Option Addr) (rc : Nat) (k : Ak) : Array Value :=
  #[.bool k.drop, .int .i64 k.peer, .int .u32 (k.A : Int), .int .i64 k.L, .int .u32 (k.r.A : Int), .int .i64 k.r.L, .int .i64 k.r.peer, .int .i64 k.r.att.origin, .slice pa k.r.att.path.length pc, .int .u32 (k.r.att.next : Int), .int .i64 k.r.att.med, .int .i64 k.r.att.pref, .slice ca k.r.att.comms.length cc, .slice ra k.r.att.raws.length rc, .int .i64 k.r.stale]
def AkAt (w : World) (g o : Nat) (k : Ak) (pa : Option Addr) (pc : Nat) (ca : Option Addr) (cc : Nat) (ra : Option Addr) (rc : Nat) : Prop :=
  (∀ j v, (akC pa pc ca cc ra rc k)[j]? = some v → w.cell? ⟨g, o + j, none⟩ = some v) ∧ AtRd w pa ca ra k.r.att
theorem AkAt.below {w w' : World} {g o : Nat} {k : Ak} {pa : Option Addr} {pc : Nat} {ca : Option Addr} {cc : Nat} {ra : Option Addr} {rc : Nat} (h : AkAt w g o k pa pc ca cc ra rc) (hb : Below w.heap.size w w') : AkAt w' g o k pa pc ca cc ra rc :=
  ⟨fun j v hv => by
    have h1 := h.1 j v hv
    rw [hb.cell (p := ⟨g, o + j, none⟩) (World.block_lt_of_cell? w _ h1)]
    exact h1, h.2.below hb⟩
/-- The route of an act is read four cells on. -/
theorem AkAt.route {w : World} {g o : Nat} {k : Ak} {pa : Option Addr} {pc : Nat} {ca : Option Addr} {cc : Nat} {ra : Option Addr} {rc : Nat} (h : AkAt w g o k pa pc ca cc ra rc) : RtAt w g (o + 4) k.r pa pc ca cc ra rc :=
  ⟨fun j v hv => by
    have h1 := h.1 (j + 4) v
    rw [show o + (j + 4) = o + 4 + j by omega] at h1
    refine h1 ?_
    have hj : j < 11 := by
      have := (Array.getElem?_eq_some_iff.1 hv).1
      simpa [rtC] using this
    rw [← hv]
    match j, hj with
    | 0, _ => rfl
    | 1, _ => rfl
    | 2, _ => rfl
    | 3, _ => rfl
    | 4, _ => rfl
    | 5, _ => rfl
    | 6, _ => rfl
    | 7, _ => rfl
    | 8, _ => rfl
    | 9, _ => rfl
    | 10, _ => rfl, h.2⟩
def AksRd (w : World) (a : Option Addr) (l : List Ak) : Prop := 0 < l.length → ∃ b off, a = some ⟨b, off, none⟩ ∧ ∀ i r, l[i]? = some r → ∃ pa pc ca cc ra rc, AkAt w b (off + i * 15) r pa pc ca cc ra rc
theorem AksRd.below {w w' : World} {a : Option Addr} {l : List Ak} (h : AksRd w a l) (hb : Below w.heap.size w w') : AksRd w' a l := fun hp => by
  obtain ⟨b, off, e, hc⟩ := h hp
  refine ⟨b, off, e, fun i r hi => ?_⟩
  obtain ⟨pa, pc, ca, cc, ra, rc, h1⟩ := hc i r hi
  exact ⟨pa, pc, ca, cc, ra, rc, h1.below hb⟩
set_option maxRecDepth 100000 in
theorem act_cells {H : Type} {enc : TypeId × Value → H} {W : World} {fuel : Nat} {cs : List Value} {x : DataW H × List MemPlace} (h : DataW.trod enc Try.prog W 0 (fun _ => true) true fuel 38 cs = some x) (hl : cs.length = 15) :
    ∃ (pa : Option Addr) (pc : Nat) (ca : Option Addr) (cc : Nat) (ra : Option Addr) (rc : Nat) (r : Ak), cs = (akC pa pc ca cc ra rc r).toList ∧ AtRd W pa ca ra r.r.att ∧
      ∀ R, (∀ n ∈ x.1.weights Try.prog 38, n ≤ R) → ReachR R r.r := by
  obtain ⟨xs, k, _, hxe, _, hxl, hf⟩ := DataW.trod_struct Try.underlying38 h
  match xs, hxl, cs, hl with
  | [y0, y1, y2, y3], _, [v0, v1, v2, v3, v4, v5, v6, v7, v8, v9, v10, v11, v12, v13, v14], _ =>
    have k0 : Try.prog.cellsOf 3 = 1 := by kernel_rfl
    have k1 : Try.prog.cellsOf 29 = 2 := by kernel_rfl
    have k2 : Try.prog.cellsOf 36 = 11 := by kernel_rfl
    have k3 : Try.prog.cellsOf 4 = 1 := by kernel_rfl
    have g0 := hf 0 _ rfl
    have g1 := hf 1 _ rfl
    have g2 := hf 2 _ rfl
    have g3 := hf 3 _ rfl
    simp [k0, k1, k2, k3] at g0 g1 g2 g3
    obtain ⟨d, e0, _⟩ := DataW.trod_bool Try.underlying4 g0
    obtain ⟨pe, e1, _, _⟩ := DataW.trod_int Try.underlying3 g1
    obtain ⟨A, L, e2, _⟩ := pfxr_cells g2 rfl
    obtain ⟨pa, pc, ca, cc, ra, rc, r, e3, hr, hw⟩ := route_cells g3 rfl
    simp [rtC] at e0 e1 e2 e3
    obtain ⟨rfl, rfl⟩ := e2
    obtain ⟨rfl, rfl, rfl, rfl, rfl, rfl, rfl, rfl, rfl, rfl, rfl⟩ := e3
    subst e0 e1
    refine ⟨pa, pc, ca, cc, ra, rc, ⟨d, pe, A, L, r⟩, rfl, hr, fun R h9 => ?_⟩
    subst hxe
    exact hw R fun n hn => h9 n (by simp only [DataW.weights, Try.underlying38]; exact DataW.weights_mem_each (j := 3) rfl rfl n hn)
theorem bytesACT : Try.prog.bytesOf 38 = 168 := by kernel_rfl
theorem acts_of {H : Type} {enc : TypeId × Value → H} {W : World} {fuel : Nat} {v : Value} {x : DataW H × List MemPlace} (h : DataW.trod enc Try.prog W 0 (fun _ => true) true fuel 22 [v] = some x) :
    ∃ (a : Option Addr) (cap : Nat) (rs : List Ak), v = .slice a rs.length cap ∧ AksRd W a rs ∧ ∀ R, (∀ n ∈ x.1.weights Try.prog 22, n ≤ R) → rs.length * 168 ≤ R ∧ ∀ r ∈ rs, ReachR R r.r := by
  rcases Go.Deep.open_slice Try.underlying22 h with ⟨e, _⟩ | ⟨y, l, c, m, n, D, Pl, e, _, hl, hm, hmm, hxe, hx⟩
  · simp at e
    subst e
    exact ⟨none, 0, [], rfl, fun h => absurd h (by simp), fun R _ => ⟨by simp, fun s hs => by simp at hs⟩⟩
  · simp at e
    subst e
    have k2 : Try.prog.cellsOf 38 = 15 := by kernel_rfl
    simp at hmm
    subst hmm
    have hq : ∀ i, i < l → ∃ r : Ak, (∀ b off, y = ⟨b, off, none⟩ → ∃ pa pc ca cc ra rc, AkAt W b (off + i * 15) r pa pc ca cc ra rc) ∧ ∀ R, (∀ n ∈ (D i).weights Try.prog 38, n ≤ R) → ReachR R r.r := fun i hi => by
      obtain ⟨cs', h1, h2⟩ := hx i (by omega)
      rw [k2] at h1
      obtain ⟨_, hlen, hcell⟩ := World.cells?_some h1
      obtain ⟨pa, pc, ca, cc, ra, rc, r, rfl, hr, hR⟩ := act_cells h2 hlen
      refine ⟨r, fun b off hy => ⟨pa, pc, ca, cc, ra, rc, fun j v hv => ?_, hr⟩, hR⟩
      subst hy
      have hj : j < 15 := by
        have := (Array.getElem?_eq_some_iff.1 hv).1
        simpa [akC] using this
      have q := hcell j hj
      rw [Addr.add_mid, Addr.add_mid] at q
      rw [Array.getElem?_toList, hv] at q
      exact q
    obtain ⟨F, hF⟩ : ∃ F : Nat → Ak, ∀ i, i < l → (∀ b off, y = ⟨b, off, none⟩ → ∃ pa pc ca cc ra rc, AkAt W b (off + i * 15) (F i) pa pc ca cc ra rc) ∧ ∀ R, (∀ n ∈ (D i).weights Try.prog 38, n ≤ R) → ReachR R (F i).r :=
      ⟨fun i => if h : i < l then Classical.choose (hq i h) else ⟨false, 0, 0, 0, ⟨0, 0, 0, ⟨0, [], 0, 0, 0, [], []⟩, 0⟩⟩, fun i hi => by
        simp only [dif_pos hi]
        exact Classical.choose_spec (hq i hi)⟩
    refine ⟨some y, m, (List.range l).map F, by simp, fun hp => ?_, fun R hR => ?_⟩
    · have hp2 : 0 < l := by simpa using hp
      obtain ⟨b, off, spot⟩ := y
      have hs : spot = none := by
        obtain ⟨cs', h1, _⟩ := hx 0 (by omega)
        rw [k2] at h1
        obtain ⟨_, hlen, hcell⟩ := World.cells?_some h1
        have h0 := hcell 0 (by omega)
        rw [List.getElem?_eq_getElem (by omega)] at h0
        simpa [Addr.add] using World.cell?_spot h0
      subst hs
      refine ⟨b, off, rfl, fun i s hi => ?_⟩
      have hil : i < l := by
        have := (List.getElem?_eq_some_iff.1 hi).1
        simpa using this
      have e : s = F i := by
        have := (List.getElem?_eq_some_iff.1 hi).2
        simpa using this.symm
      rw [e]
      exact (hF i hil).1 b off rfl
    · subst hxe
      simp only [DataW.weights, Try.underlying22] at hR
      refine ⟨?_, fun s hs => ?_⟩
      · have h9 := hR _ (List.mem_cons_self ..)
        rw [bytesACT] at h9
        simp only [List.length_map, List.length_range] at h9 ⊢
        exact Nat.le_trans (Nat.mul_le_mul_right 168 (Nat.le_add_right l _)) h9
      · obtain ⟨i, hi, rfl⟩ := List.mem_map.1 hs
        exact (hF i (by simpa using hi)).2 R fun n hn => hR n (List.mem_cons_of_mem _ (List.mem_append_left _ (weightsAll_mem hn (List.mem_map.2 ⟨i, hi, rfl⟩))))
end Go.Proofs.Ytjlmkaeepeamkaa
/- Lists of routes, of acts, among a law's arguments. -/
namespace Go.Proofs.Ytjlmkaeepeamkaa
open Go.ChangeShapes Go.WideShapes Go.ChangeAt Go.RowKit
set_option maxRecDepth 100000

theorem big_of {r : Rt} (h : ReachR reachBytes r) : BigR r := by
  obtain ⟨w1, w2, w3, w4, w5⟩ := h
  unfold reachBytes at w1 w2 w3 w4 w5
  exact ⟨by omega, fun s hs => by have := w2 s hs; omega, by omega, by omega, fun q hq => by have := w5 q hq; omega⟩
theorem routes_val {H : Type} {enc : TypeId × Value → H} {W : World} {base : Nat} {v : Value} {d : DataW H} {p : List MemPlace} (hv : Value.okWide Try.prog W .any base 26 v) (h : DataW.Trod enc Try.prog W 0 (fun _ => true) true 26 v d p) (hR : ∀ n ∈ d.weights Try.prog 26, n ≤ reachBytes) :
    ∃ (a : Option Addr) (cap : Nat) (l : List Rt), v = .slice a l.length cap ∧ RtsRd W a l ∧ l.length ≤ 1152921504606846976 ∧ ∀ x ∈ l, BigR x := by
  obtain ⟨a, len, cap, rfl⟩ := okWide_slice Try.underlying26 hv
  obtain ⟨fuel, hf⟩ := h
  obtain ⟨a', cap', l, e, hr, hw⟩ := routes_of hf
  obtain ⟨w1, w2⟩ := hw reachBytes hR
  unfold reachBytes at w1
  exact ⟨a', cap', l, e, hr, by omega, fun x hx => big_of (w2 x hx)⟩
theorem acts_val {H : Type} {enc : TypeId × Value → H} {W : World} {base : Nat} {v : Value} {d : DataW H} {p : List MemPlace} (hv : Value.okWide Try.prog W .any base 22 v) (h : DataW.Trod enc Try.prog W 0 (fun _ => true) true 22 v d p) (hR : ∀ n ∈ d.weights Try.prog 22, n ≤ reachBytes) :
    ∃ (a : Option Addr) (cap : Nat) (l : List Ak), v = .slice a l.length cap ∧ AksRd W a l ∧ l.length ≤ 1152921504606846976 ∧ ∀ x ∈ l, BigR x.r := by
  obtain ⟨a, len, cap, rfl⟩ := okWide_slice Try.underlying22 hv
  obtain ⟨fuel, hf⟩ := h
  obtain ⟨a', cap', l, e, hr, hw⟩ := acts_of hf
  obtain ⟨w1, w2⟩ := hw reachBytes hR
  unfold reachBytes at w1
  exact ⟨a', cap', l, e, hr, by omega, fun x hx => big_of (w2 x hx)⟩
end Go.Proofs.Ytjlmkaeepeamkaa
