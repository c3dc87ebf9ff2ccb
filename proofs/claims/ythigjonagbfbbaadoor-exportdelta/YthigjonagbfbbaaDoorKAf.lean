/- Attributes, in plain numbers, and as they are read. Nothing of the program is named here. -/
import Derived.Test.YthigjonagbfbbaaDoorKAd
import Derived.Test.YthigjonagbfbbaaDoorKAe
import Derived.Test.YthigjonagbfbbaaDoorKAb
import Derived.OpenShut
namespace Go.Proofs.YthigjonagbfbbaaDoor
open Go.RowKit
set_option maxRecDepth 100000

/-- Attributes. -/
structure At where
  origin : Int
  path : List (Bool × List Int)
  next : Nat
  med : Int
  pref : Int
  comms : List Nat
  raws : List (Int × Int × List Nat)
/-- May it be a next hop? -/
def hopB (n : Nat) : Bool := decide (n ≠ 0 ∧ n / 16777216 ≠ 127 ∧ n / 16777216 < 224)
/-- May it be a Raw? -/
def rawK (r : Int × Int × List Nat) : Bool := decide (r.2.1 = 6 ∧ r.1 = 64 ∧ r.2.2.length = 0 ∨ r.2.1 = 7 ∧ r.1 = 192 ∧ r.2.2.length = 8 ∨ 8 < r.2.1 ∧ r.2.1 ≤ 255 ∧ r.1 = 224 ∧ r.2.2.length ≤ 255)
/-- The type of the i-th. -/
def typAt (rs : List (Int × Int × List Nat)) (i : Nat) : Int := (rs.getD i (0, 0, [])).2.1
/-- Are the first k good, and do they rise? -/
def rawsUp (rs : List (Int × Int × List Nat)) : Nat → Bool
  | 0 => true
  | k + 1 => rawsUp rs k && rawK (rs.getD k (0, 0, [])) && (decide (k = 0) || decide (typAt rs (k - 1) < typAt rs k))
theorem rawsUp_false {rs : List (Int × Int × List Nat)} {k : Nat} (h : rawsUp rs k = false) : ∀ n, k ≤ n → rawsUp rs n = false
  | 0, hn => by rw [show k = 0 from by omega] at h; exact h
  | n + 1, hn => by
    by_cases e : k = n + 1
    · rw [← e]; exact h
    · rw [rawsUp, rawsUp_false h n (by omega)]; rfl
/-- Are a path and numbers as they have to be? -/
def headA (a : At) : Bool := decide (0 ≤ a.origin ∧ a.origin ≤ 2) && goodP a.path && hopB a.next && decide (-1 ≤ a.med ∧ a.med ≤ 4294967295) && decide (-1 ≤ a.pref ∧ a.pref ≤ 4294967295) && decide (a.comms.length ≤ 32)
/-- Are attributes good? -/
def goodA (a : At) : Bool := headA a && rawsUp a.raws a.raws.length
/-- The slice's elements are the numbers cs. -/
def CRd (w : World) (a : Option Addr) (cs : List Nat) : Prop := 0 < cs.length → ∃ b off, a = some ⟨b, off, none⟩ ∧ ∀ (j z : Nat), cs[j]? = some z → w.cell? ⟨b, off + j, none⟩ = some (.int .u32 (z : Int))
theorem CRd.below {w w' : World} {a : Option Addr} {cs : List Nat} (h : CRd w a cs) (hb : Below w.heap.size w w') : CRd w' a cs := fun hp => by
  obtain ⟨b, off, rfl, hc⟩ := h hp
  exact ⟨b, off, rfl, fun j z hj => by rw [hb.cell (p := ⟨b, off + j, none⟩) (World.block_lt_of_cell? w _ (hc j z hj))]; exact hc j z hj⟩
/-- The cells at b, off are the Raws rs. -/
def RawAt (w : World) (b off : Nat) (rs : List (Int × Int × List Nat)) : Prop :=
  ∀ i r, rs[i]? = some r → w.cell? ⟨b, off + i * 3, none⟩ = some (.int .i64 r.1) ∧ w.cell? ⟨b, off + i * 3 + 1, none⟩ = some (.int .i64 r.2.1) ∧ ∃ a' c', w.cell? ⟨b, off + i * 3 + 2, none⟩ = some (.slice a' r.2.2.length c') ∧ r.2.2.length ≤ c' ∧ BRd w a' r.2.2
theorem RawAt.below {w w' : World} {b off : Nat} {rs : List (Int × Int × List Nat)} (h : RawAt w b off rs) (hb : Below w.heap.size w w') : RawAt w' b off rs := fun i r hi => by
  obtain ⟨h1, h2, a', c', h3, h4, h5⟩ := h i r hi
  exact ⟨by rw [hb.cell (p := ⟨b, off + i * 3, none⟩) (World.block_lt_of_cell? w _ h1)]; exact h1, by rw [hb.cell (p := ⟨b, off + i * 3 + 1, none⟩) (World.block_lt_of_cell? w _ h2)]; exact h2, a', c', by rw [hb.cell (p := ⟨b, off + i * 3 + 2, none⟩) (World.block_lt_of_cell? w _ h3)]; exact h3, h4, h5.below hb⟩
/-- The slice's elements are the Raws rs. -/
def RawRd (w : World) (a : Option Addr) (rs : List (Int × Int × List Nat)) : Prop := 0 < rs.length → ∃ b off, a = some ⟨b, off, none⟩ ∧ RawAt w b off rs
theorem RawRd.below {w w' : World} {a : Option Addr} {rs : List (Int × Int × List Nat)} (h : RawRd w a rs) (hb : Below w.heap.size w w') : RawRd w' a rs := fun hp => by
  obtain ⟨b, off, rfl, hc⟩ := h hp
  exact ⟨b, off, rfl, hc.below hb⟩
/-- How many bytes all Raws have. -/
def sumR : List (Int × Int × List Nat) → Nat
  | [] => 0
  | r :: l => r.2.2.length + sumR l
theorem sumR_snoc (l : List (Int × Int × List Nat)) (r : Int × Int × List Nat) : sumR (l ++ [r]) = sumR l + r.2.2.length := by
  induction l with
  | nil => simp [sumR]
  | cons a l ih => simp only [List.cons_append, sumR, ih]; omega
theorem sumR_take (l : List (Int × Int × List Nat)) : ∀ k, sumR (l.take k) ≤ sumR l := by
  induction l with
  | nil => intro k; simp [sumR]
  | cons a l ih =>
    intro k
    cases k with
    | zero => simp [sumR]
    | succ k => simp only [List.take_succ_cons, sumR]; have := ih k; omega
theorem sumR_mem (l : List (Int × Int × List Nat)) (r : Int × Int × List Nat) (h : r ∈ l) : r.2.2.length ≤ sumR l := by
  induction l with
  | nil => simp at h
  | cons a l ih =>
    simp only [sumR]
    rcases List.mem_cons.1 h with rfl | h
    · omega
    · have := ih h; omega
/-- Attributes as a value, and where their parts lie. -/
structure AtRd (w : World) (pa ca ra : Option Addr) (a : At) : Prop where
  path : PthRd w pa a.path
  comms : CRd w ca a.comms
  raws : RawRd w ra a.raws
  next : a.next < 4294967296
theorem AtRd.below {w w' : World} {pa ca ra : Option Addr} {a : At} (h : AtRd w pa ca ra a) (hb : Below w.heap.size w w') : AtRd w' pa ca ra a := ⟨h.path.below hb, h.comms.below hb, h.raws.below hb, h.next⟩
/-- The value itself. -/
def atV (pa : Option Addr) (pc : Nat) (ca : Option Addr) (cc : Nat) (ra : Option Addr) (rc : Nat) (a : At) : Value :=
  .agg #[.int .i64 a.origin, .slice pa a.path.length pc, .int .u32 (a.next : Int), .int .i64 a.med, .int .i64 a.pref, .slice ca a.comms.length cc, .slice ra a.raws.length rc]
/-- Not too great to be played. -/
def sizeA (a : At) : Nat := a.path.length + sumP a.path + a.comms.length + a.raws.length + sumR a.raws
end Go.Proofs.YthigjonagbfbbaaDoor
/- Attributes, out of their reading. -/
namespace Go.Proofs.YthigjonagbfbbaaDoor
open Go.RowKit Go.ChangeShapes Go.WideShapes Go.ChangeAt
set_option maxRecDepth 100000

theorem bytesU32 : Tryd.prog.bytesOf 22 = 4 := by kernel_rfl
theorem bytesU8 : Tryd.prog.bytesOf 5 = 1 := by kernel_rfl
theorem bytesRAW : Tryd.prog.bytesOf 73 = 40 := by kernel_rfl
/-- Numbers of 32 bits, out of their reading. -/
theorem u32s_of {H : Type} {enc : TypeId × Value → H} {W : World} {fuel : Nat} {v : Value} {x : DataW H × List MemPlace} (h : DataW.trod enc Tryd.prog W 0 (fun _ => true) true fuel 31 [v] = some x) :
    ∃ (a : Option Addr) (c : Nat) (zs : List Nat), v = .slice a zs.length c ∧ zs.length ≤ c ∧ CRd W a zs ∧ (∀ z ∈ zs, z < 4294967296) ∧ zs.length ≤ maxLen ∧ ∀ R, (∀ n ∈ x.1.weights Tryd.prog 31, n ≤ R) → zs.length * 4 ≤ R := by
  have k1 : Tryd.prog.cellsOf 22 = 1 := by kernel_rfl
  rcases Go.Deep.open_slice1 Tryd.underlying31 k1 h with ⟨e, _⟩ | ⟨y, l, c, m, n, V, D, Pl, e, _, hl, hm, hmm, hxe, hx⟩
  · simp at e
    subst e
    exact ⟨none, 0, [], rfl, Nat.le_refl _, fun h => absurd h (by simp), fun z hz => by simp at hz, by simp, fun R _ => by simp⟩
  · simp at e
    subst e
    simp at hmm
    subst hmm
    have hq : ∀ i, i < l → ∃ z : Nat, W.cell? (y.add i) = some (.int .u32 (z : Int)) ∧ z < 4294967296 := fun i hi => by
      obtain ⟨h1, h2⟩ := hx i (by omega)
      obtain ⟨z, e0, _, hw⟩ := DataW.trod_int Tryd.underlying22 h2
      have hb := bounds_u32 hw
      simp at e0
      obtain ⟨q, rfl⟩ := Int.eq_ofNat_of_zero_le hb.1
      exact ⟨q, by rw [h1, e0], by omega⟩
    obtain ⟨F, hF⟩ : ∃ F : Nat → Nat, ∀ i, i < l → W.cell? (y.add i) = some (.int .u32 ((F i : Nat) : Int)) ∧ F i < 4294967296 :=
      ⟨fun i => if h : i < l then Classical.choose (hq i h) else 0, fun i hi => by
        simp only [dif_pos hi]
        exact Classical.choose_spec (hq i hi)⟩
    have hsp : 0 < l → ∃ b off, y = ⟨b, off, none⟩ := fun hp2 => by
      obtain ⟨b, off, spot⟩ := y
      have hs : spot = none := by simpa [Addr.add] using World.cell?_spot (hF 0 hp2).1
      subst hs
      exact ⟨b, off, rfl⟩
    refine ⟨some y, m, (List.range l).map F, by simp, by simpa using hl, ?_, fun z hz => ?_, by simp; omega, fun R hR => ?_⟩
    · intro hp
      obtain ⟨b, off, rfl⟩ := hsp (by simpa using hp)
      refine ⟨b, off, rfl, fun j z hj => ?_⟩
      have hjl : j < l := by
        have := (List.getElem?_eq_some_iff.1 hj).1
        simpa using this
      have e : z = F j := by
        have := (List.getElem?_eq_some_iff.1 hj).2
        simpa using this.symm
      have := (hF j hjl).1
      rw [Addr.add_mid] at this
      rw [e]
      exact this
    · obtain ⟨i, hi, rfl⟩ := List.mem_map.1 hz
      exact (hF i (by simpa using hi)).2
    · subst hxe
      have h9 := hR _ (by simp only [DataW.weights, Tryd.underlying31]; exact List.mem_cons_self ..)
      rw [bytesU32] at h9
      simp only [List.length_map, List.length_range] at h9 ⊢
      exact Nat.le_trans (Nat.mul_le_mul_right 4 (Nat.le_add_right l _)) h9
/-- Bytes, out of their reading. -/
theorem bytes_of {H : Type} {enc : TypeId × Value → H} {W : World} {fuel : Nat} {v : Value} {x : DataW H × List MemPlace} (h : DataW.trod enc Tryd.prog W 0 (fun _ => true) true fuel 71 [v] = some x) :
    ∃ (a : Option Addr) (c : Nat) (zs : List Nat), v = .slice a zs.length c ∧ zs.length ≤ c ∧ Rw W a zs.length (fun j => zs.getD j 0) ∧ (∀ z ∈ zs, z < 256) ∧ zs.length ≤ maxLen ∧ ∀ R, (∀ n ∈ x.1.weights Tryd.prog 71, n ≤ R) → zs.length * 1 ≤ R := by
  have k1 : Tryd.prog.cellsOf 5 = 1 := by kernel_rfl
  rcases Go.Deep.open_slice1 Tryd.underlying71 k1 h with ⟨e, _⟩ | ⟨y, l, c, m, n, V, D, Pl, e, _, hl, hm, hmm, hxe, hx⟩
  · simp at e
    subst e
    exact ⟨none, 0, [], rfl, Nat.le_refl _, Rw.nil _ _ _, fun z hz => by simp at hz, by simp, fun R _ => by simp⟩
  · simp at e
    subst e
    simp at hmm
    subst hmm
    have hq : ∀ i, i < l → ∃ z : Nat, W.cell? (y.add i) = some (.int .u8 (z : Int)) ∧ z < 256 := fun i hi => by
      obtain ⟨h1, h2⟩ := hx i (by omega)
      obtain ⟨z, e0, _, hw⟩ := DataW.trod_int Tryd.underlying5 h2
      have hb := bounds_u8 hw
      simp at e0
      obtain ⟨q, rfl⟩ := Int.eq_ofNat_of_zero_le hb.1
      exact ⟨q, by rw [h1, e0], by omega⟩
    obtain ⟨F, hF⟩ : ∃ F : Nat → Nat, ∀ i, i < l → W.cell? (y.add i) = some (.int .u8 ((F i : Nat) : Int)) ∧ F i < 256 :=
      ⟨fun i => if h : i < l then Classical.choose (hq i h) else 0, fun i hi => by
        simp only [dif_pos hi]
        exact Classical.choose_spec (hq i hi)⟩
    have hsp : 0 < l → ∃ b off, y = ⟨b, off, none⟩ := fun hp2 => by
      obtain ⟨b, off, spot⟩ := y
      have hs : spot = none := by simpa [Addr.add] using World.cell?_spot (hF 0 hp2).1
      subst hs
      exact ⟨b, off, rfl⟩
    refine ⟨some y, m, (List.range l).map F, by simp, by simpa using hl, ?_, fun z hz => ?_, by simp; omega, fun R hR => ?_⟩
    · refine ⟨by simp; omega, fun hp => ?_⟩
      obtain ⟨b, off, rfl⟩ := hsp (by simpa using hp)
      refine ⟨b, off, rfl, fun j hj => ?_⟩
      have hjl : j < l := by simpa using hj
      have := (hF j hjl).1
      rw [Addr.add_mid] at this
      rw [this]
      simp [List.getD_eq_getElem?_getD, hjl]
    · obtain ⟨i, hi, rfl⟩ := List.mem_map.1 hz
      exact (hF i (by simpa using hi)).2
    · subst hxe
      have h9 := hR _ (by simp only [DataW.weights, Tryd.underlying71]; exact List.mem_cons_self ..)
      rw [bytesU8] at h9
      simp only [List.length_map, List.length_range] at h9 ⊢
      exact Nat.le_trans (Nat.mul_le_mul_right 1 (Nat.le_add_right l _)) h9
/-- A Raw, out of its reading. -/
theorem raw_cells {H : Type} {enc : TypeId × Value → H} {W : World} {fuel : Nat} {cs : List Value} {x : DataW H × List MemPlace} (h : DataW.trod enc Tryd.prog W 0 (fun _ => true) true fuel 73 cs = some x) (hl : cs.length = 3) :
    ∃ (f t : Int) (a : Option Addr) (c : Nat) (zs : List Nat), cs = [.int .i64 f, .int .i64 t, .slice a zs.length c] ∧ zs.length ≤ c ∧ BRd W a zs ∧ zs.length ≤ maxLen ∧ ∀ R, (∀ n ∈ x.1.weights Tryd.prog 73, n ≤ R) → zs.length * 1 ≤ R := by
  obtain ⟨xs, k, _, hxe, _, hxl, hf⟩ := DataW.trod_struct Tryd.underlying73 h
  match xs, hxl, cs, hl with
  | [y0, y1, y2], _, [v0, v1, v2], _ =>
    have k3 : Tryd.prog.cellsOf 3 = 1 := by kernel_rfl
    have k22 : Tryd.prog.cellsOf 71 = 1 := by kernel_rfl
    have g0 := hf 0 _ rfl
    have g1 := hf 1 _ rfl
    have g2 := hf 2 _ rfl
    simp [k3, k22] at g0 g1 g2
    obtain ⟨f, e0, _, _⟩ := DataW.trod_int Tryd.underlying3 g0
    obtain ⟨t, e1, _, _⟩ := DataW.trod_int Tryd.underlying3 g1
    simp at e0 e1
    subst e0 e1
    obtain ⟨a, c, zs, rfl, hc, hr, hz, hm, hR⟩ := bytes_of g2
    refine ⟨f, t, a, c, zs, rfl, hc, ⟨hr, hz⟩, hm, fun R h9 => hR R fun n hn => h9 n ?_⟩
    subst hxe
    simp only [DataW.weights, Tryd.underlying73]
    exact DataW.weights_mem_each (j := 2) rfl rfl n hn
/-- Raws, out of their reading. -/
theorem raws_of {H : Type} {enc : TypeId × Value → H} {W : World} {fuel : Nat} {v : Value} {x : DataW H × List MemPlace} (h : DataW.trod enc Tryd.prog W 0 (fun _ => true) true fuel 32 [v] = some x) : ∃ (a : Option Addr) (cap : Nat) (rs : List (Int × Int × List Nat)), v = .slice a rs.length cap ∧ RawRd W a rs ∧ ∀ R, (∀ n ∈ x.1.weights Tryd.prog 32, n ≤ R) → rs.length * 40 ≤ R ∧ ∀ r ∈ rs, r.2.2.length * 1 ≤ R := by
  rcases Go.Deep.open_slice Tryd.underlying32 h with ⟨e, _⟩ | ⟨y, l, c, m, n, D, Pl, e, _, hl, hm, hmm, hxe, hx⟩
  · simp at e
    subst e
    exact ⟨none, 0, [], rfl, fun h => absurd h (by simp), fun R _ => ⟨by simp, fun s hs => by simp at hs⟩⟩
  · simp at e
    subst e
    have k2 : Tryd.prog.cellsOf 73 = 3 := by kernel_rfl
    simp at hmm
    subst hmm
    have hq : ∀ i, i < l → ∃ r : Int × Int × List Nat, (∀ b off, y = ⟨b, off, none⟩ → W.cell? ⟨b, off + i * 3, none⟩ = some (.int .i64 r.1) ∧ W.cell? ⟨b, off + i * 3 + 1, none⟩ = some (.int .i64 r.2.1) ∧ ∃ a' c', W.cell? ⟨b, off + i * 3 + 2, none⟩ = some (.slice a' r.2.2.length c') ∧ r.2.2.length ≤ c' ∧ BRd W a' r.2.2) ∧ ∀ R, (∀ n ∈ (D i).weights Tryd.prog 73, n ≤ R) → r.2.2.length * 1 ≤ R := fun i hi => by
      obtain ⟨cs', h1, h2⟩ := hx i (by omega)
      rw [k2] at h1
      obtain ⟨_, hlen, hcell⟩ := World.cells?_some h1
      obtain ⟨f, t, a', c', zs, rfl, hc', hb, _, hR⟩ := raw_cells h2 hlen
      refine ⟨(f, t, zs), fun b off hy => ?_, hR⟩
      subst hy
      have q0 := hcell 0 (by omega)
      have q1 := hcell 1 (by omega)
      have q2 := hcell 2 (by omega)
      rw [Addr.add_mid, Addr.add_mid] at q0 q1 q2
      exact ⟨q0, q1, a', c', q2, hc', hb⟩
    obtain ⟨F, hF⟩ : ∃ F : Nat → Int × Int × List Nat, ∀ i, i < l → (∀ b off, y = ⟨b, off, none⟩ → W.cell? ⟨b, off + i * 3, none⟩ = some (.int .i64 (F i).1) ∧ W.cell? ⟨b, off + i * 3 + 1, none⟩ = some (.int .i64 (F i).2.1) ∧ ∃ a' c', W.cell? ⟨b, off + i * 3 + 2, none⟩ = some (.slice a' (F i).2.2.length c') ∧ (F i).2.2.length ≤ c' ∧ BRd W a' (F i).2.2) ∧ ∀ R, (∀ n ∈ (D i).weights Tryd.prog 73, n ≤ R) → (F i).2.2.length * 1 ≤ R :=
      ⟨fun i => if h : i < l then Classical.choose (hq i h) else (0, 0, []), fun i hi => by
        simp only [dif_pos hi]
        exact Classical.choose_spec (hq i hi)⟩
    refine ⟨some y, m, (List.range l).map F, by simp, fun hp => ?_, fun R hR => ?_⟩
    · have hp2 : 0 < l := by simpa using hp
      obtain ⟨b, off, spot⟩ := y
      have hs : spot = none := by
        obtain ⟨cs', h1, _⟩ := hx 0 (by omega)
        rw [k2] at h1
        obtain ⟨_, hlen, hcell⟩ := World.cells?_some h1
        have h0 := hcell 0 (by omega)
        rw [List.getElem?_eq_getElem (by omega)] at h0
        simpa [Addr.add] using World.cell?_spot h0
      subst hs
      refine ⟨b, off, rfl, fun i s hi => ?_⟩
      have hil : i < l := by
        have := (List.getElem?_eq_some_iff.1 hi).1
        simpa using this
      have e : s = F i := by
        have := (List.getElem?_eq_some_iff.1 hi).2
        simpa using this.symm
      rw [e]
      exact (hF i hil).1 b off rfl
    · subst hxe
      simp only [DataW.weights, Tryd.underlying32] at hR
      refine ⟨?_, fun s hs => ?_⟩
      · have h9 := hR _ (List.mem_cons_self ..)
        rw [bytesRAW] at h9
        simp only [List.length_map, List.length_range] at h9 ⊢
        exact Nat.le_trans (Nat.mul_le_mul_right 40 (Nat.le_add_right l _)) h9
      · obtain ⟨i, hi, rfl⟩ := List.mem_map.1 hs
        exact (hF i (by simpa using hi)).2 R fun n hn => hR n (List.mem_cons_of_mem _ (List.mem_append_left _ (weightsAll_mem hn (List.mem_map.2 ⟨i, hi, rfl⟩))))
/-- Attributes, out of their reading. -/
theorem attrs_of {H : Type} {enc : TypeId × Value → H} {W : World} {fuel : Nat} {cs : List Value} {x : DataW H × List MemPlace} (h : DataW.trod enc Tryd.prog W 0 (fun _ => true) true fuel 34 cs = some x) (hl : cs.length = 7) :
    ∃ (pa : Option Addr) (pc : Nat) (ca : Option Addr) (cc : Nat) (ra : Option Addr) (rc : Nat) (a : At), cs = [.int .i64 a.origin, .slice pa a.path.length pc, .int .u32 (a.next : Int), .int .i64 a.med, .int .i64 a.pref, .slice ca a.comms.length cc, .slice ra a.raws.length rc] ∧ AtRd W pa ca ra a ∧ (∀ z ∈ a.comms, z < 4294967296) ∧
      ∀ R, (∀ n ∈ x.1.weights Tryd.prog 34, n ≤ R) → a.path.length * 32 ≤ R ∧ (∀ s ∈ a.path, s.2.length * 8 ≤ R) ∧ a.comms.length * 4 ≤ R ∧ a.raws.length * 40 ≤ R ∧ ∀ r ∈ a.raws, r.2.2.length * 1 ≤ R := by
  obtain ⟨xs, k, _, hxe, _, hxl, hf⟩ := DataW.trod_struct Tryd.underlying34 h
  match xs, hxl, cs, hl with
  | [y0, y1, y2, y3, y4, y5, y6], _, [v0, v1, v2, v3, v4, v5, v6], _ =>
    have k0 : Tryd.prog.cellsOf 3 = 1 := by kernel_rfl
    have k1 : Tryd.prog.cellsOf 30 = 1 := by kernel_rfl
    have k2 : Tryd.prog.cellsOf 22 = 1 := by kernel_rfl
    have k3 : Tryd.prog.cellsOf 31 = 1 := by kernel_rfl
    have k4 : Tryd.prog.cellsOf 32 = 1 := by kernel_rfl
    have g0 := hf 0 _ rfl
    have g1 := hf 1 _ rfl
    have g2 := hf 2 _ rfl
    have g3 := hf 3 _ rfl
    have g4 := hf 4 _ rfl
    have g5 := hf 5 _ rfl
    have g6 := hf 6 _ rfl
    simp [k0, k1, k2, k3, k4] at g0 g1 g2 g3 g4 g5 g6
    obtain ⟨o, e0, _, _⟩ := DataW.trod_int Tryd.underlying3 g0
    obtain ⟨nx, e2, _, hw⟩ := DataW.trod_int Tryd.underlying22 g2
    obtain ⟨md, e3, _, _⟩ := DataW.trod_int Tryd.underlying3 g3
    obtain ⟨pf, e4, _, _⟩ := DataW.trod_int Tryd.underlying3 g4
    simp at e0 e2 e3 e4
    subst e0 e2 e3 e4
    have hb := bounds_u32 hw
    obtain ⟨q, rfl⟩ := Int.eq_ofNat_of_zero_le hb.1
    obtain ⟨pa, pl, pc, rfl⟩ : ∃ pa pl pc, v1 = .slice pa pl pc := by
      rcases Go.Deep.open_slice Tryd.underlying30 g1 with ⟨e, _⟩ | ⟨y, l, c, m, n, D, Pl, e, _⟩
      · simp at e; exact ⟨none, 0, 0, e⟩
      · simp at e; exact ⟨_, _, _, e⟩
    obtain ⟨ss, rfl, _, hpr, hpR⟩ := path_of g1
    obtain ⟨ca, cc, zs, rfl, _, hcr, hcz, _, hcR⟩ := u32s_of g5
    obtain ⟨ra, rc, rs, rfl, hrr, hrR⟩ := raws_of g6
    refine ⟨pa, pc, ca, cc, ra, rc, ⟨o, ss, q, md, pf, zs, rs⟩, rfl, ⟨hpr, hcr, hrr, by show q < 4294967296; omega⟩, hcz, fun R h9 => ?_⟩
    subst hxe
    have w1 := hpR R fun n hn => h9 n (by simp only [DataW.weights, Tryd.underlying34]; exact DataW.weights_mem_each (j := 1) rfl rfl n hn)
    have w5 := hcR R fun n hn => h9 n (by simp only [DataW.weights, Tryd.underlying34]; exact DataW.weights_mem_each (j := 5) rfl rfl n hn)
    have w6 := hrR R fun n hn => h9 n (by simp only [DataW.weights, Tryd.underlying34]; exact DataW.weights_mem_each (j := 6) rfl rfl n hn)
    exact ⟨w1.1, w1.2, w5, w6.1, w6.2⟩
end Go.Proofs.YthigjonagbfbbaaDoor
