/- A path that is read, and what it is, in plain numbers. Nothing of the program is named here. -/
import Derived.Test.YthigjonagbfbbaaDoorKAa
import Derived.ProofKit
import Derived.Deep.Slices
import Derived.SizedLaws
namespace Go.Proofs.YthigjonagbfbbaaDoor
open Go.RowKit
set_option maxRecDepth 100000

/-- The slice's elements are the numbers zs. -/
def IRd (w : World) (a : Option Addr) (zs : List Int) : Prop := 0 < zs.length → ∃ b off, a = some ⟨b, off, none⟩ ∧ ∀ j z, zs[j]? = some z → w.cell? ⟨b, off + j, none⟩ = some (.int .i64 z)
theorem IRd.below {w w' : World} {a : Option Addr} {zs : List Int} (h : IRd w a zs) (hb : Below w.heap.size w w') : IRd w' a zs := fun hp => by
  obtain ⟨b, off, rfl, hc⟩ := h hp
  exact ⟨b, off, rfl, fun j z hj => by rw [hb.cell (p := ⟨b, off + j, none⟩) (World.block_lt_of_cell? w _ (hc j z hj))]; exact hc j z hj⟩
/-- The slice's elements are the segments ss. -/
structure PthRd (w : World) (a : Option Addr) (ss : List (Bool × List Int)) : Prop where
  cells : 0 < ss.length → ∃ b off, a = some ⟨b, off, none⟩ ∧ ∀ i s, ss[i]? = some s → w.cell? ⟨b, off + i * 2, none⟩ = some (.bool s.1) ∧ ∃ a' c', w.cell? ⟨b, off + i * 2 + 1, none⟩ = some (.slice a' s.2.length c') ∧ IRd w a' s.2
  small : ss.length ≤ maxLen
  smalls : ∀ s ∈ ss, s.2.length ≤ maxLen
theorem PthRd.below {w w' : World} {a : Option Addr} {ss : List (Bool × List Int)} (h : PthRd w a ss) (hb : Below w.heap.size w w') : PthRd w' a ss := by
  refine ⟨fun hp => ?_, h.small, h.smalls⟩
  obtain ⟨b, off, rfl, hc⟩ := h.cells hp
  refine ⟨b, off, rfl, fun i s hi => ?_⟩
  obtain ⟨h1, a', c', h2, h3⟩ := hc i s hi
  exact ⟨by rw [hb.cell (p := ⟨b, off + i * 2, none⟩) (World.block_lt_of_cell? w _ h1)]; exact h1, a', c', by rw [hb.cell (p := ⟨b, off + i * 2 + 1, none⟩) (World.block_lt_of_cell? w _ h2)]; exact h2, h3.below hb⟩
/-- How many numbers, a set counting one. -/
def lenP : List (Bool × List Int) → Nat
  | [] => 0
  | s :: r => (if s.1 then 1 else s.2.length) + lenP r
theorem lenP_snoc (l : List (Bool × List Int)) (s : Bool × List Int) : lenP (l ++ [s]) = lenP l + (if s.1 then 1 else s.2.length) := by
  induction l with
  | nil => simp [lenP]
  | cons a l ih => simp only [List.cons_append, lenP, ih]; omega
/-- How many numbers. -/
def sumP : List (Bool × List Int) → Nat
  | [] => 0
  | s :: r => s.2.length + sumP r
theorem sumP_snoc (l : List (Bool × List Int)) (s : Bool × List Int) : sumP (l ++ [s]) = sumP l + s.2.length := by
  induction l with
  | nil => simp [sumP]
  | cons a l ih => simp only [List.cons_append, sumP, ih]; omega
theorem sumP_take (l : List (Bool × List Int)) : ∀ k, sumP (l.take k) ≤ sumP l := by
  induction l with
  | nil => intro k; simp [sumP]
  | cons a l ih =>
    intro k
    cases k with
    | zero => simp [sumP]
    | succ k => simp only [List.take_succ_cons, sumP]; have := ih k; omega
theorem sumP_mem (l : List (Bool × List Int)) (s : Bool × List Int) (h : s ∈ l) : s.2.length ≤ sumP l := by
  induction l with
  | nil => simp at h
  | cons a l ih =>
    simp only [sumP]
    rcases List.mem_cons.1 h with rfl | h
    · omega
    · have := ih h; omega
theorem lenP_take (l : List (Bool × List Int)) (k : Nat) : lenP (l.take k) ≤ k + sumP l := by
  induction l generalizing k with
  | nil => simp [lenP]
  | cons a l ih =>
    cases k with
    | zero => simp [lenP]
    | succ k =>
      simp only [List.take_succ_cons, lenP, sumP]
      have := ih k
      split <;> omega
/-- Is x in one? -/
def hasP (ss : List (Bool × List Int)) (x : Int) : Bool := ss.any fun s => s.2.any fun z => z == x
/-- The first number of a first sequence. -/
def firstP : List (Bool × List Int) → Option Int
  | (false, z :: _) :: _ => some z
  | _ => none
/-- A number, if there is one. -/
def firstV : Option Int → Value
  | none => .tuple #[.int .i64 0, .bool false]
  | some z => .tuple #[.int .i64 z, .bool true]
/-- May it be a number of a path? -/
def okN (z : Int) : Bool := decide (1 ≤ z ∧ z ≤ 4294967295)
/-- May it be a segment? -/
def okS (s : Bool × List Int) : Bool := decide (1 ≤ s.2.length ∧ s.2.length ≤ 255) && s.2.all okN
/-- Is a path good? -/
def goodP (ss : List (Bool × List Int)) : Bool := ss.all okS && decide (sumP ss ≤ 64)
theorem goodP_no {ss : List (Bool × List Int)} {s : Bool × List Int} (h : s ∈ ss) (hs : okS s = false) : goodP ss = false := by
  unfold goodP
  have : ss.all okS = false := by
    rw [Bool.eq_false_iff]
    intro hh
    rw [List.all_eq_true.1 hh s h] at hs
    cases hs
  rw [this]; rfl
theorem okS_len {s : Bool × List Int} (h : ¬ (1 ≤ s.2.length ∧ s.2.length ≤ 255)) : okS s = false := by
  unfold okS
  rw [decide_eq_false h]; rfl
theorem okS_num {s : Bool × List Int} {z : Int} (h : z ∈ s.2) (hz : okN z = false) : okS s = false := by
  unfold okS
  have : s.2.all okN = false := by
    rw [Bool.eq_false_iff]
    intro hh
    rw [List.all_eq_true.1 hh z h] at hz
    cases hz
  rw [this, Bool.and_false]
end Go.Proofs.YthigjonagbfbbaaDoor
/- A path, out of its reading. -/
namespace Go.Proofs.YthigjonagbfbbaaDoor
open Go.RowKit Go.ChangeShapes Go.WideShapes Go.ChangeAt
set_option maxRecDepth 100000

theorem weightsAll_mem {H : Type} {P : Program} {e : TypeId} {d : DataW H} {n : Nat} (hn : n ∈ d.weights P e) : ∀ {l : List (DataW H)}, d ∈ l → n ∈ DataW.weightsAll P e l
  | [], h => by simp at h
  | d0 :: r, h => by
    simp only [DataW.weightsAll, List.mem_append]
    rcases List.mem_cons.1 h with rfl | h
    · exact .inl hn
    · exact .inr (weightsAll_mem hn h)
theorem bytesInt : Tryd.prog.bytesOf 3 = 8 := by kernel_rfl
theorem bytesSeg : Tryd.prog.bytesOf 69 = 32 := by kernel_rfl
/-- Numbers, out of their reading. -/
theorem ints_of {H : Type} {enc : TypeId × Value → H} {W : World} {fuel : Nat} {v : Value} {x : DataW H × List MemPlace} (h : DataW.trod enc Tryd.prog W 0 (fun _ => true) true fuel 67 [v] = some x) :
    ∃ (a : Option Addr) (c : Nat) (zs : List Int), v = .slice a zs.length c ∧ IRd W a zs ∧ zs.length ≤ maxLen ∧ ∀ R, (∀ n ∈ x.1.weights Tryd.prog 67, n ≤ R) → zs.length * 8 ≤ R := by
  have k1 : Tryd.prog.cellsOf 3 = 1 := by kernel_rfl
  rcases Go.Deep.open_slice1 Tryd.underlying67 k1 h with ⟨e, _⟩ | ⟨y, l, c, m, n, V, D, Pl, e, _, hl, hm, hmm, hxe, hx⟩
  · simp at e
    subst e
    exact ⟨none, 0, [], rfl, fun h => absurd h (by simp), by simp, fun R _ => by simp⟩
  · simp at e
    subst e
    simp at hmm
    subst hmm
    have hq : ∀ i, i < l → ∃ z : Int, W.cell? (y.add i) = some (.int .i64 z) := fun i hi => by
      obtain ⟨h1, h2⟩ := hx i (by omega)
      obtain ⟨z, e0, _, _⟩ := DataW.trod_int Tryd.underlying3 h2
      simp at e0
      exact ⟨z, by rw [h1, e0]⟩
    obtain ⟨F, hF⟩ : ∃ F : Nat → Int, ∀ i, i < l → W.cell? (y.add i) = some (.int .i64 (F i)) :=
      ⟨fun i => if h : i < l then Classical.choose (hq i h) else 0, fun i hi => by
        simp only [dif_pos hi]
        exact Classical.choose_spec (hq i hi)⟩
    refine ⟨some y, m, (List.range l).map F, by simp, fun hp => ?_, by simp; omega, fun R hR => ?_⟩
    rotate_left
    · subst hxe
      have h9 := hR _ (by simp only [DataW.weights, Tryd.underlying67]; exact List.mem_cons_self ..)
      rw [bytesInt] at h9
      simp only [List.length_map, List.length_range] at h9 ⊢
      exact Nat.le_trans (Nat.mul_le_mul_right 8 (Nat.le_add_right l _)) h9
    have hp2 : 0 < l := by simpa using hp
    obtain ⟨b, off, spot⟩ := y
    have hs : spot = none := by simpa [Addr.add] using World.cell?_spot (hF 0 hp2)
    subst hs
    refine ⟨b, off, rfl, fun j z hj => ?_⟩
    have hjl : j < l := by
      have := (List.getElem?_eq_some_iff.1 hj).1
      simpa using this
    have e : z = F j := by
      have := (List.getElem?_eq_some_iff.1 hj).2
      simpa using this.symm
    have := hF j hjl
    rw [Addr.add_mid] at this
    rw [e]
    exact this
theorem seg_cells {H : Type} {enc : TypeId × Value → H} {W : World} {fuel : Nat} {cs : List Value} {x : DataW H × List MemPlace} (h : DataW.trod enc Tryd.prog W 0 (fun _ => true) true fuel 69 cs = some x) (hl : cs.length = 2) :
    ∃ (b : Bool) (a : Option Addr) (c : Nat) (zs : List Int), cs = [.bool b, .slice a zs.length c] ∧ IRd W a zs ∧ zs.length ≤ maxLen ∧ ∀ R, (∀ n ∈ x.1.weights Tryd.prog 69, n ≤ R) → zs.length * 8 ≤ R := by
  obtain ⟨xs, k, _, hxe, _, hxl, hf⟩ := DataW.trod_struct Tryd.underlying69 h
  match xs, hxl, cs, hl with
  | [y0, y1], _, [v0, v1], _ =>
    have k3 : Tryd.prog.cellsOf 4 = 1 := by kernel_rfl
    have k22 : Tryd.prog.cellsOf 67 = 1 := by kernel_rfl
    have g0 := hf 0 _ rfl
    have g1 := hf 1 _ rfl
    simp [k3, k22] at g0 g1
    obtain ⟨t, e0, _⟩ := DataW.trod_bool Tryd.underlying4 g0
    simp at e0
    subst e0
    obtain ⟨a, c, zs, rfl, hi, hm, hR⟩ := ints_of g1
    refine ⟨t, a, c, zs, rfl, hi, hm, fun R h9 => hR R fun n hn => h9 n ?_⟩
    subst hxe
    simp only [DataW.weights, Tryd.underlying69]
    exact DataW.weights_mem_each (j := 1) rfl rfl n hn
/-- A path, out of its reading. -/
theorem path_of {H : Type} {enc : TypeId × Value → H} {W : World} {fuel : Nat} {a : Option Addr} {len cap : Nat} {x : DataW H × List MemPlace} (h : DataW.trod enc Tryd.prog W 0 (fun _ => true) true fuel 30 [.slice a len cap] = some x) : ∃ ss : List (Bool × List Int), ss.length = len ∧ len ≤ cap ∧ PthRd W a ss ∧ ∀ R, (∀ n ∈ x.1.weights Tryd.prog 30, n ≤ R) → len * 32 ≤ R ∧ ∀ s ∈ ss, s.2.length * 8 ≤ R := by
  rcases Go.Deep.open_slice Tryd.underlying30 h with ⟨e, _⟩ | ⟨y, l, c, m, n, D, Pl, e, _, hl, hm, hmm, hxe, hx⟩
  · simp at e
    obtain ⟨_, rfl, _⟩ := e
    exact ⟨[], rfl, Nat.zero_le _, ⟨fun h => absurd h (by simp), by simp, fun x hx => by simp at hx⟩, fun R _ => ⟨by simp, fun s hs => by simp at hs⟩⟩
  · simp at e
    obtain ⟨rfl, rfl, rfl⟩ := e
    have k2 : Tryd.prog.cellsOf 69 = 2 := by kernel_rfl
    simp at hmm
    subst hmm
    have hq : ∀ i, i < len → ∃ s : Bool × List Int, (∀ b off, y = ⟨b, off, none⟩ → W.cell? ⟨b, off + i * 2, none⟩ = some (.bool s.1) ∧ ∃ a' c', W.cell? ⟨b, off + i * 2 + 1, none⟩ = some (.slice a' s.2.length c') ∧ IRd W a' s.2) ∧ s.2.length ≤ maxLen ∧ ∀ R, (∀ n ∈ (D i).weights Tryd.prog 69, n ≤ R) → s.2.length * 8 ≤ R := fun i hi => by
      obtain ⟨cs', h1, h2⟩ := hx i (by omega)
      rw [k2] at h1
      obtain ⟨_, hlen, hcell⟩ := World.cells?_some h1
      obtain ⟨t, a', c', zs, rfl, hi2, hz, hR⟩ := seg_cells h2 hlen
      refine ⟨(t, zs), fun b off hy => ?_, hz, hR⟩
      subst hy
      have q0 := hcell 0 (by omega)
      have q1 := hcell 1 (by omega)
      rw [Addr.add_mid, Addr.add_mid] at q0 q1
      exact ⟨q0, a', c', q1, hi2⟩
    obtain ⟨F, hF⟩ : ∃ F : Nat → Bool × List Int, ∀ i, i < len → (∀ b off, y = ⟨b, off, none⟩ → W.cell? ⟨b, off + i * 2, none⟩ = some (.bool (F i).1) ∧ ∃ a' c', W.cell? ⟨b, off + i * 2 + 1, none⟩ = some (.slice a' (F i).2.length c') ∧ IRd W a' (F i).2) ∧ (F i).2.length ≤ maxLen ∧ ∀ R, (∀ n ∈ (D i).weights Tryd.prog 69, n ≤ R) → (F i).2.length * 8 ≤ R :=
      ⟨fun i => if h : i < len then Classical.choose (hq i h) else (false, []), fun i hi => by
        simp only [dif_pos hi]
        exact Classical.choose_spec (hq i hi)⟩
    refine ⟨(List.range len).map F, by simp, hl, ⟨fun hp => ?_, by simp; omega, fun s hs => ?_⟩, fun R hR => ?_⟩
    · have hp2 : 0 < len := by simpa using hp
      obtain ⟨b, off, spot⟩ := y
      have hs : spot = none := by
        obtain ⟨cs', h1, _⟩ := hx 0 (by omega)
        rw [k2] at h1
        obtain ⟨_, hlen, hcell⟩ := World.cells?_some h1
        have h0 := hcell 0 (by omega)
        rw [List.getElem?_eq_getElem (by omega)] at h0
        simpa [Addr.add] using World.cell?_spot h0
      subst hs
      refine ⟨b, off, rfl, fun i s hi => ?_⟩
      have hil : i < len := by
        have := (List.getElem?_eq_some_iff.1 hi).1
        simpa using this
      have e : s = F i := by
        have := (List.getElem?_eq_some_iff.1 hi).2
        simpa using this.symm
      rw [e]
      exact (hF i hil).1 b off rfl
    · obtain ⟨i, hi, rfl⟩ := List.mem_map.1 hs
      exact (hF i (by simpa using hi)).2.1
    · subst hxe
      simp only [DataW.weights, Tryd.underlying30] at hR
      refine ⟨?_, fun s hs => ?_⟩
      · have h9 := hR _ (List.mem_cons_self ..)
        rw [bytesSeg] at h9
        simp only [List.length_map, List.length_range] at h9
        exact Nat.le_trans (Nat.mul_le_mul_right 32 (Nat.le_add_right len _)) h9
      · obtain ⟨i, hi, rfl⟩ := List.mem_map.1 hs
        exact (hF i (by simpa using hi)).2.2 R fun n hn => hR n (List.mem_cons_of_mem _ (List.mem_append_left _ (weightsAll_mem hn (List.mem_map.2 ⟨i, hi, rfl⟩))))
end Go.Proofs.YthigjonagbfbbaaDoor
/- The document's GoodPath. -/
namespace Go.Proofs.YthigjonagbfbbaaDoor
open Go.RowKit
set_option maxRecDepth 100000

set_option maxHeartbeats 1600000 in
theorem rgood_some (b off n cap : Nat) (ss : List (Bool × List Int)) (w : World) (hn : ss.length = n) (hsum : n + sumP ss ≤ 100000) (hc : ∀ i s, ss[i]? = some s → w.cell? ⟨b, off + i * 2, none⟩ = some (.bool s.1) ∧ ∃ a' c', w.cell? ⟨b, off + i * 2 + 1, none⟩ = some (.slice a' s.2.length c') ∧ IRd w a' s.2) :
    Calls Tryd.prog 48 #[.slice (some ⟨b, off, none⟩) n cap] w fun e w' => e = .returned (.bool (goodP ss)) ∧ w' = w := by
  have HC := hide hc
  have HN := hide hn
  clear hc hn
  go_enter Tryd.func48, Tryd.ntmps48
  go_wp2
  go_loop [3, 4] (fun t i => ∃ k x : Nat, k ≤ n ∧ i = .int .i64 k ∧ t = .int .i64 (x : Int) ∧ Hid (x = sumP (ss.take k)) ∧ Hid ((ss.take k).all okS = true)) (fun _ i => n - (intOf i).toNat)
  case atStart => exact ⟨0, 0, Nat.zero_le _, rfl, rfl, rfl, rfl⟩
  case round =>
    obtain ⟨k, x, hk, rfl, rfl, HX, HA⟩ := hrel
    by_cases hlt : k < n
    · have hkp : k < ss.length := by rw [HN.out]; exact hlt
      obtain ⟨c0, a', c', c1, hr⟩ := HC.out k ss[k] (List.getElem?_eq_getElem hkp)
      have HR := hide hr
      clear hr
      have HT : Hid (sumP (ss.take (k + 1)) = sumP (ss.take k) + (ss[k]).2.length) := by show sumP (ss.take (k + 1)) = _; rw [List.take_succ_eq_append_getElem hkp, sumP_snoc]
      have HTA : Hid ((ss.take (k + 1)).all okS = ((ss.take k).all okS && okS ss[k])) := by show (ss.take (k + 1)).all okS = _; rw [List.take_succ_eq_append_getElem hkp]; simp only [List.all_append, List.all_cons, List.all_nil, Bool.and_true]
      have HNO : Hid (okS ss[k] = false → goodP ss = false) := goodP_no (List.getElem_mem hkp)
      have hx : x ≤ 100000 := by have := sumP_take ss k; rw [HX.out]; omega
      have hl : (ss[k]).2.length ≤ 100000 := by have := sumP_mem ss _ (List.getElem_mem hkp); omega
      generalize hsk : ss[k] = s at *
      clear hsk
      obtain ⟨b1, zs⟩ := s
      simp only at hl c1 c0
      generalize hll : zs.length = l at *
      have HLL := hide hll
      clear hll
      have hk0 : (0 : Int) ≤ (k : Int) := Int.natCast_nonneg _
      have hk1 : (k : Int) < (n : Int) := by omega
      by_cases h1 : l < 1
      · have HG : Hid (goodP ss = false) := HNO.out (okS_len (by show ¬ (1 ≤ zs.length ∧ zs.length ≤ 255); rw [HLL.out]; omega))
        have i1 : (l : Int) < 1 := by omega
        go_wp2
        go_ret
        exact ⟨ret_bool HG.out.symm, rfl⟩
      · by_cases h2 : 255 < l
        · have HG : Hid (goodP ss = false) := HNO.out (okS_len (by show ¬ (1 ≤ zs.length ∧ zs.length ≤ 255); rw [HLL.out]; omega))
          have i1 : decide ((l : Int) < 1) = false := decide_eq_false (by omega)
          have i2 : (255 : Int) < (l : Int) := by omega
          go_wp2
          go_ret
          exact ⟨ret_bool HG.out.symm, rfl⟩
        · have i1 : decide ((l : Int) < 1) = false := decide_eq_false (by omega)
          have i2 : decide ((255 : Int) < (l : Int)) = false := decide_eq_false (by omega)
          have hl255 : l ≤ 255 := by omega
          go_wp2
          go_loop [3, 5] (fun t i => ∃ q y : Nat, q ≤ l ∧ i = .int .i64 q ∧ t = .int .i64 (y : Int) ∧ Hid (y = x + q) ∧ Hid ((zs.take q).all okN = true)) (fun _ i => l - (intOf i).toNat)
          case atStart => exact ⟨0, x, Nat.zero_le _, rfl, rfl, rfl, rfl⟩
          case round =>
            obtain ⟨q, y, hq, rfl, rfl, HY, HQ⟩ := hrel
            have hy : y ≤ 200000 := by rw [HY.out]; omega
            by_cases hlq : q < l
            · have hqp : q < zs.length := by rw [HLL.out]; exact hlq
              obtain ⟨b2, o2, e2, hcz⟩ := HR.out (by show 0 < zs.length; omega)
              subst e2
              have cz := hcz q zs[q] (List.getElem?_eq_getElem hqp)
              have HTQ : Hid ((zs.take (q + 1)).all okN = ((zs.take q).all okN && okN zs[q])) := by show (zs.take (q + 1)).all _ = _; rw [List.take_succ_eq_append_getElem hqp]; simp only [List.all_append, List.all_cons, List.all_nil, Bool.and_true]
              have HZ : Hid (okN zs[q] = false → goodP ss = false) := fun h => HNO.out (okS_num (List.getElem_mem hqp) h)
              clear hcz
              generalize zs[q] = z at *
              have hq0 : (0 : Int) ≤ (q : Int) := Int.natCast_nonneg _
              have hq1 : (q : Int) < (l : Int) := by omega
              by_cases hz1 : z < 1
              · have HG : Hid (goodP ss = false) := HZ.out (decide_eq_false (by omega))
                go_wp2
                go_ret
                exact ⟨ret_bool HG.out.symm, rfl⟩
              · by_cases hz2 : 4294967295 < z
                · have HG : Hid (goodP ss = false) := HZ.out (decide_eq_false (by omega))
                  have j1 : decide (z < 1) = false := decide_eq_false hz1
                  go_wp2
                  go_ret
                  exact ⟨ret_bool HG.out.symm, rfl⟩
                · have j1 : decide (z < 1) = false := decide_eq_false hz1
                  have j2 : decide (4294967295 < z) = false := decide_eq_false hz2
                  have HQ2 : Hid ((zs.take (q + 1)).all okN = true) := by
                    show (zs.take (q + 1)).all okN = true
                    rw [HTQ.out, HQ.out, show okN z = true from decide_eq_true (by omega)]; rfl
                  clear hz1 hz2
                  go_wp2
                  exact ⟨⟨q + 1, y + 1, by omega, by go_num, by go_num, by show y + 1 = x + (q + 1); rw [HY.out]; omega, HQ2⟩, by simp [intOf]; omega⟩
            · have hql : q = l := by omega
              subst hql
              have HS : Hid (okS (b1, zs) = true) := by
                show okS (b1, zs) = true
                have hz := HQ.out
                rw [List.take_of_length_le (by rw [HLL.out]; omega)] at hz
                unfold okS
                rw [hz, decide_eq_true (by show 1 ≤ zs.length ∧ zs.length ≤ 255; rw [HLL.out]; omega)]; rfl
              go_wp2
              exact ⟨⟨k + 1, y, by omega, by go_num, rfl, by show y = _; rw [HT.out, HY.out, HX.out], by show (ss.take (k + 1)).all okS = true; rw [HTA.out, HA.out, HS.out]; rfl⟩, by simp [intOf]; omega⟩
    · have hkl : ss.take k = ss := List.take_of_length_le (by rw [HN.out]; omega)
      rw [hkl] at HX HA
      have HG : Hid (goodP ss = decide (sumP ss ≤ 64)) := by show goodP ss = _; unfold goodP; rw [HA.out, Bool.true_and]
      go_wp2
      go_ret
      exact ⟨ret_bool (by rw [HG.out, HX.out, Bool.eq_iff_iff]; simp; omega), rfl⟩
set_option maxHeartbeats 400000 in
theorem rgood_empty (a : Option Addr) (cap : Nat) (w : World) : Calls Tryd.prog 48 #[.slice a 0 cap] w fun e w' => e = .returned (.bool true) ∧ w' = w := by
  go_enter Tryd.func48, Tryd.ntmps48
  go_wp2
  go_loop [3, 4] (fun t i => i = .int .i64 0 ∧ t = .int .i64 0) (fun _ i => 0 - (intOf i).toNat)
  case atStart => exact ⟨rfl, rfl⟩
  case round =>
    obtain ⟨rfl, rfl⟩ := hrel
    go_wp2
    go_ret
    exact ⟨rfl, rfl⟩
theorem rgood_any (a : Option Addr) (cap : Nat) (ss : List (Bool × List Int)) (w : World) (hsum : ss.length + sumP ss ≤ 100000) (h : PthRd w a ss) : Calls Tryd.prog 48 #[.slice a ss.length cap] w fun e w' => e = .returned (.bool (goodP ss)) ∧ w' = w := by
  by_cases h0 : ss = []
  · subst h0; exact rgood_empty a cap w
  · obtain ⟨b, off, rfl, hc⟩ := h.cells (List.length_pos_iff.2 h0)
    exact rgood_some b off _ cap ss w rfl hsum hc
end Go.Proofs.YthigjonagbfbbaaDoor
/- append onto a row of the call's own; bytes. -/
namespace Go.Proofs.YthigjonagbfbbaaDoor
open Go.RowKit
set_option maxRecDepth 100000

theorem Tryd.infoU8 : (Tryd.prog.info? 5).map (fun i => (i.zero, i.size, i.bytes)) = some (some (.int .u8 0), 1, 1) := by kernel_rfl
theorem info_parts {P : Program} {t : TypeId} {z : Option Value} {s b : Nat} (h : (P.info? t).map (fun i => (i.zero, i.size, i.bytes)) = some (z, s, b)) : ∃ i, P.info? t = some i ∧ i.zero = z ∧ i.size = s ∧ i.bytes = b := by
  cases hi : P.info? t with
  | none => rw [hi] at h; cases h
  | some i =>
    rw [hi] at h
    simp at h
    exact ⟨i, rfl, h.1, h.2.1, h.2.2⟩
/-- What append asks of a slice's type t and its elements' e. -/
structure Elem (t e : TypeId) (size bytes : Nat) : Prop where
  sl : Tryd.prog.underlying t = some (.slice e)
  info : ∃ i z, Tryd.prog.info? e = some i ∧ i.zero = some z ∧ i.size = size ∧ i.bytes = bytes ∧ z.cells.size = size
  pos : 0 < size
  small : bytes ≤ 1000
theorem elemU8 : Elem 71 5 1 1 := by
  obtain ⟨i, h1, h2, h3, h4⟩ := info_parts Tryd.infoU8
  exact ⟨Tryd.underlying71, ⟨i, _, h1, h2, h3, h4, rfl⟩, by omega, by omega⟩
theorem own_block {w : World} {B e size n : Nat} {v : Value} {xs : List Value} (h : w.ownsRow B e size v n xs) : ∀ b, v.ownBlock = some b → B ≤ b ∧ b < w.heap.size := by
  intro b hb
  rcases h.2 with ⟨rfl, _⟩ | ⟨g, cap, cur, rfl, hg, hc, _⟩
  · simp [Value.ownBlock] at hb
  · simp [Value.ownBlock] at hb
    subst hb
    exact ⟨hg, (Array.getElem?_eq_some_iff.1 hc).1⟩
theorem own_later {w w' : World} {B e size n : Nat} {v : Value} {xs : List Value} (h : w.ownsRow B e size v n xs) (hb : Below w.heap.size w w') : w'.ownsRow B e size v n xs := by
  refine ⟨h.1, ?_⟩
  rcases h.2 with hh | ⟨g, cap, cur, e1, hg, hc, rest⟩
  · exact .inl hh
  · exact .inr ⟨g, cap, cur, e1, hg, by rw [hb.block g (Array.getElem?_eq_some_iff.1 hc).1]; exact hc, rest⟩
theorem own_nil (w : World) (B e size : Nat) : w.ownsRow B e size (.slice none 0 0) 0 [] := ⟨by simp, .inl ⟨rfl, rfl⟩⟩
/-- append of what lies elsewhere. -/
theorem app_old {t e size bytes : Nat} (he : Elem t e size bytes) {w : World} {B n : Nat} {v : Value} {xs : List Value} (ho : w.ownsRow B e size v n xs) (hB : B ≤ w.heap.size) (a : Addr) (m c : Nat) (news : List Value) (hl : news.length = m * size)
    (hnews : ∀ j u, news[j]? = some u → w.cell? (a.add j) = some u) (h1 : ∀ u ∈ news, u.oneCell' = true) (hn : n + m ≤ 1000000) :
    ∃ v' w', (Builtin.append_ #[t, t] t #[v, .slice (some a) m c]).run Tryd.prog w = .ok v' w' ∧ w'.ownsRow B e size v' (n + m) (xs ++ news) ∧ Below B w w' := by
  obtain ⟨i, z, hi, hz, hsz, hby, hzs⟩ := he.info
  have hsm := he.small
  have hb : (n + m) * bytes ≤ 1000000 * 1000 := Nat.mul_le_mul hn hsm
  obtain ⟨v', w', hr, h2, h3, _, _⟩ := run_append_own_at (P := Tryd.prog) w B t t e i z size bytes he.sl hi hz hsz hby hzs he.pos v n xs ho a m c news hl hnews h1 (by unfold maxLen; omega) (by omega) hB
  exact ⟨v', w', hr, h2, ((Keeps.refl (fun b => v.ownBlock = some b) w).grown h3 (fun b e => .inl e)).below B hB (fun b e => (own_block ho b e).1)⟩
/-- append of elements that were laid just now. -/
theorem app_new {t e size bytes : Nat} (he : Elem t e size bytes) {w : World} {B n : Nat} {v : Value} {xs : List Value} (ho : w.ownsRow B e size v n xs) (hB : B ≤ w.heap.size) (m : Nat) (news : List Value) (hl : news.length = m * size)
    (h1 : ∀ u ∈ news, u.oneCell' = true) (hn : n + m ≤ 1000000) (H : Nat) (hH : w.heap.size = H) :
    ∃ v' w', (Builtin.append_ #[t, t] t #[v, .slice (some ⟨H, 0, none⟩) m m]).run Tryd.prog (w.alloc (.cells news.toArray e)) = .ok v' w' ∧ w'.ownsRow B e size v' (n + m) (xs ++ news) ∧ Below B w w' := by
  subst hH
  have hb1 : Below B w (w.alloc (.cells news.toArray e)) := (Below.refl _ _).alloc hB _
  obtain ⟨v', w', hr, h2, h3⟩ := app_old he (ho.alloc _) (w := w.alloc (.cells news.toArray e)) (by simp; omega) ⟨w.heap.size, 0, none⟩ m m news hl (fun j u hu => by
    rw [Addr.add_mid, Nat.zero_add, World.cell?_alloc_mark]
    simpa using hu) h1 hn
  exact ⟨v', w', hr, h2, hb1.trans h3⟩
section
variable {P : Program} {ops : Array Oper} {rest : List Oper} {a : Act} {w w' : World} {Q : Exit → Act → World → Prop} {dst : Option Tmp} {ty : TypeId} {pos : String} {after : Array Edge}
theorem wpl_append (d s : Operand) (t : TypeId) (p v : Value) (r : Value) (hd : a.eval d = p) (hs : a.eval s = v) (hr : (Builtin.append_ #[t, t] ty #[p, v]).run P w = .ok r w') (h : wpList P ops Q rest (a.put dst r) w') :
    wpList P ops Q ({ dst := dst, op := .call { callee := .builtin .append, args := #[d, s], argTypes := #[t, t] }, type := ty, pos := pos, after := after, guard := none } :: rest) a w :=
  wpList_plain rfl fun K hK => by
    unfold Oper.wp execOp
    simp only [resolve, invoke, builtin, Sem.run_bind, Sem.run_pure, Result.andThen_ok, List.map_toArray, List.map_cons, List.map_nil, hd, hs, hr]
    exact hK _ _ h
end
/-- The cells of bytes. -/
def bcells (l : List Nat) : List Value := l.map fun (x : Nat) => Value.int .u8 (x : Int)
theorem bcells_app (l r : List Nat) : bcells (l ++ r) = bcells l ++ bcells r := by simp [bcells]
theorem bcells_one (l : List Nat) : ∀ u ∈ bcells l, u.oneCell' = true := by
  intro u hu
  obtain ⟨i, _, rfl⟩ := List.mem_map.1 hu
  rfl
theorem bcells_length (l : List Nat) : (bcells l).length = l.length := by simp [bcells]
def sliceLen : Value → Nat
  | .slice _ n _ => n
  | _ => 0
/-- append of what lies elsewhere, and what it turns. -/
theorem app_more {t e size bytes : Nat} (he : Elem t e size bytes) {w : World} {B n : Nat} {v : Value} {xs : List Value} (ho : w.ownsRow B e size v n xs) (hB : B ≤ w.heap.size) (a : Addr) (m c : Nat) (news : List Value) (hl : news.length = m * size)
    (hnews : ∀ j u, news[j]? = some u → w.cell? (a.add j) = some u) (h1 : ∀ u ∈ news, u.oneCell' = true) (hn : n + m ≤ 1000000) :
    ∃ v' w', (Builtin.append_ #[t, t] t #[v, .slice (some a) m c]).run Tryd.prog w = .ok v' w' ∧ w'.ownsRow B e size v' (n + m) (xs ++ news) ∧ Below B w w' ∧ w.grownBy w' v.ownBlock ∧ (v'.ownBlock = v.ownBlock ∨ v'.ownBlock = some w.heap.size) := by
  obtain ⟨i, z, hi, hz, hsz, hby, hzs⟩ := he.info
  have hsm := he.small
  have hb : (n + m) * bytes ≤ 1000000 * 1000 := Nat.mul_le_mul hn hsm
  obtain ⟨v', w', hr, h2, h3, _, h5⟩ := run_append_own_at (P := Tryd.prog) w B t t e i z size bytes he.sl hi hz hsz hby hzs he.pos v n xs ho a m c news hl hnews h1 (by unfold maxLen; omega) (by omega) hB
  exact ⟨v', w', hr, h2, ((Keeps.refl (fun b => v.ownBlock = some b) w).grown h3 (fun b e => .inl e)).below B hB (fun b e => (own_block ho b e).1), h3, h5⟩
/-- An operation that the walk's own rules are kept from. -/
def Kept (P : Program) (o : Oper) (a : Act) (w : World) (K : Act → World → Prop) (Q : Exit → Act → World → Prop) : Prop := Oper.wp P o a w K Q
section
variable {P : Program} {a : Act} {w w' : World} {K : Act → World → Prop} {Q : Exit → Act → World → Prop} {dst : Option Tmp} {ty : TypeId} {pos : String} {after : Array Edge} {gd : Option (Nat × Bool)}
theorem kept_append (x y : Operand) : Oper.wp P { dst := dst, op := .call { callee := .builtin .append, args := #[x, y], argTypes := #[71, 71] }, type := ty, pos := pos, after := after, guard := gd } a w K Q = Kept P { dst := dst, op := .call { callee := .builtin .append, args := #[x, y], argTypes := #[71, 71] }, type := ty, pos := pos, after := after, guard := gd } a w K Q := rfl
theorem kept_append_intro (x y : Operand) (p q v : Value) (hx : a.eval x = p) (hy : a.eval y = q) (hr : (Builtin.append_ #[71, 71] ty #[p, q]).run P w = .ok v w') (h : K (a.put dst v) w') :
    Kept P { dst := dst, op := .call { callee := .builtin .append, args := #[x, y], argTypes := #[71, 71] }, type := ty, pos := pos, after := after, guard := gd } a w K Q := by
  unfold Kept Oper.wp execOp
  simp only [resolve, invoke, builtin, Sem.run_bind, Sem.run_pure, Result.andThen_ok, List.map_toArray, List.map_cons, List.map_nil, hx, hy, hr]
  exact h
end
end Go.Proofs.YthigjonagbfbbaaDoor
