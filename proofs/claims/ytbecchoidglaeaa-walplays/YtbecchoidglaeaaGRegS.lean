/- The program's region: its small functions: Size, isGeneration, isZero, fits, lengthIn; and bytes.Equal. -/
import Derived.Test.YtbecchoidglaeaaGEnt
import Derived.Test.YtbecchoidglaeaaGRef
import Derived.Test.YtbecchoidglaeaaGRDisk
namespace Go.Proofs.Ytbecchoidglaeaa
open Go.RowKit
set_option maxRecDepth 100000

set_option maxHeartbeats 400000 in
theorem size_any (n : Int) (w : World) (hn : -9223372036854775808 ≤ n ∧ n ≤ 9223372036854775807) :
    Calls Try.prog 50 #[.int .i64 n] w fun e w' => e = .returned (.int .i64 (cnt n.toNat : Int)) ∧ w' = w := by
  have HC : Hid ((cnt n.toNat : Int) = 1 + (n.toNat + 63) / 64) := by show ((cnt n.toNat : Nat) : Int) = _; unfold cnt; omega
  by_cases h0 : n < 0
  · go_enter Try.func50, Try.ntmps50
    go_wp2
    go_ret
    exact ⟨ret_int (by rw [HC.out, show n.toNat = 0 from by omega]; rfl), rfl⟩
  · by_cases h1 : n % 64 = 0
    · have e1 : (n.tmod 64 != 0) = false := by rw [Int.tmod_eq_emod_of_nonneg (by omega), h1]; rfl
      go_enter Try.func50, Try.ntmps50
      go_wp2
      go_ret
      exact ⟨ret_int (by rw [HC.out]; omega), rfl⟩
    · have e1 : (n % 64 != 0) = true := by simp [h1]
      go_enter Try.func50, Try.ntmps50
      go_wp2
      go_ret
      exact ⟨ret_int (by rw [HC.out]; omega), rfl⟩
set_option maxHeartbeats 400000 in
theorem isGen_any (g : Int) (w : World) : Calls Try.prog 64 #[.int .i64 g] w fun e w' => e = .returned (.bool (decide (0 ≤ g ∧ g ≤ 2147483647))) ∧ w' = w := by
  by_cases h0 : 0 ≤ g
  · go_enter Try.func64, Try.ntmps64
    go_wp2
    go_ret
    exact ⟨ret_bool (by simp [h0]), rfl⟩
  · go_enter Try.func64, Try.ntmps64
    go_wp2
    go_ret
    exact ⟨ret_bool (by simp; omega), rfl⟩
/-- Is each of the bytes f 0 .. f (n - 1) 0? -/
def allZ (f : Nat → Nat) (n : Nat) : Bool := (List.range n).all fun i => f i == 0
theorem allZ_iff (f : Nat → Nat) (n : Nat) : allZ f n = true ↔ ∀ i, i < n → f i = 0 := by simp [allZ]
set_option maxHeartbeats 400000 in
theorem isZero_some (b off len cap : Nat) (f : Nat → Nat) (w : World) (hm : len ≤ maxLen) (hc : ∀ i, i < len → w.cell? ⟨b, off + i, none⟩ = some (.int .u8 (f i : Int))) :
    Calls Try.prog 66 #[.slice (some ⟨b, off, none⟩) len cap] w fun e w' => e = .returned (.bool (allZ f len)) ∧ w' = w := by
  unfold maxLen at hm
  have HC := hide hc
  clear hc
  go_enter Try.func66, Try.ntmps66
  go_wp2
  go_loop [7] (fun i => ∃ k : Nat, k ≤ len ∧ i = .int .i64 k ∧ ∀ j, j < k → f j = 0) (fun i => len - (intOf i).toNat)
  case atStart => exact ⟨0, Nat.zero_le _, rfl, fun j hj => absurd hj (by omega)⟩
  case round =>
    obtain ⟨k, hk, rfl, hz⟩ := hrel
    have HZ := hide hz
    clear hz
    by_cases hlt : k < len
    · have hck := HC.out k hlt
      have hk0 : (0 : Int) ≤ (k : Int) := Int.natCast_nonneg _
      have hk1 : (k : Int) < (len : Int) := by omega
      by_cases h0 : f k = 0
      · have e0 : (((f k : Nat) : Int) != 0) = false := by rw [h0]; rfl
        have H0 := hide h0
        clear h0
        go_wp2
        exact ⟨⟨k + 1, by omega, by go_num, fun j hj => by
          by_cases e : j = k
          · rw [e]; exact H0.out
          · exact HZ.out j (by omega)⟩, by simp [intOf]; omega⟩
      · have e0 : (((f k : Nat) : Int) != 0) = true := by simp; omega
        have H0 := hide h0
        clear h0
        go_wp2
        go_ret
        exact ⟨ret_bool (by cases h : allZ f len with | false => rfl | true => exact absurd ((allZ_iff f len).1 h k hlt) H0.out), rfl⟩
    · go_wp2
      go_ret
      exact ⟨ret_bool ((allZ_iff f len).2 fun i hi => HZ.out i (by omega)).symm, rfl⟩
set_option maxHeartbeats 400000 in
theorem isZero_empty (a : Option Addr) (cap : Nat) (w : World) :
    Calls Try.prog 66 #[.slice a 0 cap] w fun e w' => e = .returned (.bool true) ∧ w' = w := by
  go_enter Try.func66, Try.ntmps66
  go_wp2
  go_loop [7] (fun i => i = .int .i64 0) (fun i => 0 - (intOf i).toNat)
  case atStart => rfl
  case round =>
    obtain rfl := hrel
    go_wp2
    go_ret
    exact ⟨rfl, rfl⟩
theorem isZero_any (a : Option Addr) (len cap : Nat) (f : Nat → Nat) (w : World) (h : Rw w a len f) :
    Calls Try.prog 66 #[.slice a len cap] w fun e w' => e = .returned (.bool (allZ f len)) ∧ w' = w := by
  by_cases h0 : len = 0
  · subst h0
    refine (isZero_empty a cap w).mono ?_
    rintro e w' ⟨rfl, rfl⟩
    exact ⟨rfl, rfl⟩
  · obtain ⟨b, off, rfl, hc⟩ := h.2 (by omega)
    exact isZero_some b off len cap f w h.1 hc
/-- Has an entry of n bytes, from sector at_ on, room up to e, and on the disk? -/
def fit (m : Nat) (at_ : Nat) (e : Int) (n : Nat) : Bool := decide ((at_ : Int) < min e (m : Int) ∧ (cnt n : Int) ≤ min e (m : Int) - (at_ : Int))
theorem fit_iff (m : Nat) (at_ : Nat) (e : Int) (n : Nat) : fit m at_ e n = true ↔ (at_ : Int) < min e (m : Int) ∧ (cnt n : Int) ≤ min e (m : Int) - (at_ : Int) := by simp [fit]
theorem fit_some {m at_ n : Nat} {e : Int} {x : Int} (hx : x = min e (m : Int)) (h : (at_ : Int) < x) : decide ((cnt n : Int) ≤ x - (at_ : Int)) = fit m at_ e n := by
  subst hx
  unfold fit
  simp [h]
theorem fit_none {m at_ n : Nat} {e : Int} (h : ¬ (at_ : Int) < min e (m : Int)) : false = fit m at_ e n := by
  unfold fit
  simp [h]
set_option maxHeartbeats 400000 in
theorem fits_any {w : World} {D : Nat} {s : St} {F : Nat → Prop} (h : Disk w D s F) (at_ : Nat) (e : Int) (n : Nat) (hs : s.n ≤ 1024) (hn : (n : Int) ≤ 9223372036854775807) :
    Calls Try.prog 68 #[.pointer (some ⟨D, 0, none⟩), .int .i64 (at_ : Int), .int .i64 e, .int .i64 (n : Int)] w fun r w' => r = .returned (.bool (fit s.n at_ e n)) ∧ w' = w := by
  have H := hide h
  have hcn : (cnt n : Int) = 1 + ((n : Int) + 63) / 64 := by unfold cnt; omega
  have HN := hide hcn
  clear h hcn
  by_cases he : e ≤ (s.n : Int)
  · by_cases h1 : (at_ : Int) < e
    · go_enter Try.func68, Try.ntmps68
      go_wp2_with fail
      refine (disk_len H.out).mono ?_
      rintro r w1 ⟨rfl, rfl⟩
      go_wp2_with fail
      refine (size_any (n : Int) _ (by omega)).mono ?_
      rintro r w2 ⟨rfl, rfl⟩
      rw [Int.toNat_natCast]
      go_wp2
      go_ret
      exact ⟨ret_bool (fit_some (by omega) h1), rfl⟩
    · go_enter Try.func68, Try.ntmps68
      go_wp2_with fail
      refine (disk_len H.out).mono ?_
      rintro r w1 ⟨rfl, rfl⟩
      go_wp2
      go_ret
      exact ⟨ret_bool (fit_none (by omega)), rfl⟩
  · by_cases h1 : (at_ : Int) < (s.n : Int)
    · go_enter Try.func68, Try.ntmps68
      go_wp2_with fail
      refine (disk_len H.out).mono ?_
      rintro r w1 ⟨rfl, rfl⟩
      go_wp2_with fail
      refine (size_any (n : Int) _ (by omega)).mono ?_
      rintro r w2 ⟨rfl, rfl⟩
      rw [Int.toNat_natCast]
      go_wp2
      go_ret
      exact ⟨ret_bool (fit_some (by omega) h1), rfl⟩
    · go_enter Try.func68, Try.ntmps68
      go_wp2_with fail
      refine (disk_len H.out).mono ?_
      rintro r w1 ⟨rfl, rfl⟩
      go_wp2
      go_ret
      exact ⟨ret_bool (fit_none (by omega)), rfl⟩
theorem or_i64 (x y i : Nat) (hx : x * 2 ^ i < 4294967296) (hy : y < 2 ^ i) (hi : i ≤ 24) : bits .or .i64 ((x : Int) * 2 ^ i) (y : Int) = ((x * 2 ^ i + y : Nat) : Int) := by
  have hp : (2 : Nat) ^ i ≤ 2 ^ 24 := Nat.pow_le_pow_right (by omega) hi
  have h1 : x * 2 ^ i ||| y = x * 2 ^ i + y := by rw [Nat.mul_comm, ← Nat.two_pow_add_eq_or_of_lt hy x]
  have e1 : ((x : Int) * 2 ^ i) = ((x * 2 ^ i : Nat) : Int) := by norm_cast
  rw [e1]
  have ha : (BitVec.ofInt 64 ((x * 2 ^ i : Nat) : Int)).toNat = x * 2 ^ i := by
    rw [BitVec.ofInt_natCast, BitVec.toNat_ofNat]; exact Nat.mod_eq_of_lt (by omega)
  have hb : (BitVec.ofInt 64 (y : Int)).toNat = y := by
    rw [BitVec.ofInt_natCast, BitVec.toNat_ofNat]; exact Nat.mod_eq_of_lt (by omega)
  show IntKind.i64.wrap ((BitVec.ofInt 64 ((x * 2 ^ i : Nat) : Int) ||| BitVec.ofInt 64 (y : Int)).toNat : Int) = _
  rw [BitVec.toNat_or, ha, hb, h1]
  generalize x * 2 ^ i = q at *
  rw [IntKind.wrap_i64]
  omega
set_option maxHeartbeats 800000 in
theorem lenIn_eq (b off len cap : Nat) (f : Nat → Nat) (w : World) (hl : 8 ≤ len) (hf : ∀ i, i < 8 → f i < 256) (hc : ∀ i, i < 8 → w.cell? ⟨b, off + i, none⟩ = some (.int .u8 (f i : Int))) :
    Calls Try.prog 73 #[.slice (some ⟨b, off, none⟩) len cap] w fun e w' => e = .returned (.int .i64 (num (fun i => f (4 + i)) : Int)) ∧ ∃ k, w' = w.drewN k := by
  have h0 := hf 4 (by omega)
  have h1 := hf 5 (by omega)
  have h2 := hf 6 (by omega)
  have h3 := hf 7 (by omega)
  have c0 := hc 4 (by omega)
  have c1 := hc 5 (by omega)
  have c2 := hc 6 (by omega)
  have c3 := hc 7 (by omega)
  have l0 : (4 : Int) < (len : Int) := by omega
  have l1 : (5 : Int) < (len : Int) := by omega
  have l2 : (6 : Int) < (len : Int) := by omega
  have l3 : (7 : Int) < (len : Int) := by omega
  have HN : Hid (num (fun i => f (4 + i)) = f 4 * 16777216 + f 5 * 65536 + f 6 * 256 + f 7) := rfl
  clear hc hf
  generalize f 4 = x0 at *
  generalize f 5 = x1 at *
  generalize f 6 = x2 at *
  generalize f 7 = x3 at *
  have o1 : bits .or .i64 ((x0 : Int) * 16777216) ((x1 : Int) * 65536) = (((x0 * 256 + x1) : Nat) : Int) * 65536 := by
    have := or_i64 x0 (x1 * 65536) 24 (by omega) (by omega) (by omega)
    rw [show ((x1 * 65536 : Nat) : Int) = (x1 : Int) * 65536 from by omega, show ((2 : Int) ^ 24) = 16777216 from rfl] at this
    rw [this]; omega
  have o2 : bits .or .i64 ((((x0 * 256 + x1) : Nat) : Int) * 65536) ((x2 : Int) * 256) = (((x0 * 65536 + x1 * 256 + x2) : Nat) : Int) * 256 := by
    have := or_i64 (x0 * 256 + x1) (x2 * 256) 16 (by omega) (by omega) (by omega)
    rw [show ((x2 * 256 : Nat) : Int) = (x2 : Int) * 256 from by omega, show ((2 : Int) ^ 16) = 65536 from rfl] at this
    rw [this]; omega
  have o3 : bits .or .i64 ((((x0 * 65536 + x1 * 256 + x2) : Nat) : Int) * 256) (x3 : Int) = ((x0 * 16777216 + x1 * 65536 + x2 * 256 + x3 : Nat) : Int) := by
    have := or_i64 (x0 * 65536 + x1 * 256 + x2) x3 8 (by omega) (by omega) (by omega)
    rw [show ((2 : Int) ^ 8) = 256 from rfl] at this
    rw [this]; omega
  have O := hide (And.intro o1 (And.intro o2 o3))
  clear o1 o2 o3
  go_enter Try.func73, Try.ntmps73
  go_wp2_with fail
  go_quiet (fail)
  go_wp2
  go_ret
  refine ⟨ret_int ?_, nq, rfl⟩
  rw [HN.out, O.out.1, O.out.2.1, O.out.2.2]
/-- Are the bytes f 0 .. f (n - 1) those of g? -/
def eqB (f g : Nat → Nat) (n : Nat) : Bool := (List.range n).all fun i => f i == g i
theorem eqB_iff (f g : Nat → Nat) (n : Nat) : eqB f g n = true ↔ ∀ i, i < n → f i = g i := by simp [eqB]
/-- The bytes as a string has them. -/
def strOf (f : Nat → Nat) (n : Nat) : List UInt8 := (List.range n).map fun i => UInt8.ofNat (f i)
theorem strOf_length (f : Nat → Nat) (n : Nat) : (strOf f n).length = n := by simp [strOf]
theorem run_str (w : World) (b off len cap : Nat) (f : Nat → Nat) (hf : ∀ i, i < len → f i < 256) (hc : ∀ i, i < len → w.cell? ⟨b, off + i, none⟩ = some (.int .u8 (f i : Int))) :
    (convert 37 9 (.slice (some ⟨b, off, none⟩) len cap)).run Try.prog w = .ok (.string ⟨(strOf f len).toArray⟩) w := by
  have := run_convert_bytes_back (P := Try.prog) w 37 9 5 ⟨b, off, none⟩ cap (strOf f len) Try.underlying37 Try.underlying5 Try.underlying9 (fun j hj => by
    rw [strOf_length] at hj
    rw [Addr.add_mid, hc j hj]
    have e : (strOf f len)[j].toNat = f j := by
      simp only [strOf, List.getElem_map, List.getElem_range, UInt8.toNat_ofNat']
      exact Nat.mod_eq_of_lt (hf j hj)
    rw [e])
  rwa [strOf_length] at this
theorem strOf_eq (f g : Nat → Nat) (n : Nat) (hf : ∀ i, i < n → f i < 256) (hg : ∀ i, i < n → g i < 256) : (strOf f n == strOf g n) = eqB f g n := by
  cases h : eqB f g n with
  | true =>
    have h2 := (eqB_iff f g n).1 h
    have e : strOf f n = strOf g n := by
      unfold strOf
      apply List.map_congr_left
      intro i hi
      rw [h2 i (by simpa using hi)]
    rw [e]
    simp
  | false =>
    rw [beq_eq_false_iff_ne]
    intro e2
    have : eqB f g n = true := (eqB_iff f g n).2 fun i hi => by
      have e3 := congrArg (fun l => l[i]?) e2
      simp [strOf, hi] at e3
      have e4 := congrArg UInt8.toNat e3
      rw [UInt8.toNat_ofNat', UInt8.toNat_ofNat', Nat.mod_eq_of_lt (hf i hi), Nat.mod_eq_of_lt (hg i hi)] at e4
      exact e4
    rw [h] at this
    cases this
set_option maxHeartbeats 400000 in
theorem equal_some (b1 o1 b2 o2 len c1 c2 : Nat) (f g : Nat → Nat) (w : World) (hf : ∀ i, i < len → f i < 256) (hg : ∀ i, i < len → g i < 256)
    (h1 : ∀ i, i < len → w.cell? ⟨b1, o1 + i, none⟩ = some (.int .u8 (f i : Int))) (h2 : ∀ i, i < len → w.cell? ⟨b2, o2 + i, none⟩ = some (.int .u8 (g i : Int))) :
    Calls Try.prog 71 #[.slice (some ⟨b1, o1, none⟩) len c1, .slice (some ⟨b2, o2, none⟩) len c2] w fun e w' => e = .returned (.bool (eqB f g len)) ∧ w' = w := by
  have k1 := run_str w b1 o1 len c1 f hf h1
  have k2 := run_str w b2 o2 len c2 g hg h2
  have HE := hide (strOf_eq f g len hf hg)
  clear h1 h2 hf hg
  generalize strOf f len = sf at *
  generalize strOf g len = sg at *
  go_enter Try.func71, Try.ntmps71
  go_wp2
  go_ret
  exact ⟨ret_bool HE.out, rfl⟩
end Go.Proofs.Ytbecchoidglaeaa
/- The program's region: appendNumber, head. -/
namespace Go.Proofs.Ytbecchoidglaeaa
open Go.RowKit
set_option maxRecDepth 100000

/-- The bytes p, from place n on the four of q. -/
def put4 (p : Nat → Nat) (n : Nat) (q : Nat → Nat) : Nat → Nat := fun j => if n ≤ j ∧ j < n + 4 then q (j - n) else p j
/-- Block g is 64 bytes p of its own. -/
def Sheet (w : World) (g : Nat) (p : Nat → Nat) : Prop := w.heap[g]? = some (.cells (valsOf p 64).toArray 5 (0, 0))
theorem vals_put4 (p q : Nat → Nat) (n : Nat) (hn : n + 4 ≤ 64) : (valsOf p 64).take n ++ valsOf q 4 ++ (valsOf p 64).drop (n + 4) = valsOf (put4 p n q) 64 := by
  apply List.ext_getElem?
  intro j
  by_cases h64 : j < 64
  · rw [valsOf_get _ _ _ h64]
    unfold put4
    by_cases h1 : j < n
    · rw [if_neg (by omega), List.getElem?_append_left (by simp [valsOf_length]; omega), List.getElem?_append_left (by simp [valsOf_length]; omega), List.getElem?_take, if_pos h1, valsOf_get _ _ _ h64]
    · by_cases h2 : j < n + 4
      · rw [if_pos ⟨by omega, h2⟩, List.getElem?_append_left (by simp [valsOf_length]; omega), List.getElem?_append_right (by simp [valsOf_length]; omega)]
        simp only [List.length_take, valsOf_length, show min n 64 = n from by omega]
        rw [valsOf_get _ _ _ (by omega)]
      · rw [if_neg (by omega), List.getElem?_append_right (by simp [valsOf_length]; omega)]
        simp only [List.length_append, List.length_take, valsOf_length, show min n 64 = n from by omega, List.getElem?_drop]
        rw [show n + 4 + (j - (n + 4)) = j from by omega, valsOf_get _ _ _ h64]
  · rw [List.getElem?_eq_none (by simp [valsOf_length]; omega), List.getElem?_eq_none (by rw [valsOf_length]; omega)]
theorem run_app4 (w : World) (g n : Nat) (p q : Nat → Nat) (C : Array Value) (hC : (valsOf q 4).toArray = C) (hg : Sheet w g p) (hn : n + 4 ≤ 64) :
    ∃ w', (Builtin.append_ #[37, 37] 37 #[.slice (some ⟨g, 0, none⟩) n 64, .slice (some ⟨w.heap.size, 0, none⟩) 4 4]).run Try.prog (w.alloc (.cells C 5)) = .ok (.slice (some ⟨g, 0, none⟩) (n + 4) 64) w' ∧
      Sheet w' g (put4 p n q) ∧ Keeps (fun b => b = g) w w' := by
  subst hC
  obtain ⟨i0, hi0, hz0, hz1, hz2⟩ := info_parts Try.infoU8
  have hlt : g < w.heap.size := by
    rcases Nat.lt_or_ge g w.heap.size with h | h
    · exact h
    · have := hg; unfold Sheet at this; rw [Array.getElem?_eq_none h] at this; cases this
  have hg' : (w.alloc (.cells (valsOf q 4).toArray 5)).heap[g]? = some (.cells (valsOf p 64).toArray 5 (0, 0)) := by rw [heap_alloc_old w _ hlt]; exact hg
  have hr := run_append_room (P := Try.prog) (w.alloc (.cells (valsOf q 4).toArray 5)) 37 37 5 i0 Try.underlying37 hi0 g n 64 (valsOf p 64).toArray hg' ⟨w.heap.size, 0, none⟩ 4 4 (valsOf q 4) (by rw [valsOf_length, hz1])
    (fun j u hu => by
      have hj : j < 4 := by simpa [valsOf_length] using (List.getElem?_eq_some_iff.1 hu).1
      rw [Addr.add_mid, World.cell?_alloc_mark, ← hu, Nat.zero_add]
      simp) (valsOf_one q 4) hn (by rw [hz1, valsOf_length]; simp [valsOf_length]; omega)
  refine ⟨_, hr, ?_, ?_⟩
  · unfold Sheet
    rw [setRow_heap _ g _ _ _ _ hg', hz1, valsOf_length, Nat.mul_one]
    show some (Obj.cells ((valsOf p 64).take n ++ valsOf q 4 ++ (valsOf p 64).drop (n + 4)).toArray _ _) = _
    rw [vals_put4 p q n hn]
  · have h1 : Keeps (fun b => b = g) w (w.alloc (.cells (valsOf q 4).toArray 5)) := (Keeps.refl _ w).alloc _
    refine ⟨h1.os, h1.tape, h1.output, by simp, fun k hk hn2 => ?_⟩
    rw [setRow_other _ g k _ hn2, heap_alloc_old w _ hk]
set_option maxHeartbeats 800000 in
theorem appN_any (w : World) (g n : Nat) (p : Nat → Nat) (x : Nat) (hx : x < 4294967296) (hg : Sheet w g p) (hn : n + 4 ≤ 64) :
    Calls Try.prog 75 #[.slice (some ⟨g, 0, none⟩) n 64, .int .u32 (x : Int)] w fun e w' => e = .returned (.slice (some ⟨g, 0, none⟩) (n + 4) 64) ∧ Sheet w' g (put4 p n (four x)) ∧ Keeps (fun b => b = g) w w' := by
  obtain ⟨w1, hr, hs, hk⟩ := run_app4 w g n p (four x) _ (four_vals x hx) hg hn
  have HR := hide hr
  have HS := hide hs
  have HK := hide hk
  clear hr hs hk hg
  go_enter Try.func75, Try.ntmps75
  go_wp2_with ((with_reducible refine wpl_append _ _ 37 _ (.slice (some ⟨w.heap.size, 0, none⟩) 4 4) _ ?_ ?_ HR.out ?_); (· rfl); (· rfl))
  go_ret
  exact ⟨rfl, HS.out, HK.out⟩
theorem run_make_room (w : World) : (Instr.makeSlice 37 (.int .i64 0) (.int .i64 64)).run Try.prog w =
    .ok (.slice (some ⟨w.heap.size, 0, none⟩) 0 64) (w.alloc (.cells (valsOf (fun _ => 0) 64).toArray 5)) := by
  obtain ⟨i0, hi0, hz0, hz1, hz2⟩ := info_parts Try.infoU8
  have := run_make (P := Try.prog) w 37 5 i0 _ Try.underlying37 hi0 hz0 .i64 .i64 0 64 (by omega) (by omega) (by rw [hz2]; omega) (by omega)
  simp only [hz1, Value.cells, Nat.mul_one] at this
  rw [this, show Int.toNat 0 = 0 from rfl, show Int.toNat 64 = 64 from rfl]
  congr 3
  apply Array.ext_getElem?
  intro k
  by_cases hk : k < 64
  · simp [madeCells, valsOf, hk, Nat.mod_one]
  · simp [madeCells, valsOf, hk]
theorem Sheet.rw {w : World} {g : Nat} {p : Nat → Nat} (h : Sheet w g p) (n : Nat) (hn : n ≤ 64) : Rw w (some ⟨g, 0, none⟩) n p := by
  refine ⟨by unfold maxLen; omega, fun _ => ⟨g, 0, rfl, fun i hi => ?_⟩⟩
  rw [cell_of_row w g (0 + i) _ _ _ h, Nat.zero_add]
  simp [valsOf, show i < 64 from by omega]
/-- The head as it is written, byte behind byte. -/
def headP (gen len c d : Nat) : Nat → Nat := put4 (put4 (put4 (put4 (fun _ => 0) 0 (four gen)) 4 (four len)) 8 (four c)) 12 (four d)
theorem headP_low (gen len c : Nat) : ∀ i, i < 12 → put4 (put4 (put4 (fun _ => 0) 0 (four gen)) 4 (four len)) 8 (four c) i = head12 gen len c i := by
  intro i hi
  unfold put4 head12 cat
  by_cases h1 : i < 4
  · rw [if_neg (by omega), if_neg (by omega), if_pos (by omega), if_pos (by omega), if_pos h1, Nat.sub_zero]
  · by_cases h2 : i < 8
    · rw [if_neg (by omega), if_pos (by omega), if_pos (by omega), if_neg h1]
    · rw [if_pos (by omega), if_neg (by omega)]
theorem headP_eq (gen len : Nat) (f : Nat → Nat) (d : Nat) (hd : d = crc (head12 gen len (crc f len)) 12) : headP gen len (crc f len) d = ent gen f len 0 := by
  subst hd
  funext j
  show _ = fill (head16 gen len (crc f len)) 16 j
  unfold fill
  by_cases h : j < 12
  · rw [if_pos (by omega)]
    unfold headP head16 cat
    rw [if_pos h, ← headP_low gen len _ j h]
    generalize put4 (put4 (put4 (fun _ => 0) 0 (four gen)) 4 (four len)) 8 (four (crc f len)) = q
    unfold put4
    rw [if_neg (by omega)]
  · by_cases h2 : j < 16
    · rw [if_pos h2]
      unfold headP head16 cat
      rw [if_neg h]
      generalize put4 (put4 (put4 (fun _ => 0) 0 (four gen)) 4 (four len)) 8 (four (crc f len)) = q
      unfold put4
      rw [if_pos (by omega)]
    · rw [if_neg h2]
      unfold headP put4
      rw [if_neg (by omega), if_neg (by omega), if_neg (by omega), if_neg (by omega)]
set_option maxHeartbeats 1600000 in
theorem head_any (gen : Nat) (hg : gen ≤ 2147483647) (a : Option Addr) (len cap : Nat) (f : Nat → Nat) (w : World) (h : Rw w a len f) (hf : ∀ i, i < len → f i < 256) (hl : len ≤ 4294967295) :
    Calls Try.prog 70 #[.int .i64 (gen : Int), .slice a len cap] w fun e w' => e = .returned (.slice (some ⟨w.heap.size, 0, none⟩) 64 64) ∧ Sheet w' w.heap.size (ent gen f len 0) ∧ Below w.heap.size w w' := by
  have H := hide h
  have HF := hide hf
  have hc := crc_lt f len hf
  have hmk := fun w => run_make_room w
  have hal : ∀ x, a = some x → 0 < len → x.block ≠ w.heap.size := fun x hx hp => by have := h.lt x hx hp; omega
  have HAL := hide hal
  clear h hf hal
  go_enter Try.func70, Try.ntmps70
  go_wp2_with fail
  have hs0 : Sheet (w.alloc (.cells (valsOf (fun _ => 0) 64).toArray 5)) w.heap.size (fun _ => 0) := heap_alloc_new w _
  refine (appN_any _ w.heap.size 0 (fun _ => 0) gen (by omega) hs0 (by omega)).mono ?_
  rintro e w1 ⟨rfl, hs1, hk1⟩
  have HS1 := hide hs1
  have HK1 := hide (((Keeps.refl (fun b => b = w.heap.size) w).alloc (.cells (valsOf (fun _ => 0) 64).toArray 5)).trans hk1 (fun _ _ h => h))
  clear hs0 hs1 hk1
  go_wp2_with fail
  refine (appN_any _ w.heap.size 4 _ len (by omega) HS1.out (by omega)).mono ?_
  rintro e w2 ⟨rfl, hs2, hk2⟩
  have HS2 := hide hs2
  have HK2 := hide (HK1.out.trans hk2 (fun _ _ h => h))
  clear hs2 hk2
  go_wp2_with fail
  refine (of_rw a len cap f w2 (H.out.keeps HK2.out HAL.out) HF.out).mono ?_
  rintro e w3 ⟨rfl, rfl⟩
  go_wp2_with fail
  refine (appN_any _ w.heap.size 8 _ (crc f len) hc HS2.out (by omega)).mono ?_
  rintro e w4 ⟨rfl, hs4, hk4⟩
  have HS4 := hide hs4
  have HK4 := hide (HK2.out.trans hk4 (fun _ _ h => h))
  clear hs4 hk4
  go_wp2_with fail
  refine (of_rw _ 12 64 (head12 gen len (crc f len)) w4 ((HS4.out.rw 12 (by omega)).congr (headP_low gen len (crc f len))) (head12_lt gen len (crc f len))).mono ?_
  rintro e w5 ⟨rfl, rfl⟩
  go_wp2_with fail
  refine (appN_any _ w.heap.size 12 _ (crc (head12 gen len (crc f len)) 12) (crc_lt _ _ (head12_lt gen len (crc f len))) HS4.out (by omega)).mono ?_
  rintro e w6 ⟨rfl, hs6, hk6⟩
  have HS6 := hide hs6
  have HK6 := hide (HK4.out.trans hk6 (fun _ _ h => h))
  clear hs6 hk6
  go_wp2
  go_ret
  refine ⟨rfl, ?_, HK6.out.below _ (Nat.le_refl _) (fun b hb => by omega)⟩
  have hs := HS6.out
  rw [← headP_eq gen len f _ rfl]
  exact hs
end Go.Proofs.Ytbecchoidglaeaa
