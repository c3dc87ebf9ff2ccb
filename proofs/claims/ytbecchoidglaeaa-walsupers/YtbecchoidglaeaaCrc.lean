/- CRC-32C of a row of bytes: the program's and the document's. -/
import Derived.Test.YtbecchoidglaeaaDisk
import Derived.Test.YtbecchoidglaeaaMath
namespace Go.Proofs.Ytbecchoidglaeaa
open Go.RowKit
set_option maxRecDepth 100000

theorem odd_and (m : Nat) (h : m < 4294967296) : bits .and .u32 (m : Int) 1 = ((m % 2 : Nat) : Int) := by
  have := u32_and_nat m 1 h (by omega)
  rw [Nat.and_one_is_mod] at this
  simpa using this
theorem xor_poly (m : Nat) (h : m < 4294967296) : bits .xor .u32 ((m : Int) / 2) 2197175160 = ((m / 2 ^^^ poly : Nat) : Int) := by
  have := u32_xor_nat (m / 2) 2197175160 (by omega) (by omega)
  simpa [poly] using this
theorem step_odd (m : Nat) (h : m < 4294967296) (ho : m % 2 = 1) : bits .xor .u32 ((m : Int) / 2) 2197175160 = (crcStep m : Int) := by
  rw [xor_poly m h]; simp [crcStep, ho]
theorem step_even (m : Nat) (ho : ¬ m % 2 = 1) : (m : Int) / 2 = (crcStep m : Int) := by
  simp [crcStep, ho]
theorem int_eq {k : IntKind} {a b : Int} (h : a = b) : Value.int k a = .int k b := by rw [h]
theorem iter_succ (k n x : Nat) (h : crcIter k n = x) : crcIter (k + 1) n = crcStep x := by rw [← h]; rfl

set_option maxHeartbeats 400000 in
theorem through_any (n : Nat) (w : World) (hn : n < 4294967296) :
    Calls Try.prog 78 #[.int .u32 (n : Int)] w fun e w' => e = .returned (.int .u32 (crcByte n : Int)) ∧ w' = w := by
  go_enter Try.func78, Try.ntmps78
  go_wp2
  go_loop [0, 4] (fun r i => ∃ k : Nat, k ≤ 8 ∧ i = .int .i64 k ∧ r = .int .u32 (crcIter k n : Int)) (fun _ i => 8 - (intOf i).toNat)
  case atStart => exact ⟨0, Nat.zero_le _, rfl, rfl⟩
  case round =>
    obtain ⟨k, hk, rfl, rfl⟩ := hrel
    have hb := crcIter_lt k n hn
    generalize hx : crcIter k n = x at *
    have HX : Hid (crcIter k n = x) := hx
    clear hx
    by_cases hlt : k < 8
    · by_cases ho : x % 2 = 1
      · have h1 : (bits .and .u32 (x : Int) 1 != 0) = true := by rw [odd_and x hb, ho]; decide
        go_wp2
        exact ⟨⟨k + 1, by omega, by go_num, int_eq (by rw [iter_succ k n x HX.out]; exact step_odd x hb ho)⟩, by simp [intOf]; omega⟩
      · have h1 : (bits .and .u32 (x : Int) 1 != 0) = false := by rw [odd_and x hb, show x % 2 = 0 from by omega]; decide
        go_wp2
        exact ⟨⟨k + 1, by omega, by go_num, int_eq (by rw [iter_succ k n x HX.out]; exact step_even x ho)⟩, by simp [intOf]; omega⟩
    · go_wp2
      go_ret
      exact ⟨ret_int (by rw [← HX.out, show k = 8 from by omega]; rfl), rfl⟩

/-- The slice's elements are the bytes f 0, f 1, .. -/
def Row (w : World) (a : Option Addr) (len : Nat) (f : Nat → Nat) : Prop :=
  len ≤ maxLen ∧ (∀ i, i < len → f i < 256) ∧ (0 < len → ∃ b off, a = some ⟨b, off, none⟩ ∧ ∀ i, i < len → w.cell? ⟨b, off + i, none⟩ = some (.int .u8 (f i : Int)))

theorem xor_byte (m x : Nat) (h : m < 4294967296) (hx : x < 256) : bits .xor .u32 (m : Int) (x : Int) = ((m ^^^ x : Nat) : Int) :=
  u32_xor_nat m x h (by omega)

theorem flip_all (m : Nat) (h : m < 4294967296) : bits .xor .u32 IntKind.u32.max (m : Int) = ((4294967295 ^^^ m : Nat) : Int) := by
  have e : IntKind.u32.max = ((4294967295 : Nat) : Int) := by decide
  rw [e]
  exact u32_xor_nat 4294967295 m (by omega) h
/-- CRC-32C of the bytes f 0 .. f (n - 1). -/
def crc (f : Nat → Nat) (n : Nat) : Nat := 4294967295 ^^^ crcUpto f n

set_option maxHeartbeats 400000 in
theorem of_some (b off len cap : Nat) (f : Nat → Nat) (w : World) (hm : len ≤ maxLen) (hf : ∀ i, i < len → f i < 256)
    (hc : ∀ i, i < len → w.cell? ⟨b, off + i, none⟩ = some (.int .u8 (f i : Int))) :
    Calls Try.prog 76 #[.slice (some ⟨b, off, none⟩) len cap] w fun e w' => e = .returned (.int .u32 (crc f len : Int)) ∧ w' = w := by
  unfold maxLen at hm
  go_enter Try.func76, Try.ntmps76
  go_wp2
  go_loop [3, 8] (fun r i => ∃ k : Nat, k ≤ len ∧ i = .int .i64 k ∧ r = .int .u32 (crcUpto f k : Int)) (fun _ i => len - (intOf i).toNat)
  case atStart => exact ⟨0, Nat.zero_le _, rfl, rfl⟩
  case round =>
    obtain ⟨k, hk, rfl, rfl⟩ := hrel
    have hb := crcUpto_lt f k fun i hi => hf i (by omega)
    by_cases hlt : k < len
    · have hck := hc k hlt
      have hfk := hf k hlt
      have HY : Hid (crcUpto f (k + 1) = crcByte (crcUpto f k ^^^ f k)) := rfl
      generalize hx : crcUpto f k = x at *
      clear hx hc hf
      go_wp2_with fail
      rw [xor_byte x (f k) hb hfk]
      refine (through_any _ _ (xor_lt32 hb (by omega))).mono ?_
      rintro e w' ⟨rfl, rfl⟩
      go_wp2
      exact ⟨⟨k + 1, by omega, by go_num, int_eq (by rw [HY.out])⟩, by simp [intOf]; omega⟩
    · go_wp2
      go_ret
      exact ⟨ret_int (by rw [flip_all _ hb, show k = len from by omega]; rfl), rfl⟩
set_option maxHeartbeats 400000 in
theorem of_empty (a : Option Addr) (cap : Nat) (f : Nat → Nat) (w : World) :
    Calls Try.prog 76 #[.slice a 0 cap] w fun e w' => e = .returned (.int .u32 (crc f 0 : Int)) ∧ w' = w := by
  go_enter Try.func76, Try.ntmps76
  go_wp2
  go_loop [3, 8] (fun r i => i = .int .i64 0 ∧ r = .int .u32 (crcUpto f 0 : Int)) (fun _ i => 0 - (intOf i).toNat)
  case atStart => exact ⟨rfl, rfl⟩
  case round =>
    obtain ⟨rfl, rfl⟩ := hrel
    have hb := crcUpto_lt f 0 fun i hi => absurd hi (by omega)
    go_wp2
    go_ret
    exact ⟨ret_int (by rw [flip_all _ hb]; rfl), rfl⟩
theorem of_any (a : Option Addr) (len cap : Nat) (f : Nat → Nat) (w : World) (h : Row w a len f) :
    Calls Try.prog 76 #[.slice a len cap] w fun e w' => e = .returned (.int .u32 (crc f len : Int)) ∧ w' = w := by
  obtain ⟨hm, hf, h3⟩ := h
  by_cases h0 : len = 0
  · subst h0; exact of_empty a cap f w
  · obtain ⟨b, off, rfl, hc⟩ := h3 (by omega)
    exact of_some b off len cap f w hm hf hc

set_option maxHeartbeats 400000 in
theorem ref_some (b off len cap : Nat) (f : Nat → Nat) (w : World) (hm : len ≤ maxLen) (hf : ∀ i, i < len → f i < 256)
    (hc : ∀ i, i < len → w.cell? ⟨b, off + i, none⟩ = some (.int .u8 (f i : Int))) :
    Calls Try.prog 57 #[.slice (some ⟨b, off, none⟩) len cap] w fun e w' => e = .returned (.int .u32 (crc f len : Int)) ∧ w' = w := by
  unfold maxLen at hm
  go_enter Try.func57, Try.ntmps57
  go_wp2
  go_loop [3, 4] (fun r i => ∃ k : Nat, k ≤ len ∧ i = .int .i64 k ∧ r = .int .u32 (crcUpto f k : Int)) (fun _ i => len - (intOf i).toNat)
  case atStart => exact ⟨0, Nat.zero_le _, rfl, rfl⟩
  case round =>
    obtain ⟨k, hk, rfl, rfl⟩ := hrel
    have hb := crcUpto_lt f k fun i hi => hf i (by omega)
    by_cases hlt : k < len
    · have hck := hc k hlt
      have hfk := hf k hlt
      have HY : Hid (crcUpto f (k + 1) = crcByte (crcUpto f k ^^^ f k)) := rfl
      generalize hx : crcUpto f k = x at *
      clear hx hc hf
      go_wp2
      rw [xor_byte x (f k) hb hfk]
      have hz := xor_lt32 hb (show f k < 4294967296 by omega)
      generalize hq : x ^^^ f k = z at *
      go_loop [3, 5] (fun r j => ∃ m : Nat, m ≤ 8 ∧ j = .int .i64 m ∧ r = .int .u32 (crcIter m z : Int)) (fun _ j => 8 - (intOf j).toNat)
      case atStart => exact ⟨0, Nat.zero_le _, rfl, rfl⟩
      case round =>
        obtain ⟨m, hm8, rfl, rfl⟩ := hrel
        have hbm := crcIter_lt m z hz
        generalize hy : crcIter m z = y at *
        have HI : Hid (crcIter m z = y) := hy
        clear hy
        by_cases hlt8 : m < 8
        · by_cases ho : y % 2 = 1
          · have h1 : (((y : Int) % 2) == 1) = true := by rw [beq_iff_eq]; omega
            go_wp2
            exact ⟨⟨m + 1, by omega, by go_num, int_eq (by rw [iter_succ m z y HI.out]; exact step_odd y hbm ho)⟩, by simp [intOf]; omega⟩
          · have h1 : (((y : Int) % 2) == 1) = false := by rw [beq_eq_false_iff_ne]; omega
            go_wp2
            exact ⟨⟨m + 1, by omega, by go_num, int_eq (by rw [iter_succ m z y HI.out]; exact step_even y ho)⟩, by simp [intOf]; omega⟩
        · go_wp2
          exact ⟨⟨k + 1, by omega, by go_num, int_eq (by rw [HY.out, ← HI.out, show m = 8 from by omega]; rfl)⟩, by simp [intOf]; omega⟩
    · go_wp2
      go_ret
      exact ⟨ret_int (by rw [flip_all _ hb, show k = len from by omega]; rfl), rfl⟩
set_option maxHeartbeats 400000 in
theorem ref_empty (a : Option Addr) (cap : Nat) (f : Nat → Nat) (w : World) :
    Calls Try.prog 57 #[.slice a 0 cap] w fun e w' => e = .returned (.int .u32 (crc f 0 : Int)) ∧ w' = w := by
  go_enter Try.func57, Try.ntmps57
  go_wp2
  go_loop [3, 4] (fun r i => i = .int .i64 0 ∧ r = .int .u32 (crcUpto f 0 : Int)) (fun _ i => 0 - (intOf i).toNat)
  case atStart => exact ⟨rfl, rfl⟩
  case round =>
    obtain ⟨rfl, rfl⟩ := hrel
    have hb := crcUpto_lt f 0 fun i hi => absurd hi (by omega)
    go_wp2
    go_ret
    exact ⟨ret_int (by rw [flip_all _ hb]; rfl), rfl⟩
theorem ref_any (a : Option Addr) (len cap : Nat) (f : Nat → Nat) (w : World) (h : Row w a len f) :
    Calls Try.prog 57 #[.slice a len cap] w fun e w' => e = .returned (.int .u32 (crc f len : Int)) ∧ w' = w := by
  obtain ⟨hm, hf, h3⟩ := h
  by_cases h0 : len = 0
  · subst h0; exact ref_empty a cap f w
  · obtain ⟨b, off, rfl, hc⟩ := h3 (by omega)
    exact ref_some b off len cap f w hm hf hc

theorem of_rw (a : Option Addr) (len cap : Nat) (f : Nat → Nat) (w : World) (h : Rw w a len f) (hf : ∀ i, i < len → f i < 256) :
    Calls Try.prog 76 #[.slice a len cap] w fun e w' => e = .returned (.int .u32 (crc f len : Int)) ∧ w' = w := of_any a len cap f w ⟨h.1, hf, h.2⟩
theorem ref_rw (a : Option Addr) (len cap : Nat) (f : Nat → Nat) (w : World) (h : Rw w a len f) (hf : ∀ i, i < len → f i < 256) :
    Calls Try.prog 57 #[.slice a len cap] w fun e w' => e = .returned (.int .u32 (crc f len : Int)) ∧ w' = w := ref_any a len cap f w ⟨h.1, hf, h.2⟩
theorem crc_lt (f : Nat → Nat) (n : Nat) (hf : ∀ i, i < n → f i < 256) : crc f n < 4294967296 := xor_lt32 (by omega) (crcUpto_lt f n hf)
theorem crc_congr (f g : Nat → Nat) (n : Nat) (h : ∀ i, i < n → f i = g i) : crc f n = crc g n := by unfold crc; rw [crcUpto_same f g n h]
end Go.Proofs.Ytbecchoidglaeaa
