/- What the program's two functions (and the document's answer, and the example) return: CRC-32C of the bytes that the slice holds; no memory is turned. -/
import Derived.Test.YtabmbnljnckfiaaRows
import Derived.Test.YtabmbnljnckfiaaMath
import Derived.WalkKit
import Derived.WalkLawsBesides
import Derived.Laws.BitsAllLaws
import Derived.Below
import Derived.Lib.SlBytesConst
import Derived.WalkSpells
import Derived.OpenShut
namespace Go.Proofs.Ytabmbnljnckfiaa
open Go.RowKit

theorem odd_and (m : Nat) (h : m < 4294967296) : bits .and .u32 (m : Int) 1 = ((m % 2 : Nat) : Int) := by
  have := u32_and_nat m 1 h (by omega)
  rw [Nat.and_one_is_mod] at this
  simpa using this
theorem xor_poly (m : Nat) (h : m < 4294967296) : bits .xor .u32 ((m : Int) / 2) 2197175160 = ((m / 2 ^^^ poly : Nat) : Int) := by
  have := u32_xor_nat (m / 2) 2197175160 (by omega) (by omega)
  simpa [poly] using this
theorem step_odd (m : Nat) (h : m < 4294967296) (ho : m % 2 = 1) : bits .xor .u32 ((m : Int) / 2) 2197175160 = (crcStep m : Int) := by
  rw [xor_poly m h]; simp [crcStep, ho]
theorem step_even (m : Nat) (ho : ¬ m % 2 = 1) : (m : Int) / 2 = (crcStep m : Int) := by
  simp [crcStep, ho]
theorem int_eq {k : IntKind} {a b : Int} (h : a = b) : Value.int k a = .int k b := by rw [h]
theorem ret_int {k : IntKind} {a b : Int} (h : a = b) : Ending.returned (.int k a) = .returned (.int k b) := by rw [h]
theorem iter_succ (k n x : Nat) (h : crcIter k n = x) : crcIter (k + 1) n = crcStep x := by rw [← h]; rfl

set_option maxHeartbeats 400000 in
theorem through_any (n : Nat) (w : World) (hn : n < 4294967296) :
    Calls Try.prog 9 #[.int .u32 (n : Int)] w fun e w' => e = .returned (.int .u32 (crcByte n : Int)) ∧ w' = w := by
  go_enter Try.func9, Try.ntmps9
  go_wp2
  go_loop [0, 4] (fun r i => ∃ k : Nat, k ≤ 8 ∧ i = .int .i64 k ∧ r = .int .u32 (crcIter k n : Int)) (fun _ i => 8 - (intOf i).toNat)
  case atStart => exact ⟨0, Nat.zero_le _, rfl, rfl⟩
  case round =>
    obtain ⟨k, hk, rfl, rfl⟩ := hrel
    have hb := crcIter_lt k n hn
    generalize hx : crcIter k n = x at *
    have HX : Hid (crcIter k n = x) := hx
    clear hx
    by_cases hlt : k < 8
    · by_cases ho : x % 2 = 1
      · have h1 : (bits .and .u32 (x : Int) 1 != 0) = true := by rw [odd_and x hb, ho]; decide
        go_wp2
        exact ⟨⟨k + 1, by omega, by go_num, int_eq (by rw [iter_succ k n x HX.out]; exact step_odd x hb ho)⟩, by simp [intOf]; omega⟩
      · have h1 : (bits .and .u32 (x : Int) 1 != 0) = false := by rw [odd_and x hb, show x % 2 = 0 from by omega]; decide
        go_wp2
        exact ⟨⟨k + 1, by omega, by go_num, int_eq (by rw [iter_succ k n x HX.out]; exact step_even x ho)⟩, by simp [intOf]; omega⟩
    · go_wp2
      go_ret
      exact ⟨ret_int (by rw [← HX.out, show k = 8 from by omega]; rfl), rfl⟩

/-- The slice's elements are the bytes f 0, f 1, .. -/
def Row (w : World) (a : Option Addr) (len : Nat) (f : Nat → Nat) : Prop :=
  len ≤ maxLen ∧ (∀ i, i < len → f i < 256) ∧ (0 < len → ∃ b off, a = some ⟨b, off, none⟩ ∧ ∀ i, i < len → w.cell? ⟨b, off + i, none⟩ = some (.int .u8 (f i : Int)))

theorem xor_byte (m x : Nat) (h : m < 4294967296) (hx : x < 256) : bits .xor .u32 (m : Int) (x : Int) = ((m ^^^ x : Nat) : Int) :=
  u32_xor_nat m x h (by omega)

theorem flip_all (m : Nat) (h : m < 4294967296) : bits .xor .u32 IntKind.u32.max (m : Int) = ((4294967295 ^^^ m : Nat) : Int) := by
  have e : IntKind.u32.max = ((4294967295 : Nat) : Int) := by decide
  rw [e]
  exact u32_xor_nat 4294967295 m (by omega) h
/-- CRC-32C of the bytes f 0 .. f (n - 1). -/
def crc (f : Nat → Nat) (n : Nat) : Nat := 4294967295 ^^^ crcUpto f n

set_option maxHeartbeats 400000 in
theorem of_some (b off len cap : Nat) (f : Nat → Nat) (w : World) (hm : len ≤ maxLen) (hf : ∀ i, i < len → f i < 256)
    (hc : ∀ i, i < len → w.cell? ⟨b, off + i, none⟩ = some (.int .u8 (f i : Int))) :
    Calls Try.prog 7 #[.slice (some ⟨b, off, none⟩) len cap] w fun e w' => e = .returned (.int .u32 (crc f len : Int)) ∧ w' = w := by
  unfold maxLen at hm
  go_enter Try.func7, Try.ntmps7
  go_wp2
  go_loop [3, 8] (fun r i => ∃ k : Nat, k ≤ len ∧ i = .int .i64 k ∧ r = .int .u32 (crcUpto f k : Int)) (fun _ i => len - (intOf i).toNat)
  case atStart => exact ⟨0, Nat.zero_le _, rfl, rfl⟩
  case round =>
    obtain ⟨k, hk, rfl, rfl⟩ := hrel
    have hb := crcUpto_lt f k fun i hi => hf i (by omega)
    by_cases hlt : k < len
    · have hck := hc k hlt
      have hfk := hf k hlt
      have HY : Hid (crcUpto f (k + 1) = crcByte (crcUpto f k ^^^ f k)) := rfl
      generalize hx : crcUpto f k = x at *
      clear hx hc hf
      go_wp2_with fail
      rw [xor_byte x (f k) hb hfk]
      refine (through_any _ _ (xor_lt32 hb (by omega))).mono ?_
      rintro e w' ⟨rfl, rfl⟩
      go_wp2
      exact ⟨⟨k + 1, by omega, by go_num, int_eq (by rw [HY.out])⟩, by simp [intOf]; omega⟩
    · go_wp2
      go_ret
      exact ⟨ret_int (by rw [flip_all _ hb, show k = len from by omega]; rfl), rfl⟩
set_option maxHeartbeats 400000 in
theorem of_empty (a : Option Addr) (cap : Nat) (f : Nat → Nat) (w : World) :
    Calls Try.prog 7 #[.slice a 0 cap] w fun e w' => e = .returned (.int .u32 (crc f 0 : Int)) ∧ w' = w := by
  go_enter Try.func7, Try.ntmps7
  go_wp2
  go_loop [3, 8] (fun r i => i = .int .i64 0 ∧ r = .int .u32 (crcUpto f 0 : Int)) (fun _ i => 0 - (intOf i).toNat)
  case atStart => exact ⟨rfl, rfl⟩
  case round =>
    obtain ⟨rfl, rfl⟩ := hrel
    have hb := crcUpto_lt f 0 fun i hi => absurd hi (by omega)
    go_wp2
    go_ret
    exact ⟨ret_int (by rw [flip_all _ hb]; rfl), rfl⟩
theorem of_any (a : Option Addr) (len cap : Nat) (f : Nat → Nat) (w : World) (h : Row w a len f) :
    Calls Try.prog 7 #[.slice a len cap] w fun e w' => e = .returned (.int .u32 (crc f len : Int)) ∧ w' = w := by
  obtain ⟨hm, hf, h3⟩ := h
  by_cases h0 : len = 0
  · subst h0; exact of_empty a cap f w
  · obtain ⟨b, off, rfl, hc⟩ := h3 (by omega)
    exact of_some b off len cap f w hm hf hc

set_option maxHeartbeats 400000 in
theorem ref_some (b off len cap : Nat) (f : Nat → Nat) (w : World) (hm : len ≤ maxLen) (hf : ∀ i, i < len → f i < 256)
    (hc : ∀ i, i < len → w.cell? ⟨b, off + i, none⟩ = some (.int .u8 (f i : Int))) :
    Calls Try.prog 8 #[.slice (some ⟨b, off, none⟩) len cap] w fun e w' => e = .returned (.int .u32 (crc f len : Int)) ∧ w' = w := by
  unfold maxLen at hm
  go_enter Try.func8, Try.ntmps8
  go_wp2
  go_loop [3, 4] (fun r i => ∃ k : Nat, k ≤ len ∧ i = .int .i64 k ∧ r = .int .u32 (crcUpto f k : Int)) (fun _ i => len - (intOf i).toNat)
  case atStart => exact ⟨0, Nat.zero_le _, rfl, rfl⟩
  case round =>
    obtain ⟨k, hk, rfl, rfl⟩ := hrel
    have hb := crcUpto_lt f k fun i hi => hf i (by omega)
    by_cases hlt : k < len
    · have hck := hc k hlt
      have hfk := hf k hlt
      have HY : Hid (crcUpto f (k + 1) = crcByte (crcUpto f k ^^^ f k)) := rfl
      generalize hx : crcUpto f k = x at *
      clear hx hc hf
      go_wp2
      rw [xor_byte x (f k) hb hfk]
      have hz := xor_lt32 hb (show f k < 4294967296 by omega)
      generalize hq : x ^^^ f k = z at *
      go_loop [3, 5] (fun r j => ∃ m : Nat, m ≤ 8 ∧ j = .int .i64 m ∧ r = .int .u32 (crcIter m z : Int)) (fun _ j => 8 - (intOf j).toNat)
      case atStart => exact ⟨0, Nat.zero_le _, rfl, rfl⟩
      case round =>
        obtain ⟨m, hm8, rfl, rfl⟩ := hrel
        have hbm := crcIter_lt m z hz
        generalize hy : crcIter m z = y at *
        have HI : Hid (crcIter m z = y) := hy
        clear hy
        by_cases hlt8 : m < 8
        · by_cases ho : y % 2 = 1
          · have h1 : (((y : Int) % 2) == 1) = true := by rw [beq_iff_eq]; omega
            go_wp2
            exact ⟨⟨m + 1, by omega, by go_num, int_eq (by rw [iter_succ m z y HI.out]; exact step_odd y hbm ho)⟩, by simp [intOf]; omega⟩
          · have h1 : (((y : Int) % 2) == 1) = false := by rw [beq_eq_false_iff_ne]; omega
            go_wp2
            exact ⟨⟨m + 1, by omega, by go_num, int_eq (by rw [iter_succ m z y HI.out]; exact step_even y ho)⟩, by simp [intOf]; omega⟩
        · go_wp2
          exact ⟨⟨k + 1, by omega, by go_num, int_eq (by rw [HY.out, ← HI.out, show m = 8 from by omega]; rfl)⟩, by simp [intOf]; omega⟩
    · go_wp2
      go_ret
      exact ⟨ret_int (by rw [flip_all _ hb, show k = len from by omega]; rfl), rfl⟩
set_option maxHeartbeats 400000 in
theorem ref_empty (a : Option Addr) (cap : Nat) (f : Nat → Nat) (w : World) :
    Calls Try.prog 8 #[.slice a 0 cap] w fun e w' => e = .returned (.int .u32 (crc f 0 : Int)) ∧ w' = w := by
  go_enter Try.func8, Try.ntmps8
  go_wp2
  go_loop [3, 4] (fun r i => i = .int .i64 0 ∧ r = .int .u32 (crcUpto f 0 : Int)) (fun _ i => 0 - (intOf i).toNat)
  case atStart => exact ⟨rfl, rfl⟩
  case round =>
    obtain ⟨rfl, rfl⟩ := hrel
    have hb := crcUpto_lt f 0 fun i hi => absurd hi (by omega)
    go_wp2
    go_ret
    exact ⟨ret_int (by rw [flip_all _ hb]; rfl), rfl⟩
theorem ref_any (a : Option Addr) (len cap : Nat) (f : Nat → Nat) (w : World) (h : Row w a len f) :
    Calls Try.prog 8 #[.slice a len cap] w fun e w' => e = .returned (.int .u32 (crc f len : Int)) ∧ w' = w := by
  obtain ⟨hm, hf, h3⟩ := h
  by_cases h0 : len = 0
  · subst h0; exact ref_empty a cap f w
  · obtain ⟨b, off, rfl, hc⟩ := h3 (by omega)
    exact ref_some b off len cap f w hm hf hc

theorem nine_crc : crc (fun i => 49 + i) 9 = 3808858755 := by decide +kernel
theorem nine_cells (w : World) (i : Nat) (hi : i < 9) : (w.alloc (Obj.cells #[Value.int .u8 49, Value.int .u8 50, Value.int .u8 51, Value.int .u8 52, Value.int .u8 53, Value.int .u8 54, Value.int .u8 55, Value.int .u8 56, Value.int .u8 57] 5 (9, 10))).cell? ⟨w.heap.size, 0 + i, none⟩ = some (.int .u8 ((49 + i : Nat) : Int)) := by
  rw [World.cell?_alloc_mark]
  match i, hi with
  | 0, _ | 1, _ | 2, _ | 3, _ | 4, _ | 5, _ | 6, _ | 7, _ | 8, _ => rfl
set_option maxHeartbeats 400000 in
theorem answers_any (w : World) :
    Calls Try.prog 6 #[] w fun e w' => e = .returned (.bool true) ∧ Below w.heap.size w w' := by
  have kc := fun (w : World) (C : Array Value) (n c : Nat) => Lib.run_convert_bytes_const (P := Try.prog) w 22 5 C n c Try.underlying22 Try.underlying5
  go_enter Try.func6, Try.ntmps6
  go_wp2_with fail
  refine (of_some _ _ _ _ (fun i => 49 + i) _ (by decide) (fun i hi => by omega) (nine_cells w)).mono ?_
  rintro e w' ⟨rfl, rfl⟩
  rw [nine_crc]
  go_wp2
  go_ret
  exact ⟨rfl, (Below.refl _ _).alloc (Nat.le_refl _) _⟩
theorem row_below {w w1 : World} {a : Option Addr} {len : Nat} {f : Nat → Nat} (h : Row w a len f) (hb : Below w.heap.size w w1) : Row w1 a len f := by
  obtain ⟨h1, h2, h3⟩ := h
  refine ⟨h1, h2, fun hp => ?_⟩
  obtain ⟨b, off, e, hc⟩ := h3 hp
  exact ⟨b, off, e, fun i hi => cell_later hb (hc i hi)⟩
/-- WHAT THE WALK IS TOLD OF A SLICE OF INTEGERS THAT CAME IN: it is nil; or it leads to a row of 'cap' cells, the numbers 'zs' (the first 'len' are its elements, the rest its spare room), each fitting its kind. -/
def IsRow (k : IntKind) (w : World) (a : Option Addr) (len cap : Nat) (zs : List Int) : Prop :=
  (a = none ∧ len = 0 ∧ cap = 0 ∧ zs = []) ∨
  ∃ x, a = some x ∧ len ≤ cap ∧ cap ≤ maxLen ∧ zs.length = cap ∧ (∀ i, i < zs.length → w.cell? (x.add i) = some (.int k (zs.getD i 0))) ∧ ∀ n ∈ zs, (Lit.int k n).wf = true

/-- The reading as a row of bytes by number. -/
theorem row_of {w : World} {a : Option Addr} {len cap : Nat} {zs : List Int} (h : IsRow .u8 w a len cap zs) :
    Row w a len (fun i => (zs.getD i 0).toNat) := by
  have hb : ∀ n : Int, (Lit.int .u8 n).wf = true → 0 ≤ n ∧ n < 256 := by
    intro n hn; have := bounds_u8 hn; omega
  rcases h with ⟨rfl, rfl, rfl, rfl⟩ | ⟨x, rfl, hl, hm, hz, hcell, hwz⟩
  · exact ⟨Nat.zero_le _, fun i hi => absurd hi (by omega), fun hi => absurd hi (by omega)⟩
  · have hbi : ∀ i, i < zs.length → 0 ≤ zs.getD i 0 ∧ zs.getD i 0 < 256 := by
      intro i hi
      have e : zs.getD i 0 = zs[i] := by simp [List.getD, hi]
      rw [e]; exact hb _ (hwz _ (List.getElem_mem hi))
    refine ⟨Nat.le_trans hl hm, fun i hi => ?_, fun hi => ?_⟩
    · have h2 := hbi i (by omega)
      show (zs.getD i 0).toNat < 256
      omega
    · obtain ⟨b, off, spot⟩ := x
      have hc := hcell 0 (by omega)
      have hspot : spot = none := by simpa [Addr.add] using World.cell?_spot hc
      subst hspot
      refine ⟨b, off, rfl, fun i hi2 => ?_⟩
      have h1 := hcell i (by omega)
      have h2 := hbi i (by omega)
      rw [Int.toNat_of_nonneg h2.1]
      by_cases e0 : i = 0
      · subst e0; simpa [Addr.add] using h1
      · simpa [Addr.add, e0] using h1

end Go.Proofs.Ytabmbnljnckfiaa
