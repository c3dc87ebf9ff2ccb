/- Make, of the program and of the document. -/
import Derived.Test.YtejbajjkbjaadaaBase
import Derived.Test.YtejbajjkbjaadaaPfx
import Derived.Laws.BitsAllLaws
import Derived.Deep.QuietTactic
import Derived.BigQuiet
import Derived.Deep.RegionWith
namespace Go.Proofs.Ytejbajjkbjaadaa
open Go.RowKit
set_option maxRecDepth 100000

/-- A/L as a value. -/
def pfx (A : Nat) (L : Int) : Value := .agg #[.int .u32 (A : Int), .int .i64 L]

theorem mask_val (n : Nat) : (4294967295 * 2 ^ (32 - n) % 4294967296 : Int) = ((maskOf n : Nat) : Int) := by
  have h1 := pow_le32 n
  have h0 := Nat.two_pow_pos (32 - n)
  have e : (2 : Int) ^ (32 - n) = ((2 ^ (32 - n) : Nat) : Int) := by simp
  rw [e]
  unfold maskOf
  generalize 2 ^ (32 - n) = m at *
  omega
theorem bit_val (A i : Nat) : ((A : Int) / 2 ^ (31 - i)).tmod 2 = ((bitAt A i : Nat) : Int) := by
  unfold bitAt
  have e : (A : Int) / 2 ^ (31 - i) = ((A / 2 ^ (31 - i) : Nat) : Int) := by simp
  rw [e, Int.tmod_eq_emod_of_nonneg (Int.natCast_nonneg _)]
  omega
theorem and_val (A n : Nat) (h : A < 4294967296) (hn : n ≤ 32) : bits .and .u32 (A : Int) (maskOf n : Int) = ((cutTo A n : Nat) : Int) := by
  rw [u32_and_nat A (maskOf n) h (maskOf_lt n), and_mask A n h hn]
set_option maxHeartbeats 400000 in
theorem mask_any (n : Nat) (w : World) (hn : n ≤ 32) : Calls Try.prog 32 #[.int .i64 (n : Int)] w fun e w' => e = .returned (.int .u32 (maskOf n : Int)) ∧ w' = w := by
  go_enter Try.func32, Try.ntmps32
  go_wp2
  go_ret
  exact ⟨ret_int (mask_val n), rfl⟩
set_option maxHeartbeats 400000 in
theorem bit_any (A i : Nat) (w : World) (hi : i < 32) : Calls Try.prog 18 #[.int .u32 (A : Int), .int .i64 (i : Int)] w fun e w' => e = .returned (.int .u32 (bitAt A i : Int)) ∧ w' = w := by
  go_enter Try.func18, Try.ntmps18
  go_wp2
  go_ret
  exact ⟨ret_int (bit_val A i), rfl⟩
set_option maxHeartbeats 400000 in
theorem make_out (A L : Int) (w : World) (h : L < 0 ∨ 32 < L) : Calls Try.prog 29 #[.int .u32 A, .int .i64 L] w fun e w' => e = .returned (.tuple #[pfx 0 0, .bool false]) ∧ Below w.heap.size w w' := by
  by_cases h0 : L < 0
  · clear h
    go_enter Try.func29, Try.ntmps29
    go_wp2
    refine bodyPost_ret (v := .tuple #[pfx 0 0, .bool false]) (by simp [results, Try.results29, go_sem, pfx]) rfl ⟨rfl, ?_⟩
    exact (Below.refl _ _).alloc (Nat.le_refl _) _
  · have h1 : 32 < L := by omega
    clear h
    go_enter Try.func29, Try.ntmps29
    go_wp2
    refine bodyPost_ret (v := .tuple #[pfx 0 0, .bool false]) (by simp [results, Try.results29, go_sem, pfx]) rfl ⟨rfl, (Below.refl _ _).alloc (Nat.le_refl _) _⟩
set_option maxHeartbeats 400000 in
theorem make_in (A n : Nat) (w : World) (hA : A < 4294967296) (hn : n ≤ 32) : Calls Try.prog 29 #[.int .u32 (A : Int), .int .i64 (n : Int)] w fun e w' => e = .returned (.tuple #[pfx (cutTo A n) n, .bool true]) ∧ Below w.heap.size w w' := by
  have d0 : decide ((n : Int) < 0) = false := decide_eq_false (by omega)
  have d1 : decide ((32 : Int) < (n : Int)) = false := decide_eq_false (by omega)
  go_enter Try.func29, Try.ntmps29
  go_wp2_with fail
  refine (mask_any n _ hn).mono ?_
  rintro e w1 ⟨rfl, rfl⟩
  go_wp2
  refine bodyPost_ret (v := .tuple #[pfx (cutTo A n) n, .bool true]) (by simp [results, Try.results29, go_sem, pfx, and_val A n hA hn]) rfl ⟨rfl, (Below.refl _ _).alloc (Nat.le_refl _) _⟩
theorem step_val (A k x : Nat) (hk : k < 32) (hx : x = cutTo A k) : (x : Int) + (bitAt A k : Int) * 2 ^ (31 - k) = ((cutTo A (k + 1) : Nat) : Int) := by
  rw [cutTo_succ A k hk, hx]
  simp
theorem step_lt (A k x : Nat) (hA : A < 4294967296) (hk : k < 32) (hx : x = cutTo A k) : (x : Int) + (bitAt A k : Int) * 2 ^ (31 - k) < 4294967296 := by
  rw [step_val A k x hk hx]
  have := cutTo_lt A (k + 1) hA
  omega
theorem step_wrap (A k x : Nat) (hA : A < 4294967296) (hk : k < 32) (hx : x = cutTo A k) :
    IntKind.u32.wrap ((x : Int) + IntKind.u32.wrap ((bitAt A k : Int) * 2 ^ min (IntKind.u64.wrap (IntKind.i64.wrap (31 - (k : Int)))).toNat 32)) = ((cutTo A (k + 1) : Nat) : Int) := by
  have e : min (IntKind.u64.wrap (IntKind.i64.wrap (31 - (k : Int)))).toNat 32 = 31 - k := by
    rw [IntKind.wrap_i64, IntKind.wrap_u64]; omega
  rw [e, ← step_val A k x hk hx]
  have h1 := step_lt A k x hA hk hx
  have h0 : 0 ≤ (bitAt A k : Int) * 2 ^ (31 - k) := by
    have e2 : (bitAt A k : Int) * 2 ^ (31 - k) = ((bitAt A k * 2 ^ (31 - k) : Nat) : Int) := by simp
    rw [e2]; exact Int.natCast_nonneg _
  generalize (bitAt A k : Int) * 2 ^ (31 - k) = z at *
  rw [IntKind.wrap_u32, IntKind.wrap_u32]
  omega
theorem set_first (w0 : World) (a b v : Value) (t : TypeId) (m h : Nat) (hh : w0.heap.size = h) : ((w0.alloc (.cells #[a, b] t)).drewN m).setCell ⟨h, 0, none⟩ v = (w0.alloc (.cells #[v, b] t)).drewN m := by
  subst hh
  have := World.setCell_alloc_new (w := w0) #[a, b] t 0 v
  show ((w0.alloc (.cells #[a, b] t)).setCell ⟨w0.heap.size, 0, none⟩ v).drewN m = _
  rw [this]
  rfl
end Go.Proofs.Ytejbajjkbjaadaa
