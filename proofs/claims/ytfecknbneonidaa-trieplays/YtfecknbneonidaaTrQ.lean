/- The program's trie: bits, which prefixes are right, the place of a prefix, Get. -/
import Derived.Test.YtfecknbneonidaaTrP
import Derived.Test.YtfecknbneonidaaPfxCv
import Derived.Test.YtfecknbneonidaaPfxCn
import Derived.Deep.QuietTactic
import Derived.BigQuiet
import Derived.Deep.RegionWith
namespace Go.Proofs.Ytfecknbneonidaa
open Go.RowKit
set_option maxRecDepth 100000

theorem bitof_val (A i : Nat) (hi : i < 32) : (A : Int) * 2 ^ i % 4294967296 / 2147483648 = ((bitAt A i : Nat) : Int) := by
  unfold bitAt
  have e32 : (4294967296 : Nat) = 2 ^ i * (2 ^ (31 - i) * 2) := by
    rw [← Nat.pow_succ, ← Nat.pow_add, show i + (31 - i + 1) = 32 from by omega]
  have e31 : (2147483648 : Nat) = 2 ^ i * 2 ^ (31 - i) := by
    rw [← Nat.pow_add, show i + (31 - i) = 31 from by omega]
  have e : (A : Int) * 2 ^ i % 4294967296 / 2147483648 = ((A * 2 ^ i % 4294967296 / 2147483648 : Nat) : Int) := by simp
  rw [e, e32, e31, Nat.mul_comm A, Nat.mul_mod_mul_left, Nat.mul_div_mul_left _ _ (Nat.two_pow_pos i), Nat.mod_mul_right_div_self]
set_option maxHeartbeats 400000 in
theorem bitof_in (A i : Nat) (w : World) (hi : i < 32) : Calls Try.prog 22 #[.int .u32 (A : Int), .int .i64 (i : Int)] w fun e w' => e = .returned (.int .i64 (bitAt A i : Int)) ∧ w' = w := by
  go_enter Try.func22, Try.ntmps22
  go_wp2
  go_ret
  exact ⟨ret_int (bitof_val A i hi), rfl⟩
set_option maxHeartbeats 400000 in
theorem bitof_end (A : Nat) (w : World) : Calls Try.prog 22 #[.int .u32 (A : Int), .int .i64 32] w fun e w' => e = .returned (.int .i64 0) ∧ w' = w := by
  go_enter Try.func22, Try.ntmps22
  go_wp2
  go_ret
  exact ⟨rfl, rfl⟩
theorem cov_self (A : Nat) (L : Int) : covB A L A L = rightB A L := by
  unfold covB
  cases h : rightB A L with
  | false => rfl
  | true =>
    obtain ⟨n, rfl, _, h2⟩ := rightB_len h
    simp [h2]
theorem covers_both (A B : Nat) (L M : Int) (w : World) (hA : A < 4294967296) (hB : B < 4294967296) : Calls Try.prog 27 #[pfx A L, pfx B M] w fun e w' => e = .returned (.bool (covB A L B M)) ∧ Below w.heap.size w w' := by
  cases h : rightB A L with
  | false => rw [covB_left h]; exact covers_no A B L M w hA h
  | true =>
    obtain ⟨n, rfl, hn, _⟩ := rightB_len h
    exact covers_yes A n B M w hA hB h hn
set_option maxHeartbeats 400000 in
theorem tright_any (A : Nat) (L : Int) (w : World) (hA : A < 4294967296) : Calls Try.prog 21 #[pfx A L] w fun e w' => e = .returned (.bool (rightB A L)) ∧ Below w.heap.size w w' := by
  unfold pfx
  go_enter Try.func21, Try.ntmps21
  go_wp2_with fail
  refine (covers_both A A L L _ hA hA).mono ?_
  rw [cov_self]
  rintro e w1 ⟨rfl, hb⟩
  have HB : Hid (Below w.heap.size w w1) := ((Below.refl _ _).alloc (Nat.le_refl _) _).trans (hb.mono (by simp))
  clear hb
  go_wp2
  go_ret
  exact ⟨rfl, HB.out⟩
set_option maxHeartbeats 400000 in
theorem new_any (w : World) : Calls Try.prog 8 #[] w fun e w' => e = .returned (.pointer (some ⟨w.heap.size, 0, none⟩)) ∧ w' = w.alloc (.cells #[.pointer none, .pointer none, .bool false, .int .i64 0] 55) := by
  go_enter Try.func8, Try.ntmps8
  go_wp2
  go_ret
  exact ⟨rfl, rfl⟩
/-- A trie without prefixes. -/
def oneN (B : Nat) : Nat → Nat → Option Nat := upd (fun _ _ => none) 0 0 (some B)
theorem oneN_some {B a n b : Nat} (h : oneN B a n = some b) : a = 0 ∧ n = 0 ∧ b = B := by
  by_cases e : a = 0 ∧ n = 0
  · obtain ⟨rfl, rfl⟩ := e
    rw [oneN, upd_self] at h
    cases h
    exact ⟨rfl, rfl, rfl⟩
  · rw [oneN, upd_ne _ _ _ _ _ _ e] at h
    cases h
theorem trie_new (w : World) (t : TypeId) : TrieIs (w.alloc (.cells #[.pointer none, .pointer none, .bool false, .int .i64 0] t)) w.heap.size (oneN w.heap.size) (fun _ _ => none) := by
  refine ⟨rfl, fun a n b h => ?_, fun a n b h => ?_, fun a n a' n' b h h' => ?_, fun a n b h => ?_, fun _ _ _ => rfl⟩
  · obtain ⟨rfl, rfl, _⟩ := oneN_some h
    exact key_zero
  · obtain ⟨rfl, rfl, rfl⟩ := oneN_some h
    exact ⟨by simp [go_sem, oneN, upd, adr], by simp [go_sem, oneN, upd, adr], by simp [go_sem], by simp [go_sem], fun o ho => by simp [go_sem]⟩
  · obtain ⟨rfl, rfl, _⟩ := oneN_some h
    obtain ⟨rfl, rfl, _⟩ := oneN_some h'
    exact ⟨rfl, rfl⟩
  · obtain ⟨_, h2, _⟩ := oneN_some h
    omega
set_option maxHeartbeats 400000 in
theorem placeof_nil (A L : Int) (w : World) : Calls Try.prog 19 #[.pointer none, .agg #[.int .u32 A, .int .i64 L]] w fun e w' => e = .returned (.pointer none) ∧ Below w.heap.size w w' := by
  go_enter Try.func19, Try.ntmps19
  go_wp2
  go_ret
  exact ⟨rfl, (Below.refl _ _).alloc (Nat.le_refl _) _⟩
set_option maxHeartbeats 400000 in
theorem placeof_wrong (A : Nat) (L : Int) (B : Nat) (w : World) (hA : A < 4294967296) (hr : rightB A L = false) : Calls Try.prog 19 #[.pointer (some ⟨B, 0, none⟩), pfx A L] w fun e w' => e = .returned (.pointer none) ∧ Below w.heap.size w w' := by
  have HR := hide hr
  clear hr
  unfold pfx
  go_enter Try.func19, Try.ntmps19
  go_wp2_with fail
  refine (tright_any A L _ hA).mono ?_
  rw [HR.out]
  rintro e w1 ⟨rfl, hb⟩
  have HB : Hid (Below w.heap.size w w1) := ((Below.refl _ _).alloc (Nat.le_refl _) _).trans (hb.mono (by simp))
  clear hb
  go_wp2
  go_ret
  exact ⟨rfl, HB.out⟩
set_option maxHeartbeats 800000 in
theorem placeof_right (A n B : Nat) (w : World) (N : Nat → Nat → Option Nat) (C : Nat → Nat → Option Int) (hA : A < 4294967296) (hr : rightB A n = true) (ht : TrieIs w B N C) :
    Calls Try.prog 19 #[.pointer (some ⟨B, 0, none⟩), pfx A n] w fun e w' => e = .returned (.pointer (adr (N A n))) ∧ Below w.heap.size w w' := by
  obtain ⟨n', en, hn, hcut⟩ := rightB_len hr
  obtain rfl : n = n' := by omega
  clear en
  have HR := hide hr
  have HT := hide ht
  clear hr ht
  unfold pfx
  go_enter Try.func19, Try.ntmps19
  go_wp2_with fail
  refine (tright_any A n _ hA).mono ?_
  rw [HR.out]
  rintro e w1 ⟨rfl, hb⟩
  have HB : Hid (Below w.heap.size w w1) := ((Below.refl _ _).alloc (Nat.le_refl _) _).trans (hb.mono (by simp))
  have c0 : w1.cell? ⟨w.heap.size, 0, none⟩ = some (.int .u32 (A : Int)) := by rw [hb.cell (p := ⟨w.heap.size, 0, none⟩) (by simp)]; simp [go_sem]
  have c1 : w1.cell? ⟨w.heap.size, 1, none⟩ = some (.int .i64 (n : Int)) := by rw [hb.cell (p := ⟨w.heap.size, 1, none⟩) (by simp)]; simp [go_sem]
  have hz : w.heap.size < w1.heap.size := by have := hb.size; simp at this; omega
  have HT1 : Hid (TrieIs w1 B N C) := HT.out.later HB.out
  clear hb
  have H0 : Hid (N (cutTo A 0) 0 = some B) := by rw [cutTo_none A hA]; exact HT1.out.root
  have HC := hide hcut
  clear hcut
  go_wp2
  go_loopw [5, 6] (fun at_ i wq => ∃ k : Nat, k ≤ n ∧ at_ = .pointer (adr (N (cutTo A k) k)) ∧ i = .int .i64 k ∧ Hid (Below w.heap.size w wq) ∧ Hid (TrieIs wq B N C) ∧ w.heap.size < wq.heap.size ∧ wq.cell? ⟨w.heap.size, 0, none⟩ = some (.int .u32 (A : Int)) ∧ wq.cell? ⟨w.heap.size, 1, none⟩ = some (.int .i64 (n : Int))) (fun _ i _ => n - (intOf i).toNat)
  case atStart => exact ⟨0, Nat.zero_le _, by rw [H0.out]; rfl, rfl, HB, HT1, hz, c0, c1⟩
  case round =>
    clear c0 c1 hz HB HT1
    obtain ⟨k, hk, rfl, rfl, HB, HT1, hz, c0, c1⟩ := hrel
    by_cases hlt : k < n
    · have hk1 : (k : Int) < (n : Int) := by omega
      cases hN : N (cutTo A k) k with
      | none =>
        have HE : Hid (N A n = none) := by have := HT1.out.down A k hN n hk hn; rw [HC.out] at this; exact this
        clear hN
        rw [adr_none]
        go_wp2
        go_ret
        exact ⟨by rw [HE.out]; rfl, HB.out⟩
      | some b =>
        have cs : wr.cell? ⟨b, bitAt A k, none⟩ = some (.pointer (adr (N (cutTo A (k + 1)) (k + 1)))) := HT1.out.step A k b (by omega) hN
        have hb2 := bitAt_lt A k
        have hbi : ((bitAt A k : Nat) : Int) < 2 := by omega
        clear hN
        rw [adr_some]
        go_wp2_with fail
        go_quiet ((go_at_call 22; exact Calls.quiet_of_same (bitof_in A k _ (by omega))))
        go_wp2
        exact ⟨⟨k + 1, by omega, rfl, by go_num, below_drewN HB.out nq, HT1.out.of_blocks fun _ _ => rfl, hz, c0, c1⟩, by simp [intOf]; omega⟩
    · obtain rfl : k = n := by omega
      have d1 : decide ((k : Int) < (k : Int)) = false := decide_eq_false (by omega)
      clear hlt hk
      go_wp2
      go_ret
      refine ⟨?_, HB.out⟩
      rw [HC.out]
      rfl
set_option maxHeartbeats 400000 in
theorem get_nil (A L : Int) (w : World) : Calls Try.prog 9 #[.pointer none, .agg #[.int .u32 A, .int .i64 L]] w fun e w' => e = .returned (.tuple #[.int .i64 0, .bool false]) ∧ Below w.heap.size w w' := by
  go_enter Try.func9, Try.ntmps9
  go_wp2_with fail
  refine (placeof_nil A L _).mono ?_
  rintro e w1 ⟨rfl, hb⟩
  have HB : Hid (Below w.heap.size w w1) := ((Below.refl _ _).alloc (Nat.le_refl _) _).trans (hb.mono (by simp))
  clear hb
  go_wp2
  exact bodyPost_ret (v := .tuple #[.int .i64 0, .bool false]) (by simp [results, Try.results9, go_sem]) rfl ⟨rfl, HB.out⟩
theorem placeof_any (A : Nat) (L : Int) (B : Nat) (w : World) (N : Nat → Nat → Option Nat) (C : Nat → Nat → Option Int) (hA : A < 4294967296) (ht : TrieIs w B N C) :
    Calls Try.prog 19 #[.pointer (some ⟨B, 0, none⟩), pfx A L] w fun e w' => e = .returned (.pointer (adr (if rightB A L then N A L.toNat else none))) ∧ Below w.heap.size w w' := by
  cases hr : rightB A L with
  | false => exact placeof_wrong A L B w hA hr
  | true =>
    obtain ⟨n, rfl, _, _⟩ := rightB_len hr
    exact placeof_right A n B w N C hA hr ht
/-- What A/L has. -/
def hasC (C : Nat → Nat → Option Int) (A : Nat) (L : Int) : Option Int := if rightB A L then C A L.toNat else none
set_option maxHeartbeats 400000 in
theorem get_any (A : Nat) (L : Int) (B : Nat) (w : World) (N : Nat → Nat → Option Nat) (C : Nat → Nat → Option Int) (hA : A < 4294967296) (ht : TrieIs w B N C) :
    Calls Try.prog 9 #[.pointer (some ⟨B, 0, none⟩), pfx A L] w fun e w' => e = .returned (.tuple #[.int .i64 ((hasC C A L).getD 0), .bool (hasC C A L).isSome]) ∧ Below w.heap.size w w' := by
  have HT := hide ht
  clear ht
  have hp := fun w1 h => placeof_any A L B w1 N C hA h
  unfold pfx at *
  go_enter Try.func9, Try.ntmps9
  go_wp2_with fail
  refine (hp _ (HT.out.later ((Below.refl _ _).alloc (Nat.le_refl _) _))).mono ?_
  clear hp
  rintro e w1 ⟨rfl, hb⟩
  have HB : Hid (Below w.heap.size w w1) := ((Below.refl _ _).alloc (Nat.le_refl _) _).trans (hb.mono (by simp))
  have HT1 : Hid (TrieIs w1 B N C) := HT.out.later HB.out
  clear hb
  generalize hN : (if rightB A L = true then N A L.toNat else none) = x
  cases x with
  | none =>
    have HE : Hid (hasC C A L = none) := by
      show hasC C A L = none
      unfold hasC
      by_cases e : rightB A L = true
      · rw [if_pos e] at *
        exact HT1.out.gone _ _ hN
      · rw [if_neg e]
    clear hN
    rw [adr_none]
    go_wp2
    exact bodyPost_ret (v := .tuple #[.int .i64 0, .bool false]) (by simp [results, Try.results9, go_sem]) rfl ⟨by rw [HE.out]; rfl, HB.out⟩
  | some b =>
    have hE : hasC C A L = C A L.toNat ∧ N A L.toNat = some b := by
      unfold hasC
      by_cases e : rightB A L = true
      · rw [if_pos e] at *
        exact ⟨rfl, hN⟩
      · rw [if_neg e] at hN; cases hN
    clear hN
    have p := HT1.out.place _ _ _ hE.2
    have c2 := p.c2
    have c3 := p.c3
    rw [← hE.1] at c2 c3
    clear p hE
    rw [adr_some]
    go_wp2_with fail
    go_quiet (fail)
    go_wp2
    exact bodyPost_ret (v := .tuple #[.int .i64 ((hasC C A L).getD 0), .bool (hasC C A L).isSome]) (by simp [results, Try.results9, go_sem]) rfl ⟨rfl, below_drewN HB.out _⟩
theorem run_two (p q : Option Addr) (w : World) : (Op.equalIn 9999 51 (.agg #[.pointer p, .pointer q]) (.agg #[.pointer none, .pointer none])).run Try.prog w = .ok (p.isNone && q.isNone) w := by
  cases p <;> cases q <;> kernel_rfl
/-- Nothing is there, and nothing below. -/
def idleB (l r : Option Nat) (c : Option Int) : Bool := l.isNone && r.isNone && c.isNone
set_option maxHeartbeats 400000 in
theorem idle_any (b : Nat) (l r : Option Nat) (c : Option Int) (w : World) (h : PlaceAt w b l r c) : Calls Try.prog 26 #[.pointer (some ⟨b, 0, none⟩)] w fun e w' => e = .returned (.bool (idleB l r c)) ∧ w' = w := by
  have c0 := h.c0
  have c1 := h.c1
  have c2 := h.c2
  have c3 := h.c3
  clear h
  have hr := fun p q => run_two p q w
  cases l <;> cases r <;> cases c <;> (simp only [adr_none, adr_some, Option.isSome_none, Option.isSome_some, Option.getD_none, Option.getD_some] at c0 c1 c2 c3; go_enter Try.func26, Try.ntmps26; go_wp2; go_ret; exact ⟨rfl, rfl⟩)
end Go.Proofs.Ytfecknbneonidaa
