
/- The first bits of addresses, in plain numbers: what is cut off, which are right, which covers which. Nothing of the program is named here. -/
namespace Go.Proofs.Ytmpnnfbpknfekaa
/-- The first n of A's 32 bits, the others 0. -/
def cutTo (A n : Nat) : Nat := A / 2 ^ (32 - n) * 2 ^ (32 - n)
/-- Bit i of A, from the highest on. -/
def bitAt (A i : Nat) : Nat := A / 2 ^ (31 - i) % 2
theorem bitAt_lt (A i : Nat) : bitAt A i < 2 := Nat.mod_lt _ (by omega)
theorem cutTo_le (A n : Nat) : cutTo A n ≤ A := Nat.div_mul_le_self _ _
theorem cutTo_all (A : Nat) : cutTo A 32 = A := by simp [cutTo]
theorem cutTo_none (A : Nat) (h : A < 4294967296) : cutTo A 0 = 0 := by
  unfold cutTo
  rw [Nat.div_eq_of_lt (by simpa using h), Nat.zero_mul]
theorem cutTo_succ (A i : Nat) (h : i < 32) : cutTo A (i + 1) = cutTo A i + bitAt A i * 2 ^ (31 - i) := by
  unfold cutTo bitAt
  rw [show 32 - (i + 1) = 31 - i from by omega, show 32 - i = (31 - i) + 1 from by omega, Nat.pow_succ]
  generalize 2 ^ (31 - i) = m
  rw [← Nat.div_div_eq_div_mul]
  generalize A / m = q
  have e := Nat.div_add_mod q 2
  have e2 : q * m = (2 * (q / 2) + q % 2) * m := by rw [e]
  rw [e2, Nat.add_mul]
  congr 1
  ac_rfl
theorem cutTo_cut (A n k : Nat) (hk : k ≤ n) (hn : n ≤ 32) : cutTo (cutTo A n) k = cutTo A k := by
  unfold cutTo
  have e : 2 ^ (32 - k) = 2 ^ (32 - n) * 2 ^ (n - k) := by rw [← Nat.pow_add]; congr 1; omega
  rw [e, ← Nat.div_div_eq_div_mul, Nat.mul_div_cancel _ (Nat.two_pow_pos _), Nat.div_div_eq_div_mul]
theorem cutTo_lt (A n : Nat) (h : A < 4294967296) : cutTo A n < 4294967296 := Nat.lt_of_le_of_lt (cutTo_le A n) h
/-- The number whose first n bits are 1. -/
def maskOf (n : Nat) : Nat := 4294967296 - 2 ^ (32 - n)
theorem maskOf_lt (n : Nat) : maskOf n < 4294967296 := by
  unfold maskOf
  have := Nat.two_pow_pos (32 - n)
  omega
theorem pow_le32 (n : Nat) : 2 ^ (32 - n) ≤ 4294967296 := by
  have := Nat.pow_le_pow_right (n := 2) (by omega) (show 32 - n ≤ 32 from by omega)
  simpa using this
theorem and_mask (A n : Nat) (h : A < 4294967296) (hn : n ≤ 32) : A &&& maskOf n = cutTo A n := by
  have e : maskOf n = (2 ^ n - 1) * 2 ^ (32 - n) := by
    unfold maskOf
    rw [Nat.sub_mul, ← Nat.pow_add, Nat.one_mul, show n + (32 - n) = 32 from by omega]
  rw [e]
  unfold cutTo
  apply Nat.eq_of_testBit_eq
  intro i
  rw [Nat.testBit_and, Nat.testBit_mul_two_pow, Nat.testBit_mul_two_pow, Nat.testBit_two_pow_sub_one, Nat.testBit_div_two_pow]
  by_cases h1 : 32 - n ≤ i
  · rw [show i - (32 - n) + (32 - n) = i from by omega]
    by_cases h2 : i < 32
    · simp [h1, show i - (32 - n) < n from by omega]
    · have : A.testBit i = false := Nat.testBit_lt_two_pow (Nat.lt_of_lt_of_le h (by have := Nat.pow_le_pow_right (n := 2) (by omega) (show 32 ≤ i from by omega); simpa using this))
      simp [this]
  · simp [h1]
/-- 'A/L is right'. -/
def rightB (A : Nat) (L : Int) : Bool := decide (0 ≤ L ∧ L ≤ 32 ∧ cutTo A L.toNat = A)
theorem rightB_nat (A n : Nat) (hn : n ≤ 32) : rightB A (n : Int) = decide (cutTo A n = A) := by
  unfold rightB
  rw [Int.toNat_natCast]
  rw [Bool.eq_iff_iff]
  simp; omega
theorem rightB_out (A : Nat) (L : Int) (h : L < 0 ∨ 32 < L) : rightB A L = false := by
  unfold rightB
  exact decide_eq_false (by omega)
theorem rightB_len {A : Nat} {L : Int} (h : rightB A L = true) : ∃ n : Nat, L = n ∧ n ≤ 32 ∧ cutTo A n = A := by
  obtain ⟨h1, h2, h3⟩ := of_decide_eq_true h
  exact ⟨L.toNat, by omega, by omega, h3⟩
theorem rightB_cut (A n : Nat) (hn : n ≤ 32) : rightB (cutTo A n) (n : Int) = true := by
  rw [rightB_nat _ _ hn]
  exact decide_eq_true (cutTo_cut A n n (Nat.le_refl _) hn)
theorem right_end {A n k : Nat} (hn : n ≤ k) (h : cutTo A k = cutTo A n) (hk : k = 32) : rightB A (n : Int) = true := by
  subst hk
  rw [rightB_nat _ _ hn]
  rw [cutTo_all] at h
  exact decide_eq_true h.symm
theorem right_no {A n k : Nat} (hn : n ≤ 32) (h : cutTo A k = cutTo A n) (hk : k < 32) (hb : bitAt A k = 1) : rightB A (n : Int) = false := by
  rw [rightB_nat _ _ hn]
  have e := cutTo_succ A k hk
  have hl := cutTo_le A (k + 1)
  rw [hb, h] at e
  have := Nat.two_pow_pos (31 - k)
  exact decide_eq_false (by omega)
theorem right_go {A n k : Nat} (h : cutTo A k = cutTo A n) (hk : k < 32) (hb : ¬ bitAt A k = 1) : cutTo A (k + 1) = cutTo A n := by
  have e := cutTo_succ A k hk
  have := bitAt_lt A k
  rw [show bitAt A k = 0 from by omega, h] at e
  omega
/-- 'A/L covers B/M'. -/
def covB (A : Nat) (L : Int) (B : Nat) (M : Int) : Bool := rightB A L && rightB B M && decide (L ≤ M) && decide (cutTo B L.toNat = A)
theorem covB_left {A : Nat} {L : Int} {B : Nat} {M : Int} (h : rightB A L = false) : covB A L B M = false := by simp [covB, h]
theorem covB_right {A : Nat} {L : Int} {B : Nat} {M : Int} (h : rightB B M = false) : covB A L B M = false := by simp [covB, h]
theorem covB_len {A : Nat} {L : Int} {B : Nat} {M : Int} (h : ¬ L ≤ M) : covB A L B M = false := by simp [covB, h]
theorem covB_both {A : Nat} {n : Nat} {B : Nat} {M : Int} (ha : rightB A (n : Int) = true) (hb : rightB B M = true) (hl : (n : Int) ≤ M) : covB A n B M = decide (cutTo B n = A) := by
  simp [covB, ha, hb, hl]
theorem cov_end {A n B k : Nat} {M : Int} (ha : rightB A (n : Int) = true) (hb : rightB B M = true) (hl : (n : Int) ≤ M) (h : cutTo A k = cutTo B k) (hk : k = n) : covB A n B M = true := by
  subst hk
  rw [covB_both ha hb hl]
  obtain ⟨m, e, h1, h2⟩ := rightB_len ha
  have : m = k := by omega
  subst this
  exact decide_eq_true (by rw [← h, h2])
theorem cov_no {A n B k : Nat} {M : Int} (ha : rightB A (n : Int) = true) (hb : rightB B M = true) (hl : (n : Int) ≤ M) (h : cutTo A k = cutTo B k) (hk : k < n) (hd : bitAt A k ≠ bitAt B k) : covB A n B M = false := by
  rw [covB_both ha hb hl]
  obtain ⟨m, e, h1, h2⟩ := rightB_len ha
  have : m = n := by omega
  subst this
  apply decide_eq_false
  intro e2
  have e3 := cutTo_cut B m (k + 1) hk h1
  rw [e2, cutTo_succ A k (by omega), cutTo_succ B k (by omega), h] at e3
  have e4 : bitAt A k * 2 ^ (31 - k) = bitAt B k * 2 ^ (31 - k) := by omega
  exact hd (Nat.eq_of_mul_eq_mul_right (Nat.two_pow_pos _) e4)
theorem cov_go {A B k : Nat} (h : cutTo A k = cutTo B k) (hk : k < 32) (hd : bitAt A k = bitAt B k) : cutTo A (k + 1) = cutTo B (k + 1) := by
  rw [cutTo_succ A k hk, cutTo_succ B k hk, h, hd]
theorem cov_trans {A B C : Nat} {L M N : Int} (h1 : covB A L B M = true) (h2 : covB B M C N = true) : covB A L C N = true := by
  simp only [covB, Bool.and_eq_true, decide_eq_true_eq] at *
  obtain ⟨⟨⟨a1, a2⟩, a3⟩, a4⟩ := h1
  obtain ⟨⟨⟨b1, b2⟩, b3⟩, b4⟩ := h2
  obtain ⟨l, rfl, hl, _⟩ := rightB_len a1
  obtain ⟨m, rfl, hm, _⟩ := rightB_len a2
  refine ⟨⟨⟨a1, b2⟩, by omega⟩, ?_⟩
  rw [Int.toNat_natCast] at *
  rw [← a4, ← b4, cutTo_cut C m l (by omega) hm]
theorem cov_host (a k l : Nat) (hk : k ≤ l) (hl : l ≤ 32) : covB (cutTo a k) (k : Int) (cutTo a l) (l : Int) = true := by
  rw [covB_both (rightB_cut a k (by omega)) (rightB_cut a l hl) (by omega)]
  exact decide_eq_true (cutTo_cut a l k hk hl)
theorem cov_back (a k l : Nat) (hk : k ≤ l) (hl : l ≤ 32) : covB (cutTo a l) (l : Int) (cutTo a k) (k : Int) = decide ((k : Int) = (l : Int)) := by
  by_cases e : k = l
  · subst e
    rw [cov_host a k k (Nat.le_refl _) hl]
    simp
  · rw [covB_len (by omega)]
    exact (decide_eq_false (by omega)).symm
theorem cov_same (a b k : Nat) (hk : k ≤ 32) : covB (cutTo a k) (k : Int) (cutTo b k) (k : Int) = decide (cutTo a k = cutTo b k) := by
  rw [covB_both (rightB_cut a k hk) (rightB_cut b k hk) (Int.le_refl _), cutTo_cut b k k (Nat.le_refl _) hk]
  rw [Bool.eq_iff_iff]
  simp
  exact ⟨fun h => h.symm, fun h => h.symm⟩
end Go.Proofs.Ytmpnnfbpknfekaa
