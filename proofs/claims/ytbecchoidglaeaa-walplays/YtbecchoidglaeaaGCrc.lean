import Derived.Test.YtbecchoidglaeaaGMem
/- The plain arithmetic of CRC-32C: one bit's step, a byte's eight steps, the sum over a row of bytes; each step loses nothing below 2^32, so two rows that differ in one byte, or in four bytes side by side, have unlike sums. Nothing of the program is named here. -/
namespace Go.Proofs.Ytbecchoidglaeaa
def poly : Nat := 2197175160
def crcStep (v : Nat) : Nat := if v % 2 = 1 then v / 2 ^^^ poly else v / 2
def crcIter : Nat → Nat → Nat
  | 0, v => v
  | k + 1, v => crcStep (crcIter k v)
def crcByte (v : Nat) : Nat := crcIter 8 v
def crcUpto (f : Nat → Nat) : Nat → Nat
  | 0 => 4294967295
  | k + 1 => crcByte (crcUpto f k ^^^ f k)

theorem poly_lt : poly < 4294967296 := by decide
theorem xor_lt32 {a b : Nat} (ha : a < 4294967296) (hb : b < 4294967296) : a ^^^ b < 4294967296 := Nat.xor_lt_two_pow (n := 32) ha hb
theorem crcStep_lt (v : Nat) (h : v < 4294967296) : crcStep v < 4294967296 := by
  unfold crcStep; split
  · exact xor_lt32 (by omega) poly_lt
  · omega
theorem crcIter_lt (k v : Nat) (h : v < 4294967296) : crcIter k v < 4294967296 := by
  induction k with
  | zero => exact h
  | succ k ih => exact crcStep_lt _ ih
theorem crcByte_lt (v : Nat) (h : v < 4294967296) : crcByte v < 4294967296 := crcIter_lt 8 v h
theorem crcUpto_lt (f : Nat → Nat) (k : Nat) (hf : ∀ i, i < k → f i < 256) : crcUpto f k < 4294967296 := by
  induction k with
  | zero => exact (by decide : (4294967295 : Nat) < 4294967296)
  | succ k ih => exact crcByte_lt _ (xor_lt32 (ih fun i hi => hf i (by omega)) (by have := hf k (by omega); omega))

theorem half_poly_ge (a : Nat) (h : a < 2147483648) : 2147483648 ≤ a ^^^ poly := by
  have h1 : (a ^^^ poly).testBit 31 = true := by
    rw [Nat.testBit_xor, Nat.testBit_lt_two_pow (i := 31) (by simpa using h)]
    decide
  exact Nat.ge_two_pow_of_testBit h1
theorem xor_right_inj' {a b c : Nat} (h : a ^^^ c = b ^^^ c) : a = b := by
  have := congrArg (fun t => t ^^^ c) h
  simpa [Nat.xor_assoc] using this
theorem xor_left_inj' {a b c : Nat} (h : c ^^^ a = c ^^^ b) : a = b := by
  rw [Nat.xor_comm c a, Nat.xor_comm c b] at h; exact xor_right_inj' h
theorem crcStep_inj (a b : Nat) (ha : a < 4294967296) (hb : b < 4294967296) (h : crcStep a = crcStep b) : a = b := by
  unfold crcStep at h
  by_cases h1 : a % 2 = 1 <;> by_cases h2 : b % 2 = 1
  · rw [if_pos h1, if_pos h2] at h
    have := xor_right_inj' h; omega
  · rw [if_pos h1, if_neg h2] at h
    have := half_poly_ge (a / 2) (by omega); omega
  · rw [if_neg h1, if_pos h2] at h
    have := half_poly_ge (b / 2) (by omega); omega
  · rw [if_neg h1, if_neg h2] at h; omega
theorem crcIter_inj (k a b : Nat) (ha : a < 4294967296) (hb : b < 4294967296) (h : crcIter k a = crcIter k b) : a = b := by
  induction k with
  | zero => exact h
  | succ k ih => exact ih (crcStep_inj _ _ (crcIter_lt k a ha) (crcIter_lt k b hb) h)
theorem crcByte_inj (a b : Nat) (ha : a < 4294967296) (hb : b < 4294967296) (h : crcByte a = crcByte b) : a = b := crcIter_inj 8 a b ha hb h

/-- Behind a place where the two states part, and over the same bytes, they stay apart. -/
theorem crcUpto_apart (f g : Nat → Nat) (m n : Nat) (hmn : m ≤ n) (hf : ∀ i, i < n → f i < 256) (hg : ∀ i, i < n → g i < 256)
    (hs : ∀ i, m ≤ i → i < n → f i = g i) (hd : crcUpto f m ≠ crcUpto g m) : crcUpto f n ≠ crcUpto g n := by
  induction n with
  | zero => obtain rfl : m = 0 := by omega
            exact hd
  | succ n ih =>
    by_cases e : m = n + 1
    · subst e; exact hd
    · have hfn := hf n (by omega)
      have hgn := hg n (by omega)
      have e1 := hs n (by omega) (by omega)
      have h' := ih (by omega) (fun i hi => hf i (by omega)) (fun i hi => hg i (by omega)) (fun i h1 h2 => hs i h1 (by omega))
      intro h
      have h2 := crcByte_inj _ _ (xor_lt32 (crcUpto_lt f n fun i hi => hf i (by omega)) (by omega)) (xor_lt32 (crcUpto_lt g n fun i hi => hg i (by omega)) (by omega)) h
      rw [e1] at h2
      exact h' (xor_right_inj' h2)
theorem crcUpto_same (f g : Nat → Nat) (m : Nat) (hs : ∀ i, i < m → f i = g i) : crcUpto f m = crcUpto g m := by
  induction m with
  | zero => rfl
  | succ m ih =>
    show crcByte (crcUpto f m ^^^ f m) = crcByte (crcUpto g m ^^^ g m)
    rw [ih fun i hi => hs i (by omega), hs m (by omega)]

/-- One byte another one: another sum. -/
theorem crc_one (f g : Nat → Nat) (k n : Nat) (hk : k < n) (hf : ∀ i, i < n → f i < 256) (hg : ∀ i, i < n → g i < 256)
    (hs : ∀ i, i ≠ k → f i = g i) (hd : f k ≠ g k) : crcUpto f n ≠ crcUpto g n := by
  refine crcUpto_apart f g (k + 1) n hk hf hg (fun i h1 h2 => hs i (by omega)) ?_
  intro h
  have hfk := hf k hk
  have hgk := hg k hk
  have e := crcUpto_same f g k (fun i hi => hs i (by omega))
  have h2 := crcByte_inj _ _ (xor_lt32 (crcUpto_lt f k fun i hi => hf i (by omega)) (by omega)) (xor_lt32 (crcUpto_lt g k fun i hi => hg i (by omega)) (by omega)) h
  rw [e] at h2
  exact hd (xor_left_inj' h2)

theorem xor_mod2 (a b : Nat) : (a ^^^ 2 * b) % 2 = a % 2 := by
  have h := Nat.xor_mod_two_pow (a := a) (b := 2 * b) (n := 1)
  have e : 2 * b % 2 ^ 1 = 0 := by omega
  rw [e, Nat.xor_zero] at h
  exact h
theorem xor_div2 (a b : Nat) : (a ^^^ 2 * b) / 2 = a / 2 ^^^ b := by
  apply Nat.eq_of_testBit_eq
  intro i
  rw [Nat.testBit_xor, Nat.testBit_div_two, Nat.testBit_xor, Nat.testBit_div_two]
  congr 1
  rw [← Nat.testBit_div_two]
  congr 1
  omega
theorem crcStep_xor (v y : Nat) : crcStep (v ^^^ 2 * y) = crcStep v ^^^ y := by
  unfold crcStep
  rw [xor_mod2, xor_div2]
  split
  · rw [Nat.xor_assoc, Nat.xor_assoc, Nat.xor_comm y poly]
  · rfl
theorem crcIter_xor (k v y : Nat) : crcIter k (v ^^^ 2 ^ k * y) = crcIter k v ^^^ y := by
  induction k generalizing y with
  | zero => simp [crcIter]
  | succ k ih =>
    show crcStep (crcIter k (v ^^^ 2 ^ (k + 1) * y)) = crcStep (crcIter k v) ^^^ y
    have e : 2 ^ (k + 1) * y = 2 ^ k * (2 * y) := by rw [Nat.pow_succ, Nat.mul_assoc]
    rw [e, ih, crcStep_xor]
theorem crcByte_xor (v y : Nat) : crcByte v ^^^ y = crcByte (v ^^^ 256 * y) := (crcIter_xor 8 v y).symm

theorem mul256_xor (a b : Nat) : 256 * (a ^^^ b) = 256 * a ^^^ 256 * b := by
  have h := Nat.shiftLeft_xor_distrib (a := a) (b := b) (i := 8)
  simp only [Nat.shiftLeft_eq] at h
  have e : ∀ x, 256 * x = x * 2 ^ 8 := fun x => by omega
  rw [e, e, e]; exact h
theorem lt_word (v t : Nat) (hv : v < 4294967296) (ht : t < 4294967296) : v ^^^ t < 4294967296 := xor_lt32 hv ht
theorem low_zero (t u : Nat) (ht : t < 256) (h : t ^^^ 256 * u = 0) : t = 0 ∧ u = 0 := by
  have e : t = 256 * u := by
    have h2 := congrArg (fun x => x ^^^ 256 * u) h
    simpa [Nat.xor_assoc] using h2
  omega
/-- Four bytes side by side turned, not all of them by nothing: another sum. -/
theorem crc_four (f g : Nat → Nat) (k n : Nat) (t0 t1 t2 t3 : Nat) (hk : k + 4 ≤ n) (hf : ∀ i, i < n → f i < 256) (hg : ∀ i, i < n → g i < 256)
    (hs : ∀ i, i < k ∨ k + 4 ≤ i → f i = g i) (b0 : t0 < 256) (b1 : t1 < 256) (b2 : t2 < 256) (_b3 : t3 < 256)
    (e0 : g k = f k ^^^ t0) (e1 : g (k + 1) = f (k + 1) ^^^ t1) (e2 : g (k + 2) = f (k + 2) ^^^ t2) (e3 : g (k + 3) = f (k + 3) ^^^ t3)
    (hd : ¬ (t0 = 0 ∧ t1 = 0 ∧ t2 = 0 ∧ t3 = 0)) : crcUpto f n ≠ crcUpto g n := by
  refine crcUpto_apart f g (k + 4) n hk hf hg (fun i h1 h2 => hs i (by omega)) ?_
  intro h
  have e := crcUpto_same f g k (fun i hi => hs i (by omega))
  have hv : crcUpto f k < 4294967296 := crcUpto_lt f k fun i hi => hf i (by omega)
  have f0 := hf k (by omega)
  have f1 := hf (k + 1) (by omega)
  have f2 := hf (k + 2) (by omega)
  have f3 := hf (k + 3) (by omega)
  have x0 : g k < 256 := hg k (by omega)
  have x1 := hg (k + 1) (by omega)
  have x2 := hg (k + 2) (by omega)
  have x3 := hg (k + 3) (by omega)
  have key : ∀ v a b c d : Nat, crcByte (crcByte (crcByte (crcByte (v ^^^ a) ^^^ b) ^^^ c) ^^^ d) = crcIter 32 (v ^^^ (a ^^^ 256 * (b ^^^ 256 * (c ^^^ 256 * d)))) := by
    intro v a b c d
    rw [crcByte_xor _ d, Nat.xor_assoc _ c, crcByte_xor _ (c ^^^ 256 * d), Nat.xor_assoc _ b, crcByte_xor _ (b ^^^ 256 * (c ^^^ 256 * d)), Nat.xor_assoc v a]
    rfl
  have h' : crcByte (crcByte (crcByte (crcByte (crcUpto f k ^^^ f k) ^^^ f (k + 1)) ^^^ f (k + 2)) ^^^ f (k + 3)) = crcByte (crcByte (crcByte (crcByte (crcUpto g k ^^^ g k) ^^^ g (k + 1)) ^^^ g (k + 2)) ^^^ g (k + 3)) := h
  rw [key, key, ← e] at h'
  have w1 : ∀ a b c d : Nat, a < 256 → b < 256 → c < 256 → d < 256 → a ^^^ 256 * (b ^^^ 256 * (c ^^^ 256 * d)) < 4294967296 := by
    intro a b c d ha hb hc hd
    have h3 : c ^^^ 256 * d < 2 ^ 16 := Nat.xor_lt_two_pow (by omega) (by omega)
    have h2 : b ^^^ 256 * (c ^^^ 256 * d) < 2 ^ 24 := Nat.xor_lt_two_pow (by omega) (by omega)
    exact xor_lt32 (by omega) (by omega)
  have h2 := xor_left_inj' (crcIter_inj 32 _ _ (xor_lt32 hv (w1 _ _ _ _ f0 f1 f2 f3)) (xor_lt32 hv (w1 _ _ _ _ x0 x1 x2 x3)) h')
  rw [e0, e1, e2, e3] at h2
  have split4 : ∀ a b c d s t u v : Nat, (a ^^^ s) ^^^ 256 * ((b ^^^ t) ^^^ 256 * ((c ^^^ u) ^^^ 256 * (d ^^^ v))) = (a ^^^ 256 * (b ^^^ 256 * (c ^^^ 256 * d))) ^^^ (s ^^^ 256 * (t ^^^ 256 * (u ^^^ 256 * v))) := by
    intro a b c d s t u v
    simp only [mul256_xor]
    ac_rfl
  rw [split4] at h2
  have h3 : (t0 ^^^ 256 * (t1 ^^^ 256 * (t2 ^^^ 256 * t3))) = 0 := by
    have h4 := congrArg (fun x => (f k ^^^ 256 * (f (k + 1) ^^^ 256 * (f (k + 2) ^^^ 256 * f (k + 3)))) ^^^ x) h2
    simp only [← Nat.xor_assoc, Nat.xor_self, Nat.zero_xor] at h4
    exact h4.symm
  obtain ⟨z0, r0⟩ := low_zero _ _ b0 h3
  obtain ⟨z1, r1⟩ := low_zero _ _ b1 r0
  obtain ⟨z2, z3⟩ := low_zero _ _ b2 r1
  exact hd ⟨z0, z1, z2, z3⟩
end Go.Proofs.Ytbecchoidglaeaa
/- CRC-32C of a row of bytes: the program's and the document's. -/
namespace Go.Proofs.Ytbecchoidglaeaa
open Go.RowKit
set_option maxRecDepth 100000

theorem odd_and (m : Nat) (h : m < 4294967296) : bits .and .u32 (m : Int) 1 = ((m % 2 : Nat) : Int) := by
  have := u32_and_nat m 1 h (by omega)
  rw [Nat.and_one_is_mod] at this
  simpa using this
theorem xor_poly (m : Nat) (h : m < 4294967296) : bits .xor .u32 ((m : Int) / 2) 2197175160 = ((m / 2 ^^^ poly : Nat) : Int) := by
  have := u32_xor_nat (m / 2) 2197175160 (by omega) (by omega)
  simpa [poly] using this
theorem step_odd (m : Nat) (h : m < 4294967296) (ho : m % 2 = 1) : bits .xor .u32 ((m : Int) / 2) 2197175160 = (crcStep m : Int) := by
  rw [xor_poly m h]; simp [crcStep, ho]
theorem step_even (m : Nat) (ho : ¬ m % 2 = 1) : (m : Int) / 2 = (crcStep m : Int) := by
  simp [crcStep, ho]
theorem int_eq {k : IntKind} {a b : Int} (h : a = b) : Value.int k a = .int k b := by rw [h]
theorem iter_succ (k n x : Nat) (h : crcIter k n = x) : crcIter (k + 1) n = crcStep x := by rw [← h]; rfl

set_option maxHeartbeats 400000 in
theorem through_any (n : Nat) (w : World) (hn : n < 4294967296) :
    Calls Try.prog 78 #[.int .u32 (n : Int)] w fun e w' => e = .returned (.int .u32 (crcByte n : Int)) ∧ w' = w := by
  go_enter Try.func78, Try.ntmps78
  go_wp2
  go_loop [0, 4] (fun r i => ∃ k : Nat, k ≤ 8 ∧ i = .int .i64 k ∧ r = .int .u32 (crcIter k n : Int)) (fun _ i => 8 - (intOf i).toNat)
  case atStart => exact ⟨0, Nat.zero_le _, rfl, rfl⟩
  case round =>
    obtain ⟨k, hk, rfl, rfl⟩ := hrel
    have hb := crcIter_lt k n hn
    generalize hx : crcIter k n = x at *
    have HX : Hid (crcIter k n = x) := hx
    clear hx
    by_cases hlt : k < 8
    · by_cases ho : x % 2 = 1
      · have h1 : (bits .and .u32 (x : Int) 1 != 0) = true := by rw [odd_and x hb, ho]; decide
        go_wp2
        exact ⟨⟨k + 1, by omega, by go_num, int_eq (by rw [iter_succ k n x HX.out]; exact step_odd x hb ho)⟩, by simp [intOf]; omega⟩
      · have h1 : (bits .and .u32 (x : Int) 1 != 0) = false := by rw [odd_and x hb, show x % 2 = 0 from by omega]; decide
        go_wp2
        exact ⟨⟨k + 1, by omega, by go_num, int_eq (by rw [iter_succ k n x HX.out]; exact step_even x ho)⟩, by simp [intOf]; omega⟩
    · go_wp2
      go_ret
      exact ⟨ret_int (by rw [← HX.out, show k = 8 from by omega]; rfl), rfl⟩

/-- The slice's elements are the bytes f 0, f 1, .. -/
def Row (w : World) (a : Option Addr) (len : Nat) (f : Nat → Nat) : Prop :=
  len ≤ maxLen ∧ (∀ i, i < len → f i < 256) ∧ (0 < len → ∃ b off, a = some ⟨b, off, none⟩ ∧ ∀ i, i < len → w.cell? ⟨b, off + i, none⟩ = some (.int .u8 (f i : Int)))

theorem xor_byte (m x : Nat) (h : m < 4294967296) (hx : x < 256) : bits .xor .u32 (m : Int) (x : Int) = ((m ^^^ x : Nat) : Int) :=
  u32_xor_nat m x h (by omega)

theorem flip_all (m : Nat) (h : m < 4294967296) : bits .xor .u32 IntKind.u32.max (m : Int) = ((4294967295 ^^^ m : Nat) : Int) := by
  have e : IntKind.u32.max = ((4294967295 : Nat) : Int) := by decide
  rw [e]
  exact u32_xor_nat 4294967295 m (by omega) h
/-- CRC-32C of the bytes f 0 .. f (n - 1). -/
def crc (f : Nat → Nat) (n : Nat) : Nat := 4294967295 ^^^ crcUpto f n

set_option maxHeartbeats 400000 in
theorem of_some (b off len cap : Nat) (f : Nat → Nat) (w : World) (hm : len ≤ maxLen) (hf : ∀ i, i < len → f i < 256)
    (hc : ∀ i, i < len → w.cell? ⟨b, off + i, none⟩ = some (.int .u8 (f i : Int))) :
    Calls Try.prog 76 #[.slice (some ⟨b, off, none⟩) len cap] w fun e w' => e = .returned (.int .u32 (crc f len : Int)) ∧ w' = w := by
  unfold maxLen at hm
  go_enter Try.func76, Try.ntmps76
  go_wp2
  go_loop [3, 8] (fun r i => ∃ k : Nat, k ≤ len ∧ i = .int .i64 k ∧ r = .int .u32 (crcUpto f k : Int)) (fun _ i => len - (intOf i).toNat)
  case atStart => exact ⟨0, Nat.zero_le _, rfl, rfl⟩
  case round =>
    obtain ⟨k, hk, rfl, rfl⟩ := hrel
    have hb := crcUpto_lt f k fun i hi => hf i (by omega)
    by_cases hlt : k < len
    · have hck := hc k hlt
      have hfk := hf k hlt
      have HY : Hid (crcUpto f (k + 1) = crcByte (crcUpto f k ^^^ f k)) := rfl
      generalize hx : crcUpto f k = x at *
      clear hx hc hf
      go_wp2_with fail
      rw [xor_byte x (f k) hb hfk]
      refine (through_any _ _ (xor_lt32 hb (by omega))).mono ?_
      rintro e w' ⟨rfl, rfl⟩
      go_wp2
      exact ⟨⟨k + 1, by omega, by go_num, int_eq (by rw [HY.out])⟩, by simp [intOf]; omega⟩
    · go_wp2
      go_ret
      exact ⟨ret_int (by rw [flip_all _ hb, show k = len from by omega]; rfl), rfl⟩
set_option maxHeartbeats 400000 in
theorem of_empty (a : Option Addr) (cap : Nat) (f : Nat → Nat) (w : World) :
    Calls Try.prog 76 #[.slice a 0 cap] w fun e w' => e = .returned (.int .u32 (crc f 0 : Int)) ∧ w' = w := by
  go_enter Try.func76, Try.ntmps76
  go_wp2
  go_loop [3, 8] (fun r i => i = .int .i64 0 ∧ r = .int .u32 (crcUpto f 0 : Int)) (fun _ i => 0 - (intOf i).toNat)
  case atStart => exact ⟨rfl, rfl⟩
  case round =>
    obtain ⟨rfl, rfl⟩ := hrel
    have hb := crcUpto_lt f 0 fun i hi => absurd hi (by omega)
    go_wp2
    go_ret
    exact ⟨ret_int (by rw [flip_all _ hb]; rfl), rfl⟩
theorem of_any (a : Option Addr) (len cap : Nat) (f : Nat → Nat) (w : World) (h : Row w a len f) :
    Calls Try.prog 76 #[.slice a len cap] w fun e w' => e = .returned (.int .u32 (crc f len : Int)) ∧ w' = w := by
  obtain ⟨hm, hf, h3⟩ := h
  by_cases h0 : len = 0
  · subst h0; exact of_empty a cap f w
  · obtain ⟨b, off, rfl, hc⟩ := h3 (by omega)
    exact of_some b off len cap f w hm hf hc

set_option maxHeartbeats 400000 in
theorem ref_some (b off len cap : Nat) (f : Nat → Nat) (w : World) (hm : len ≤ maxLen) (hf : ∀ i, i < len → f i < 256)
    (hc : ∀ i, i < len → w.cell? ⟨b, off + i, none⟩ = some (.int .u8 (f i : Int))) :
    Calls Try.prog 57 #[.slice (some ⟨b, off, none⟩) len cap] w fun e w' => e = .returned (.int .u32 (crc f len : Int)) ∧ w' = w := by
  unfold maxLen at hm
  go_enter Try.func57, Try.ntmps57
  go_wp2
  go_loop [3, 4] (fun r i => ∃ k : Nat, k ≤ len ∧ i = .int .i64 k ∧ r = .int .u32 (crcUpto f k : Int)) (fun _ i => len - (intOf i).toNat)
  case atStart => exact ⟨0, Nat.zero_le _, rfl, rfl⟩
  case round =>
    obtain ⟨k, hk, rfl, rfl⟩ := hrel
    have hb := crcUpto_lt f k fun i hi => hf i (by omega)
    by_cases hlt : k < len
    · have hck := hc k hlt
      have hfk := hf k hlt
      have HY : Hid (crcUpto f (k + 1) = crcByte (crcUpto f k ^^^ f k)) := rfl
      generalize hx : crcUpto f k = x at *
      clear hx hc hf
      go_wp2
      rw [xor_byte x (f k) hb hfk]
      have hz := xor_lt32 hb (show f k < 4294967296 by omega)
      generalize hq : x ^^^ f k = z at *
      go_loop [3, 5] (fun r j => ∃ m : Nat, m ≤ 8 ∧ j = .int .i64 m ∧ r = .int .u32 (crcIter m z : Int)) (fun _ j => 8 - (intOf j).toNat)
      case atStart => exact ⟨0, Nat.zero_le _, rfl, rfl⟩
      case round =>
        obtain ⟨m, hm8, rfl, rfl⟩ := hrel
        have hbm := crcIter_lt m z hz
        generalize hy : crcIter m z = y at *
        have HI : Hid (crcIter m z = y) := hy
        clear hy
        by_cases hlt8 : m < 8
        · by_cases ho : y % 2 = 1
          · have h1 : (((y : Int) % 2) == 1) = true := by rw [beq_iff_eq]; omega
            go_wp2
            exact ⟨⟨m + 1, by omega, by go_num, int_eq (by rw [iter_succ m z y HI.out]; exact step_odd y hbm ho)⟩, by simp [intOf]; omega⟩
          · have h1 : (((y : Int) % 2) == 1) = false := by rw [beq_eq_false_iff_ne]; omega
            go_wp2
            exact ⟨⟨m + 1, by omega, by go_num, int_eq (by rw [iter_succ m z y HI.out]; exact step_even y ho)⟩, by simp [intOf]; omega⟩
        · go_wp2
          exact ⟨⟨k + 1, by omega, by go_num, int_eq (by rw [HY.out, ← HI.out, show m = 8 from by omega]; rfl)⟩, by simp [intOf]; omega⟩
    · go_wp2
      go_ret
      exact ⟨ret_int (by rw [flip_all _ hb, show k = len from by omega]; rfl), rfl⟩
set_option maxHeartbeats 400000 in
theorem ref_empty (a : Option Addr) (cap : Nat) (f : Nat → Nat) (w : World) :
    Calls Try.prog 57 #[.slice a 0 cap] w fun e w' => e = .returned (.int .u32 (crc f 0 : Int)) ∧ w' = w := by
  go_enter Try.func57, Try.ntmps57
  go_wp2
  go_loop [3, 4] (fun r i => i = .int .i64 0 ∧ r = .int .u32 (crcUpto f 0 : Int)) (fun _ i => 0 - (intOf i).toNat)
  case atStart => exact ⟨rfl, rfl⟩
  case round =>
    obtain ⟨rfl, rfl⟩ := hrel
    have hb := crcUpto_lt f 0 fun i hi => absurd hi (by omega)
    go_wp2
    go_ret
    exact ⟨ret_int (by rw [flip_all _ hb]; rfl), rfl⟩
theorem ref_any (a : Option Addr) (len cap : Nat) (f : Nat → Nat) (w : World) (h : Row w a len f) :
    Calls Try.prog 57 #[.slice a len cap] w fun e w' => e = .returned (.int .u32 (crc f len : Int)) ∧ w' = w := by
  obtain ⟨hm, hf, h3⟩ := h
  by_cases h0 : len = 0
  · subst h0; exact ref_empty a cap f w
  · obtain ⟨b, off, rfl, hc⟩ := h3 (by omega)
    exact ref_some b off len cap f w hm hf hc

theorem of_rw (a : Option Addr) (len cap : Nat) (f : Nat → Nat) (w : World) (h : Rw w a len f) (hf : ∀ i, i < len → f i < 256) :
    Calls Try.prog 76 #[.slice a len cap] w fun e w' => e = .returned (.int .u32 (crc f len : Int)) ∧ w' = w := of_any a len cap f w ⟨h.1, hf, h.2⟩
theorem ref_rw (a : Option Addr) (len cap : Nat) (f : Nat → Nat) (w : World) (h : Rw w a len f) (hf : ∀ i, i < len → f i < 256) :
    Calls Try.prog 57 #[.slice a len cap] w fun e w' => e = .returned (.int .u32 (crc f len : Int)) ∧ w' = w := ref_any a len cap f w ⟨h.1, hf, h.2⟩
theorem crc_lt (f : Nat → Nat) (n : Nat) (hf : ∀ i, i < n → f i < 256) : crc f n < 4294967296 := xor_lt32 (by omega) (crcUpto_lt f n hf)
theorem crc_congr (f g : Nat → Nat) (n : Nat) (h : ∀ i, i < n → f i = g i) : crc f n = crc g n := by unfold crc; rw [crcUpto_same f g n h]
end Go.Proofs.Ytbecchoidglaeaa
