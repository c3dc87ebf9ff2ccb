/- Floats that hold whole numbers: what they are, how they stand to each other, what is the opposite. -/
import Derived.Laws.Cover2
namespace Go.Proofs.Ytolpaimmmhoiiaa

theorem signed_more (s : Bool) (m u v : Nat) : Ieee.signed s m (u + v) = Ieee.signed s m u * 2 ^ v := by
  unfold Ieee.signed
  have e : m <<< (u + v) = (m <<< u) * 2 ^ v := by rw [Nat.shiftLeft_eq, Nat.shiftLeft_eq, Nat.pow_add, Nat.mul_assoc]
  rw [e]
  cases s
  · simp
  · simp [Int.neg_mul]
theorem compare_less {a b : Int} (h : a < b) : compare a b = .lt := by
  simp [compare, compareOfLessAndEq, h]
theorem compare_more {a b : Int} (h : b < a) : compare a b = .gt := by
  have h1 : ¬ a < b := by omega
  have h2 : ¬ a = b := by omega
  simp [compare, compareOfLessAndEq, h1, h2]
theorem compare_same (a : Int) : compare a a = .eq := by
  simp [compare, compareOfLessAndEq]
theorem compare_times (a b : Int) {p : Int} (h : 0 < p) : compare (a * p) (b * p) = compare a b := by
  rcases Int.lt_trichotomy a b with h1 | h1 | h1
  · rw [compare_less h1, compare_less (Int.mul_lt_mul_of_pos_right h1 h)]
  · subst h1
    rw [compare_same, compare_same]
  · rw [compare_more h1, compare_more (Int.mul_lt_mul_of_pos_right h1 h)]
theorem two_pow_pos (c : Nat) : (0 : Int) < 2 ^ c := by
  have : (0 : Nat) < 2 ^ c := Nat.two_pow_pos c
  exact_mod_cast this
/-- The float of these bits is the whole number n. -/
def FlIs (b : Nat) (n : Int) : Prop := ∃ s m e, Ieee.double.read b = .number s m e ∧ ∀ c : Nat, 0 ≤ e + c → Ieee.signed s m (e + c).toNat = n * 2 ^ c
theorem FlIs.order {a b : Nat} {x y : Int} (h : FlIs a x) (k : FlIs b y) : Ieee.double.order a b = some (compare x y) := by
  obtain ⟨s, m, i, hr, hc⟩ := h
  obtain ⟨t, n, j, kr, kc⟩ := k
  unfold Ieee.Format.order
  rw [hr, kr]
  show some (compare (Ieee.signed s m (i - min i j).toNat) (Ieee.signed t n (j - min i j).toNat)) = _
  have e1 : min i j ≤ i := Int.min_le_left _ _
  have e2 : min i j ≤ j := Int.min_le_right _ _
  generalize min i j = q at *
  have h1 := hc q.natAbs (by omega)
  have k1 := kc q.natAbs (by omega)
  obtain ⟨d, hd⟩ : ∃ d : Nat, q + q.natAbs = d := ⟨(q + q.natAbs).toNat, by omega⟩
  have u1 : (i + q.natAbs).toNat = (i - q).toNat + d := by omega
  have u2 : (j + q.natAbs).toNat = (j - q).toNat + d := by omega
  rw [u1, signed_more] at h1
  rw [u2, signed_more] at k1
  rw [← compare_times (Ieee.signed s m (i - q).toNat) _ (two_pow_pos d), h1, k1, compare_times _ _ (two_pow_pos _)]
theorem FlIs.zero : FlIs 0 0 := by
  refine ⟨false, 0, -1074, by decide +kernel, fun c _ => ?_⟩
  unfold Ieee.signed
  simp
theorem read_eq (b : Nat) : Ieee.double.read b = if b % 9223372036854775808 < 4503599627370496 then .number (b / 9223372036854775808 % 2 == 1) (b % 9223372036854775808) (-1074)
    else if b % 9223372036854775808 < 9218868437227405312 then
      .number (b / 9223372036854775808 % 2 == 1) (4503599627370496 + b % 9223372036854775808 % 4503599627370496) (-1074 + (b % 9223372036854775808 / 4503599627370496 - 1 : Nat))
    else if b % 9223372036854775808 = 9218868437227405312 then .infinity (b / 9223372036854775808 % 2 == 1)
    else .nan (b / 9223372036854775808 % 2 == 1) (b % 9223372036854775808 - 9218868437227405312) := rfl
theorem signed_not (s : Bool) (m u : Nat) : Ieee.signed (!s) m u = - Ieee.signed s m u := by
  unfold Ieee.signed
  cases s <;> simp
theorem FlIs.opp {b : Nat} {n : Int} (h : FlIs b n) : FlIs (Op.negFloat .f64 b) (-n) := by
  obtain ⟨s, m, e, hr, hc⟩ := h
  have e1 : Op.negFloat .f64 b = b ^^^ 2 ^ 63 := rfl
  have e2 : (b ^^^ 2 ^ 63) % 9223372036854775808 = b % 9223372036854775808 := by
    have := Nat.xor_mod_two_pow (a := b) (b := 2 ^ 63) (n := 63)
    rw [Nat.mod_self, Nat.xor_zero] at this
    exact this
  have e3 : (b ^^^ 2 ^ 63) / 9223372036854775808 = b / 9223372036854775808 ^^^ 1 := by
    have := Nat.shiftRight_xor_distrib (a := b) (b := 2 ^ 63) (i := 63)
    rw [Nat.shiftRight_eq_div_pow, Nat.shiftRight_eq_div_pow, Nat.shiftRight_eq_div_pow] at this
    exact this
  have e4 : ((b ^^^ 2 ^ 63) / 9223372036854775808 % 2 == 1) = !(b / 9223372036854775808 % 2 == 1) := by
    rw [e3]
    generalize b / 9223372036854775808 = q
    have := Nat.xor_mod_two_pow (a := q) (b := 1) (n := 1)
    have h2 : (q ^^^ 1) % 2 = (q % 2) ^^^ 1 := this
    rw [h2]
    rcases Nat.mod_two_eq_zero_or_one q with h3 | h3 <;> rw [h3] <;> rfl
  refine ⟨!s, m, e, ?_, fun c hn => by rw [signed_not, hc c hn, Int.neg_mul]⟩
  rw [e1, read_eq, e2, e4]
  rw [read_eq] at hr
  split at hr
  · rename_i h1
    rw [if_pos h1]
    injection hr with q1 q2 q3
    rw [q1, q2, q3]
  · rename_i h1
    rw [if_neg h1]
    split at hr
    · rename_i h2
      rw [if_pos h2]
      injection hr with q1 q2 q3
      rw [q1, q2, q3]
    · split at hr <;> cases hr
theorem word_eq (s : Bool) (r : Nat) : Ieee.double.word s r = if s then 9223372036854775808 + r else r := rfl
theorem nearest_eq (s : Bool) (m : Nat) (h : m ≠ 0) : Ieee.double.nearest s m 0 = Ieee.double.word s (min ((max ((0 : Int) + m.log2 - 52) (-1074) - -1074).toNat * 4503599627370496 + Ieee.Toward.even.cut s (m <<< (0 - max ((0 : Int) + m.log2 - 52) (-1074)).toNat) (max ((0 : Int) + m.log2 - 52) (-1074) - 0).toNat) 9218868437227405312) := by
  unfold Ieee.Format.nearest
  rw [if_neg h]
  rfl
theorem cut_whole (s : Bool) (n : Nat) : Ieee.Toward.even.cut s n 0 = n := by
  unfold Ieee.Toward.cut
  have e : 1 <<< min 0 (n.log2 + 2) = 1 := by rw [Nat.zero_min]; rfl
  dsimp only
  rw [e, Nat.div_one, Nat.mod_one]
  rfl
/-- What a number of a binade is read as. -/
theorem read_norm (s : Bool) (E k : Nat) (hE : E ≤ 2044) (h1 : 4503599627370496 ≤ k) (h2 : k < 9007199254740992) : Ieee.double.read (Ieee.double.word s (E * 4503599627370496 + k)) = .number s k (-1074 + (E : Int)) := by
  have hr : E * 4503599627370496 + k < 9223372036854775808 := by omega
  have m1 : Ieee.double.word s (E * 4503599627370496 + k) % 9223372036854775808 = E * 4503599627370496 + k := by
    rw [word_eq]
    cases s
    · simp only [Bool.false_eq_true, if_false]
      omega
    · simp only [if_true]
      omega
  have m2 : (Ieee.double.word s (E * 4503599627370496 + k) / 9223372036854775808 % 2 == 1) = s := by
    rw [word_eq]
    cases s
    · simp only [Bool.false_eq_true, if_false]
      have : (E * 4503599627370496 + k) / 9223372036854775808 = 0 := by omega
      rw [this]
      rfl
    · simp only [if_true]
      have : (9223372036854775808 + (E * 4503599627370496 + k)) / 9223372036854775808 = 1 := by omega
      rw [this]
      rfl
  rw [read_eq, m1, m2, if_neg (by omega), if_pos (by omega)]
  have a1 : (E * 4503599627370496 + k) % 4503599627370496 = k - 4503599627370496 := by omega
  have a2 : (E * 4503599627370496 + k) / 4503599627370496 - 1 = E := by omega
  rw [a1, a2]
  have a3 : 4503599627370496 + (k - 4503599627370496) = k := by omega
  rw [a3]
theorem nearest_small (s : Bool) (m : Nat) (h : m ≠ 0) (hm : m < 9007199254740992) : Ieee.double.read (Ieee.double.nearest s m 0) = .number s (m * 2 ^ (52 - m.log2)) (m.log2 - 52 : Int) := by
  have l1 := Nat.log2_self_le h
  have l2 := Nat.lt_log2_self (n := m)
  have l3 : m.log2 ≤ 52 := by
    have : m.log2 < 53 := (Nat.log2_lt h).2 hm
    omega
  generalize hL : m.log2 = L at *
  rw [nearest_eq s m h, hL]
  have e1 : max ((0 : Int) + L - 52) (-1074) = (L : Int) - 52 := by omega
  rw [e1]
  have e2 : ((L : Int) - 52 - -1074).toNat = L + 1022 := by omega
  have e3 : (0 - ((L : Int) - 52)).toNat = 52 - L := by omega
  have e4 : ((L : Int) - 52 - 0).toNat = 0 := by omega
  rw [e2, e3, e4, cut_whole, Nat.shiftLeft_eq]
  have p1 : 2 ^ L * 2 ^ (52 - L) = 4503599627370496 := by
    rw [← Nat.pow_add]
    have : L + (52 - L) = 52 := by omega
    rw [this]
  have p2 : 2 ^ (L + 1) * 2 ^ (52 - L) = 9007199254740992 := by
    rw [← Nat.pow_add]
    have : L + 1 + (52 - L) = 53 := by omega
    rw [this]
  have q0 : 0 < 2 ^ (52 - L) := Nat.two_pow_pos _
  have q1 : 4503599627370496 ≤ m * 2 ^ (52 - L) := by
    rw [← p1]
    exact Nat.mul_le_mul_right _ l1
  have q2 : m * 2 ^ (52 - L) < 9007199254740992 := by
    rw [← p2]
    exact Nat.mul_lt_mul_of_pos_right l2 q0
  generalize m * 2 ^ (52 - L) = k at *
  have e5 : min ((L + 1022) * 4503599627370496 + k) 9218868437227405312 = (L + 1022) * 4503599627370496 + k := Nat.min_eq_left (by omega)
  rw [e5, read_norm s (L + 1022) k (by omega) q1 q2]
  have e6 : (-1074 : Int) + ((L + 1022 : Nat) : Int) = (L : Int) - 52 := by omega
  rw [e6]
theorem nearest_top (s : Bool) : Ieee.double.read (Ieee.double.nearest s 9007199254740992 0) = .number s 4503599627370496 1 := by
  cases s <;> decide +kernel
/-- What 'float64(n)' is. -/
theorem FlIs.of (n : Int) (h1 : -9007199254740992 ≤ n) (h2 : n ≤ 9007199254740992) : FlIs (floatOfInt .f64 n) n := by
  have e0 : floatOfInt .f64 n = Ieee.double.nearest (n < 0) n.natAbs 0 := rfl
  have hs : ∀ k : Nat, Ieee.signed (decide (n < 0)) n.natAbs k = n * 2 ^ k := fun k => by
    unfold Ieee.signed
    by_cases hn : n < 0
    · rw [if_pos (by simpa using hn), Nat.shiftLeft_eq]
      push_cast
      have : ((n.natAbs : Nat) : Int) = - n := by omega
      rw [this, Int.neg_mul, Int.neg_neg]
    · rw [if_neg (by simpa using hn), Nat.shiftLeft_eq]
      push_cast
      have : ((n.natAbs : Nat) : Int) = n := by omega
      rw [this]
  rw [e0]
  by_cases hz : n.natAbs = 0
  · have : n = 0 := by omega
    subst this
    exact FlIs.zero
  · by_cases ht : n.natAbs = 9007199254740992
    · refine ⟨_, _, _, by rw [ht]; exact nearest_top _, fun c hc => ?_⟩
      have h3 := hs c
      rw [ht] at h3
      rw [← h3]
      have e : ((1 : Int) + c).toNat = 1 + c := by omega
      rw [e]
      unfold Ieee.signed
      have e2 : 4503599627370496 <<< (1 + c) = 9007199254740992 <<< c := by
        rw [Nat.shiftLeft_add]
        have : 4503599627370496 <<< 1 = 9007199254740992 := by decide
        rw [this]
      rw [e2]
    · refine ⟨_, _, _, nearest_small _ _ hz (by omega), fun c hc => ?_⟩
      rw [← hs c]
      have l3 : n.natAbs.log2 ≤ 52 := by
        have : n.natAbs.log2 < 53 := (Nat.log2_lt hz).2 (by omega)
        omega
      generalize n.natAbs.log2 = L at *
      generalize n.natAbs = m at *
      have e1 : c = (52 - L) + ((L : Int) - 52 + c).toNat := by omega
      generalize ((L : Int) - 52 + c).toNat = d at *
      rw [e1]
      unfold Ieee.signed
      rw [Nat.shiftLeft_eq, Nat.shiftLeft_eq, Nat.pow_add, Nat.mul_assoc]
end Go.Proofs.Ytolpaimmmhoiiaa
