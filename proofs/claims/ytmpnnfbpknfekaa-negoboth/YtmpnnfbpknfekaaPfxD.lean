/- Prefixes as bytes, in plain numbers: what is read, what is written. Nothing of the program is named here. -/
import Derived.Test.YtmpnnfbpknfekaaPfx
namespace Go.Proofs.Ytmpnnfbpknfekaa
/-- How many bytes n bits take. -/
def szOf (n : Nat) : Nat := (n + 7) / 8
theorem szOf_le (n : Nat) (h : n ≤ 32) : szOf n ≤ 4 := by unfold szOf; omega
/-- The number of the first k of four bytes, those from place j on. -/
def numUp (f : Nat → Nat) (j : Nat) : Nat → Nat
  | 0 => 0
  | k + 1 => numUp f j k + f (j + k) * 2 ^ (8 * (3 - k))
theorem numUp_div (f : Nat → Nat) (j : Nat) : ∀ k, k ≤ 4 → ∃ q, numUp f j k = 2 ^ (8 * (4 - k)) * q
  | 0, _ => ⟨0, by simp [numUp]⟩
  | k + 1, h => by
    obtain ⟨q, hq⟩ := numUp_div f j k (by omega)
    refine ⟨256 * q + f (j + k), ?_⟩
    rw [numUp, hq, show 4 - (k + 1) = 3 - k from by omega, show 8 * (4 - k) = 8 * (3 - k) + 8 from by omega, Nat.pow_add, Nat.mul_add]
    simp only [Nat.reducePow]
    rw [Nat.mul_assoc, Nat.mul_comm (f (j + k))]
theorem numUp_lt (f : Nat → Nat) (j k : Nat) (hk : k ≤ 4) (hf : ∀ q, q < k → f (j + q) < 256) : numUp f j k + 2 ^ (8 * (4 - k)) ≤ 4294967296 := by
  induction k with
  | zero => simp [numUp]
  | succ k ih =>
    have h1 := ih (by omega) (fun q hq => hf q (by omega))
    have h2 := hf k (by omega)
    rw [numUp, show 4 - (k + 1) = 3 - k from by omega]
    rw [show 8 * (4 - k) = 8 * (3 - k) + 8 from by omega, Nat.pow_add] at h1
    generalize 2 ^ (8 * (3 - k)) = m at *
    have h3 : f (j + k) * m + m ≤ m * 2 ^ 8 := by
      rw [← Nat.succ_mul, Nat.mul_comm]
      exact Nat.mul_le_mul_left m (by omega)
    omega
theorem numUp_lt32 (f : Nat → Nat) (j k : Nat) (hk : k ≤ 4) (hf : ∀ q, q < k → f (j + q) < 256) : numUp f j k < 4294967296 := by
  have := numUp_lt f j k hk hf
  have := Nat.two_pow_pos (8 * (4 - k))
  omega
/-- The next byte is or'ed in. -/
theorem numUp_or (f : Nat → Nat) (j k : Nat) (hk : k < 4) (hf : f (j + k) < 256) : numUp f j k ||| f (j + k) * 2 ^ (8 * (3 - k)) = numUp f j (k + 1) := by
  obtain ⟨q, hq⟩ := numUp_div f j k (by omega)
  have hlt : f (j + k) * 2 ^ (8 * (3 - k)) < 2 ^ (8 * (4 - k)) := by
    rw [show 8 * (4 - k) = 8 + 8 * (3 - k) from by omega, Nat.pow_add]
    exact Nat.mul_lt_mul_of_pos_right (by simpa using hf) (Nat.two_pow_pos _)
  rw [numUp, hq, Nat.two_pow_add_eq_or_of_lt hlt]
theorem numUp_congr (f g : Nat → Nat) (j i k : Nat) (h : ∀ q, q < k → f (j + q) = g (i + q)) : numUp f j k = numUp g i k := by
  induction k with
  | zero => rfl
  | succ k ih => rw [numUp, numUp, ih (fun q hq => h q (by omega)), h k (by omega)]
/-- Stands a whole prefix at place i? -/
def okAt (f : Nat → Nat) (len i : Nat) : Bool := decide (f i ≤ 32 ∧ i + 1 + szOf (f i) ≤ len)
/-- The prefix at place i. -/
def itemAt (f : Nat → Nat) (i : Nat) : Nat × Nat := (cutTo (numUp f (i + 1) (szOf (f i))) (f i), f i)
/-- What the bytes from place i on are the prefixes of, behind those of acc, if at most so many are left. -/
def decFuel (f : Nat → Nat) (len : Nat) : Nat → Nat → List (Nat × Nat) → Option (List (Nat × Nat))
  | 0, _, acc => some acc
  | k + 1, i, acc => if i < len then if okAt f len i then decFuel f len k (i + 1 + szOf (f i)) (acc ++ [itemAt f i]) else none else some acc
/-- What the bytes from place i on are the prefixes of, behind those of acc. -/
def decRun (f : Nat → Nat) (len i : Nat) (acc : List (Nat × Nat)) : Option (List (Nat × Nat)) := decFuel f len (len - i) i acc
theorem decFuel_end {f : Nat → Nat} {len i : Nat} {acc : List (Nat × Nat)} (h : ¬ i < len) : ∀ k, decFuel f len k i acc = some acc
  | 0 => rfl
  | k + 1 => by rw [decFuel, if_neg h]
/-- More than are left make no other answer. -/
theorem decFuel_more (f : Nat → Nat) (len : Nat) : ∀ (k i : Nat) (acc : List (Nat × Nat)), len - i ≤ k → ∀ d, decFuel f len (k + d) i acc = decFuel f len k i acc
  | 0, i, acc, h, d => by rw [decFuel_end (by omega), decFuel_end (by omega)]
  | k + 1, i, acc, h, d => by
    rw [show k + 1 + d = (k + d) + 1 from by omega, decFuel, decFuel]
    by_cases hi : i < len
    · rw [if_pos hi, if_pos hi]
      by_cases ho : okAt f len i = true
      · rw [if_pos ho, if_pos ho]
        exact decFuel_more f len k _ _ (by omega) d
      · rw [if_neg ho, if_neg ho]
    · rw [if_neg hi, if_neg hi]
theorem decRun_go {f : Nat → Nat} {len i : Nat} {acc : List (Nat × Nat)} (h : i < len) (ho : okAt f len i = true) : decRun f len i acc = decRun f len (i + 1 + szOf (f i)) (acc ++ [itemAt f i]) := by
  unfold decRun
  rw [show len - i = (len - i - 1) + 1 from by omega, decFuel, if_pos h, if_pos ho, show len - i - 1 = (len - (i + 1 + szOf (f i))) + (len - i - 1 - (len - (i + 1 + szOf (f i)))) from by omega, decFuel_more _ _ _ _ _ (by omega)]
theorem decRun_no {f : Nat → Nat} {len i : Nat} {acc : List (Nat × Nat)} (h : i < len) (ho : okAt f len i = false) : decRun f len i acc = none := by
  unfold decRun
  rw [show len - i = (len - i - 1) + 1 from by omega, decFuel, if_pos h, if_neg (by simp [ho])]
theorem decRun_end {f : Nat → Nat} {len i : Nat} {acc : List (Nat × Nat)} (h : ¬ i < len) : decRun f len i acc = some acc := decFuel_end h _
/-- Byte q of A, of four, the highest first. -/
def byteAt (A q : Nat) : Nat := A / 2 ^ (8 * (3 - q)) % 256
/-- The bytes of A/n. -/
def encOne (A n : Nat) : List Nat := n :: (List.range (szOf n)).map (byteAt A)
theorem encOne_length (A n : Nat) : (encOne A n).length = 1 + szOf n := by simp [encOne]; omega
/-- The bytes of those that are right. -/
def encAll : List (Nat × Int) → List Nat
  | [] => []
  | p :: r => (if rightB p.1 p.2 then encOne p.1 p.2.toNat else []) ++ encAll r
/-- Those that are right. -/
def rights : List (Nat × Int) → List (Nat × Nat)
  | [] => []
  | p :: r => (if rightB p.1 p.2 then [(p.1, p.2.toNat)] else []) ++ rights r
theorem encAll_snoc (l : List (Nat × Int)) (p : Nat × Int) : encAll (l ++ [p]) = encAll l ++ (if rightB p.1 p.2 then encOne p.1 p.2.toNat else []) := by
  induction l with
  | nil => simp [encAll]
  | cons a l ih => simp only [List.cons_append, encAll, ih, List.append_assoc]
theorem rights_snoc (l : List (Nat × Int)) (p : Nat × Int) : rights (l ++ [p]) = rights l ++ (if rightB p.1 p.2 then [(p.1, p.2.toNat)] else []) := by
  induction l with
  | nil => simp [rights]
  | cons a l ih => simp only [List.cons_append, rights, ih, List.append_assoc]
theorem byteAt_lt (A q : Nat) : byteAt A q < 256 := Nat.mod_lt _ (by omega)
theorem encOne_lt (A n : Nat) (hn : n ≤ 32) : ∀ x ∈ encOne A n, x < 256 := by
  intro x hx
  simp only [encOne, List.mem_cons, List.mem_map] at hx
  rcases hx with rfl | ⟨q, _, rfl⟩
  · omega
  · exact byteAt_lt A q
theorem encAll_lt (l : List (Nat × Int)) : ∀ x ∈ encAll l, x < 256 := by
  induction l with
  | nil => intro x hx; simp [encAll] at hx
  | cons p l ih =>
    intro x hx
    simp only [encAll, List.mem_append] at hx
    rcases hx with hx | hx
    · cases h : rightB p.1 p.2 with
      | false => simp [h] at hx
      | true =>
        obtain ⟨n, hn, hl, _⟩ := rightB_len h
        simp only [h, if_true] at hx
        exact encOne_lt p.1 p.2.toNat (by omega) x hx
    · exact ih x hx
theorem encAll_length (l : List (Nat × Int)) : (encAll l).length ≤ 5 * l.length := by
  induction l with
  | nil => simp [encAll]
  | cons p l ih =>
    simp only [encAll, List.length_append, List.length_cons]
    cases h : rightB p.1 p.2 with
    | false => simp; omega
    | true =>
      obtain ⟨n, hn, hl, _⟩ := rightB_len h
      have := szOf_le p.2.toNat (by omega)
      simp only [if_true, encOne_length]; omega
/-- The first k bytes of A make A's first 8 k bits. -/
theorem numUp_bytes (A k : Nat) (hk : k ≤ 4) (g : Nat → Nat) (j : Nat) (hg : ∀ q, q < k → g (j + q) = byteAt A q) (hA : A < 4294967296) : numUp g j k = A / 2 ^ (8 * (4 - k)) * 2 ^ (8 * (4 - k)) := by
  induction k with
  | zero => rw [numUp, Nat.div_eq_of_lt (by simpa using hA), Nat.zero_mul]
  | succ k ih =>
    rw [numUp, ih (by omega) (fun q hq => hg q (by omega)), hg k (by omega), show 4 - (k + 1) = 3 - k from by omega]
    unfold byteAt
    rw [show 8 * (4 - k) = 8 * (3 - k) + 8 from by omega, Nat.pow_add, ← Nat.div_div_eq_div_mul]
    generalize 2 ^ (8 * (3 - k)) = m
    generalize A / m = x
    have e := Nat.div_add_mod x 256
    have e2 : x * m = (256 * (x / 256) + x % 256) * m := by rw [e]
    rw [e2, Nat.add_mul, show (2 : Nat) ^ 8 = 256 from rfl]
    congr 1
    ac_rfl
/-- The item whose bytes are those of a right one is that one. -/
theorem item_enc (A n : Nat) (hA : A < 4294967296) (hn : n ≤ 32) (hr : cutTo A n = A) (g : Nat → Nat) (i : Nat) (h0 : g i = n) (hg : ∀ q, q < szOf n → g (i + 1 + q) = byteAt A q) : itemAt g i = (A, n) := by
  unfold itemAt
  rw [h0, numUp_bytes A (szOf n) (szOf_le n hn) g (i + 1) hg hA]
  have e : 8 * (4 - szOf n) = 32 - 8 * szOf n := by omega
  have hs : n ≤ 8 * szOf n := by unfold szOf; omega
  have hs2 : 8 * szOf n ≤ 32 := by have := szOf_le n hn; omega
  rw [e, show A / 2 ^ (32 - 8 * szOf n) * 2 ^ (32 - 8 * szOf n) = cutTo A (8 * szOf n) from rfl, cutTo_cut A (8 * szOf n) n hs hs2, hr]
theorem getD_app (p m r : List Nat) (q : Nat) (hq : q < m.length) : (p ++ m ++ r).getD (p.length + q) 0 = m.getD q 0 := by
  rw [List.getD_eq_getElem?_getD, List.getD_eq_getElem?_getD, List.append_assoc, List.getElem?_append_right (by omega), show p.length + q - p.length = q from by omega, List.getElem?_append_left hq]
theorem dec_enc (l : List (Nat × Int)) (hl : ∀ x ∈ l, x.1 < 4294967296) : ∀ (pre : List Nat) (acc : List (Nat × Nat)), decRun (fun i => (pre ++ encAll l).getD i 0) (pre ++ encAll l).length pre.length acc = some (acc ++ rights l) := by
  induction l with
  | nil => intro pre acc; rw [decRun_end (by simp [encAll])]; simp [rights]
  | cons p l ih =>
    intro pre acc
    have ihl := ih (fun x hx => hl x (List.mem_cons_of_mem _ hx))
    cases h : rightB p.1 p.2 with
    | false =>
      have := ihl pre acc
      simpa [encAll, rights, h] using this
    | true =>
      obtain ⟨n, hn, hl32, hcut⟩ := rightB_len h
      have hn2 : p.2.toNat = n := by omega
      have e1 : encAll (p :: l) = encOne p.1 n ++ encAll l := by simp [encAll, h, hn2]
      have e2 : rights (p :: l) = (p.1, n) :: rights l := by simp [rights, h, hn2]
      have e3 : pre ++ encAll (p :: l) = pre ++ encOne p.1 n ++ encAll l := by rw [e1, List.append_assoc]
      have hlen := encOne_length p.1 n
      have hA := hl p (List.mem_cons_self ..)
      have g0 : (pre ++ encOne p.1 n ++ encAll l).getD pre.length 0 = n := by
        simp [encOne]
      have gq : ∀ q, q < szOf n → (pre ++ encOne p.1 n ++ encAll l).getD (pre.length + 1 + q) 0 = byteAt p.1 q := fun q hq => by
        have := getD_app pre (encOne p.1 n) (encAll l) (q + 1) (by omega)
        rw [show pre.length + 1 + q = pre.length + (q + 1) from by omega, this]
        simp [encOne, List.getD_eq_getElem?_getD, hq]
      rw [e3, e2]
      have hi : pre.length < (pre ++ encOne p.1 n ++ encAll l).length := by simp only [List.length_append]; omega
      have hi2 : pre.length + 1 + szOf n ≤ (pre ++ encOne p.1 n ++ encAll l).length := by simp only [List.length_append]; omega
      have hnext := ihl (pre ++ encOne p.1 n) (acc ++ [(p.1, n)])
      rw [show (pre ++ encOne p.1 n).length = pre.length + 1 + szOf n from by rw [List.length_append]; omega] at hnext
      generalize hG : (fun i => (pre ++ encOne p.1 n ++ encAll l).getD i 0) = G at *
      have G0 : G pre.length = n := by rw [← hG]; exact g0
      have Gq : ∀ q, q < szOf n → G (pre.length + 1 + q) = byteAt p.1 q := fun q hq => by rw [← hG]; exact gq q hq
      rw [decRun_go hi (by unfold okAt; exact decide_eq_true (by rw [G0]; exact ⟨hl32, hi2⟩)), item_enc p.1 n hA hl32 hcut G _ G0 Gq, G0, hnext]
      simp
end Go.Proofs.Ytmpnnfbpknfekaa
