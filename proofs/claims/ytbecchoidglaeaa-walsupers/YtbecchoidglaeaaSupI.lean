/- A superblock that is spoilt is none; what checkpoints leave. -/
import Derived.Test.YtbecchoidglaeaaWalK
namespace Go.Proofs.Ytbecchoidglaeaa
open Go.RowKit
set_option maxRecDepth 100000

theorem crc_unlike (f g : Nat → Nat) (k n : Nat) (hk : k < n) (hf : ∀ i, i < n → f i < 256) (hg : ∀ i, i < n → g i < 256) (hs : ∀ i, i < n → i ≠ k → f i = g i) (hd : f k ≠ g k) : crc f n ≠ crc g n := by
  intro e
  have h1 : crcUpto (fun i => if i < n then f i else 0) n ≠ crcUpto (fun i => if i < n then g i else 0) n :=
    crc_one _ _ k n hk (fun i hi => by simp only [if_pos hi]; exact hf i hi) (fun i hi => by simp only [if_pos hi]; exact hg i hi) (fun i hi => by
      by_cases h : i < n
      · simp only [if_pos h]; exact hs i h hi
      · simp only [if_neg h]) (by simp only [if_pos hk]; exact hd)
  have e1 : crcUpto (fun i => if i < n then f i else 0) n = crcUpto f n := crcUpto_same _ f n (fun i hi => by show (if i < n then f i else 0) = f i; rw [if_pos hi])
  have e2 : crcUpto (fun i => if i < n then g i else 0) n = crcUpto g n := crcUpto_same _ g n (fun i hi => by show (if i < n then g i else 0) = g i; rw [if_pos hi])
  rw [e1, e2] at h1
  exact h1 (xor_left_inj' e)
theorem sup_sum (g j : Nat) (hj : j < 4) : sup g (4 + j) = four (crc (four g) 4) j := by
  unfold sup fill cat
  rw [if_pos (by omega), if_neg (by omega), show 4 + j - 4 = j from by omega]
/-- A superblock of which one byte is another one is none. -/
theorem supAt_spoilt {s : St} {i g q : Nat} (hg : g < 4294967296) (hq : q < 64) (h1 : ∀ j, j < 64 → j ≠ q → s.now i j = sup g j) (h2 : s.now i q ≠ sup g q) : supAt s i = 0 := by
  apply supAt_no'
  rintro ⟨_, hn, _, he⟩
  have he2 := (eqB_iff _ _ _).1 he
  by_cases hq4 : q < 4
  · have hc : crc (four (num (s.now i))) 4 = crc (four g) 4 := by
      refine four_inj (crc_lt _ _ (fun i _ => four_lt _ i)) (crc_lt _ _ (fun i _ => four_lt _ i)) (fun j hj => ?_)
      rw [← sup_sum _ j hj, ← sup_sum _ j hj, ← he2 (4 + j) (by omega)]
      exact h1 (4 + j) (by omega) (by omega)
    refine crc_unlike _ _ q 4 hq4 (fun i _ => four_lt _ i) (fun i _ => four_lt _ i) (fun j hj hne => ?_) (fun e => ?_) hc
    · rw [← sup_at _ j hj, ← sup_at g j hj, ← he2 j (by omega)]
      exact h1 j (by omega) hne
    · rw [← sup_at _ q hq4, ← sup_at g q hq4, ← he2 q hq] at e
      exact h2 e
  · have hN : num (s.now i) = g := by
      rw [num_congr (g := sup g) (fun j hj => h1 j (by omega) (by omega))]
      exact num_sup g hg
    rw [hN] at he2
    exact h2 (he2 q hq)
/-- The region of generation g, of 80 sectors, as checkpoints leave it: that of 1 is 0; a later one has the byte g - 2. -/
def RegOk (s : St) (g : Nat) : Prop :=
  (g = 1 → ∀ x, fromOf 80 g ≤ x → x < toOf 80 g → ∀ j, j < 64 → s.now x j = 0) ∧
  (2 ≤ g → Pages s.now (fromOf 80 g) g (fun _ => g - 2) 1 64 ∧ ∀ x, fromOf 80 g + cnt 1 ≤ x → x < toOf 80 g → ∀ j, j < 64 → s.now x j = 0)
theorem from80 (g : Nat) : (fromOf 80 g = if g % 2 = 0 then 2 else 41) ∧ toOf 80 g = fromOf 80 g + 39 := by
  constructor
  · unfold fromOf half; rfl
  · rfl
theorem RegOk.congr {s t : St} {g : Nat} (h : RegOk s g) (e : ∀ x, fromOf 80 g ≤ x → x < toOf 80 g → ∀ j, j < 64 → t.now x j = s.now x j) : RegOk t g := by
  have h80 := (from80 g).2
  refine ⟨fun h1 x hx hx2 j hj => by rw [e x hx hx2 j hj]; exact h.1 h1 x hx hx2 j hj, fun h2 => ?_⟩
  obtain ⟨hp, hz⟩ := h.2 h2
  refine ⟨⟨fun j hj => ?_, fun i hi j hj => ?_⟩, fun x hx hx2 j hj => ?_⟩
  · rw [e _ (Nat.le_refl _) (by omega) j hj]; exact hp.1 j hj
  · rw [e _ (by omega) (by omega) j hj]; exact hp.2 i hi j hj
  · rw [e x (by omega) hx2 j hj]; exact hz x hx hx2 j hj
/-- i checkpoints were made, the byte k the k-th. -/
structure SInv (s : St) (i : Nat) : Prop where
  c : Calm s
  n : s.n = 80
  sup1 : ∀ j, j < 64 → s.now ((i + 1) % 2) j = sup (i + 1) j
  reg1 : RegOk s (i + 1)
  old : 1 ≤ i → (∀ j, j < 64 → s.now (i % 2) j = sup i j) ∧ RegOk s i
theorem sinv_new : SInv (openSt (St.made 80)).1 0 := by
  obtain ⟨h1, h2, h3, h4, h5⟩ := calm_new 80 (by omega)
  refine ⟨h2, h3, fun j hj => ?_, ⟨fun _ x hx _ j hj => ?_, fun h => by omega⟩, fun h => by omega⟩
  · show (openSt (St.made 80)).1.now 1 j = sup 1 j
    rw [h5 1 j hj, if_pos rfl]
  · have : fromOf 80 (0 + 1) = 41 := by decide
    rw [h5 x j hj, if_neg (by omega)]
theorem sinv_step {s : St} {i : Nat} (h : SInv s i) (hi : i < 200) : SInv (checkSt s (i + 2) (fun _ => i) 1).1 (i + 1) := by
  have hc1 : cnt 1 = 2 := by decide
  obtain ⟨_, h2, h3, h4, h5, h6, h7⟩ := calm_check h.c (i + 2) (fun _ => i) 1 (by rw [h.n]; omega) (fun _ _ => by show i < 256; omega) (by rw [h.n, hc1]; decide)
  rw [h.n] at h3 h5 h6 h7
  have a1 := from80 (i + 1)
  have a2 := from80 (i + 2)
  refine ⟨h2, h3, h4, ⟨fun e => by omega, fun _ => ⟨h5, h6⟩⟩, fun _ => ⟨fun j hj => ?_, ?_⟩⟩
  · rw [h7 _ (by omega) (by split at a2 <;> omega) j hj]; exact h.sup1 j hj
  · refine h.reg1.congr (fun x hx hx2 j hj => h7 x (by split at a1 <;> omega) ?_ j hj)
    by_cases hp : i % 2 = 0
    · rw [if_neg (by omega)] at a1; rw [if_pos (by omega)] at a2; omega
    · rw [if_pos (by omega)] at a1; rw [if_neg (by omega)] at a2; omega
/-- The newest superblock spoilt: the one ahead of it counts. -/
theorem sinv_spoilt {s t : St} {k q : Nat} (h : SInv s k) (hk : 1 ≤ k) (hk2 : k < 200) (ht : Calm t) (hn : t.n = 80) (hq : q < 64) (h0 : ∀ x, x ≠ (k + 1) % 2 → ∀ j, j < 64 → t.now x j = s.now x j) (h1 : ∀ j, j < 64 → j ≠ q → t.now ((k + 1) % 2) j = sup (k + 1) j) (h2 : t.now ((k + 1) % 2) q ≠ sup (k + 1) q) :
    (openSt t).2 = 0 ∧ genOf t = k ∧ (openLg t).gen = k ∧ (prep t).1 = t ∧ (k = 1 → scanK t (fromOf 80 1) (toOf 80 1 : Int) 1 = 0) ∧ (2 ≤ k → scanK t (fromOf 80 k) (toOf 80 k : Int) k = 1 ∧ lenAt t (fromOf 80 k) = 1 ∧ runs t (fromOf 80 k + 1) 0 = k - 2) := by
  have s1 : supAt t ((k + 1) % 2) = 0 := supAt_spoilt (by omega) hq h1 h2
  have s2 : supAt t (k % 2) = k := supAt_yes hk (by omega) rfl (fun j hj => by rw [h0 _ (by omega) j hj]; exact (h.old hk).1 j hj)
  have hg : genAt t = k := by
    unfold genAt
    by_cases hp : k % 2 = 0
    · rw [show (k + 1) % 2 = 1 from by omega] at s1
      rw [hp] at s2
      rw [s1, s2]; omega
    · rw [show (k + 1) % 2 = 0 from by omega] at s1
      rw [show k % 2 = 1 from by omega] at s2
      rw [s1, s2]; omega
  obtain ⟨o1, o2, o3, o4, o5, o6, _⟩ := calm_open ht hg hk
  have a1 := from80 k
  have hr : RegOk t k := (h.old hk).2.congr (fun x hx hx2 j hj => h0 x (by split at a1 <;> omega) j hj)
  refine ⟨o3, o1, by rw [o6], by rw [o2], fun e => ?_, fun e => ?_⟩
  · subst e
    have z := z_zero (s := t) (g := 1) (by omega) (fun j hj => by rw [hn]; exact hr.1 rfl _ (Nat.le_refl _) (by omega) j hj)
    rw [hn] at z
    exact z.1
  · obtain ⟨p1, p2⟩ := hr.2 e
    have z := z_one (s := t) (g := k) (f := fun _ => k - 2) (len := 1) (by omega) (by omega) (by omega) (by rw [hn]; decide) (by rw [hn]; exact p1) (by rw [hn]; exact p2)
    rw [hn] at z
    exact ⟨z.1, z.2.2.1, z.2.2.2 0 (by omega)⟩
end Go.Proofs.Ytbecchoidglaeaa
