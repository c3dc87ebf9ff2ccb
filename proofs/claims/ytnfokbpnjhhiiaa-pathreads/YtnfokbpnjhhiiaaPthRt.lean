/- What is read, written again, is what was read. Nothing of the program is named here. -/
import Derived.Test.YtnfokbpnjhhiiaaPthBk
namespace Go.Proofs.Ytnfokbpnjhhiiaa
open Go.RowKit
set_option maxRecDepth 100000

/-- The n bytes from place i on. -/
def bytesAt (f : Nat → Nat) (i n : Nat) : List Nat := (List.range n).map fun j => f (i + j)
theorem bytesAt_length (f : Nat → Nat) (i n : Nat) : (bytesAt f i n).length = n := by simp [bytesAt]
theorem bytesAt_app (f : Nat → Nat) (i m n : Nat) : bytesAt f i (m + n) = bytesAt f i m ++ bytesAt f (i + m) n := by
  simp [bytesAt, List.range_add, Nat.add_assoc]
theorem b4_num (g : Nat → Nat) (hg : ∀ q, q < 4 → g q < 256) : b4 ((num g : Nat) : Int) = bytesAt g 0 4 := by
  have h0 := hg 0 (by omega)
  have h1 := hg 1 (by omega)
  have h2 := hg 2 (by omega)
  have h3 := hg 3 (by omega)
  unfold b4 bytesAt
  rw [Int.toNat_natCast]
  have e : List.range 4 = [0, 1, 2, 3] := rfl
  rw [e]
  simp only [List.map_cons, List.map_nil, Nat.zero_add, byteAt, num]
  congr 1
  · omega
  congr 1
  · omega
  congr 1
  · omega
  congr 1
  omega
theorem nums_at (f : Nat → Nat) (j : Nat) : ∀ n, (∀ i, i < 4 * n → f (j + i) < 256) → nums (numsAt f j n) = bytesAt f j (4 * n)
  | 0, _ => rfl
  | n + 1, h => by
    rw [numsAt_succ, nums_snoc, nums_at f j n (fun i hi => h i (by omega)), b4_num _ (fun q hq => by have := h (4 * n + q) (by omega); rwa [← Nat.add_assoc] at this), show 4 * (n + 1) = 4 * n + 4 from by omega, bytesAt_app]
    simp [bytesAt]
theorem encSeg_at (f : Nat → Nat) (len i : Nat) (hf : ∀ j, j < len → f j < 256) (hk : segOk f len i = true) : encSeg (segAt f i) = bytesAt f i (2 + 4 * f (i + 1)) := by
  obtain ⟨h1, h2, h3⟩ : i + 2 ≤ len ∧ (f i = 1 ∨ f i = 2) ∧ i + 2 + 4 * f (i + 1) ≤ len := of_decide_eq_true hk
  unfold encSeg segAt
  simp only
  rw [nums_at f (i + 2) _ (fun j hj => hf _ (by omega)), numsAt_length, bytesAt_app]
  congr 1
  have e : List.range 2 = [0, 1] := rfl
  unfold bytesAt
  rw [e]
  simp only [List.map_cons, List.map_nil, Nat.add_zero]
  congr 1
  unfold kindOf
  rcases h2 with h2 | h2 <;> simp [h2]
theorem run_enc (f : Nat → Nat) (len : Nat) (hf : ∀ j, j < len → f j < 256) : ∀ (k i : Nat) (acc ss : List (Bool × List Int)), len - i ≤ k → i ≤ len → segsRun f len i acc = some ss → goodP ss = true ∧ encSegs ss = encSegs acc ++ bytesAt f i (len - i)
  | k, i, acc, ss, hk, hi, h => by
    by_cases hlt : i < len
    · cases ho : segOk f len i with
      | false => rw [segsRun_no hlt ho] at h; cases h
      | true =>
        rw [segsRun_go hlt ho] at h
        obtain ⟨h1, h2, h3⟩ : i + 2 ≤ len ∧ (f i = 1 ∨ f i = 2) ∧ i + 2 + 4 * f (i + 1) ≤ len := of_decide_eq_true ho
        match k, hk with
        | 0, hk => omega
        | k + 1, hk =>
          obtain ⟨g1, g2⟩ := run_enc f len hf k _ _ ss (by omega) h3 h
          refine ⟨g1, ?_⟩
          rw [g2, encSegs_snoc, encSeg_at f len i hf ho, List.append_assoc, show len - i = (2 + 4 * f (i + 1)) + (len - (i + 2 + 4 * f (i + 1))) from by omega, bytesAt_app f i (2 + 4 * f (i + 1)), show i + (2 + 4 * f (i + 1)) = i + 2 + 4 * f (i + 1) from by omega]
    · rw [segsRun_end hlt] at h
      unfold fin at h
      split at h
      · next hg =>
        injection h with h
        subst h
        refine ⟨hg, ?_⟩
        rw [show len - i = 0 from by omega]
        simp [bytesAt]
      · cases h
theorem read_enc {f : Nat → Nat} {len : Nat} (hf : ∀ j, j < len → f j < 256) {ss : List (Bool × List Int)} (h : segsRun f len 0 [] = some ss) : goodP ss = true ∧ encPath ss = bytesAt f 0 len := by
  obtain ⟨h1, h2⟩ := run_enc f len hf len 0 [] ss (by omega) (Nat.zero_le _) h
  refine ⟨h1, ?_⟩
  unfold encPath
  rw [h1, if_pos rfl, h2]
  rfl
end Go.Proofs.Ytnfokbpnjhhiiaa
