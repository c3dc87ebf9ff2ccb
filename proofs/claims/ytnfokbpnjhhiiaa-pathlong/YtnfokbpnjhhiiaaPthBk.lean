/- A path's bytes are read again as that path, in plain numbers. -/
import Derived.Test.YtnfokbpnjhhiiaaPthEn
import Derived.Test.YtnfokbpnjhhiiaaPthDe
namespace Go.Proofs.Ytnfokbpnjhhiiaa
open Go.RowKit
set_option maxRecDepth 100000

theorem numsAt_cons (f : Nat → Nat) (j n : Nat) : numsAt f j (n + 1) = ((num (fun q => f (j + q)) : Nat) : Int) :: numsAt f (j + 4) n := by
  simp only [numsAt, List.range_succ_eq_map, List.map_cons, List.map_map, Nat.mul_zero, Nat.add_zero]
  refine congrArg _ (List.map_congr_left fun k _ => ?_)
  show ((num (fun q => f (j + 4 * (k + 1) + q)) : Nat) : Int) = ((num (fun q => f (j + 4 + 4 * k + q)) : Nat) : Int)
  rw [show (fun q => f (j + 4 * (k + 1) + q)) = (fun q => f (j + 4 + 4 * k + q)) from funext fun q => by rw [show j + 4 * (k + 1) + q = j + 4 + 4 * k + q from by omega]]
/-- Four bytes of a number are that number. -/
theorem num_b4 (f : Nat → Nat) (z : Int) (hz : okN z = true) (h : ∀ q, q < 4 → f q = (b4 z).getD q 0) : ((num f : Nat) : Int) = z := by
  have hz2 := of_decide_eq_true hz
  have h4 : ∀ q, q < 4 → f (0 + q) = byteAt z.toNat q := fun q hq => by
    rw [Nat.zero_add, h q hq]
    simp [b4, List.getD_eq_getElem?_getD, hq]
  rw [num_up, numUp_bytes z.toNat 4 (Nat.le_refl _) f 0 h4 (by omega)]
  simp
  omega
theorem numsAt_nums (zs : List Int) (hz : ∀ z ∈ zs, okN z = true) : ∀ (f : Nat → Nat) (j : Nat), (∀ q, q < 4 * zs.length → f (j + q) = (nums zs).getD q 0) → numsAt f j zs.length = zs := by
  induction zs with
  | nil => intro f j _; rfl
  | cons z zs ih =>
    intro f j h
    rw [List.length_cons, numsAt_cons, num_b4 (fun q => f (j + q)) z (hz z (List.mem_cons_self ..)) (fun q hq => ?_), ih (fun x hx => hz x (List.mem_cons_of_mem _ hx)) f (j + 4) (fun q hq => ?_)]
    · rw [show j + 4 + q = j + (4 + q) from by omega, h (4 + q) (by simp only [List.length_cons]; omega)]
      simp only [nums, List.getD_eq_getElem?_getD]
      rw [List.getElem?_append_right (by rw [b4_length]; omega), b4_length, show 4 + q - 4 = q from by omega]
    · show f (j + q) = _
      rw [h q (by simp only [List.length_cons]; omega)]
      simp only [nums, List.getD_eq_getElem?_getD]
      rw [List.getElem?_append_left (by rw [b4_length]; exact hq)]
theorem encSeg_length (s : Bool × List Int) : (encSeg s).length = 2 + 4 * s.2.length := by
  simp only [encSeg, List.length_append, nums_length, List.length_cons, List.length_nil]
theorem okS_parts {s : Bool × List Int} (h : okS s = true) : 1 ≤ s.2.length ∧ s.2.length ≤ 255 ∧ ∀ z ∈ s.2, okN z = true := by
  unfold okS at h
  rw [Bool.and_eq_true] at h
  have h2 := of_decide_eq_true h.1
  exact ⟨h2.1, h2.2, fun z hz => List.all_eq_true.1 h.2 z hz⟩
theorem segs_enc (l : List (Bool × List Int)) (hl : ∀ s ∈ l, okS s = true) : ∀ (pre : List Nat) (acc : List (Bool × List Int)), segsRun (fun i => (pre ++ encSegs l).getD i 0) (pre ++ encSegs l).length pre.length acc = fin (acc ++ l) := by
  induction l with
  | nil => intro pre acc; rw [segsRun_end (by simp [encSegs])]; simp
  | cons s l ih =>
    intro pre acc
    obtain ⟨h1, h2, h3⟩ := okS_parts (hl s (List.mem_cons_self ..))
    have e2 : pre ++ encSegs (s :: l) = pre ++ encSeg s ++ encSegs l := by simp [encSegs]
    have hle := encSeg_length s
    have gq : ∀ q, q < (encSeg s).length → (pre ++ encSeg s ++ encSegs l).getD (pre.length + q) 0 = (encSeg s).getD q 0 := fun q hq => getD_app pre (encSeg s) (encSegs l) q hq
    rw [e2]
    have hi2 : pre.length + 2 + 4 * s.2.length ≤ (pre ++ encSeg s ++ encSegs l).length := by simp only [List.length_append]; omega
    have hnext := ih (fun x hx => hl x (List.mem_cons_of_mem _ hx)) (pre ++ encSeg s) (acc ++ [s])
    rw [show (pre ++ encSeg s).length = pre.length + 2 + 4 * s.2.length from by rw [List.length_append]; omega] at hnext
    generalize hG : (fun i => (pre ++ encSeg s ++ encSegs l).getD i 0) = G at *
    have Gq : ∀ q, q < (encSeg s).length → G (pre.length + q) = (encSeg s).getD q 0 := fun q hq => by rw [← hG]; exact gq q hq
    have G0 : G pre.length = kindOf s.1 := by have := Gq 0 (by omega); simpa [encSeg] using this
    have G1 : G (pre.length + 1) = s.2.length := by have := Gq 1 (by omega); simpa [encSeg] using this
    have GN : numsAt G (pre.length + 2) s.2.length = s.2 := numsAt_nums s.2 h3 G _ (fun q hq => by
      have := Gq (2 + q) (by omega)
      rw [show pre.length + (2 + q) = pre.length + 2 + q from by omega] at this
      rw [this]
      simp only [encSeg, List.getD_eq_getElem?_getD]
      rw [List.getElem?_append_right (by simp), show 2 + q - [kindOf s.1, s.2.length].length = q from by simp])
    have hseg : segAt G pre.length = s := by
      unfold segAt
      rw [G0, G1, GN]
      cases s with
      | mk b zs => cases b <;> rfl
    have hk : kindOf s.1 = 1 ∨ kindOf s.1 = 2 := by
      cases s with
      | mk b zs => cases b <;> simp [kindOf]
    rw [segsRun_go (by omega) (by unfold segOk; exact decide_eq_true (by rw [G0, G1]; exact ⟨by omega, hk, hi2⟩)), hseg, G1, hnext]
    simp
/-- The bytes of a good path are that path's. -/
theorem enc_back {ss : List (Bool × List Int)} (h : goodP ss = true) : segsRun (fun i => (encSegs ss).getD i 0) (encSegs ss).length 0 [] = some ss := by
  have hok : ∀ s ∈ ss, okS s = true := by
    unfold goodP at h
    rw [Bool.and_eq_true] at h
    exact fun s hs => List.all_eq_true.1 h.1 s hs
  have := segs_enc ss hok [] []
  simp only [List.nil_append, List.length_nil] at this
  rw [this, fin, h]
  rfl
end Go.Proofs.Ytnfokbpnjhhiiaa
