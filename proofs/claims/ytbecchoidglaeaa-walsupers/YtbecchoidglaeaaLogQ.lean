/- What a crash leaves of a head, and of a superblock, of a small generation. -/
import Derived.Test.YtbecchoidglaeaaLogP
namespace Go.Proofs.Ytbecchoidglaeaa
open Go.RowKit
set_option maxRecDepth 100000

theorem small_sums : (List.range 16).all (fun g => crc (head12 g 0 0) 12 != 0) = true := by kernel_rfl
theorem small_sum (g : Nat) (hg : g < 16) : crc (head12 g 0 0) 12 ≠ 0 := by
  have h := List.all_eq_true.1 small_sums g (List.mem_range.2 hg)
  simpa using h
theorem four_small (g : Nat) (hg : g < 256) : four g 0 = 0 ∧ four g 1 = 0 ∧ four g 2 = 0 ∧ four g 3 = g := by
  unfold four
  refine ⟨?_, ?_, ?_, ?_⟩ <;> simp <;> omega
/-- A torn head of a small generation, of few bytes, over a sector that was 0: none, or the whole. -/
theorem torn_small {s : St} {at_ g len m : Nat} {e : Int} {f : Nat → Nat} (hg1 : 1 ≤ g) (hg : g < 16) (hl : len < 256) (h : Pages s.now at_ g f len m) (hen : isEnt s at_ e g = true) : Pages s.now at_ g f len 64 := by
  refine ⟨fun j hj => ?_, h.2⟩
  rw [if_pos hj]
  by_cases hm : 16 ≤ m
  · rw [h.1 j hj]
    by_cases h2 : j < m
    · rw [if_pos h2]
    · rw [if_neg h2]
      show 0 = fill (head16 g len (crc f len)) 16 j
      unfold fill
      rw [if_neg (by omega)]
  · have hp := (isEnt_parts hen).2
    have hz : ∀ q, q < 16 → m ≤ q → head16 g (lenAt s at_) (crc (runs s (at_ + 1)) (lenAt s at_)) q = 0 := fun q hq hq2 => by
      rw [← ent0_at _ _ _ _ hq, ← hp q (by omega), h.1 q (by omega), if_neg (by omega)]
    by_cases hm8 : 8 ≤ m
    · have hlen : lenAt s at_ = len := by
        unfold lenAt
        rw [← num_four len (by omega)]
        refine num_congr fun i hi => ?_
        rw [h.1 (4 + i) (by omega), if_pos (by omega), ent0_at _ _ _ _ (by omega), head_len _ _ _ _ hi]
      have hr : ∀ q, q < len → runs s (at_ + 1) q = f q := fun q hq => by
        unfold runs
        rw [h.2 (q / 64) (by omega) (q % 64) (Nat.mod_lt _ (by omega))]
        show fill (fun x => f (q / 64 * 64 + x)) (len - q / 64 * 64) (q % 64) = _
        unfold fill
        rw [if_pos (by omega)]
        show f (q / 64 * 64 + q % 64) = f q
        rw [show q / 64 * 64 + q % 64 = q from by omega]
      rw [hp j hj, hlen, ent0_congr g _ f len hr]
    · exfalso
      obtain ⟨f0, f1, f2, f3⟩ := four_small g (by omega)
      by_cases hm4 : m < 4
      · have := hz 3 (by omega) (by omega)
        rw [head_gen _ _ _ _ (by omega), f3] at this
        omega
      · obtain ⟨l0, l1, l2, _⟩ := four_small len hl
        have hb : ∀ i, i < 4 → s.now at_ (4 + i) = 0 := fun i hi => by
          rw [h.1 (4 + i) (by omega)]
          split
          · rw [ent0_at _ _ _ _ (by omega), head_len _ _ _ _ hi]
            match i, hi with
            | 0, _ => exact l0
            | 1, _ => exact l1
            | 2, _ => exact l2
            | 3, _ => omega
          · rfl
        have hn : lenAt s at_ = 0 := by
          unfold lenAt
          rw [num_congr (g := fun _ => 0) hb]
          rfl
        rw [hn, crc_none] at hz
        refine small_sum g hg (four_zero (crc_lt _ _ (head12_lt _ _ _)) fun i hi => ?_)
        rw [← head_sum g 0 0 i hi]
        exact hz _ (by omega) (by omega)
theorem sup_at (g j : Nat) (hj : j < 4) : sup g j = four g j := by
  unfold sup fill cat
  rw [if_pos (by omega), if_pos hj]
theorem num_sup (g : Nat) (hg : g < 4294967296) : num (sup g) = g := by
  rw [num_congr (g := four g) (fun i hi => sup_at g i hi)]
  exact num_four g hg
/-- A superblock that is there. -/
theorem supAt_yes {s : St} {i g : Nat} (h1 : 1 ≤ g) (h2 : g ≤ 2147483647) (h3 : g % 2 = i) (h : ∀ j, j < 64 → s.now i j = sup g j) : supAt s i = g := by
  have hn : num (s.now i) = g := by
    rw [num_congr (g := sup g) (fun j hj => h j (by omega))]
    exact num_sup g (by omega)
  unfold supAt
  rw [hn, if_pos ⟨h1, h2, h3, (eqB_iff _ _ _).2 h⟩]
theorem supAt_congr {s t : St} {i : Nat} (h : ∀ j, j < 64 → s.now i j = t.now i j) : supAt s i = supAt t i := by
  have hn : num (s.now i) = num (t.now i) := num_congr (fun j hj => h j (by omega))
  have he : eqB (s.now i) (sup (num (t.now i))) 64 = eqB (t.now i) (sup (num (t.now i))) 64 := by
    rw [Bool.eq_iff_iff, eqB_iff, eqB_iff]
    exact ⟨fun h2 j hj => by rw [← h j hj]; exact h2 j hj, fun h2 j hj => by rw [h j hj]; exact h2 j hj⟩
  unfold supAt
  rw [hn, he]
/-- A torn superblock of a small generation over another's, or over 0: as it was, the new one, or none. -/
theorem supAt_torn {s t : St} {i g m : Nat} (hg1 : 1 ≤ g) (hg : g < 256) (hgi : g % 2 = i) (hold : ∀ j, j < 3 → t.now i j = 0) (h : ∀ j, j < 64 → s.now i j = if j < m then sup g j else t.now i j) :
    supAt s i = supAt t i ∨ supAt s i = g ∨ supAt s i = 0 := by
  obtain ⟨f0, f1, f2, f3⟩ := four_small g hg
  by_cases hm : m < 4
  · left
    refine supAt_congr fun j hj => ?_
    rw [h j hj]
    split
    · rename_i hjm
      rw [sup_at g j (by omega), hold j (by omega)]
      match j, (show j < 3 by omega) with
      | 0, _ => exact f0
      | 1, _ => exact f1
      | 2, _ => exact f2
    · rfl
  · right
    have hn : num (s.now i) = g := by
      rw [num_congr (g := sup g) (fun j hj => by rw [h j (by omega), if_pos (by omega)])]
      exact num_sup g (by omega)
    unfold supAt
    rw [hn]
    split
    · exact .inl rfl
    · exact .inr rfl
end Go.Proofs.Ytbecchoidglaeaa
