/- The program's numbers. -/
import Derived.Test.YtnfokbpnjhhiiaaPthQ
import Derived.Test.YtnfokbpnjhhiiaaPthDe
import Derived.Laws.BitsAllLaws
namespace Go.Proofs.Ytnfokbpnjhhiiaa
open Go.RowKit
set_option maxRecDepth 100000

/-- The i-th number, k bytes having been read. -/
def partN (f : Nat → Nat) (k i : Nat) : Int := ((numUp f (4 * i) (min 4 (k - 4 * i)) : Nat) : Int)
/-- All numbers, k bytes having been read. -/
def parts (f : Nat → Nat) (n k : Nat) : List Int := (List.range n).map (partN f k)
theorem parts_length (f : Nat → Nat) (n k : Nat) : (parts f n k).length = n := by simp [parts]
theorem parts_zero (f : Nat → Nat) (n : Nat) : parts f n 0 = List.replicate n 0 := by
  apply List.ext_getElem?
  intro i
  by_cases hi : i < n
  · simp [parts, partN, hi, numUp]
  · simp [parts, hi]
theorem parts_succ (f : Nat → Nat) (n j q : Nat) (hq : q < 4) : parts f n (4 * j + q + 1) = (parts f n (4 * j + q)).set j ((numUp f (4 * j) (q + 1) : Nat) : Int) := by
  apply List.ext_getElem?
  intro i
  by_cases hi : i < n
  · rw [List.getElem?_set]
    by_cases e : j = i
    · subst e
      simp only [parts_length, hi, if_true]
      simp [parts, partN, hi]
      rw [show min 4 (4 * j + q + 1 - 4 * j) = q + 1 from by omega]
    · rw [if_neg e]
      simp only [parts, partN, List.getElem?_map, List.getElem?_range hi, Option.map_some]
      rw [show min 4 (4 * j + q + 1 - 4 * i) = min 4 (4 * j + q - 4 * i) from by omega]
  · rw [List.getElem?_eq_none (by rw [parts_length]; omega), List.getElem?_eq_none (by rw [List.length_set, parts_length]; omega)]
theorem parts_get (f : Nat → Nat) (n j q : Nat) (hq : q < 4) (hj : j < n) : (parts f n (4 * j + q))[j]? = some ((numUp f (4 * j) q : Nat) : Int) := by
  simp [parts, partN, hj]
  rw [show min 4 q = q from by omega]
theorem parts_end (f : Nat → Nat) (n : Nat) : parts f n (4 * n) = numsAt f 0 n := by
  apply List.ext_getElem?
  intro i
  by_cases hi : i < n
  · simp [parts, partN, numsAt, hi]
    rw [show min 4 (4 * n - 4 * i) = 4 from by omega, num_up]
    rw [numUp_congr f (fun q => f (4 * i + q)) (4 * i) 0 4 (fun q _ => by show f (4 * i + q) = f (4 * i + (0 + q)); rw [Nat.zero_add])]
  · rw [List.getElem?_eq_none (by rw [parts_length]; omega), List.getElem?_eq_none (by rw [numsAt_length]; omega)]
theorem or64 (f : Nat → Nat) (j q : Nat) (hq : q < 4) (hf : ∀ i, i < 4 → f (j + i) < 256) : bits .or .i64 ((numUp f j q : Nat) : Int) ((f (j + q) : Int) * 2 ^ (8 * (3 - q))) = ((numUp f j (q + 1) : Nat) : Int) ∧ f (j + q) * 2 ^ (8 * (3 - q)) < 4294967296 := by
  have hfq := hf q hq
  have hlt : f (j + q) * 2 ^ (8 * (3 - q)) < 4294967296 := by
    have h1 : f (j + q) * 2 ^ (8 * (3 - q)) < 256 * 2 ^ (8 * (3 - q)) := Nat.mul_lt_mul_of_pos_right hfq (Nat.two_pow_pos _)
    have h2 : 2 ^ (8 * (3 - q)) ≤ 2 ^ 24 := Nat.pow_le_pow_right (by omega) (by omega)
    simp only [Nat.reducePow] at h2
    omega
  have e2 : (f (j + q) : Int) * 2 ^ (8 * (3 - q)) = ((f (j + q) * 2 ^ (8 * (3 - q)) : Nat) : Int) := by simp
  have hx := numUp_lt32 f j q (by omega) (fun i hi => hf i (by omega))
  refine ⟨?_, hlt⟩
  rw [e2, (bits_nat .i64 32 (by decide) (fun n h0 h1 => by rw [IntKind.wrap_i64]; simp only [Int.reducePow] at h1; omega) _ _ (by simpa using hx) (by simpa using hlt)).2, numUp_or f j q hq hfq]
theorem run_make_ints (n : Nat) (hn : n ≤ 100000) (w : World) : (Instr.makeSlice 36 (.int .i64 (n : Int)) (.int .i64 (n : Int))).run Try.prog w =
    .ok (.slice (some ⟨w.heap.size, 0, none⟩) n n) (w.alloc (.cells (icells (List.replicate n 0)).toArray 3)) := by
  obtain ⟨i0, hi0, hz0, hz1, hz2⟩ := info_parts Try.infoInt
  have := run_make (P := Try.prog) w 36 3 i0 _ Try.underlying36 hi0 hz0 .i64 .i64 (n : Int) (n : Int) (by omega) (Int.le_refl _) (by rw [hz2]; omega) (by omega)
  simp only [Int.toNat_natCast, hz1, Value.cells, Nat.mul_one] at this
  rw [this]
  congr 3
  apply Array.ext_getElem?
  intro k
  by_cases hk : k < n
  · simp [madeCells, icells, hk, Nat.mod_one]
  · simp [madeCells, icells, hk]
theorem own_ints (w : World) (n : Nat) (l : List Int) (hl : l.length = n) (hn : n ≤ 100000) : (w.alloc (.cells (icells l).toArray 3)).ownsRow w.heap.size 3 1 (.slice (some ⟨w.heap.size, 0, none⟩) n n) n (icells l) :=
  ⟨by rw [icells_length]; omega, .inr ⟨w.heap.size, n, _, rfl, Nat.le_refl _, by unfold World.alloc; exact Array.getElem?_push_size, Nat.le_refl _, by unfold maxLen; omega, by simp [icells_length, hl], by rw [Nat.mul_one, ← hl, ← icells_length l, List.take_length]⟩⟩
theorem icells_set (l : List Int) (j : Nat) (z : Int) : icells (l.set j z) = (icells l).set j (.int .i64 z) := by simp [icells, List.map_set]
set_option maxHeartbeats 3200000 in
theorem numbers_some (b o n c : Nat) (f : Nat → Nat) (w : World) (hn : n ≤ 255) (hn0 : 0 < n) (hf : ∀ i, i < 4 * n → f i < 256) (hcell : ∀ i, i < 4 * n → w.cell? ⟨b, o + i, none⟩ = some (.int .u8 (f i : Int))) :
    Calls Try.prog 41 #[.slice (some ⟨b, o, none⟩) (4 * n) c] w fun e w' => e = .returned (.slice (some ⟨w.heap.size, 0, none⟩) n n) ∧ w'.ownsRow w.heap.size 3 1 (.slice (some ⟨w.heap.size, 0, none⟩) n n) n (icells (numsAt f 0 n)) ∧ Below w.heap.size w w' := by
  have HC := hide hcell
  have HF := hide hf
  clear hcell hf
  have hmk := fun w => run_make_ints n (by omega) w
  have HO0 : Hid ((w.alloc (.cells (icells (List.replicate n 0)).toArray 3)).ownsRow w.heap.size 3 1 (.slice (some ⟨w.heap.size, 0, none⟩) n n) n (icells (parts f n 0))) := by
    show World.ownsRow _ _ _ _ _ _ _
    rw [parts_zero]; exact own_ints w n _ (by simp) (by omega)
  generalize hm : 4 * n = m at *
  have hquo : Int.tdiv (m : Int) 4 = (n : Int) := by rw [Int.tdiv_eq_ediv_of_nonneg (by omega)]; omega
  have HM := hide hm
  have hmb : m ≤ 1020 := by omega
  clear hm
  go_enter Try.func41, Try.ntmps41
  go_wp2
  go_loopw [12] (fun i wq => ∃ k : Nat, k ≤ m ∧ i = .int .i64 k ∧ Hid (wq.ownsRow w.heap.size 3 1 (.slice (some ⟨w.heap.size, 0, none⟩) n n) n (icells (parts f n k))) ∧ Hid (Below w.heap.size w wq)) (fun i _ => m - (intOf i).toNat)
  case atStart => exact ⟨0, Nat.zero_le _, rfl, HO0, (Below.refl _ _).alloc (Nat.le_refl _) _⟩
  case round =>
    obtain ⟨k, hk, rfl, HO, HB⟩ := hrel
    clear HO0
    by_cases hlt : k < m
    · have ck : wr.cell? ⟨b, o + k, none⟩ = some (.int .u8 (f k : Int)) := by
        rw [HB.out.cell (p := ⟨b, o + k, none⟩) (World.block_lt_of_cell? w _ (HC.out k hlt))]
        exact HC.out k hlt
      obtain ⟨j, q, hq4, hjq⟩ : ∃ j q, q < 4 ∧ k = 4 * j + q := ⟨k / 4, k % 4, by omega, by omega⟩
      have hjn : j < n := by have := HM.out; omega
      have hj4 : Int.tdiv (k : Int) 4 = (j : Int) := by rw [Int.tdiv_eq_ediv_of_nonneg (by omega)]; omega
      have hq5 : Int.tmod (k : Int) 4 = (q : Int) := by rw [Int.tmod_eq_emod_of_nonneg (by omega)]; omega
      have hcj : wr.cell? ⟨w.heap.size, j, none⟩ = some (.int .i64 ((numUp f (4 * j) q : Nat) : Int)) := by
        rw [HO.out.cellAt j (by rw [Nat.mul_one]; exact hjn), hjq]
        exact icells_get _ j _ (parts_get f n j q hq4 hjn)
      have hzj : wr.frozen? ⟨w.heap.size, j, none⟩ = false := HO.out.frozenAt j
      obtain ⟨hor, hlo⟩ := or64 f (4 * j) q hq4 (fun i hi => HF.out (4 * j + i) (by have := HM.out; omega))
      have hup := numUp_lt32 f (4 * j) q (by omega) (fun i hi => HF.out (4 * j + i) (by have := HM.out; omega))
      have hst := HO.out.stored j (.int .i64 ((numUp f (4 * j) (q + 1) : Nat) : Int))
      have HO2 : Hid ((wr.setCell ⟨w.heap.size, j, none⟩ (.int .i64 ((numUp f (4 * j) (q + 1) : Nat) : Int))).ownsRow w.heap.size 3 1 (.slice (some ⟨w.heap.size, 0, none⟩) n n) n (icells (parts f n (k + 1)))) := by
        show World.ownsRow _ _ _ _ _ _ _
        rw [hjq, parts_succ f n j q hq4, icells_set, ← hjq]; exact hst.1
      have HB2 : Hid (Below w.heap.size w (wr.setCell ⟨w.heap.size, j, none⟩ (.int .i64 ((numUp f (4 * j) (q + 1) : Nat) : Int)))) := HB.out.setCell (Nat.le_refl _) _
      rw [← hjq] at hor hlo
      have HFK := HF.out k hlt
      have HOR := hide hor
      have HLO := hide hlo
      have HUP := hide hup
      clear hst hor hlo hup hjq
      generalize numUp f (4 * j) (q + 1) = x2 at *
      generalize numUp f (4 * j) q = x1 at *
      generalize f k = y at *
      have hk0 : (0 : Int) ≤ (k : Int) := Int.natCast_nonneg _
      have hk1 : (k : Int) < (m : Int) := by omega
      have hjn2 : (j : Int) < (n : Int) := by omega
      have hj0 : (0 : Int) ≤ (j : Int) := Int.natCast_nonneg _
      have wj : IntKind.i64.wrap (j : Int) = (j : Int) := by rw [IntKind.wrap_i64]; omega
      have wy8 : IntKind.i64.wrap (y : Int) = (y : Int) := by rw [IntKind.wrap_i64]; omega
      have hqq : 8 * (3 - q) < 64 := by omega
      generalize hqe : 8 * (3 - q) = qq at *
      have wy : IntKind.i64.wrap ((y : Int) * 2 ^ qq) = (y : Int) * 2 ^ qq := by
        have e2 : (y : Int) * 2 ^ qq = ((y * 2 ^ qq : Nat) : Int) := by simp
        have := HLO.out
        rw [e2, IntKind.wrap_i64]
        generalize y * 2 ^ qq = t at *
        omega
      have hz1 : w.heap.size < wr.heap.size := by have := World.block_lt_of_cell? wr _ hcj; simpa using this
      go_wp2_with fail
      go_region_with (go_at_call 37; refine (shiftOf_any q _ hq4).mono ?_; rw [hqe]; rintro e w9 ⟨rfl, rfl⟩)
      all_goals rw [HOR.out]
      all_goals go_wp2
      all_goals exact ⟨⟨k + 1, by omega, by go_num, HO2.out.drew, HB2.out.drew⟩, by simp [intOf]; omega⟩
    · have hkm : k = 4 * n := by have := HM.out; omega
      subst hkm
      rw [parts_end] at HO
      go_wp2
      go_ret
      exact ⟨rfl, HO.out, HB.out⟩
set_option maxHeartbeats 800000 in
theorem numbers_none (a : Option Addr) (c : Nat) (f : Nat → Nat) (w : World) :
    Calls Try.prog 41 #[.slice a 0 c] w fun e w' => e = .returned (.slice (some ⟨w.heap.size, 0, none⟩) 0 0) ∧ w'.ownsRow w.heap.size 3 1 (.slice (some ⟨w.heap.size, 0, none⟩) 0 0) 0 (icells (numsAt f 0 0)) ∧ Below w.heap.size w w' := by
  have hmk := fun w => run_make_ints 0 (by omega) w
  simp only [Int.ofNat_zero] at hmk
  have HO0 : Hid ((w.alloc (.cells (icells (List.replicate 0 0)).toArray 3)).ownsRow w.heap.size 3 1 (.slice (some ⟨w.heap.size, 0, none⟩) 0 0) 0 (icells (numsAt f 0 0))) := own_ints w 0 _ (by simp) (by omega)
  go_enter Try.func41, Try.ntmps41
  go_wp2
  go_loop [12] (fun i => i = .int .i64 0) (fun i => 0 - (intOf i).toNat)
  case atStart => exact rfl
  case round =>
    obtain rfl := hrel
    go_wp2
    go_ret
    exact ⟨rfl, HO0.out, (Below.refl _ _).alloc (Nat.le_refl _) _⟩
theorem numbers_any (b o n c : Nat) (f : Nat → Nat) (w : World) (hn : n ≤ 255) (hf : ∀ i, i < 4 * n → f i < 256) (hcell : ∀ i, i < 4 * n → w.cell? ⟨b, o + i, none⟩ = some (.int .u8 (f i : Int))) :
    Calls Try.prog 41 #[.slice (some ⟨b, o, none⟩) (4 * n) c] w fun e w' => e = .returned (.slice (some ⟨w.heap.size, 0, none⟩) n n) ∧ w'.ownsRow w.heap.size 3 1 (.slice (some ⟨w.heap.size, 0, none⟩) n n) n (icells (numsAt f 0 n)) ∧ Below w.heap.size w w' := by
  by_cases h0 : n = 0
  · subst h0; exact numbers_none _ c f w
  · exact numbers_some b o n c f w hn (by omega) hf hcell
end Go.Proofs.Ytnfokbpnjhhiiaa
