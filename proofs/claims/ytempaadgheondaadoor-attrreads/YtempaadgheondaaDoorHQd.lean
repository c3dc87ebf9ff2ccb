/- The program's numbers. -/
import Derived.Test.YtempaadgheondaaDoorHQg
import Derived.Test.YtempaadgheondaaDoorHOwn
import Derived.Laws.BitsAllLaws
import Derived.Deep.RegionWith
namespace Go.Proofs.YtempaadgheondaaDoor
open Go.RowKit
set_option maxRecDepth 100000

/-- The i-th number, k bytes having been read. -/
def partN (f : Nat → Nat) (k i : Nat) : Int := ((numUp f (4 * i) (min 4 (k - 4 * i)) : Nat) : Int)
/-- All numbers, k bytes having been read. -/
def parts (f : Nat → Nat) (n k : Nat) : List Int := (List.range n).map (partN f k)
theorem parts_length (f : Nat → Nat) (n k : Nat) : (parts f n k).length = n := by simp [parts]
theorem parts_zero (f : Nat → Nat) (n : Nat) : parts f n 0 = List.replicate n 0 := by
  apply List.ext_getElem?
  intro i
  by_cases hi : i < n
  · simp [parts, partN, hi, numUp]
  · simp [parts, hi]
theorem parts_succ (f : Nat → Nat) (n j q : Nat) (hq : q < 4) : parts f n (4 * j + q + 1) = (parts f n (4 * j + q)).set j ((numUp f (4 * j) (q + 1) : Nat) : Int) := by
  apply List.ext_getElem?
  intro i
  by_cases hi : i < n
  · rw [List.getElem?_set]
    by_cases e : j = i
    · subst e
      simp only [parts_length, hi, if_true]
      simp [parts, partN, hi]
      rw [show min 4 (4 * j + q + 1 - 4 * j) = q + 1 from by omega]
    · rw [if_neg e]
      simp only [parts, partN, List.getElem?_map, List.getElem?_range hi, Option.map_some]
      rw [show min 4 (4 * j + q + 1 - 4 * i) = min 4 (4 * j + q - 4 * i) from by omega]
  · rw [List.getElem?_eq_none (by rw [parts_length]; omega), List.getElem?_eq_none (by rw [List.length_set, parts_length]; omega)]
theorem parts_get (f : Nat → Nat) (n j q : Nat) (hq : q < 4) (hj : j < n) : (parts f n (4 * j + q))[j]? = some ((numUp f (4 * j) q : Nat) : Int) := by
  simp [parts, partN, hj]
  rw [show min 4 q = q from by omega]
theorem parts_end (f : Nat → Nat) (n : Nat) : parts f n (4 * n) = numsAt f 0 n := by
  apply List.ext_getElem?
  intro i
  by_cases hi : i < n
  · simp [parts, partN, numsAt, hi]
    rw [show min 4 (4 * n - 4 * i) = 4 from by omega, num_up]
    rw [numUp_congr f (fun q => f (4 * i + q)) (4 * i) 0 4 (fun q _ => by show f (4 * i + q) = f (4 * i + (0 + q)); rw [Nat.zero_add])]
  · rw [List.getElem?_eq_none (by rw [parts_length]; omega), List.getElem?_eq_none (by rw [numsAt_length]; omega)]
theorem or64 (f : Nat → Nat) (j q : Nat) (hq : q < 4) (hf : ∀ i, i < 4 → f (j + i) < 256) : bits .or .i64 ((numUp f j q : Nat) : Int) ((f (j + q) : Int) * 2 ^ (8 * (3 - q))) = ((numUp f j (q + 1) : Nat) : Int) ∧ f (j + q) * 2 ^ (8 * (3 - q)) < 4294967296 := by
  have hfq := hf q hq
  have hlt : f (j + q) * 2 ^ (8 * (3 - q)) < 4294967296 := by
    have h1 : f (j + q) * 2 ^ (8 * (3 - q)) < 256 * 2 ^ (8 * (3 - q)) := Nat.mul_lt_mul_of_pos_right hfq (Nat.two_pow_pos _)
    have h2 : 2 ^ (8 * (3 - q)) ≤ 2 ^ 24 := Nat.pow_le_pow_right (by omega) (by omega)
    simp only [Nat.reducePow] at h2
    omega
  have e2 : (f (j + q) : Int) * 2 ^ (8 * (3 - q)) = ((f (j + q) * 2 ^ (8 * (3 - q)) : Nat) : Int) := by simp
  have hx := numUp_lt32 f j q (by omega) (fun i hi => hf i (by omega))
  refine ⟨?_, hlt⟩
  rw [e2, (bits_nat .i64 32 (by decide) (fun n h0 h1 => by rw [IntKind.wrap_i64]; simp only [Int.reducePow] at h1; omega) _ _ (by simpa using hx) (by simpa using hlt)).2, numUp_or f j q hq hfq]
theorem run_make_ints (n : Nat) (hn : n ≤ 100000) (w : World) : (Instr.makeSlice 44 (.int .i64 (n : Int)) (.int .i64 (n : Int))).run Tryd.prog w =
    .ok (.slice (some ⟨w.heap.size, 0, none⟩) n n) (w.alloc (.cells (icells (List.replicate n 0)).toArray 3)) := by
  obtain ⟨i0, hi0, hz0, hz1, hz2⟩ := info_parts Tryd.infoInt
  have := run_make (P := Tryd.prog) w 44 3 i0 _ Tryd.underlying44 hi0 hz0 .i64 .i64 (n : Int) (n : Int) (by omega) (Int.le_refl _) (by rw [hz2]; omega) (by omega)
  simp only [Int.toNat_natCast, hz1, Value.cells, Nat.mul_one] at this
  rw [this]
  congr 3
  apply Array.ext_getElem?
  intro k
  by_cases hk : k < n
  · simp [madeCells, icells, hk, Nat.mod_one]
  · simp [madeCells, icells, hk]
theorem own_ints (w : World) (n : Nat) (l : List Int) (hl : l.length = n) (hn : n ≤ 100000) : (w.alloc (.cells (icells l).toArray 3)).ownsRow w.heap.size 3 1 (.slice (some ⟨w.heap.size, 0, none⟩) n n) n (icells l) :=
  ⟨by rw [icells_length]; omega, .inr ⟨w.heap.size, n, _, rfl, Nat.le_refl _, by unfold World.alloc; exact Array.getElem?_push_size, Nat.le_refl _, by unfold maxLen; omega, by simp [icells_length, hl], by rw [Nat.mul_one, ← hl, ← icells_length l, List.take_length]⟩⟩
theorem icells_set (l : List Int) (j : Nat) (z : Int) : icells (l.set j z) = (icells l).set j (.int .i64 z) := by simp [icells, List.map_set]
set_option maxHeartbeats 3200000 in
theorem numbers_some (b o n c : Nat) (f : Nat → Nat) (w : World) (hn : n ≤ 255) (hn0 : 0 < n) (hf : ∀ i, i < 4 * n → f i < 256) (hcell : ∀ i, i < 4 * n → w.cell? ⟨b, o + i, none⟩ = some (.int .u8 (f i : Int))) :
    Calls Tryd.prog 97 #[.slice (some ⟨b, o, none⟩) (4 * n) c] w fun e w' => e = .returned (.slice (some ⟨w.heap.size, 0, none⟩) n n) ∧ w'.ownsRow w.heap.size 3 1 (.slice (some ⟨w.heap.size, 0, none⟩) n n) n (icells (numsAt f 0 n)) ∧ Below w.heap.size w w' := by
  have HC := hide hcell
  have HF := hide hf
  clear hcell hf
  have hmk := fun w => run_make_ints n (by omega) w
  have HO0 : Hid ((w.alloc (.cells (icells (List.replicate n 0)).toArray 3)).ownsRow w.heap.size 3 1 (.slice (some ⟨w.heap.size, 0, none⟩) n n) n (icells (parts f n 0))) := by
    show World.ownsRow _ _ _ _ _ _ _
    rw [parts_zero]; exact own_ints w n _ (by simp) (by omega)
  generalize hm : 4 * n = m at *
  have hquo : Int.tdiv (m : Int) 4 = (n : Int) := by rw [Int.tdiv_eq_ediv_of_nonneg (by omega)]; omega
  have HM := hide hm
  have hmb : m ≤ 1020 := by omega
  clear hm
  go_enter Tryd.func97, Tryd.ntmps97
  go_wp2
  go_loopw [12] (fun i wq => ∃ k : Nat, k ≤ m ∧ i = .int .i64 k ∧ Hid (wq.ownsRow w.heap.size 3 1 (.slice (some ⟨w.heap.size, 0, none⟩) n n) n (icells (parts f n k))) ∧ Hid (Below w.heap.size w wq)) (fun i _ => m - (intOf i).toNat)
  case atStart => exact ⟨0, Nat.zero_le _, rfl, HO0, (Below.refl _ _).alloc (Nat.le_refl _) _⟩
  case round =>
    obtain ⟨k, hk, rfl, HO, HB⟩ := hrel
    clear HO0
    by_cases hlt : k < m
    · have ck : wr.cell? ⟨b, o + k, none⟩ = some (.int .u8 (f k : Int)) := by
        rw [HB.out.cell (p := ⟨b, o + k, none⟩) (World.block_lt_of_cell? w _ (HC.out k hlt))]
        exact HC.out k hlt
      obtain ⟨j, q, hq4, hjq⟩ : ∃ j q, q < 4 ∧ k = 4 * j + q := ⟨k / 4, k % 4, by omega, by omega⟩
      have hjn : j < n := by have := HM.out; omega
      have hj4 : Int.tdiv (k : Int) 4 = (j : Int) := by rw [Int.tdiv_eq_ediv_of_nonneg (by omega)]; omega
      have hq5 : Int.tmod (k : Int) 4 = (q : Int) := by rw [Int.tmod_eq_emod_of_nonneg (by omega)]; omega
      have hcj : wr.cell? ⟨w.heap.size, j, none⟩ = some (.int .i64 ((numUp f (4 * j) q : Nat) : Int)) := by
        rw [HO.out.cellAt j (by rw [Nat.mul_one]; exact hjn), hjq]
        exact icells_get _ j _ (parts_get f n j q hq4 hjn)
      have hzj : wr.frozen? ⟨w.heap.size, j, none⟩ = false := HO.out.frozenAt j
      obtain ⟨hor, hlo⟩ := or64 f (4 * j) q hq4 (fun i hi => HF.out (4 * j + i) (by have := HM.out; omega))
      have hup := numUp_lt32 f (4 * j) q (by omega) (fun i hi => HF.out (4 * j + i) (by have := HM.out; omega))
      have hst := HO.out.stored j (.int .i64 ((numUp f (4 * j) (q + 1) : Nat) : Int))
      have HO2 : Hid ((wr.setCell ⟨w.heap.size, j, none⟩ (.int .i64 ((numUp f (4 * j) (q + 1) : Nat) : Int))).ownsRow w.heap.size 3 1 (.slice (some ⟨w.heap.size, 0, none⟩) n n) n (icells (parts f n (k + 1)))) := by
        show World.ownsRow _ _ _ _ _ _ _
        rw [hjq, parts_succ f n j q hq4, icells_set, ← hjq]; exact hst.1
      have HB2 : Hid (Below w.heap.size w (wr.setCell ⟨w.heap.size, j, none⟩ (.int .i64 ((numUp f (4 * j) (q + 1) : Nat) : Int)))) := HB.out.setCell (Nat.le_refl _) _
      rw [← hjq] at hor hlo
      have HFK := HF.out k hlt
      have HOR := hide hor
      have HLO := hide hlo
      have HUP := hide hup
      clear hst hor hlo hup hjq
      generalize numUp f (4 * j) (q + 1) = x2 at *
      generalize numUp f (4 * j) q = x1 at *
      generalize f k = y at *
      have hk0 : (0 : Int) ≤ (k : Int) := Int.natCast_nonneg _
      have hk1 : (k : Int) < (m : Int) := by omega
      have hjn2 : (j : Int) < (n : Int) := by omega
      have hj0 : (0 : Int) ≤ (j : Int) := Int.natCast_nonneg _
      have wj : IntKind.i64.wrap (j : Int) = (j : Int) := by rw [IntKind.wrap_i64]; omega
      have wy8 : IntKind.i64.wrap (y : Int) = (y : Int) := by rw [IntKind.wrap_i64]; omega
      have hqq : 8 * (3 - q) < 64 := by omega
      generalize hqe : 8 * (3 - q) = qq at *
      have wy : IntKind.i64.wrap ((y : Int) * 2 ^ qq) = (y : Int) * 2 ^ qq := by
        have e2 : (y : Int) * 2 ^ qq = ((y * 2 ^ qq : Nat) : Int) := by simp
        have := HLO.out
        rw [e2, IntKind.wrap_i64]
        generalize y * 2 ^ qq = t at *
        omega
      have hz1 : w.heap.size < wr.heap.size := by have := World.block_lt_of_cell? wr _ hcj; simpa using this
      go_wp2_with fail
      go_region_with (go_at_call 86; refine (shiftOf_any q _ hq4).mono ?_; rw [hqe]; rintro e w9 ⟨rfl, rfl⟩)
      all_goals rw [HOR.out]
      all_goals go_wp2
      all_goals exact ⟨⟨k + 1, by omega, by go_num, HO2.out.drew, HB2.out.drew⟩, by simp [intOf]; omega⟩
    · have hkm : k = 4 * n := by have := HM.out; omega
      subst hkm
      rw [parts_end] at HO
      go_wp2
      go_ret
      exact ⟨rfl, HO.out, HB.out⟩
set_option maxHeartbeats 800000 in
theorem numbers_none (a : Option Addr) (c : Nat) (f : Nat → Nat) (w : World) :
    Calls Tryd.prog 97 #[.slice a 0 c] w fun e w' => e = .returned (.slice (some ⟨w.heap.size, 0, none⟩) 0 0) ∧ w'.ownsRow w.heap.size 3 1 (.slice (some ⟨w.heap.size, 0, none⟩) 0 0) 0 (icells (numsAt f 0 0)) ∧ Below w.heap.size w w' := by
  have hmk := fun w => run_make_ints 0 (by omega) w
  simp only [Int.ofNat_zero] at hmk
  have HO0 : Hid ((w.alloc (.cells (icells (List.replicate 0 0)).toArray 3)).ownsRow w.heap.size 3 1 (.slice (some ⟨w.heap.size, 0, none⟩) 0 0) 0 (icells (numsAt f 0 0))) := own_ints w 0 _ (by simp) (by omega)
  go_enter Tryd.func97, Tryd.ntmps97
  go_wp2
  go_loop [12] (fun i => i = .int .i64 0) (fun i => 0 - (intOf i).toNat)
  case atStart => exact rfl
  case round =>
    obtain rfl := hrel
    go_wp2
    go_ret
    exact ⟨rfl, HO0.out, (Below.refl _ _).alloc (Nat.le_refl _) _⟩
theorem numbers_any (b o n c : Nat) (f : Nat → Nat) (w : World) (hn : n ≤ 255) (hf : ∀ i, i < 4 * n → f i < 256) (hcell : ∀ i, i < 4 * n → w.cell? ⟨b, o + i, none⟩ = some (.int .u8 (f i : Int))) :
    Calls Tryd.prog 97 #[.slice (some ⟨b, o, none⟩) (4 * n) c] w fun e w' => e = .returned (.slice (some ⟨w.heap.size, 0, none⟩) n n) ∧ w'.ownsRow w.heap.size 3 1 (.slice (some ⟨w.heap.size, 0, none⟩) n n) n (icells (numsAt f 0 n)) ∧ Below w.heap.size w w' := by
  by_cases h0 : n = 0
  · subst h0; exact numbers_none _ c f w
  · exact numbers_some b o n c f w hn (by omega) hf hcell
end Go.Proofs.YtempaadgheondaaDoor
/- The program's first. -/
namespace Go.Proofs.YtempaadgheondaaDoor
open Go.RowKit
set_option maxRecDepth 100000

theorem own_cell {w : World} {B e size n g c X : Nat} {xs : List Value} (h : w.ownsRow B e size (.slice (some ⟨g, 0, none⟩) n c) n xs) (hne : g ≠ X) (j : Nat) (u : Value) : (w.setCell ⟨X, j, none⟩ u).ownsRow B e size (.slice (some ⟨g, 0, none⟩) n c) n xs := by
  refine ⟨h.1, ?_⟩
  rcases h.2 with hh | ⟨g', cap, cur, ev, hg, hc, rest⟩
  · exact .inl hh
  · simp only [Value.slice.injEq, Option.some.injEq, Addr.mk.injEq, and_true, true_and] at ev
    obtain ⟨rfl, rfl⟩ := ev
    refine .inr ⟨g, _, cur, rfl, hg, ?_, rest⟩
    rw [heap_setCell w X j _ g hne]
    exact hc
theorem numsAt_shift (f : Nat → Nat) (j n : Nat) : numsAt (fun i => f (j + i)) 0 n = numsAt f j n := by
  simp [numsAt, Nat.add_assoc]
set_option maxHeartbeats 800000 in
theorem pfirst_short (a : Option Addr) (m c : Nat) (w : World) (hm : m < 2) :
    Calls Tryd.prog 95 #[.slice a m c] w fun e w' => e = .returned (.tuple #[.agg #[.bool false, .slice none 0 0], .slice none 0 0, .bool false]) ∧ Below w.heap.size w w' := by
  have h2 : (m : Int) < 2 := by omega
  go_enter Tryd.func95, Tryd.ntmps95
  go_wp2
  exact bodyPost_ret (v := .tuple #[.agg #[.bool false, .slice none 0 0], .slice none 0 0, .bool false]) (by simp [results, Tryd.results95, go_sem]) rfl ⟨rfl, (Below.refl _ _).alloc (Nat.le_refl _) _⟩
set_option maxHeartbeats 1600000 in
theorem pfirst_no (b o m c k n : Nat) (w : World) (hm : 2 ≤ m) (hmc : m ≤ c) (hm2 : m ≤ 100000) (hk : k < 256) (hn : n < 256) (h0 : w.cell? ⟨b, o, none⟩ = some (.int .u8 (k : Int))) (h1 : w.cell? ⟨b, o + 1, none⟩ = some (.int .u8 (n : Int))) (hno : ¬ ((k = 1 ∨ k = 2) ∧ 2 + 4 * n ≤ m)) :
    Calls Tryd.prog 95 #[.slice (some ⟨b, o, none⟩) m c] w fun e w' => e = .returned (.tuple #[.agg #[.bool false, .slice none 0 0], .slice none 0 0, .bool false]) ∧ Below w.heap.size w w' := by
  have hlt := World.block_lt_of_cell? w _ h0
  simp only at hlt
  have m0 : (0 : Int) < (m : Int) := by omega
  have m1 : (1 : Int) < (m : Int) := by omega
  have m2 : (2 : Int) ≤ (m : Int) := by omega
  have d2 : decide ((m : Int) < 2) = false := decide_eq_false (by omega)
  have m3 : (m : Int) ≤ (c : Int) := by omega
  by_cases hk1 : k = 1
  · subst hk1
    have e4 : ((m - 2 : Nat) : Int) < 4 * (n : Int) := by omega
    clear hno
    go_enter Tryd.func95, Tryd.ntmps95
    go_wp2_with fail
    go_region
    go_wp2
    all_goals exact bodyPost_ret (v := .tuple #[.agg #[.bool false, .slice none 0 0], .slice none 0 0, .bool false]) (by simp [results, Tryd.results95, go_sem]) rfl ⟨rfl, ((Below.refl _ _).alloc (Nat.le_refl _) _).drew⟩
  · by_cases hk2 : k = 2
    · subst hk2
      have e4 : ((m - 2 : Nat) : Int) < 4 * (n : Int) := by omega
      clear hno
      go_enter Tryd.func95, Tryd.ntmps95
      go_wp2_with fail
      go_region
      go_wp2
      all_goals exact bodyPost_ret (v := .tuple #[.agg #[.bool false, .slice none 0 0], .slice none 0 0, .bool false]) (by simp [results, Tryd.results95, go_sem]) rfl ⟨rfl, ((Below.refl _ _).alloc (Nat.le_refl _) _).drew⟩
    · have e1 : ((k : Int) != 1) = true := by simp; omega
      have e2 : ((k : Int) != 2) = true := by simp; omega
      clear hno
      go_enter Tryd.func95, Tryd.ntmps95
      go_wp2_with fail
      go_region
      go_wp2
      all_goals exact bodyPost_ret (v := .tuple #[.agg #[.bool false, .slice none 0 0], .slice none 0 0, .bool false]) (by simp [results, Tryd.results95, go_sem]) rfl ⟨rfl, ((Below.refl _ _).alloc (Nat.le_refl _) _).drew⟩
set_option maxHeartbeats 3200000 in
theorem pfirst_yes (b o m c k n : Nat) (f : Nat → Nat) (w : World) (hmc : m ≤ c) (hm2 : m ≤ 100000) (hk : k = 1 ∨ k = 2) (hn : n < 256) (hnm : 2 + 4 * n ≤ m) (hc2 : ¬ c = 2) (hf : ∀ i, i < 4 * n → f i < 256) (h0 : w.cell? ⟨b, o, none⟩ = some (.int .u8 (k : Int))) (h1 : w.cell? ⟨b, o + 1, none⟩ = some (.int .u8 (n : Int))) (hcell : ∀ i, i < 4 * n → w.cell? ⟨b, o + 2 + i, none⟩ = some (.int .u8 (f i : Int))) :
    Calls Tryd.prog 95 #[.slice (some ⟨b, o, none⟩) m c] w fun e w' => ∃ g a' c', e = .returned (.tuple #[.agg #[.bool (decide (k = 1)), .slice (some ⟨g, 0, none⟩) n n], .slice a' (m - (2 + 4 * n)) c', .bool true]) ∧ m - (2 + 4 * n) ≤ c' ∧ (2 + 4 * n < m → a' = some ⟨b, o + (2 + 4 * n), none⟩) ∧ w'.ownsRow w.heap.size 3 1 (.slice (some ⟨g, 0, none⟩) n n) n (icells (numsAt f 0 n)) ∧ Below w.heap.size w w' := by
  have hlt := World.block_lt_of_cell? w _ h0
  simp only at hlt
  have HN : Hid (∀ w1 : World, Below w.heap.size w w1 → Calls Tryd.prog 97 #[.slice (some ⟨b, o + 2, none⟩) (4 * n) (c - 2)] w1 fun e w' => e = .returned (.slice (some ⟨w1.heap.size, 0, none⟩) n n) ∧ w'.ownsRow w1.heap.size 3 1 (.slice (some ⟨w1.heap.size, 0, none⟩) n n) n (icells (numsAt f 0 n)) ∧ Below w1.heap.size w1 w') := fun w1 hb1 =>
    numbers_any b (o + 2) n (c - 2) f w1 (by omega) hf (fun i hi => by rw [hb1.cell (p := ⟨b, o + 2 + i, none⟩) hlt]; exact hcell i hi)
  have m0 : (0 : Int) < (m : Int) := by omega
  have m1 : (1 : Int) < (m : Int) := by omega
  have m2 : (2 : Int) ≤ (m : Int) := by omega
  have d2 : decide ((m : Int) < 2) = false := decide_eq_false (by omega)
  have m3 : (m : Int) ≤ (c : Int) := by omega
  have m5 : ((m - 2 : Nat) : Int) ≤ ((c - 2 : Nat) : Int) := by omega
  have HA : Hid (∀ a', a' = (if c - 2 = 4 * n then some (⟨b, o + 2, none⟩ : Addr) else some ⟨b, o + 2 + 4 * n, none⟩) → 2 + 4 * n < m → a' = some ⟨b, o + (2 + 4 * n), none⟩) := fun a' ha hlt9 => by rw [ha, if_neg (by omega), Nat.add_assoc]
  have HE : Hid (m - 2 - 4 * n = m - (2 + 4 * n) ∧ m - (2 + 4 * n) ≤ c - 2 - 4 * n) := ⟨by omega, by omega⟩
  clear hcell hf
  generalize hs : 4 * n = s at *
  have hs2 : (4 : Int) * (n : Int) = (s : Int) := by omega
  have m6 : (s : Int) ≤ ((m - 2 : Nat) : Int) := by omega
  have m7 : (s : Int) ≤ ((c - 2 : Nat) : Int) := by omega
  have m8 : decide (((m - 2 : Nat) : Int) < (s : Int)) = false := decide_eq_false (by omega)
  have ws : IntKind.i64.wrap (s : Int) = (s : Int) := by rw [IntKind.wrap_i64]; omega
  have HS := hide hs
  clear hs
  rcases hk with rfl | rfl
  · by_cases hcs : c - 2 = s
    · rw [hcs] at HN HE HA
      go_enter Tryd.func95, Tryd.ntmps95
      go_wp2_with fail
      go_region
      go_wp2_with fail
      go_region_with (go_at_call 97; refine (HN.out _ (((Below.refl _ _).alloc (Nat.le_refl _) _).drew.drew)).mono ?_; rintro e w2 ⟨rfl, ho, hb⟩; have r0 : w2.cell? ⟨w.heap.size, 0, none⟩ = some (.bool false) := (by rw [hb.cell (p := ⟨w.heap.size, 0, none⟩) (by simp)]; simp [go_sem]); have r1 : w2.cell? ⟨w.heap.size, 1, none⟩ = some (.slice none 0 0) := (by rw [hb.cell (p := ⟨w.heap.size, 1, none⟩) (by simp)]; simp [go_sem]); have z0 : w2.frozen? ⟨w.heap.size, 0, none⟩ = false := (by rw [hb.frozen (p := ⟨w.heap.size, 0, none⟩) (by simp)]; simp [go_sem]); have z1 : w2.frozen? ⟨w.heap.size, 1, none⟩ = false := (by rw [hb.frozen (p := ⟨w.heap.size, 1, none⟩) (by simp)]; simp [go_sem]); have hz : w.heap.size < w2.heap.size := (by have := hb.size; simp at this; omega); have HB := hide hb; have HO := hide ho; clear hb ho)
      all_goals go_wp2
      all_goals refine bodyPost_ret (v := .tuple #[.agg #[.bool true, .slice (some ⟨w.heap.size + 1, 0, none⟩) n n], .slice (some ⟨b, o + 2, none⟩) (m - 2 - s) (s - s), .bool true]) (by simp [results, Tryd.results95, go_sem, r0, r1, Act.put]) rfl ⟨w.heap.size + 1, (some ⟨b, o + 2, none⟩), _, by rw [HE.out.1]; rfl, by have := HE.out.2; omega, HA.out _ (by simp), ?_, ?_⟩
      · exact own_cell (g := w.heap.size + 1) (own_cell (g := w.heap.size + 1) (own_base (B := w.heap.size + 1) (by simpa using HO.out) (by omega)) (by omega) _ _) (by omega) _ _
      · exact ((((((Below.refl _ _).alloc (Nat.le_refl _) _).drew.drew).trans (HB.out.mono (by simp))).setCell (Nat.le_refl _) _).setCell (Nat.le_refl _) _)
    · have hcs2 : decide (c - 2 = s) = false := decide_eq_false hcs
      go_enter Tryd.func95, Tryd.ntmps95
      go_wp2_with fail
      go_region
      go_wp2_with fail
      go_region_with (go_at_call 97; refine (HN.out _ (((Below.refl _ _).alloc (Nat.le_refl _) _).drew.drew)).mono ?_; rintro e w2 ⟨rfl, ho, hb⟩; have r0 : w2.cell? ⟨w.heap.size, 0, none⟩ = some (.bool false) := (by rw [hb.cell (p := ⟨w.heap.size, 0, none⟩) (by simp)]; simp [go_sem]); have r1 : w2.cell? ⟨w.heap.size, 1, none⟩ = some (.slice none 0 0) := (by rw [hb.cell (p := ⟨w.heap.size, 1, none⟩) (by simp)]; simp [go_sem]); have z0 : w2.frozen? ⟨w.heap.size, 0, none⟩ = false := (by rw [hb.frozen (p := ⟨w.heap.size, 0, none⟩) (by simp)]; simp [go_sem]); have z1 : w2.frozen? ⟨w.heap.size, 1, none⟩ = false := (by rw [hb.frozen (p := ⟨w.heap.size, 1, none⟩) (by simp)]; simp [go_sem]); have hz : w.heap.size < w2.heap.size := (by have := hb.size; simp at this; omega); have HB := hide hb; have HO := hide ho; clear hb ho)
      all_goals go_wp2
      all_goals refine bodyPost_ret (v := .tuple #[.agg #[.bool true, .slice (some ⟨w.heap.size + 1, 0, none⟩) n n], .slice (some ⟨b, o + 2 + s, none⟩) (m - 2 - s) ((c - 2) - s), .bool true]) (by simp [results, Tryd.results95, go_sem, r0, r1, Act.put]) rfl ⟨w.heap.size + 1, (some ⟨b, o + 2 + s, none⟩), _, by rw [HE.out.1]; rfl, by have := HE.out.2; omega, HA.out _ (by simp [hcs]), ?_, ?_⟩
      · exact own_cell (g := w.heap.size + 1) (own_cell (g := w.heap.size + 1) (own_base (B := w.heap.size + 1) (by simpa using HO.out) (by omega)) (by omega) _ _) (by omega) _ _
      · exact ((((((Below.refl _ _).alloc (Nat.le_refl _) _).drew.drew).trans (HB.out.mono (by simp))).setCell (Nat.le_refl _) _).setCell (Nat.le_refl _) _)
  · by_cases hcs : c - 2 = s
    · rw [hcs] at HN HE HA
      go_enter Tryd.func95, Tryd.ntmps95
      go_wp2_with fail
      go_region
      go_wp2_with fail
      go_region_with (go_at_call 97; refine (HN.out _ (((Below.refl _ _).alloc (Nat.le_refl _) _).drew.drew)).mono ?_; rintro e w2 ⟨rfl, ho, hb⟩; have r0 : w2.cell? ⟨w.heap.size, 0, none⟩ = some (.bool false) := (by rw [hb.cell (p := ⟨w.heap.size, 0, none⟩) (by simp)]; simp [go_sem]); have r1 : w2.cell? ⟨w.heap.size, 1, none⟩ = some (.slice none 0 0) := (by rw [hb.cell (p := ⟨w.heap.size, 1, none⟩) (by simp)]; simp [go_sem]); have z0 : w2.frozen? ⟨w.heap.size, 0, none⟩ = false := (by rw [hb.frozen (p := ⟨w.heap.size, 0, none⟩) (by simp)]; simp [go_sem]); have z1 : w2.frozen? ⟨w.heap.size, 1, none⟩ = false := (by rw [hb.frozen (p := ⟨w.heap.size, 1, none⟩) (by simp)]; simp [go_sem]); have hz : w.heap.size < w2.heap.size := (by have := hb.size; simp at this; omega); have HB := hide hb; have HO := hide ho; clear hb ho)
      all_goals go_wp2
      all_goals refine bodyPost_ret (v := .tuple #[.agg #[.bool false, .slice (some ⟨w.heap.size + 1, 0, none⟩) n n], .slice (some ⟨b, o + 2, none⟩) (m - 2 - s) (s - s), .bool true]) (by simp [results, Tryd.results95, go_sem, r0, r1, Act.put]) rfl ⟨w.heap.size + 1, (some ⟨b, o + 2, none⟩), _, by rw [HE.out.1]; rfl, by have := HE.out.2; omega, HA.out _ (by simp), ?_, ?_⟩
      · exact own_cell (g := w.heap.size + 1) (own_cell (g := w.heap.size + 1) (own_base (B := w.heap.size + 1) (by simpa using HO.out) (by omega)) (by omega) _ _) (by omega) _ _
      · exact ((((((Below.refl _ _).alloc (Nat.le_refl _) _).drew.drew).trans (HB.out.mono (by simp))).setCell (Nat.le_refl _) _).setCell (Nat.le_refl _) _)
    · have hcs2 : decide (c - 2 = s) = false := decide_eq_false hcs
      go_enter Tryd.func95, Tryd.ntmps95
      go_wp2_with fail
      go_region
      go_wp2_with fail
      go_region_with (go_at_call 97; refine (HN.out _ (((Below.refl _ _).alloc (Nat.le_refl _) _).drew.drew)).mono ?_; rintro e w2 ⟨rfl, ho, hb⟩; have r0 : w2.cell? ⟨w.heap.size, 0, none⟩ = some (.bool false) := (by rw [hb.cell (p := ⟨w.heap.size, 0, none⟩) (by simp)]; simp [go_sem]); have r1 : w2.cell? ⟨w.heap.size, 1, none⟩ = some (.slice none 0 0) := (by rw [hb.cell (p := ⟨w.heap.size, 1, none⟩) (by simp)]; simp [go_sem]); have z0 : w2.frozen? ⟨w.heap.size, 0, none⟩ = false := (by rw [hb.frozen (p := ⟨w.heap.size, 0, none⟩) (by simp)]; simp [go_sem]); have z1 : w2.frozen? ⟨w.heap.size, 1, none⟩ = false := (by rw [hb.frozen (p := ⟨w.heap.size, 1, none⟩) (by simp)]; simp [go_sem]); have hz : w.heap.size < w2.heap.size := (by have := hb.size; simp at this; omega); have HB := hide hb; have HO := hide ho; clear hb ho)
      all_goals go_wp2
      all_goals refine bodyPost_ret (v := .tuple #[.agg #[.bool false, .slice (some ⟨w.heap.size + 1, 0, none⟩) n n], .slice (some ⟨b, o + 2 + s, none⟩) (m - 2 - s) ((c - 2) - s), .bool true]) (by simp [results, Tryd.results95, go_sem, r0, r1, Act.put]) rfl ⟨w.heap.size + 1, (some ⟨b, o + 2 + s, none⟩), _, by rw [HE.out.1]; rfl, by have := HE.out.2; omega, HA.out _ (by simp [hcs]), ?_, ?_⟩
      · exact own_cell (g := w.heap.size + 1) (own_cell (g := w.heap.size + 1) (own_base (B := w.heap.size + 1) (by simpa using HO.out) (by omega)) (by omega) _ _) (by omega) _ _
      · exact ((((((Below.refl _ _).alloc (Nat.le_refl _) _).drew.drew).trans (HB.out.mono (by simp))).setCell (Nat.le_refl _) _).setCell (Nat.le_refl _) _)
set_option maxHeartbeats 1600000 in
theorem pfirst_two (b o k : Nat) (f : Nat → Nat) (w : World) (hk : k = 1 ∨ k = 2) (h0 : w.cell? ⟨b, o, none⟩ = some (.int .u8 (k : Int))) (h1 : w.cell? ⟨b, o + 1, none⟩ = some (.int .u8 0)) :
    Calls Tryd.prog 95 #[.slice (some ⟨b, o, none⟩) 2 2] w fun e w' => ∃ g a' c', e = .returned (.tuple #[.agg #[.bool (decide (k = 1)), .slice (some ⟨g, 0, none⟩) 0 0], .slice a' 0 c', .bool true]) ∧ w'.ownsRow w.heap.size 3 1 (.slice (some ⟨g, 0, none⟩) 0 0) 0 (icells (numsAt f 0 0)) ∧ Below w.heap.size w w' := by
  have hlt := World.block_lt_of_cell? w _ h0
  simp only at hlt
  rcases hk with rfl | rfl
  · go_enter Tryd.func95, Tryd.ntmps95
    go_wp2_with fail
    go_region
    go_wp2_with fail
    go_region_with (go_at_call 97; refine (numbers_none _ 0 f _).mono ?_; rintro e w2 ⟨rfl, ho, hb⟩; have r0 : w2.cell? ⟨w.heap.size, 0, none⟩ = some (.bool false) := (by rw [hb.cell (p := ⟨w.heap.size, 0, none⟩) (by simp)]; simp [go_sem]); have r1 : w2.cell? ⟨w.heap.size, 1, none⟩ = some (.slice none 0 0) := (by rw [hb.cell (p := ⟨w.heap.size, 1, none⟩) (by simp)]; simp [go_sem]); have z0 : w2.frozen? ⟨w.heap.size, 0, none⟩ = false := (by rw [hb.frozen (p := ⟨w.heap.size, 0, none⟩) (by simp)]; simp [go_sem]); have z1 : w2.frozen? ⟨w.heap.size, 1, none⟩ = false := (by rw [hb.frozen (p := ⟨w.heap.size, 1, none⟩) (by simp)]; simp [go_sem]); have hz : w.heap.size < w2.heap.size := (by have := hb.size; simp at this; omega); have HB := hide hb; have HO := hide ho; clear hb ho)
    all_goals go_wp2
    all_goals refine bodyPost_ret (v := .tuple #[.agg #[.bool true, .slice (some ⟨w.heap.size + 1, 0, none⟩) 0 0], .slice (some ⟨b, o, none⟩) 0 0, .bool true]) (by simp [results, Tryd.results95, go_sem, r0, r1, Act.put]) rfl ⟨w.heap.size + 1, (some ⟨b, o, none⟩), 0, rfl, ?_, ?_⟩
    · exact own_cell (g := w.heap.size + 1) (own_cell (g := w.heap.size + 1) (own_base (B := w.heap.size + 1) (by simpa using HO.out) (by omega)) (by omega) _ _) (by omega) _ _
    · exact ((((((Below.refl _ _).alloc (Nat.le_refl _) _).drew.drew).trans (HB.out.mono (by simp))).setCell (Nat.le_refl _) _).setCell (Nat.le_refl _) _)
  · go_enter Tryd.func95, Tryd.ntmps95
    go_wp2_with fail
    go_region
    go_wp2_with fail
    go_region_with (go_at_call 97; refine (numbers_none _ 0 f _).mono ?_; rintro e w2 ⟨rfl, ho, hb⟩; have r0 : w2.cell? ⟨w.heap.size, 0, none⟩ = some (.bool false) := (by rw [hb.cell (p := ⟨w.heap.size, 0, none⟩) (by simp)]; simp [go_sem]); have r1 : w2.cell? ⟨w.heap.size, 1, none⟩ = some (.slice none 0 0) := (by rw [hb.cell (p := ⟨w.heap.size, 1, none⟩) (by simp)]; simp [go_sem]); have z0 : w2.frozen? ⟨w.heap.size, 0, none⟩ = false := (by rw [hb.frozen (p := ⟨w.heap.size, 0, none⟩) (by simp)]; simp [go_sem]); have z1 : w2.frozen? ⟨w.heap.size, 1, none⟩ = false := (by rw [hb.frozen (p := ⟨w.heap.size, 1, none⟩) (by simp)]; simp [go_sem]); have hz : w.heap.size < w2.heap.size := (by have := hb.size; simp at this; omega); have HB := hide hb; have HO := hide ho; clear hb ho)
    all_goals go_wp2
    all_goals refine bodyPost_ret (v := .tuple #[.agg #[.bool false, .slice (some ⟨w.heap.size + 1, 0, none⟩) 0 0], .slice (some ⟨b, o, none⟩) 0 0, .bool true]) (by simp [results, Tryd.results95, go_sem, r0, r1, Act.put]) rfl ⟨w.heap.size + 1, (some ⟨b, o, none⟩), 0, rfl, ?_, ?_⟩
    · exact own_cell (g := w.heap.size + 1) (own_cell (g := w.heap.size + 1) (own_base (B := w.heap.size + 1) (by simpa using HO.out) (by omega)) (by omega) _ _) (by omega) _ _
    · exact ((((((Below.refl _ _).alloc (Nat.le_refl _) _).drew.drew).trans (HB.out.mono (by simp))).setCell (Nat.le_refl _) _).setCell (Nat.le_refl _) _)
theorem segOk_at {f : Nat → Nat} {len i : Nat} (h : segOk f len i = true) : i + 2 ≤ len ∧ (f i = 1 ∨ f i = 2) ∧ i + 2 + 4 * f (i + 1) ≤ len := of_decide_eq_true h
/-- first, at place i of len bytes. -/
theorem pfirst_at (b off len i c : Nat) (f : Nat → Nat) (w : World) (hc : len - i ≤ c) (hl : len ≤ 100000) (hf : ∀ j, j < len → f j < 256) (hcell : ∀ j, j < len → w.cell? ⟨b, off + j, none⟩ = some (.int .u8 (f j : Int))) (hk : segOk f len i = true) :
    Calls Tryd.prog 95 #[.slice (some ⟨b, off + i, none⟩) (len - i) c] w fun e w' => ∃ g a' c', e = .returned (.tuple #[.agg #[.bool (segAt f i).1, .slice (some ⟨g, 0, none⟩) (f (i + 1)) (f (i + 1))], .slice a' (len - (i + 2 + 4 * f (i + 1))) c', .bool true]) ∧ len - (i + 2 + 4 * f (i + 1)) ≤ c' ∧ (i + 2 + 4 * f (i + 1) < len → a' = some ⟨b, off + (i + 2 + 4 * f (i + 1)), none⟩) ∧ w'.ownsRow w.heap.size 3 1 (.slice (some ⟨g, 0, none⟩) (f (i + 1)) (f (i + 1))) (f (i + 1)) (icells (segAt f i).2) ∧ Below w.heap.size w w' := by
  obtain ⟨h1, h2, h3⟩ := segOk_at hk
  have hn := hf (i + 1) (by omega)
  have c0 := hcell i (by omega)
  have c1 : w.cell? ⟨b, off + i + 1, none⟩ = some (.int .u8 (f (i + 1) : Int)) := hcell (i + 1) (by omega)
  by_cases hc2 : c = 2
  · subst hc2
    have e1 : len - i = 2 := by omega
    have e2 : f (i + 1) = 0 := by omega
    rw [e2] at c1
    rw [e1]
    refine (pfirst_two b (off + i) (f i) (fun j => f (i + 2 + j)) w h2 c0 c1).mono ?_
    rintro e w' ⟨g, a', c', rfl, ho, hb⟩
    refine ⟨g, a', c', ?_, by omega, fun h => absurd h (by omega), ?_, hb⟩
    · rw [e2, show len - (i + 2 + 4 * 0) = 0 from by omega]; rfl
    · have e3 : (segAt f i).2 = numsAt (fun j => f (i + 2 + j)) 0 0 := by unfold segAt; rw [e2, numsAt_shift]
      rw [e3, e2]; exact ho
  · refine (pfirst_yes b (off + i) (len - i) c (f i) (f (i + 1)) (fun j => f (i + 2 + j)) w hc (by omega) h2 hn (by omega) hc2 (fun j hj => hf (i + 2 + j) (by omega)) c0 c1 (fun j hj => by
      have := hcell (i + 2 + j) (by omega)
      rwa [show off + (i + 2 + j) = off + i + 2 + j from by omega] at this)).mono ?_
    rintro e w' ⟨g, a', c', rfl, hc', ha', ho, hb⟩
    refine ⟨g, a', c', ?_, by omega, fun h => by rw [ha' (by omega)]; congr 2; omega, ?_, hb⟩
    · rw [show len - i - (2 + 4 * f (i + 1)) = len - (i + 2 + 4 * f (i + 1)) from by omega]; rfl
    · have e3 : (segAt f i).2 = numsAt (fun j => f (i + 2 + j)) 0 (f (i + 1)) := by unfold segAt; rw [numsAt_shift]
      rw [e3]; exact ho
theorem pfirst_bad (b off len i c : Nat) (f : Nat → Nat) (w : World) (hi : i < len) (hc : len - i ≤ c) (hl : len ≤ 100000) (hf : ∀ j, j < len → f j < 256) (hcell : ∀ j, j < len → w.cell? ⟨b, off + j, none⟩ = some (.int .u8 (f j : Int))) (hk : segOk f len i = false) :
    Calls Tryd.prog 95 #[.slice (some ⟨b, off + i, none⟩) (len - i) c] w fun e w' => e = .returned (.tuple #[.agg #[.bool false, .slice none 0 0], .slice none 0 0, .bool false]) ∧ Below w.heap.size w w' := by
  have hno := of_decide_eq_false hk
  by_cases h2 : i + 2 ≤ len
  · exact pfirst_no b (off + i) (len - i) c (f i) (f (i + 1)) w (by omega) hc (by omega) (hf i hi) (hf (i + 1) (by omega)) (hcell i hi) (hcell (i + 1) (by omega)) (fun h => hno ⟨h2, h.1, by omega⟩)
  · exact pfirst_short _ (len - i) c w (by omega)
end Go.Proofs.YtempaadgheondaaDoor
/- The program's Decode. -/
namespace Go.Proofs.YtempaadgheondaaDoor
open Go.RowKit
set_option maxRecDepth 100000

theorem own_keeps {w w' : World} {B e size n : Nat} {v : Value} {xs : List Value} {F : Nat → Prop} (h : w.ownsRow B e size v n xs) (hk : Keeps F w w') (hF : ∀ k, F k → k < B) : w'.ownsRow B e size v n xs := by
  refine ⟨h.1, ?_⟩
  rcases h.2 with hh | ⟨g, cap, cur, e1, hb, hc, rest⟩
  · exact .inl hh
  · refine .inr ⟨g, cap, cur, e1, hb, ?_, rest⟩
    rw [hk.block g (Array.getElem?_eq_some_iff.1 hc).1 (fun h9 => absurd (hF g h9) (by omega))]
    exact hc
theorem OwnPath.keeps {w w' : World} {B : Nat} {v : Value} {ss : List (Bool × List Int)} {F : Nat → Prop} (h : OwnPath w B v ss) (hk : Keeps F w w') (hF : ∀ k, F k → k < B) : OwnPath w' B v ss := by
  obtain ⟨cs, ho, hc⟩ := h
  refine ⟨cs, own_keeps ho hk hF, fun i s hi => ?_⟩
  obtain ⟨h1, u, h2, h3⟩ := hc i s hi
  exact ⟨h1, u, h2, own_keeps h3 hk hF⟩
theorem OwnPath.base {w : World} {B B' : Nat} {v : Value} {ss : List (Bool × List Int)} (h : OwnPath w B v ss) (hB : B' ≤ B) : OwnPath w B' v ss := by
  obtain ⟨cs, ho, hc⟩ := h
  refine ⟨cs, own_base ho hB, fun i s hi => ?_⟩
  obtain ⟨h1, u, h2, h3⟩ := hc i s hi
  exact ⟨h1, u, h2, own_base h3 hB⟩
theorem Chk.under {w w' : World} {B x : Nat} (h : Chk w B x) (hb : Below (B + 9) w w') : Chk w' B x := by
  have key : ∀ k, k ≤ 8 → w'.cell? ⟨B + k, 0, none⟩ = w.cell? ⟨B + k, 0, none⟩ := fun k hk => hb.cell (p := ⟨B + k, 0, none⟩) (by show B + k < B + 9; omega)
  exact ⟨by rw [← h.l1]; exact key 0 (by omega), by rw [← h.m1]; exact key 1 (by omega), by rw [← h.l2]; exact key 2 (by omega), by rw [← h.m2]; exact key 3 (by omega), by rw [← h.m3]; exact key 4 (by omega), by rw [← h.ct]; exact key 5 (by omega), by rw [hb.frozen (p := ⟨B + 5, 0, none⟩) (by show B + 5 < B + 9; omega)]; exact h.fz,
    by rw [← h.f1]; exact key 6 (by omega), by rw [← h.f2]; exact key 7 (by omega), by rw [← h.f3]; exact key 8 (by omega)⟩
theorem goodP_app {a b : List (Bool × List Int)} (h : goodP a = false) : goodP (a ++ b) = false := by
  unfold goodP at h ⊢
  rw [List.all_append]
  rcases (Bool.and_eq_false_iff).1 h with h | h
  · rw [h]; rfl
  · have h2 : sumP a ≤ sumP (a ++ b) := by
      have := sumP_take (a ++ b) a.length
      rwa [List.take_left] at this
    rw [decide_eq_false (by have := of_decide_eq_false h; omega), Bool.and_false]
theorem segsFuel_bad (f : Nat → Nat) (len : Nat) : ∀ (k i : Nat) (acc : List (Bool × List Int)), goodP acc = false → segsFuel f len k i acc = none
  | 0, i, acc, h => by rw [segsFuel]; unfold fin; rw [h]; rfl
  | k + 1, i, acc, h => by
    rw [segsFuel]
    by_cases hi : i < len
    · rw [if_pos hi]
      by_cases ho : segOk f len i = true
      · rw [if_pos ho]; exact segsFuel_bad f len k _ _ (goodP_app h)
      · rw [if_neg ho]
    · rw [if_neg hi]; unfold fin; rw [h]; rfl
theorem segsRun_bad {f : Nat → Nat} {len i : Nat} {acc : List (Bool × List Int)} (h : goodP acc = false) : segsRun f len i acc = none := segsFuel_bad f len _ i acc h
theorem goodP_snoc (acc : List (Bool × List Int)) (s : Bool × List Int) (h : acc.all okS = true) : goodP (acc ++ [s]) = (okS s && decide (sumP acc + s.2.length ≤ 64)) := by
  unfold goodP
  rw [List.all_append, h, sumP_snoc]
  simp
section
attribute [local go_sem ↓] kept_appendS
set_option maxHeartbeats 3200000 in
theorem pdecode_some (b off len cap : Nat) (f : Nat → Nat) (w : World) (hl : len ≤ 10000) (hlc : len ≤ cap) (hf : ∀ j, j < len → f j < 256) (hcell : ∀ j, j < len → w.cell? ⟨b, off + j, none⟩ = some (.int .u8 (f j : Int))) :
    Calls Tryd.prog 85 #[.slice (some ⟨b, off, none⟩) len cap] w fun e w' => PthRes w w' (segsRun f len 0 []) e ∧ Below w.heap.size w w' := by
  have HC := hide hcell
  have HF := hide hf
  clear hcell hf
  go_enter Tryd.func85, Tryd.ntmps85
  go_wp2_with fail
  refine (gob_any _).mono ?_
  rintro e w1 ⟨rfl, hk1, hb1⟩
  unfold chkV
  have HK1 := hide hk1
  have HB1 := hide hb1
  clear hk1 hb1
  go_wp2
  go_loopw [0, 5] (fun s v wq => ∃ (i : Nat) (acc : List (Bool × List Int)) (a' : Option Addr) (c' r x : Nat), s = .slice a' r c' ∧ r = len - i ∧ i ≤ len ∧ r ≤ c' ∧ x ≤ 64 ∧ Hid (x = sumP acc) ∧ Hid (acc.all okS = true) ∧ Hid (i < len → a' = some ⟨b, off + i, none⟩) ∧ Hid (OwnPath wq (w.heap.size + 9) v acc) ∧ Hid (Below w.heap.size w wq) ∧ Hid (Chk wq w.heap.size x) ∧ Hid (segsRun f len 0 [] = segsRun f len i acc) ∧ acc.length ≤ i) (fun s _ _ => sliceLen s)
  case atStart => exact ⟨0, [], _, cap, len, 0, rfl, rfl, Nat.zero_le _, hlc, by omega, rfl, rfl, fun _ => rfl, OwnPath.nil _ _, HB1, HK1, rfl, Nat.le_refl _⟩
  case round =>
    clear HK1 HB1
    obtain ⟨i, acc, a', c', r, x, rfl, hr, hi, hrc, hx, HX, HAL, HA, HO, HB, HCH, HE, hal⟩ := hrel
    by_cases hlt : i < len
    · have ha := HA.out hlt
      subst ha
      have hr0 : (0 : Int) < (r : Int) := by omega
      have hcw : Hid (∀ j, j < len → wr.cell? ⟨b, off + j, none⟩ = some (.int .u8 (f j : Int))) := fun j hj => by
        rw [HB.out.cell (p := ⟨b, off + j, none⟩) (World.block_lt_of_cell? w _ (HC.out j hj))]
        exact HC.out j hj
      have HRR := hide hr
      have hrl : r ≤ len := by omega
      clear hr HA
      cases hk : segOk f len i with
      | false =>
        have HN : Hid (segsRun f len 0 [] = none) := by show segsRun f len 0 [] = none; rw [HE.out, segsRun_no hlt hk]
        have HK := hide hk
        clear hk
        go_wp2_with fail
        rw [HRR.out]
        refine (pfirst_bad b off len i c' f wr hlt (by rw [← HRR.out]; exact hrc) (by omega) HF.out hcw.out HK.out).mono ?_
        rintro e w2 ⟨rfl, hb⟩
        have HB1 : Hid (Below w.heap.size w w2) := HB.out.trans (hb.mono HB.out.size)
        clear hb
        go_wp2
        go_ret2
        exact ⟨by rw [HN.out]; rfl, HB1.out.alloc HB1.out.size _⟩
      | true =>
        have HK := hide hk
        clear hk
        have HE1 : Hid (segsRun f len 0 [] = segsRun f len (i + 2 + 4 * f (i + 1)) (acc ++ [segAt f i])) := by show segsRun f len 0 [] = _; rw [HE.out, segsRun_go hlt HK.out]
        have HL2 : Hid (i + 2 + 4 * f (i + 1) ≤ len) := (segOk_at HK.out).2.2
        have hn256 := HF.out (i + 1) (by have := HL2.out; omega)
        have HP := hide (pfirst_at b off len i c' f wr (by rw [← HRR.out]; exact hrc) (by omega) HF.out hcw.out HK.out)
        rw [← HRR.out] at HP
        have HSN := hide (goodP_snoc acc (segAt f i) HAL.out)
        have HSL : Hid ((segAt f i).2.length = f (i + 1)) := numsAt_length _ _ _
        have HSS := hide (sumP_snoc acc (segAt f i))
        have HSA : Hid ((acc ++ [segAt f i]).all okS = (acc.all okS && okS (segAt f i))) := by show List.all _ _ = _; simp
        generalize hni : i + 2 + 4 * f (i + 1) = i2 at *
        have HNI : Hid (i < i2) := by show i < i2; omega
        generalize f (i + 1) = n at *
        generalize segAt f i = sg at *
        obtain ⟨b1, zs⟩ := sg
        clear hni HE HC
        simp only at HSL HSS HP
        generalize hr2 : len - i2 = r2 at *
        have HR2 := hide hr2
        clear hr2
        go_wp2_with fail
        refine HP.out.mono ?_
        rintro e w2 ⟨g, a2, c2, rfl, hc2, ha2, hog, hb⟩
        have HB2 : Hid (Below w.heap.size w w2) := HB.out.trans (hb.mono HB.out.size)
        have HO2 := hide (HO.out.later hb)
        have HCH2 := hide (HCH.out.later hb)
        have HOG : Hid (w2.ownsRow (w.heap.size + 9) 3 1 (.slice (some ⟨g, 0, none⟩) n n) n (icells zs)) := own_base hog (by have := HCH.out.size; omega)
        have HC2 := hide hc2
        have HA2 := hide ha2
        clear hb hog hc2 ha2 HP HO HB HCH hcw
        have HCK : Hid (∀ w3 : World, Below w2.heap.size w2 w3 → Calls Tryd.prog 83 #[segV b1 (some ⟨g, 0, none⟩) n n, .pointer (some ⟨w.heap.size + 6, 0, none⟩), .pointer (some ⟨w.heap.size + 7, 0, none⟩), .pointer (some ⟨w.heap.size + 8, 0, none⟩)] w3 fun e w' =>
          e = .returned (.bool (okS (b1, zs) && decide (x + n ≤ 64))) ∧ Keeps (fun b => b = w.heap.size + 5) w3 w' ∧ ((okS (b1, zs) && decide (x + n ≤ 64)) = true → Chk w' w.heap.size (x + n))) := fun w3 hb3 => by
          have hlz := HSL.out
          have h9 := own_ird (w := w3) (zs := zs) (by rw [hlz]; exact own_later HOG.out hb3)
          obtain ⟨a9, c9, e9, hr9⟩ := h9
          simp only [Value.slice.injEq] at e9
          obtain ⟨e9, _, _⟩ := e9
          rw [← e9] at hr9
          have := check_any b1 (some ⟨g, 0, none⟩) n zs w.heap.size x w3 (by omega) (by omega) (HCH2.out.later hb3) hr9
          rw [hlz] at this
          exact this
        have hz2 : g < w2.heap.size := by
          have := own_block HOG.out g rfl
          exact this.2
        go_wp2_with fail
        refine (HCK.out (w2.alloc (.cells #[.bool b1, .slice (some ⟨g, 0, none⟩) n n] 46)) ((Below.refl _ _).alloc (Nat.le_refl _) _)).mono ?_
        rintro e w3 ⟨rfl, hk3, hi3⟩
        have hs9 := HCH2.out.size
        have q0 : w3.cell? ⟨w2.heap.size, 0, none⟩ = some (.bool b1) := by rw [hk3.cell ⟨w2.heap.size, 0, none⟩ (by simp) (by show ¬ (w2.heap.size = _); omega)]; simp [go_sem]
        have q1 : w3.cell? ⟨w2.heap.size, 1, none⟩ = some (.slice (some ⟨g, 0, none⟩) n n) := by rw [hk3.cell ⟨w2.heap.size, 1, none⟩ (by simp) (by show ¬ (w2.heap.size = _); omega)]; simp [go_sem]
        have hz3 : w2.heap.size < w3.heap.size := by have := hk3.size; simp at this; omega
        have HB3 : Hid (Below w.heap.size w w3) := (HB2.out.alloc HB2.out.size _).trans (hk3.below w.heap.size (by simp; omega) (fun b h => by omega))
        have HO3 : Hid (OwnPath w3 (w.heap.size + 9) _ acc) := (HO2.out.later ((Below.refl _ _).alloc (Nat.le_refl _) _)).keeps hk3 (fun k h => by omega)
        have HOG3 : Hid (w3.ownsRow (w.heap.size + 9) 3 1 (.slice (some ⟨g, 0, none⟩) n n) n (icells zs)) := own_keeps (HOG.out.alloc _) hk3 (fun k h => by omega)
        have HI3 := hide hi3
        clear hk3 hi3 HCK HO2 HOG HCH2 HB2
        cases hr : (okS (b1, zs) && decide (x + n ≤ 64)) with
        | false =>
          have HN : Hid (segsRun f len 0 [] = none) := by
            show segsRun f len 0 [] = none
            rw [HE1.out]
            refine segsRun_bad ?_
            rw [HSN.out, ← HX.out, ← hr, ← HSL.out]
          clear hr
          go_wp2
          go_ret2
          exact ⟨by rw [HN.out]; rfl, HB3.out⟩
        | true =>
          have HCH4 := hide (HI3.out hr)
          obtain ⟨t1, t2⟩ := (Bool.and_eq_true _ _).mp hr
          have HOK := hide t1
          have hx2 : x + n ≤ 64 := of_decide_eq_true t2
          clear hr t1 t2 HI3
          obtain ⟨v4, w4, hr4, ho4, hb4⟩ := HO3.out.snoc (b := b1) (zs := zs) (u := .slice (some ⟨g, 0, none⟩) n n) (by rw [HSL.out]; exact HOG3.out) rfl (by omega) (by omega) w3.heap.size rfl
          have HR4 := hide hr4
          have HO4 := hide ho4
          have HB4 : Hid (Below w.heap.size w w4) := HB3.out.trans (hb4.mono (by omega))
          have HCH5 := hide (HCH4.out.under hb4)
          clear hr4 ho4 hb4 HO3 HOG3 HCH4 HB3
          go_wp2_with fail
          refine kept_appendS_intro _ _ _ (.slice (some ⟨w3.heap.size, 0, none⟩) 1 1) v4 (w' := w4) (by rfl) (by rfl) (by exact HR4.out) ?_
          go_wp2
          exact ⟨⟨i2, acc ++ [(b1, zs)], a2, c2, r2, x + n, rfl, HR2.out.symm, HL2.out, HC2.out, hx2, by show x + n = _; rw [HSS.out, HX.out, HSL.out], by show List.all _ _ = true; rw [HSA.out, HAL.out, HOK.out]; rfl, HA2, HO4, HB4, HCH5, HE1, by have := HNI.out; simp; omega⟩, by have := HNI.out; have := HRR.out; have := HR2.out; have := HL2.out; simp [sliceLen]; omega⟩
    · have HN : Hid (segsRun f len 0 [] = some acc) := by
        show segsRun f len 0 [] = some acc
        rw [HE.out, segsRun_end hlt]
        unfold fin goodP
        rw [HAL.out, ← HX.out, decide_eq_true hx]; rfl
      have hr0 : r = 0 := by omega
      subst hr0
      go_wp2
      go_ret2
      exact ⟨by rw [HN.out]; exact ⟨_, rfl, HO.out.base (by omega)⟩, HB.out⟩
end
set_option maxHeartbeats 400000 in
theorem pdecode_empty (a : Option Addr) (cap : Nat) (f : Nat → Nat) (w : World) :
    Calls Tryd.prog 85 #[.slice a 0 cap] w fun e w' => PthRes w w' (segsRun f 0 0 []) e ∧ Below w.heap.size w w' := by
  have HN : Hid (segsRun f 0 0 [] = some []) := segsRun_end (by omega)
  go_enter Tryd.func85, Tryd.ntmps85
  go_wp2_with fail
  refine (gob_any _).mono ?_
  rintro e w1 ⟨rfl, hk1, hb1⟩
  unfold chkV
  have HB1 := hide hb1
  clear hk1 hb1
  go_wp2
  go_loop [0, 5] (fun s v => s = .slice a 0 cap ∧ v = .slice none 0 0) (fun s _ => sliceLen s)
  case atStart => exact ⟨rfl, rfl⟩
  case round =>
    obtain ⟨rfl, rfl⟩ := hrel
    go_wp2
    go_ret2
    exact ⟨by rw [HN.out]; exact ⟨_, rfl, OwnPath.nil _ _⟩, HB1.out⟩
theorem pdecode_any (a : Option Addr) (len cap : Nat) (f : Nat → Nat) (w : World) (hl : len ≤ 10000) (hlc : len ≤ cap) (hf : ∀ j, j < len → f j < 256) (h : Rw w a len f) :
    Calls Tryd.prog 85 #[.slice a len cap] w fun e w' => PthRes w w' (segsRun f len 0 []) e ∧ Below w.heap.size w w' := by
  by_cases h0 : len = 0
  · subst h0; exact pdecode_empty a cap f w
  · obtain ⟨b, off, rfl, hc⟩ := h.2 (by omega)
    exact pdecode_some b off len cap f w hl hlc hf hc
end Go.Proofs.YtempaadgheondaaDoor
