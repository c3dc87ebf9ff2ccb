/- The program's hasFlagsAsSaid, readPath. -/
import Derived.Test.YtempaadgheondaaDoorHFirst
import Derived.Test.YtempaadgheondaaDoorHQd
import Derived.Test.YtempaadgheondaaDoorAtQ
import Derived.Test.YtempaadgheondaaDoorHRaw
import Derived.Test.YtempaadgheondaaDoorHPlain
import Derived.Laws.BitsAllLaws
import Derived.Deep.RegionWith
namespace Go.Proofs.YtempaadgheondaaDoor
open Go.RowKit
set_option maxRecDepth 100000

/-- Are the flags of types 1 to 8 right? -/
def flagsOk (fl ty : Nat) : Bool := !decide (fl / 64 * 64 ≠ wantF ty ∨ fl / 32 % 2 = 1 ∧ ty < 7)
theorem wantF_eq (ty : Nat) : wantF ty = flagN ty := rfl
theorem and64n (x y : Nat) (hx : x < 256) (hy : y < 256) : bits .and .i64 (x : Int) (y : Int) = ((x &&& y : Nat) : Int) :=
  (bits_nat .i64 8 (by decide) (fun n h0 h1 => by rw [IntKind.wrap_i64]; simp only [Int.reducePow] at h1; omega) _ _ (by simpa using hx) (by simpa using hy)).1
theorem fl192 (x : Nat) (h : x < 256) : decide (x &&& 192 = 192) = decide (x / 64 * 64 = 192) := by
  have key : ∀ y : Fin 256, decide ((y : Nat) &&& 192 = 192) = decide ((y : Nat) / 64 * 64 = 192) := by decide +kernel
  exact key ⟨x, h⟩
theorem fl224 (x t : Nat) (h : x < 256) (ht : t = 64 ∨ t = 128) : decide (x &&& 224 = t) = decide (x / 64 * 64 = t ∧ x / 32 % 2 = 0) := by
  have k1 : ∀ y : Fin 256, decide ((y : Nat) &&& 224 = 64) = decide ((y : Nat) / 64 * 64 = 64 ∧ (y : Nat) / 32 % 2 = 0) := by decide +kernel
  have k2 : ∀ y : Fin 256, decide ((y : Nat) &&& 224 = 128) = decide ((y : Nat) / 64 * 64 = 128 ∧ (y : Nat) / 32 % 2 = 0) := by decide +kernel
  rcases ht with rfl | rfl
  · exact k1 ⟨x, h⟩
  · exact k2 ⟨x, h⟩
set_option maxHeartbeats 800000 in
theorem hasFlags_any (fl ty : Nat) (a1 : Option Addr) (n1 c1 : Nat) (a2 : Option Addr) (n2 c2 : Nat) (w : World) (hS : Said w) (hf : fl < 256) (h1 : 1 ≤ ty) (h8 : ty ≤ 8) :
    Calls Tryd.prog 59 #[partV (fl : Int) (ty : Int) a1 n1 c1 a2 n2 c2] w fun e w' => e = .returned (.bool (flagsOk fl ty)) ∧ Below w.heap.size w w' := by
  obtain ⟨c0, _, _, _⟩ := hS.at ty h1 h8
  have hp := hS.pos
  have k0 : (0 : Int) ≤ (ty : Int) := Int.natCast_nonneg _
  have k9 : (ty : Int) < 9 := by omega
  have hv : flagN ty = 64 ∨ flagN ty = 128 ∨ flagN ty = 192 := by unfold flagN; repeat (first | omega | split)
  have h192 : flagN ty = 192 ↔ (ty = 7 ∨ ty = 8) := by unfold flagN; repeat (first | omega | split)
  unfold flagsOk
  rw [wantF_eq]
  unfold partV
  clear hS
  by_cases h9 : flagN ty = 192
  · rw [h9] at c0
    have HD : Hid ((!decide (fl / 64 * 64 ≠ flagN ty ∨ fl / 32 % 2 = 1 ∧ ty < 7)) = ((bits .and .i64 (fl : Int) 192) == 192)) := by
      show (!decide _) = _
      have := and64n fl 192 hf (by decide)
      have e : bits .and .i64 (fl : Int) 192 = ((fl &&& 192 : Nat) : Int) := this
      rw [e, h9]
      have e2 := fl192 fl hf
      have e3 : ((((fl &&& 192 : Nat) : Int)) == 192) = decide (fl &&& 192 = 192) := by rw [Bool.eq_iff_iff]; simp only [beq_iff_eq, decide_eq_true_eq]; omega
      rw [e3, e2, Bool.eq_iff_iff]
      simp only [Bool.not_eq_true', decide_eq_false_iff_not, decide_eq_true_eq]
      have := h192.1 h9
      omega
    clear hv h192
    go_enter Tryd.func59, Tryd.ntmps59
    go_wp2
    go_ret
    exact ⟨ret_bool HD.out.symm, (Below.refl _ _).alloc (Nat.le_refl _) _⟩
  · have hn : ¬ (ty = 7 ∨ ty = 8) := fun h => h9 (h192.2 h)
    have HD : Hid ((!decide (fl / 64 * 64 ≠ flagN ty ∨ fl / 32 % 2 = 1 ∧ ty < 7)) = ((bits .and .i64 (fl : Int) 224) == (flagN ty : Int))) := by
      show (!decide _) = _
      have := and64n fl 224 hf (by decide)
      have e : bits .and .i64 (fl : Int) 224 = ((fl &&& 224 : Nat) : Int) := this
      rw [e]
      have e2 := fl224 fl (flagN ty) hf (by omega)
      have e3 : ((((fl &&& 224 : Nat) : Int)) == (flagN ty : Int)) = decide (fl &&& 224 = flagN ty) := by rw [Bool.eq_iff_iff]; simp only [beq_iff_eq, decide_eq_true_eq]; omega
      rw [e3, e2, Bool.eq_iff_iff]
      simp only [Bool.not_eq_true', decide_eq_false_iff_not, decide_eq_true_eq]
      omega
    have f9 : ((flagN ty : Int) == 192) = false := by simp; omega
    rw [HD.out]
    clear hv h192 h9 HD
    generalize flagN ty = v at *
    go_enter Tryd.func59, Tryd.ntmps59
    go_wp2
    go_ret
    exact ⟨rfl, (Below.refl _ _).alloc (Nat.le_refl _) _⟩
/-- What readPath answers. -/
def PathRes (w w' : World) (r : Option (List (Bool × List Int))) (e : Ending) : Prop :=
  match r with
  | none => Throws w w' 11 [] e
  | some ss => ∃ v, e = .returned v ∧ OwnPath w' w.heap.size v ss ∧ Below w.heap.size w w'
set_option maxHeartbeats 1600000 in
theorem readPath_any (fl ty : Int) (a1 : Option Addr) (c1 : Nat) (a2 : Option Addr) (n2 c2 : Nat) (d : List Nat) (w : World) (hl : d.length ≤ 10000) (hc : d.length ≤ c1) (h : BRd w a1 d) :
    Calls Tryd.prog 61 #[partV fl ty a1 d.length c1 a2 n2 c2] w fun e w' => PathRes w w' (segsRun (fun q => d.getD q 0) d.length 0 []) e := by
  have hb : ∀ o, Below w.heap.size w (w.alloc o) := fun o => (Below.refl _ _).alloc (Nat.le_refl _) _
  have K : Hid (∀ o, Calls Tryd.prog 85 #[.slice a1 d.length c1] (w.alloc o) fun e w' => PthRes (w.alloc o) w' (segsRun (fun q => d.getD q 0) d.length 0 []) e ∧ Below (w.alloc o).heap.size (w.alloc o) w') := fun o => pdecode_any a1 d.length c1 (fun q => d.getD q 0) (w.alloc o) hl hc (fun j hj => by
    rw [List.getD_eq_getElem?_getD, List.getElem?_eq_getElem hj]
    exact h.2 _ (List.getElem_mem hj)) (h.below (hb o)).1
  have KT : Hid (∀ w1, Below w.heap.size w w1 → Calls Tryd.prog 37 #[.int .i64 11, .slice none 0 0] w1 fun e w' => Throws w w' 11 [] e) := fun w1 hb => throw_nil 11 w w1 hb
  have HB := hide hb
  clear h hb
  unfold partV
  generalize segsRun (fun q => d.getD q 0) d.length 0 [] = r at *
  generalize d.length = n at *
  cases r with
  | none =>
    unfold PathRes
    unfold PthRes at K
    unfold Throws at KT ⊢
    unfold thrown at KT ⊢
    go_enter Tryd.func61, Tryd.ntmps61
    go_wp2_with fail
    refine (K.out _).mono ?_
    rintro e w1 ⟨he, hb1⟩
    obtain rfl := he
    go_wp2_with fail
    refine (KT.out _ ((HB.out _).trans (hb1.mono (by simp)))).mono ?_
    rintro e w2 ⟨a9, c9, rfl, ho, hb2⟩
    go_wp2
    exact ⟨rfl, a9, c9, rfl, ho, hb2⟩
  | some ss =>
    unfold PathRes
    unfold PthRes at K
    clear KT
    go_enter Tryd.func61, Tryd.ntmps61
    go_wp2_with fail
    refine (K.out _).mono ?_
    rintro e w1 ⟨⟨v, he, ho⟩, hb1⟩
    obtain rfl := he
    go_wp2
    go_ret
    refine ⟨v, rfl, ?_, (HB.out _).trans (hb1.mono (by simp))⟩
    exact ho.base (by simp)
end Go.Proofs.YtempaadgheondaaDoor
/- The program's numbersOf. -/
namespace Go.Proofs.YtempaadgheondaaDoor
open Go.RowKit
set_option maxRecDepth 100000

/-- The first n numbers. -/
def numsU (f : Nat → Nat) (n : Nat) : List Nat := (List.range n).map fun k => num (fun q => f (4 * k + q))
theorem numsU_length (f : Nat → Nat) (n : Nat) : (numsU f n).length = n := by simp [numsU]
theorem ucells_get (l : List Nat) (j z : Nat) (h : l[j]? = some z) : (ucells l)[j]? = some (.int .u32 (z : Int)) := by simp [ucells, h]
/-- The i-th number, k bytes having been read. -/
def partU (f : Nat → Nat) (k i : Nat) : Nat := numUp f (4 * i) (min 4 (k - 4 * i))
/-- All numbers, k bytes having been read. -/
def partsU (f : Nat → Nat) (n k : Nat) : List Nat := (List.range n).map (partU f k)
theorem partsU_length (f : Nat → Nat) (n k : Nat) : (partsU f n k).length = n := by simp [partsU]
theorem partsU_zero (f : Nat → Nat) (n : Nat) : partsU f n 0 = List.replicate n 0 := by
  apply List.ext_getElem?
  intro i
  by_cases hi : i < n
  · simp [partsU, partU, hi, numUp]
  · simp [partsU, hi]
theorem partsU_succ (f : Nat → Nat) (n j q : Nat) (hq : q < 4) : partsU f n (4 * j + q + 1) = (partsU f n (4 * j + q)).set j (numUp f (4 * j) (q + 1)) := by
  apply List.ext_getElem?
  intro i
  by_cases hi : i < n
  · rw [List.getElem?_set]
    by_cases e : j = i
    · subst e
      simp only [partsU_length, hi, if_true]
      simp [partsU, partU, hi]
      rw [show min 4 (4 * j + q + 1 - 4 * j) = q + 1 from by omega]
    · rw [if_neg e]
      simp only [partsU, partU, List.getElem?_map, List.getElem?_range hi, Option.map_some]
      rw [show min 4 (4 * j + q + 1 - 4 * i) = min 4 (4 * j + q - 4 * i) from by omega]
  · rw [List.getElem?_eq_none (by rw [partsU_length]; omega), List.getElem?_eq_none (by rw [List.length_set, partsU_length]; omega)]
theorem partsU_get (f : Nat → Nat) (n j q : Nat) (hq : q < 4) (hj : j < n) : (partsU f n (4 * j + q))[j]? = some (numUp f (4 * j) q) := by
  simp [partsU, partU, hj]
  rw [show min 4 q = q from by omega]
theorem partsU_end (f : Nat → Nat) (n : Nat) : partsU f n (4 * n) = numsU f n := by
  apply List.ext_getElem?
  intro i
  by_cases hi : i < n
  · simp [partsU, partU, numsU, hi]
    rw [show min 4 (4 * n - 4 * i) = 4 from by omega, num_up]
    rw [numUp_congr f (fun q => f (4 * i + q)) (4 * i) 0 4 (fun q _ => by show f (4 * i + q) = f (4 * i + (0 + q)); rw [Nat.zero_add])]
  · rw [List.getElem?_eq_none (by rw [partsU_length]; omega), List.getElem?_eq_none (by rw [numsU_length]; omega)]
theorem or32 (f : Nat → Nat) (j q : Nat) (hq : q < 4) (hf : ∀ i, i < 4 → f (j + i) < 256) : bits .or .u32 ((numUp f j q : Nat) : Int) ((f (j + q) : Int) * 2 ^ (8 * (3 - q))) = ((numUp f j (q + 1) : Nat) : Int) ∧ f (j + q) * 2 ^ (8 * (3 - q)) < 4294967296 := by
  have hfq := hf q hq
  have hlt : f (j + q) * 2 ^ (8 * (3 - q)) < 4294967296 := by
    have h1 : f (j + q) * 2 ^ (8 * (3 - q)) < 256 * 2 ^ (8 * (3 - q)) := Nat.mul_lt_mul_of_pos_right hfq (Nat.two_pow_pos _)
    have h2 : 2 ^ (8 * (3 - q)) ≤ 2 ^ 24 := Nat.pow_le_pow_right (by omega) (by omega)
    simp only [Nat.reducePow] at h2
    omega
  have e2 : (f (j + q) : Int) * 2 ^ (8 * (3 - q)) = ((f (j + q) * 2 ^ (8 * (3 - q)) : Nat) : Int) := by simp
  have hx := numUp_lt32 f j q (by omega) (fun i hi => hf i (by omega))
  refine ⟨?_, hlt⟩
  rw [e2, u32_or_nat _ _ (by simpa using hx) hlt, numUp_or f j q hq hfq]
theorem run_make_u32 (n : Nat) (hn : n ≤ 100000) (w : World) : (Instr.makeSlice 24 (.int .i64 (n : Int)) (.int .i64 (n : Int))).run Tryd.prog w =
    .ok (.slice (some ⟨w.heap.size, 0, none⟩) n n) (w.alloc (.cells (ucells (List.replicate n 0)).toArray 23)) := by
  obtain ⟨i0, hi0, hz0, hz1, hz2⟩ := info_parts Tryd.infoU32
  have := run_make (P := Tryd.prog) w 24 23 i0 _ Tryd.underlying24 hi0 hz0 .i64 .i64 (n : Int) (n : Int) (by omega) (Int.le_refl _) (by rw [hz2]; omega) (by omega)
  simp only [Int.toNat_natCast, hz1, Value.cells, Nat.mul_one] at this
  rw [this]
  congr 3
  apply Array.ext_getElem?
  intro k
  by_cases hk : k < n
  · simp [madeCells, ucells, hk, Nat.mod_one]
  · simp [madeCells, ucells, hk]
theorem own_u32s (w : World) (n : Nat) (l : List Nat) (hl : l.length = n) (hn : n ≤ 100000) : (w.alloc (.cells (ucells l).toArray 23)).ownsRow w.heap.size 23 1 (.slice (some ⟨w.heap.size, 0, none⟩) n n) n (ucells l) :=
  ⟨by rw [ucells_length]; omega, .inr ⟨w.heap.size, n, _, rfl, Nat.le_refl _, by unfold World.alloc; exact Array.getElem?_push_size, Nat.le_refl _, by unfold maxLen; omega, by simp [ucells_length, hl], by rw [Nat.mul_one, ← hl, ← ucells_length l, List.take_length]⟩⟩
theorem ucells_set (l : List Nat) (j : Nat) (z : Nat) : ucells (l.set j z) = (ucells l).set j (.int .u32 (z : Int)) := by simp [ucells, List.map_set]
set_option maxHeartbeats 3200000 in
theorem numbersU_some (b o n c : Nat) (f : Nat → Nat) (w : World) (hn : n ≤ 5000) (hn0 : 0 < n) (hf : ∀ i, i < 4 * n → f i < 256) (hcell : ∀ i, i < 4 * n → w.cell? ⟨b, o + i, none⟩ = some (.int .u8 (f i : Int))) :
    Calls Tryd.prog 62 #[.slice (some ⟨b, o, none⟩) (4 * n) c] w fun e w' => e = .returned (.slice (some ⟨w.heap.size, 0, none⟩) n n) ∧ w'.ownsRow w.heap.size 23 1 (.slice (some ⟨w.heap.size, 0, none⟩) n n) n (ucells (numsU f n)) ∧ Below w.heap.size w w' := by
  have HC := hide hcell
  have HF := hide hf
  clear hcell hf
  have hmk := fun w => run_make_u32 n (by omega) w
  have HO0 : Hid ((w.alloc (.cells (ucells (List.replicate n 0)).toArray 23)).ownsRow w.heap.size 23 1 (.slice (some ⟨w.heap.size, 0, none⟩) n n) n (ucells (partsU f n 0))) := by
    show World.ownsRow _ _ _ _ _ _ _
    rw [partsU_zero]; exact own_u32s w n _ (by simp) (by omega)
  generalize hm : 4 * n = m at *
  have hquo : Int.tdiv (m : Int) 4 = (n : Int) := by rw [Int.tdiv_eq_ediv_of_nonneg (by omega)]; omega
  have HM := hide hm
  have hmb : m ≤ 20000 := by omega
  clear hm
  go_enter Tryd.func62, Tryd.ntmps62
  go_wp2
  go_loopw [12] (fun i wq => ∃ k : Nat, k ≤ m ∧ i = .int .i64 k ∧ Hid (wq.ownsRow w.heap.size 23 1 (.slice (some ⟨w.heap.size, 0, none⟩) n n) n (ucells (partsU f n k))) ∧ Hid (Below w.heap.size w wq)) (fun i _ => m - (intOf i).toNat)
  case atStart => exact ⟨0, Nat.zero_le _, rfl, HO0, (Below.refl _ _).alloc (Nat.le_refl _) _⟩
  case round =>
    obtain ⟨k, hk, rfl, HO, HB⟩ := hrel
    clear HO0
    by_cases hlt : k < m
    · have ck : wr.cell? ⟨b, o + k, none⟩ = some (.int .u8 (f k : Int)) := by
        rw [HB.out.cell (p := ⟨b, o + k, none⟩) (World.block_lt_of_cell? w _ (HC.out k hlt))]
        exact HC.out k hlt
      obtain ⟨j, q, hq4, hjq⟩ : ∃ j q, q < 4 ∧ k = 4 * j + q := ⟨k / 4, k % 4, by omega, by omega⟩
      have hjn : j < n := by have := HM.out; omega
      have hj4 : Int.tdiv (k : Int) 4 = (j : Int) := by rw [Int.tdiv_eq_ediv_of_nonneg (by omega)]; omega
      have hq5 : Int.tmod (k : Int) 4 = (q : Int) := by rw [Int.tmod_eq_emod_of_nonneg (by omega)]; omega
      have hcj : wr.cell? ⟨w.heap.size, j, none⟩ = some (.int .u32 ((numUp f (4 * j) q : Nat) : Int)) := by
        rw [HO.out.cellAt j (by rw [Nat.mul_one]; exact hjn), hjq]
        exact ucells_get _ j _ (partsU_get f n j q hq4 hjn)
      have hzj : wr.frozen? ⟨w.heap.size, j, none⟩ = false := HO.out.frozenAt j
      obtain ⟨hor, hlo⟩ := or32 f (4 * j) q hq4 (fun i hi => HF.out (4 * j + i) (by have := HM.out; omega))
      have hup := numUp_lt32 f (4 * j) q (by omega) (fun i hi => HF.out (4 * j + i) (by have := HM.out; omega))
      have hst := HO.out.stored j (.int .u32 ((numUp f (4 * j) (q + 1) : Nat) : Int))
      have HO2 : Hid ((wr.setCell ⟨w.heap.size, j, none⟩ (.int .u32 ((numUp f (4 * j) (q + 1) : Nat) : Int))).ownsRow w.heap.size 23 1 (.slice (some ⟨w.heap.size, 0, none⟩) n n) n (ucells (partsU f n (k + 1)))) := by
        show World.ownsRow _ _ _ _ _ _ _
        rw [hjq, partsU_succ f n j q hq4, ucells_set, ← hjq]; exact hst.1
      have HB2 : Hid (Below w.heap.size w (wr.setCell ⟨w.heap.size, j, none⟩ (.int .u32 ((numUp f (4 * j) (q + 1) : Nat) : Int)))) := HB.out.setCell (Nat.le_refl _) _
      rw [← hjq] at hor hlo
      have HFK := HF.out k hlt
      have HOR := hide hor
      have HLO := hide hlo
      have HUP := hide hup
      clear hst hor hlo hup hjq
      generalize numUp f (4 * j) (q + 1) = x2 at *
      generalize numUp f (4 * j) q = x1 at *
      generalize f k = y at *
      have hk0 : (0 : Int) ≤ (k : Int) := Int.natCast_nonneg _
      have hk1 : (k : Int) < (m : Int) := by omega
      have hjn2 : (j : Int) < (n : Int) := by omega
      have hj0 : (0 : Int) ≤ (j : Int) := Int.natCast_nonneg _
      have wj : IntKind.i64.wrap (j : Int) = (j : Int) := by rw [IntKind.wrap_i64]; omega
      have wy8 : IntKind.u32.wrap (y : Int) = (y : Int) := by rw [IntKind.wrap_u32]; omega
      have hqq : 8 * (3 - q) < 32 := by omega
      generalize hqe : 8 * (3 - q) = qq at *
      have wy : IntKind.u32.wrap ((y : Int) * 2 ^ qq) = (y : Int) * 2 ^ qq := by
        have e2 : (y : Int) * 2 ^ qq = ((y * 2 ^ qq : Nat) : Int) := by simp
        have := HLO.out
        rw [e2, IntKind.wrap_u32]
        generalize y * 2 ^ qq = t at *
        omega
      have hz1 : w.heap.size < wr.heap.size := by have := World.block_lt_of_cell? wr _ hcj; simpa using this
      go_wp2_with fail
      go_region_with (go_at_call 68; refine (shiftA_any q _ hq4).mono ?_; rw [hqe]; rintro e w9 ⟨rfl, rfl⟩)
      all_goals rw [HOR.out]
      all_goals go_wp2
      all_goals exact ⟨⟨k + 1, by omega, by go_num, HO2.out.drew, HB2.out.drew⟩, by simp [intOf]; omega⟩
    · have hkm : k = 4 * n := by have := HM.out; omega
      subst hkm
      rw [partsU_end] at HO
      go_wp2
      go_ret
      exact ⟨rfl, HO.out, HB.out⟩
set_option maxHeartbeats 800000 in
theorem numbersU_none (a : Option Addr) (c : Nat) (f : Nat → Nat) (w : World) :
    Calls Tryd.prog 62 #[.slice a 0 c] w fun e w' => e = .returned (.slice (some ⟨w.heap.size, 0, none⟩) 0 0) ∧ w'.ownsRow w.heap.size 23 1 (.slice (some ⟨w.heap.size, 0, none⟩) 0 0) 0 (ucells (numsU f 0)) ∧ Below w.heap.size w w' := by
  have hmk := fun w => run_make_u32 0 (by omega) w
  simp only [Int.ofNat_zero] at hmk
  have HO0 : Hid ((w.alloc (.cells (ucells (List.replicate 0 0)).toArray 23)).ownsRow w.heap.size 23 1 (.slice (some ⟨w.heap.size, 0, none⟩) 0 0) 0 (ucells (numsU f 0))) := own_u32s w 0 _ (by simp) (by omega)
  go_enter Tryd.func62, Tryd.ntmps62
  go_wp2
  go_loop [12] (fun i => i = .int .i64 0) (fun i => 0 - (intOf i).toNat)
  case atStart => exact rfl
  case round =>
    obtain rfl := hrel
    go_wp2
    go_ret
    exact ⟨rfl, HO0.out, (Below.refl _ _).alloc (Nat.le_refl _) _⟩
theorem numbersU_any (b o n c : Nat) (f : Nat → Nat) (w : World) (hn : n ≤ 5000) (hf : ∀ i, i < 4 * n → f i < 256) (hcell : ∀ i, i < 4 * n → w.cell? ⟨b, o + i, none⟩ = some (.int .u8 (f i : Int))) :
    Calls Tryd.prog 62 #[.slice (some ⟨b, o, none⟩) (4 * n) c] w fun e w' => e = .returned (.slice (some ⟨w.heap.size, 0, none⟩) n n) ∧ w'.ownsRow w.heap.size 23 1 (.slice (some ⟨w.heap.size, 0, none⟩) n n) n (ucells (numsU f n)) ∧ Below w.heap.size w w' := by
  by_cases h0 : n = 0
  · subst h0; exact numbersU_none _ c f w
  · exact numbersU_some b o n c f w hn (by omega) hf hcell
end Go.Proofs.YtempaadgheondaaDoor
/- Attributes under way in their box. -/
namespace Go.Proofs.YtempaadgheondaaDoor
open Go.RowKit
set_option maxRecDepth 100000

theorem OwnPath.under {w : World} {B X : Nat} {v : Value} {ss : List (Bool × List Int)} (h : OwnPath w B v ss) (hX : X < B) (j : Nat) (u : Value) : OwnPath (w.setCell ⟨X, j, none⟩ u) B v ss := by
  obtain ⟨cs, ho, hc⟩ := h
  refine ⟨cs, own_under ho hX j u, fun i s hi => ?_⟩
  obtain ⟨h1, x, h2, h3⟩ := hc i s hi
  exact ⟨h1, x, h2, own_under h3 hX j u⟩
theorem OwnRaws.under {w : World} {B X : Nat} {v : Value} {rs : List (Int × Int × List Nat)} (h : OwnRaws w B v rs) (hX : X < B) (j : Nat) (u : Value) : OwnRaws (w.setCell ⟨X, j, none⟩ u) B v rs := by
  obtain ⟨cs, ho, hc⟩ := h
  refine ⟨cs, own_under ho hX j u, fun i s hi => ?_⟩
  obtain ⟨h1, h2, x, h3, h4⟩ := hc i s hi
  exact ⟨h1, h2, x, h3, own_under h4 hX j u⟩
theorem OwnPath.grown {w w' : World} {B e size n : Nat} {v v0 : Value} {xs : List Value} {ss : List (Bool × List Int)} (h : OwnPath w B v ss) (h0 : w.ownsRow B e size v0 n xs) (hg : w.grownBy w' v0.ownBlock) (h1 : 46 ≠ e) (h2 : 3 ≠ e) : OwnPath w' B v ss := by
  obtain ⟨cs, ho, hc⟩ := h
  refine ⟨cs, own_grown ho hg (fun b hb => own_apart ho h0 h1 b hb), fun i s hi => ?_⟩
  obtain ⟨g1, x, g2, g3⟩ := hc i s hi
  exact ⟨g1, x, g2, own_grown g3 hg (fun b hb => own_apart g3 h0 h2 b hb)⟩
theorem own_path_shape {w : World} {B : Nat} {v : Value} {ss : List (Bool × List Int)} (h : OwnPath w B v ss) : ∃ a c, v = .slice a ss.length c := by
  obtain ⟨cs, ho, _⟩ := h
  exact own_shape ho
/-- The box at block X holds the attributes a; their rows are new since B. -/
structure Box (w : World) (X B : Nat) (a : At) : Prop where
  c0 : w.cell? ⟨X, 0, none⟩ = some (.int .i64 a.origin)
  c1 : ∃ p c, w.cell? ⟨X, 1, none⟩ = some (.slice p a.path.length c) ∧ OwnPath w B (.slice p a.path.length c) a.path
  c2 : w.cell? ⟨X, 2, none⟩ = some (.int .u32 (a.next : Int))
  c3 : w.cell? ⟨X, 3, none⟩ = some (.int .i64 a.med)
  c4 : w.cell? ⟨X, 4, none⟩ = some (.int .i64 a.pref)
  c5 : ∃ p c, w.cell? ⟨X, 5, none⟩ = some (.slice p a.comms.length c) ∧ w.ownsRow B 23 1 (.slice p a.comms.length c) a.comms.length (ucells a.comms)
  c6 : ∃ p c, w.cell? ⟨X, 6, none⟩ = some (.slice p a.raws.length c) ∧ OwnRaws w B (.slice p a.raws.length c) a.raws
  fz : ∀ j, w.frozen? ⟨X, j, none⟩ = false
  lt : X < B
theorem Box.pos {w : World} {X B : Nat} {a : At} (h : Box w X B a) : X < w.heap.size := by
  have := World.block_lt_of_cell? w _ h.c0
  simpa using this
theorem Box.later {w w' : World} {X B : Nat} {a : At} (h : Box w X B a) (hb : Below w.heap.size w w') : Box w' X B a := by
  have hX := h.pos
  have e : ∀ j, w'.cell? ⟨X, j, none⟩ = w.cell? ⟨X, j, none⟩ := fun j => hb.cell (p := ⟨X, j, none⟩) hX
  obtain ⟨p1, k1, g1, o1⟩ := h.c1
  obtain ⟨p5, k5, g5, o5⟩ := h.c5
  obtain ⟨p6, k6, g6, o6⟩ := h.c6
  exact ⟨by rw [e]; exact h.c0, ⟨p1, k1, by rw [e]; exact g1, o1.later hb⟩, by rw [e]; exact h.c2, by rw [e]; exact h.c3, by rw [e]; exact h.c4, ⟨p5, k5, by rw [e]; exact g5, own_later o5 hb⟩, ⟨p6, k6, by rw [e]; exact g6, o6.later hb⟩, fun j => by rw [hb.frozen (p := ⟨X, j, none⟩) hX]; exact h.fz j, h.lt⟩
theorem Box.set {w : World} {X B : Nat} {a a' : At} (h : Box w X B a) (k : Nat) (u : Value)
    (g0 : (if k = 0 then u else .int .i64 a.origin) = .int .i64 a'.origin)
    (g1 : if k = 1 then ∃ p c, u = .slice p a'.path.length c ∧ OwnPath w B u a'.path else a'.path = a.path)
    (g2 : (if k = 2 then u else .int .u32 (a.next : Int)) = .int .u32 (a'.next : Int))
    (g3 : (if k = 3 then u else .int .i64 a.med) = .int .i64 a'.med)
    (g4 : (if k = 4 then u else .int .i64 a.pref) = .int .i64 a'.pref)
    (g5 : if k = 5 then ∃ p c, u = .slice p a'.comms.length c ∧ w.ownsRow B 23 1 u a'.comms.length (ucells a'.comms) else a'.comms = a.comms)
    (g6 : if k = 6 then ∃ p c, u = .slice p a'.raws.length c ∧ OwnRaws w B u a'.raws else a'.raws = a.raws) : Box (w.setCell ⟨X, k, none⟩ u) X B a' := by
  have hX := h.lt
  have key : ∀ (j : Nat) (v : Value), w.cell? ⟨X, j, none⟩ = some v → (w.setCell ⟨X, k, none⟩ u).cell? ⟨X, j, none⟩ = some (if k = j then u else v) := fun j v hj => by
    by_cases e : k = j
    · subst e
      rw [if_pos rfl]
      exact World.cell?_setCell_same _ _ _ hj
    · rw [if_neg e, World.cell?_setCell_other _ _ _ _ (by intro e9; injection e9 with _ e2 _; exact e e2)]
      exact hj
  obtain ⟨p1, k1, q1, o1⟩ := h.c1
  obtain ⟨p5, k5, q5, o5⟩ := h.c5
  obtain ⟨p6, k6, q6, o6⟩ := h.c6
  refine ⟨?_, ?_, ?_, ?_, ?_, ?_, ?_, fun j => by rw [World.frozen?_setCell]; exact h.fz j, hX⟩
  · rw [key 0 _ h.c0, g0]
  · by_cases e : k = 1
    · rw [if_pos e] at g1
      obtain ⟨p, c, e1, o⟩ := g1
      refine ⟨p, c, ?_, ?_⟩
      · rw [key 1 _ q1, if_pos e, e1]
      · rw [← e1]; exact o.under hX _ _
    · rw [if_neg e] at g1
      rw [g1]
      exact ⟨p1, k1, by rw [key 1 _ q1, if_neg e], o1.under hX _ _⟩
  · rw [key 2 _ h.c2, g2]
  · rw [key 3 _ h.c3, g3]
  · rw [key 4 _ h.c4, g4]
  · by_cases e : k = 5
    · rw [if_pos e] at g5
      obtain ⟨p, c, e1, o⟩ := g5
      refine ⟨p, c, ?_, ?_⟩
      · rw [key 5 _ q5, if_pos e, e1]
      · rw [← e1]; exact own_under o hX _ _
    · rw [if_neg e] at g5
      rw [g5]
      exact ⟨p5, k5, by rw [key 5 _ q5, if_neg e], own_under o5 hX _ _⟩
  · by_cases e : k = 6
    · rw [if_pos e] at g6
      obtain ⟨p, c, e1, o⟩ := g6
      refine ⟨p, c, ?_, ?_⟩
      · rw [key 6 _ q6, if_pos e, e1]
      · rw [← e1]; exact o.under hX _ _
    · rw [if_neg e] at g6
      rw [g6]
      exact ⟨p6, k6, by rw [key 6 _ q6, if_neg e], o6.under hX _ _⟩
/-- One Raw more, behind the others. -/
theorem Box.snoc {w : World} {X B : Nat} {a : At} {p : Option Addr} {c : Nat} {u : Value} {f t : Int} {ds : List Nat} (h : Box w X B a) (hB : B ≤ w.heap.size) (hl : a.raws.length ≤ 100000) (hv : w.cell? ⟨X, 6, none⟩ = some (.slice p a.raws.length c)) (hu : w.ownsRow B 5 1 u ds.length (bcells ds)) (H : Nat) (hH : w.heap.size = H) :
    ∃ p' c' w', (Builtin.append_ #[25, 25] 25 #[.slice p a.raws.length c, .slice (some ⟨H, 0, none⟩) 1 1]).run Tryd.prog (w.alloc (.cells #[.int .i64 f, .int .i64 t, u] 48)) = .ok (.slice p' (a.raws.length + 1) c') w' ∧ Below B w w' ∧ Box (w'.setCell ⟨X, 6, none⟩ (.slice p' (a.raws.length + 1) c')) X B { a with raws := a.raws ++ [(f, t, ds)] } := by
  subst hH
  have hone : u.oneCell' = true := own_one hu
  obtain ⟨p6, k6, q6, o6⟩ := h.c6
  rw [hv] at q6
  simp only [Option.some.injEq, Value.slice.injEq, true_and] at q6
  obtain ⟨rfl, rfl⟩ := q6
  obtain ⟨p1, k1, q1, o1⟩ := h.c1
  obtain ⟨p5, k5, q5, o5⟩ := h.c5
  obtain ⟨cs, ho, hc⟩ := o6
  have hb1 : Below B w (w.alloc (.cells #[.int .i64 f, .int .i64 t, u] 48)) := (Below.refl _ _).alloc hB _
  have hbw : Below w.heap.size w (w.alloc (.cells #[.int .i64 f, .int .i64 t, u] 48)) := (Below.refl _ _).alloc (Nat.le_refl _) _
  have hoa := ho.alloc (.cells #[.int .i64 f, .int .i64 t, u] 48)
  obtain ⟨v', w', hr, h2, h3, h4, _⟩ := app_more elemRaw (w := w.alloc (.cells #[.int .i64 f, .int .i64 t, u] 48)) hoa (by simp; omega) ⟨w.heap.size, 0, none⟩ 1 1 [.int .i64 f, .int .i64 t, u] rfl (fun j x hx => by
    rw [Addr.add_mid, Nat.zero_add, World.cell?_alloc_mark]
    simpa using hx) (by intro x hx; simp at hx; rcases hx with rfl | rfl | rfl; rfl; rfl; exact hone) (by omega)
  obtain ⟨p', c', e'⟩ := own_shape h2
  subst e'
  have hB2 := h.lt
  have hbb : Below B w w' := hb1.trans h3
  have hap : ∀ (x : Value) (ys : List Nat), w.ownsRow B 5 1 x ys.length (bcells ys) → w'.ownsRow B 5 1 x ys.length (bcells ys) := fun x ys hx =>
    own_grown (own_later hx hbw) h4 (fun k hk => own_apart hx ho (by decide) k hk)
  have hcl : cs.length = a.raws.length * 3 := ho.1
  have hR : OwnRaws w' B (.slice p' (a.raws.length + 1) c') (a.raws ++ [(f, t, ds)]) := by
    refine ⟨_, by rw [List.length_append]; exact h2, fun i s hi => ?_⟩
    by_cases hlt : i < a.raws.length
    · rw [List.getElem?_append_left hlt] at hi
      obtain ⟨g1, g2, x, g3, g4⟩ := hc i s hi
      exact ⟨by rw [List.getElem?_append_left (by omega)]; exact g1, by rw [List.getElem?_append_left (by omega)]; exact g2, x, by rw [List.getElem?_append_left (by omega)]; exact g3, hap x _ g4⟩
    · rw [List.getElem?_append_right (by omega)] at hi
      have hi0 : i - a.raws.length = 0 := by
        have := (List.getElem?_eq_some_iff.1 hi).1
        simpa using this
      rw [hi0] at hi
      simp at hi
      subst hi
      have e1 : i = a.raws.length := by omega
      subst e1
      refine ⟨by rw [List.getElem?_append_right (by omega), hcl, Nat.sub_self]; rfl, by rw [List.getElem?_append_right (by omega), show a.raws.length * 3 + 1 - cs.length = 1 from by omega]; rfl, u, by rw [List.getElem?_append_right (by omega), show a.raws.length * 3 + 2 - cs.length = 2 from by omega]; rfl, hap u ds hu⟩
  have eX : ∀ j, w'.cell? ⟨X, j, none⟩ = w.cell? ⟨X, j, none⟩ := fun j => hbb.cell (p := ⟨X, j, none⟩) hB2
  have fX : ∀ j, w'.frozen? ⟨X, j, none⟩ = false := fun j => by rw [hbb.frozen (p := ⟨X, j, none⟩) hB2]; exact h.fz j
  have oP : OwnPath w' B (.slice p1 a.path.length k1) a.path := (o1.later hbw).grown hoa h4 (by decide) (by decide)
  have oC : w'.ownsRow B 23 1 (.slice p5 a.comms.length k5) a.comms.length (ucells a.comms) := own_grown (own_later o5 hbw) h4 (fun k hk => own_apart o5 ho (by decide) k hk)
  have key : ∀ (j : Nat) (v : Value), j ≠ 6 → w.cell? ⟨X, j, none⟩ = some v → (w'.setCell ⟨X, 6, none⟩ (.slice p' (a.raws.length + 1) c')).cell? ⟨X, j, none⟩ = some v := fun j v hj hv9 => by
    rw [World.cell?_setCell_other _ _ _ _ (by intro e9; injection e9 with _ e2 _; exact hj e2.symm), eX]
    exact hv9
  refine ⟨p', c', w', hr, hbb, ?_⟩
  · exact ⟨key 0 _ (by omega) h.c0, ⟨p1, k1, key 1 _ (by omega) q1, oP.under hB2 _ _⟩, key 2 _ (by omega) h.c2, key 3 _ (by omega) h.c3, key 4 _ (by omega) h.c4, ⟨p5, k5, key 5 _ (by omega) q5, own_under oC hB2 _ _⟩, ⟨p', c', by
      rw [List.length_append]
      exact World.cell?_setCell_same _ _ _ (by rw [eX]; exact hv), by
      rw [List.length_append]
      exact hR.under hB2 _ _⟩, fun j => by rw [World.frozen?_setCell]; exact fX j, hB2⟩
/-- All but the box and what is new since B stands. -/
def NotBox (X B : Nat) (b : Nat) : Prop := b = X ∨ B ≤ b
theorem keeps_box {X B : Nat} {w w' : World} (h : Below w.heap.size w w') : Keeps (NotBox X B) w w' := Keeps.of_below h _
theorem keeps_low {X B : Nat} {w w1 w2 : World} (h : Keeps (NotBox X B) w w1) (k : Below B w1 w2) : Keeps (NotBox X B) w w2 :=
  ⟨k.os.trans h.os, k.tape.trans h.tape, k.output.trans h.output, Nat.le_trans h.size k.size, fun b hb hn => by
    rw [k.block b (by unfold NotBox at hn; omega)]
    exact h.block b hb hn⟩
/-- A note is thrown; the box is one still. -/
def ThrowsB (X B : Nat) (w w' : World) (s : Int) (d : List Nat) (e : Ending) : Prop := ∃ a9 c9, e = thrown s a9 d.length c9 ∧ w'.ownsRow w.heap.size 5 1 (.slice a9 d.length c9) d.length (bcells d) ∧ Keeps (NotBox X B) w w' ∧ ∃ a', Box w' X B a'
theorem Throws.box {X B : Nat} {w w' : World} {s : Int} {d : List Nat} {e : Ending} {a : At} (h : Throws w w' s d e) (hb : Box w X B a) : ThrowsB X B w w' s d e := by
  obtain ⟨a9, c9, he, ho, hb2⟩ := h
  exact ⟨a9, c9, he, ho, keeps_box hb2, a, hb.later hb2⟩
/-- What readInto leaves. -/
def IntoRes (X B : Nat) (w w' : World) (r : Res) (e : Ending) : Prop :=
  match r with
  | .inl n => ThrowsB X B w w' (n.2.1 : Int) n.2.2 e
  | .inr a' => e = .returned (.tuple #[]) ∧ Box w' X B a' ∧ Keeps (NotBox X B) w w'
end Go.Proofs.YtempaadgheondaaDoor
/- The program's readUnknown. -/
namespace Go.Proofs.YtempaadgheondaaDoor
open Go.RowKit
set_option maxRecDepth 100000

theorem and128 (x : Nat) (h : x < 256) : (bits .and .i64 (x : Int) 128 != 0) = decide (128 ≤ x) := by
  have e : bits .and .i64 (x : Int) 128 = ((x &&& 128 : Nat) : Int) := and64n x 128 h (by decide)
  rw [e]
  have key : ∀ y : Fin 256, ((((y : Nat) &&& 128 : Nat) : Int) != 0) = decide (128 ≤ (y : Nat)) := by decide +kernel
  exact key ⟨x, h⟩
theorem and64z (x : Nat) (h : x < 256) : (bits .and .i64 (x : Int) 64 == 0) = decide (x / 64 % 2 = 0) := by
  have e : bits .and .i64 (x : Int) 64 = ((x &&& 64 : Nat) : Int) := and64n x 64 h (by decide)
  rw [e]
  have key : ∀ y : Fin 256, ((((y : Nat) &&& 64 : Nat) : Int) == 0) = decide ((y : Nat) / 64 % 2 = 0) := by decide +kernel
  exact key ⟨x, h⟩
set_option maxHeartbeats 800000 in
theorem unk_no2 (fl ty : Nat) (a1 : Option Addr) (n1 c1 : Nat) (a2 : Option Addr) (c2 : Nat) (all : List Nat) (X : Nat) (w : World) (hf : fl < 128) (hl : all.length ≤ 100000) (h : BRd w a2 all) :
    Calls Tryd.prog 57 #[partV (fl : Int) (ty : Int) a1 n1 c1 a2 all.length c2, .pointer (some ⟨X, 0, none⟩)] w fun e w' => Throws w w' 2 all e := by
  have hb : ∀ o, Below w.heap.size w (w.alloc o) := fun o => (Below.refl _ _).alloc (Nat.le_refl _) _
  have K : Hid (∀ o, Calls Tryd.prog 58 #[partV (fl : Int) (ty : Int) a1 n1 c1 a2 all.length c2, .bool false, .int .i64 2] (w.alloc o) fun e w' => Throws w w' 2 all e) := fun o => (refuse_no _ _ 2 a1 n1 c1 a2 c2 all (w.alloc o) hl (h.below (hb o))).mono fun e w' h9 => h9.from (hb o)
  have ha : (bits .and .i64 (fl : Int) 128 != 0) = false := by rw [and128 fl (by omega)]; exact decide_eq_false (by omega)
  clear h hb
  unfold partV at K ⊢
  unfold Throws at K ⊢
  unfold thrown at K ⊢
  generalize all.length = n2 at *
  go_enter Tryd.func57, Tryd.ntmps57
  go_wp2_with fail
  refine (K.out _).mono ?_
  rintro e w1 ⟨a9, c9, rfl, ho, hb⟩
  go_wp2
  exact ⟨rfl, a9, c9, rfl, ho, hb⟩
theorem refuse_go (fl ty s : Int) (a1 : Option Addr) (n1 c1 : Nat) (a2 : Option Addr) (n2 c2 : Nat) (w0 w : World) (hb : Below w0.heap.size w0 w) :
    Calls Tryd.prog 58 #[.agg #[.int .i64 fl, .int .i64 ty, .slice a1 n1 c1, .slice a2 n2 c2], .bool true, .int .i64 s] w fun e w' => e = .returned (.tuple #[]) ∧ Below w.heap.size w w' ∧ Below w0.heap.size w0 w' :=
  (refuse_yes fl ty s a1 n1 c1 a2 n2 c2 w).mono fun _ _ ⟨h1, h2⟩ => ⟨h1, h2, hb.trans (h2.mono hb.size)⟩
set_option maxHeartbeats 800000 in
theorem unk_skip (fl ty : Nat) (a1 : Option Addr) (n1 c1 : Nat) (a2 : Option Addr) (n2 c2 : Nat) (X : Nat) (w : World) (hf : 128 ≤ fl) (hf2 : fl < 256) (hz : fl / 64 % 2 = 0) :
    Calls Tryd.prog 57 #[partV (fl : Int) (ty : Int) a1 n1 c1 a2 n2 c2, .pointer (some ⟨X, 0, none⟩)] w fun e w' => e = .returned (.tuple #[]) ∧ Below w.heap.size w w' := by
  have ha : (bits .and .i64 (fl : Int) 128 != 0) = true := by rw [and128 fl hf2]; exact decide_eq_true hf
  have hz2 : (bits .and .i64 (fl : Int) 64 == 0) = true := by rw [and64z fl hf2]; exact decide_eq_true hz
  unfold partV
  go_enter Tryd.func57, Tryd.ntmps57
  go_wp2_with fail
  refine (refuse_go _ _ _ _ _ _ _ _ _ w _ ((Below.refl _ _).alloc (Nat.le_refl _) _)).mono ?_
  rintro e w1 ⟨rfl, hb1, hb0⟩
  have p0 : w1.cell? ⟨w.heap.size, 0, none⟩ = some (.int .i64 (fl : Int)) := by rw [hb1.cell (p := ⟨w.heap.size, 0, none⟩) (by simp)]; simp [go_sem]
  go_wp2
  refine bodyPost_ret (results_none rfl _ _ _) rfl ?_
  exact ⟨rfl, hb0⟩
set_option maxHeartbeats 800000 in
theorem unk_no9 (fl ty : Nat) (a1 : Option Addr) (n1 c1 : Nat) (a2 : Option Addr) (c2 : Nat) (all : List Nat) (X : Nat) (w : World) (hf : 128 ≤ fl) (hf2 : fl < 256) (hz : ¬ fl / 64 % 2 = 0) (hn : 255 < n1) (hl : all.length ≤ 100000) (h : BRd w a2 all) :
    Calls Tryd.prog 57 #[partV (fl : Int) (ty : Int) a1 n1 c1 a2 all.length c2, .pointer (some ⟨X, 0, none⟩)] w fun e w' => Throws w w' 9 all e := by
  have ha : (bits .and .i64 (fl : Int) 128 != 0) = true := by rw [and128 fl hf2]; exact decide_eq_true hf
  have hz2 : (bits .and .i64 (fl : Int) 64 == 0) = false := by rw [and64z fl hf2]; exact decide_eq_false hz
  have K : Hid (∀ w1, Below w.heap.size w w1 → Calls Tryd.prog 58 #[partV (fl : Int) (ty : Int) a1 n1 c1 a2 all.length c2, .bool false, .int .i64 9] w1 fun e w' => Throws w w' 9 all e) := fun w1 hb => (refuse_no _ _ 9 a1 n1 c1 a2 c2 all w1 hl (h.below hb)).mono fun e w' h9 => h9.from hb
  have dn : decide ((n1 : Int) ≤ 255) = false := decide_eq_false (by omega)
  clear h
  unfold partV at K ⊢
  unfold Throws at K ⊢
  unfold thrown at K ⊢
  generalize all.length = n2 at *
  go_enter Tryd.func57, Tryd.ntmps57
  go_wp2_with fail
  refine (refuse_go _ _ _ _ _ _ _ _ _ w _ ((Below.refl _ _).alloc (Nat.le_refl _) _)).mono ?_
  rintro e w1 ⟨rfl, hb1, hb0⟩
  have p0 : w1.cell? ⟨w.heap.size, 0, none⟩ = some (.int .i64 (fl : Int)) := by rw [hb1.cell (p := ⟨w.heap.size, 0, none⟩) (by simp)]; simp [go_sem]
  have p1 : w1.cell? ⟨w.heap.size, 1, none⟩ = some (.int .i64 (ty : Int)) := by rw [hb1.cell (p := ⟨w.heap.size, 1, none⟩) (by simp)]; simp [go_sem]
  have p2 : w1.cell? ⟨w.heap.size, 2, none⟩ = some (.slice a1 n1 c1) := by rw [hb1.cell (p := ⟨w.heap.size, 2, none⟩) (by simp)]; simp [go_sem]
  have p3 : w1.cell? ⟨w.heap.size, 3, none⟩ = some (.slice a2 n2 c2) := by rw [hb1.cell (p := ⟨w.heap.size, 3, none⟩) (by simp)]; simp [go_sem]
  have HB0 := hide hb0
  clear hb1 hb0
  go_wp2_with fail
  refine (K.out _ HB0.out).mono ?_
  rintro e w2 ⟨a9, c9, rfl, ho, hb⟩
  go_wp2
  exact ⟨rfl, a9, c9, rfl, ho, hb⟩
set_option maxHeartbeats 800000 in
theorem unk_zero (fl : Nat) (a1 : Option Addr) (n1 c1 : Nat) (a2 : Option Addr) (n2 c2 : Nat) (X : Nat) (w : World) (hf : 128 ≤ fl) (hf2 : fl < 256) (hz : ¬ fl / 64 % 2 = 0) (hn : n1 ≤ 255) :
    Calls Tryd.prog 57 #[partV (fl : Int) 0 a1 n1 c1 a2 n2 c2, .pointer (some ⟨X, 0, none⟩)] w fun e w' => e = .returned (.tuple #[]) ∧ Below w.heap.size w w' := by
  have ha : (bits .and .i64 (fl : Int) 128 != 0) = true := by rw [and128 fl hf2]; exact decide_eq_true hf
  have hz2 : (bits .and .i64 (fl : Int) 64 == 0) = false := by rw [and64z fl hf2]; exact decide_eq_false hz
  have dn : (n1 : Int) ≤ 255 := by omega
  unfold partV
  go_enter Tryd.func57, Tryd.ntmps57
  go_wp2_with fail
  refine (refuse_go _ _ _ _ _ _ _ _ _ w _ ((Below.refl _ _).alloc (Nat.le_refl _) _)).mono ?_
  rintro e w1 ⟨rfl, hb1, hb0⟩
  have p0 : w1.cell? ⟨w.heap.size, 0, none⟩ = some (.int .i64 (fl : Int)) := by rw [hb1.cell (p := ⟨w.heap.size, 0, none⟩) (by simp)]; simp [go_sem]
  have p1 : w1.cell? ⟨w.heap.size, 1, none⟩ = some (.int .i64 0) := by rw [hb1.cell (p := ⟨w.heap.size, 1, none⟩) (by simp)]; simp [go_sem]
  have p2 : w1.cell? ⟨w.heap.size, 2, none⟩ = some (.slice a1 n1 c1) := by rw [hb1.cell (p := ⟨w.heap.size, 2, none⟩) (by simp)]; simp [go_sem]
  have p3 : w1.cell? ⟨w.heap.size, 3, none⟩ = some (.slice a2 n2 c2) := by rw [hb1.cell (p := ⟨w.heap.size, 3, none⟩) (by simp)]; simp [go_sem]
  have hz1 : w.heap.size < w1.heap.size := by have := World.block_lt_of_cell? w1 _ p0; simpa using this
  have HB0 := hide hb0
  clear hb1 hb0
  go_wp2_with fail
  refine (refuse_go _ _ _ _ _ _ _ _ _ w _ HB0.out).mono ?_
  rintro e w2 ⟨rfl, hb2, hb20⟩
  have q1 : w2.cell? ⟨w.heap.size, 1, none⟩ = some (.int .i64 0) := by rw [hb2.cell (p := ⟨w.heap.size, 1, none⟩) hz1]; exact p1
  go_wp2
  go_end0
  exact ⟨rfl, hb20⟩
section
variable {P : Program} {a : Act} {w w' : World} {K : Act → World → Prop} {Q : Exit → Act → World → Prop} {dst : Option Tmp} {ty : TypeId} {pos : String} {after : Array Edge} {gd : Option (Nat × Bool)}
theorem kept_appendR (x y : Operand) : Oper.wp P { dst := dst, op := .call { callee := .builtin .append, args := #[x, y], argTypes := #[25, 25] }, type := ty, pos := pos, after := after, guard := gd } a w K Q = Kept P { dst := dst, op := .call { callee := .builtin .append, args := #[x, y], argTypes := #[25, 25] }, type := ty, pos := pos, after := after, guard := gd } a w K Q := rfl
theorem kept_appendR_intro (x y : Operand) (p q v : Value) (hx : a.eval x = p) (hy : a.eval y = q) (hr : (Builtin.append_ #[25, 25] ty #[p, q]).run P w = .ok v w') (h : K (a.put dst v) w') :
    Kept P { dst := dst, op := .call { callee := .builtin .append, args := #[x, y], argTypes := #[25, 25] }, type := ty, pos := pos, after := after, guard := gd } a w K Q := by
  unfold Kept Oper.wp execOp
  simp only [resolve, invoke, builtin, Sem.run_bind, Sem.run_pure, Result.andThen_ok, List.map_toArray, List.map_cons, List.map_nil, hx, hy, hr]
  exact h
end
section
attribute [local go_sem ↓] Go.wp_at_zero Go.wp_at_succ kept_appendR
set_option maxHeartbeats 3200000 in
theorem unk_put (fl ty : Nat) (a1 : Option Addr) (c1 : Nat) (a2 : Option Addr) (n2 c2 : Nat) (d : List Nat) (X B : Nat) (a : At) (w : World) (hf : 128 ≤ fl) (hf2 : fl < 256) (hz : ¬ fl / 64 % 2 = 0) (hn : d.length ≤ 255) (ht : 8 < ty) (h : BRd w a1 d) (hbox : Box w X B a) (hB : B ≤ w.heap.size) (hl : a.raws.length ≤ 10000) :
    Calls Tryd.prog 57 #[partV (fl : Int) (ty : Int) a1 d.length c1 a2 n2 c2, .pointer (some ⟨X, 0, none⟩)] w fun e w' => e = .returned (.tuple #[]) ∧ Box w' X B { a with raws := a.raws ++ [(224, (ty : Int), d)] } ∧ Keeps (NotBox X B) w w' := by
  have ha : (bits .and .i64 (fl : Int) 128 != 0) = true := by rw [and128 fl hf2]; exact decide_eq_true hf
  have hz2 : (bits .and .i64 (fl : Int) 64 == 0) = false := by rw [and64z fl hf2]; exact decide_eq_false hz
  have dn : (d.length : Int) ≤ 255 := by omega
  have dt : ((ty : Int) != 0) = true := by simp; omega
  have hX := hbox.pos
  have hXB := hbox.lt
  have KC : Hid (∀ w1, Below w.heap.size w w1 → Calls Tryd.prog 56 #[.slice a1 d.length c1] w1 fun e w' => ∃ a9 c9, e = .returned (.slice a9 d.length c9) ∧ w'.ownsRow w1.heap.size 5 1 (.slice a9 d.length c9) d.length (bcells d) ∧ Below w1.heap.size w1 w') := fun w1 hb => clone_any a1 c1 d w1 (by omega) (h.below hb)
  have HX := hide hbox
  clear h hbox
  unfold partV
  generalize hdl : d.length = n1 at *
  go_enter Tryd.func57, Tryd.ntmps57
  go_wp2_with fail
  refine (refuse_go _ _ _ _ _ _ _ _ _ w _ ((Below.refl _ _).alloc (Nat.le_refl _) _)).mono ?_
  rintro e w1 ⟨rfl, hb1, hb0⟩
  have p0 : w1.cell? ⟨w.heap.size, 0, none⟩ = some (.int .i64 (fl : Int)) := by rw [hb1.cell (p := ⟨w.heap.size, 0, none⟩) (by simp)]; simp [go_sem]
  have p1 : w1.cell? ⟨w.heap.size, 1, none⟩ = some (.int .i64 (ty : Int)) := by rw [hb1.cell (p := ⟨w.heap.size, 1, none⟩) (by simp)]; simp [go_sem]
  have p2 : w1.cell? ⟨w.heap.size, 2, none⟩ = some (.slice a1 n1 c1) := by rw [hb1.cell (p := ⟨w.heap.size, 2, none⟩) (by simp)]; simp [go_sem]
  have p3 : w1.cell? ⟨w.heap.size, 3, none⟩ = some (.slice a2 n2 c2) := by rw [hb1.cell (p := ⟨w.heap.size, 3, none⟩) (by simp)]; simp [go_sem]
  have hz1 : w.heap.size < w1.heap.size := by have := World.block_lt_of_cell? w1 _ p0; simpa using this
  have HB0 := hide hb0
  clear hb1 hb0
  go_wp2_with fail
  refine (refuse_go _ _ _ _ _ _ _ _ _ w _ HB0.out).mono ?_
  rintro e w2 ⟨rfl, hb2, hb20⟩
  have q1 : w2.cell? ⟨w.heap.size, 1, none⟩ = some (.int .i64 (ty : Int)) := by rw [hb2.cell (p := ⟨w.heap.size, 1, none⟩) hz1]; exact p1
  have q2 : w2.cell? ⟨w.heap.size, 2, none⟩ = some (.slice a1 n1 c1) := by rw [hb2.cell (p := ⟨w.heap.size, 2, none⟩) hz1]; exact p2
  have hz12 : w.heap.size < w2.heap.size := Nat.lt_of_lt_of_le hz1 hb2.size
  have HX2 := hide (HX.out.later hb20)
  obtain ⟨p6, k6, r6, _⟩ := HX2.out.c6
  have HB20 := hide hb20
  have hX2 : X < w2.heap.size := by omega
  generalize hrl : a.raws.length = rl at *
  have HRL := hide hrl
  clear hb2 hb20 p0 p1 p2 p3 hz1 HB0 HX hrl
  go_wp2_with fail
  go_region_with (first
    | (go_at_call 56; refine (KC.out _ (HB20.out.drew)).mono ?_; rintro e w9 ⟨a9, c9, rfl, ho9, hb9⟩
       have hbd : Below w2.heap.size w2 w9 := ((Below.refl _ _).drew).trans hb9
       have HX9 := hide (HX2.out.later hbd)
       have hX9 : X < w9.heap.size := Nat.lt_of_lt_of_le hX2 hbd.size
       have hz9 : w.heap.size < w9.heap.size := Nat.lt_of_lt_of_le hz12 hbd.size
       have r69 : w9.cell? ⟨X, 6, none⟩ = some (.slice p6 rl k6) := (by rw [hbd.cell (p := ⟨X, 6, none⟩) hX2]; exact r6)
       have q19 : w9.cell? ⟨w.heap.size, 1, none⟩ = some (.int .i64 (ty : Int)) := (by rw [hbd.cell (p := ⟨w.heap.size, 1, none⟩) hz12]; exact q1)
       obtain ⟨p', c', w3, hr3, hb3, hx3⟩ := HX9.out.snoc (f := 224) (t := (ty : Int)) (ds := d) (u := .slice a9 n1 c9) (by have := hbd.size; have := HB20.out.size; omega) (by rw [HRL.out]; omega) (by rw [HRL.out]; exact r69) (by rw [hdl]; exact own_base ho9 (by simp; have := HB20.out.size; omega)) w9.heap.size rfl
       rw [HRL.out] at hr3 hx3
       have t6 : w3.cell? ⟨X, 6, none⟩ = some (.slice p6 rl k6) := (by rw [hb3.cell (p := ⟨X, 6, none⟩) hXB]; exact r69)
       have z6 : w3.frozen? ⟨X, 6, none⟩ = false := (by rw [hb3.frozen (p := ⟨X, 6, none⟩) hXB]; exact HX9.out.fz 6)
       have HR3 := hide hr3
       have HX3 := hide hx3
       have HK3 := hide (keeps_low (keeps_low (keeps_box (X := X) (B := B) HB20.out) (hbd.mono (by have := HB20.out.size; omega))) hb3)
       clear hr3 hx3 hb3 hbd hb9)
    | (refine kept_appendR_intro _ _ (.slice p6 rl k6) (.slice (some ⟨w9.heap.size, 0, none⟩) 1 1) (.slice p' (rl + 1) c') (w' := w3) (by rfl) (by rfl) (by exact HR3.out) ?_))
  all_goals go_wp2
  all_goals go_end0
  all_goals exact ⟨rfl, HX3.out, HK3.out.setCell X 6 _ (.inl (.inl rfl))⟩
end
end Go.Proofs.YtempaadgheondaaDoor
