/- The program's small functions of attributes. -/
import Derived.Test.YthigjonagbfbbaaDoorKAf
import Derived.Test.YthigjonagbfbbaaDoorKAa
namespace Go.Proofs.YthigjonagbfbbaaDoor
open Go.RowKit
set_option maxRecDepth 100000

/-- What the table tells of types 0 to 8: flags, least, most, each. -/
def saidL : List Int := [0, 0, 0, 0, 64, 1, 1, 1, 64, 0, 65535, 1, 64, 4, 4, 4, 128, 4, 4, 4, 64, 4, 4, 4, 64, 0, 0, 1, 192, 8, 8, 8, 192, 4, 65535, 4]
/-- The table lies there. -/
def Said (w : World) : Prop := ∀ k z, saidL[k]? = some z → w.cell? ⟨0, k, none⟩ = some (.int .i64 z)
theorem Said.pos {w : World} (h : Said w) : 0 < w.heap.size := by
  have := World.block_lt_of_cell? w _ (h 0 0 rfl)
  simpa using this
theorem Said.below {w w' : World} (h : Said w) (hb : Below w.heap.size w w') : Said w' := fun k z hk => by
  rw [hb.cell (p := ⟨0, k, none⟩) (by exact h.pos)]
  exact h k z hk
theorem Said.keeps {F : Nat → Prop} {w w' : World} (h : Said w) (hk : Keeps F w w') (hF : ¬ F 0) : Said w' := fun k z hz => by
  rw [hk.cell ⟨0, k, none⟩ (by exact h.pos) hF]
  exact h k z hz
def leastN (k : Nat) : Nat := if k = 1 then 1 else if k = 3 ∨ k = 4 ∨ k = 5 ∨ k = 8 then 4 else if k = 7 then 8 else 0
def mostN (k : Nat) : Nat := if k = 1 then 1 else if k = 3 ∨ k = 4 ∨ k = 5 then 4 else if k = 7 then 8 else if k = 6 then 0 else 65535
def eachN (k : Nat) : Nat := if k = 3 ∨ k = 4 ∨ k = 5 ∨ k = 8 then 4 else if k = 7 then 8 else 1
def flagN (k : Nat) : Nat := if k = 4 then 128 else if k = 7 ∨ k = 8 then 192 else 64
theorem Said.at {w : World} (h : Said w) (k : Nat) (h1 : 1 ≤ k) (h8 : k ≤ 8) :
    w.cell? ⟨0, k * 4, none⟩ = some (.int .i64 (flagN k : Int)) ∧ w.cell? ⟨0, k * 4 + 1, none⟩ = some (.int .i64 (leastN k : Int)) ∧ w.cell? ⟨0, k * 4 + 2, none⟩ = some (.int .i64 (mostN k : Int)) ∧ w.cell? ⟨0, k * 4 + 3, none⟩ = some (.int .i64 (eachN k : Int)) := by
  have hk : k = 1 ∨ k = 2 ∨ k = 3 ∨ k = 4 ∨ k = 5 ∨ k = 6 ∨ k = 7 ∨ k = 8 := by omega
  rcases hk with rfl | rfl | rfl | rfl | rfl | rfl | rfl | rfl <;> exact ⟨h _ _ rfl, h _ _ rfl, h _ _ rfl, h _ _ rfl⟩
def fitsB (k n : Nat) : Bool := decide (leastN k ≤ n ∧ n ≤ mostN k ∧ n % eachN k = 0)
set_option maxHeartbeats 400000 in
theorem isOrigin_any (z : Int) (w : World) : Calls Tryd.prog 43 #[.int .i64 z] w fun e w' => e = .returned (.bool (decide (0 ≤ z ∧ z ≤ 2))) ∧ w' = w := by
  by_cases h : 0 ≤ z
  · have HD : Hid (decide (0 ≤ z ∧ z ≤ 2) = decide (z ≤ 2)) := by show decide _ = _; rw [Bool.eq_iff_iff]; simp [h]
    go_enter Tryd.func43, Tryd.ntmps43
    go_wp2
    go_ret
    exact ⟨ret_bool HD.out.symm, rfl⟩
  · have HD : Hid (decide (0 ≤ z ∧ z ≤ 2) = false) := by show decide _ = _; exact decide_eq_false (fun h9 => h h9.1)
    have h2 : decide (0 ≤ z) = false := decide_eq_false h
    clear h
    go_enter Tryd.func43, Tryd.ntmps43
    go_wp2
    go_ret
    exact ⟨ret_bool HD.out.symm, rfl⟩
set_option maxHeartbeats 400000 in
theorem isMed_any (z : Int) (w : World) : Calls Tryd.prog 46 #[.int .i64 z] w fun e w' => e = .returned (.bool (decide (-1 ≤ z ∧ z ≤ 4294967295))) ∧ w' = w := by
  by_cases h : -1 ≤ z
  · have HD : Hid (decide (-1 ≤ z ∧ z ≤ 4294967295) = decide (z ≤ 4294967295)) := by show decide _ = _; rw [Bool.eq_iff_iff]; simp [h]
    go_enter Tryd.func46, Tryd.ntmps46
    go_wp2
    go_ret
    exact ⟨ret_bool HD.out.symm, rfl⟩
  · have HD : Hid (decide (-1 ≤ z ∧ z ≤ 4294967295) = false) := by show decide _ = _; exact decide_eq_false (fun h9 => h h9.1)
    have h2 : decide (-1 ≤ z) = false := decide_eq_false h
    clear h
    go_enter Tryd.func46, Tryd.ntmps46
    go_wp2
    go_ret
    exact ⟨ret_bool HD.out.symm, rfl⟩
set_option maxHeartbeats 400000 in
theorem isNext_any (n : Nat) (w : World) (hn : n < 4294967296) : Calls Tryd.prog 45 #[.int .u32 (n : Int)] w fun e w' => e = .returned (.bool (hopB n)) ∧ w' = w := by
  have e1 : (n : Int) / 16777216 = ((n / 16777216 : Nat) : Int) := by omega
  unfold hopB
  by_cases h0 : n = 0
  · subst h0
    go_enter Tryd.func45, Tryd.ntmps45
    go_wp2
    go_ret
    exact ⟨rfl, rfl⟩
  · have z0 : ((n : Int) != 0) = true := by simp; omega
    by_cases h1 : n / 16777216 = 127
    · have HD : Hid (decide (n ≠ 0 ∧ n / 16777216 ≠ 127 ∧ n / 16777216 < 224) = false) := by show decide _ = _; exact decide_eq_false (fun h9 => h9.2.1 h1)
      have z1 : ((n : Int) / 16777216 != 127) = false := by rw [e1, h1]; rfl
      clear h0 e1
      go_enter Tryd.func45, Tryd.ntmps45
      go_wp2
      go_ret
      exact ⟨ret_bool HD.out.symm, rfl⟩
    · have HD : Hid (decide (n ≠ 0 ∧ n / 16777216 ≠ 127 ∧ n / 16777216 < 224) = decide ((n : Int) / 16777216 < 224)) := by
        show decide _ = _
        rw [Bool.eq_iff_iff]
        simp only [decide_eq_true_eq]
        omega
      have z1 : ((n : Int) / 16777216 != 127) = true := by simp; omega
      clear h0 e1 h1
      go_enter Tryd.func45, Tryd.ntmps45
      go_wp2
      go_ret
      exact ⟨ret_bool HD.out.symm, rfl⟩
set_option maxHeartbeats 800000 in
theorem fits_any (k n : Nat) (w : World) (hS : Said w) (h1 : 1 ≤ k) (h8 : k ≤ 8) (hn : n ≤ 1000000) : Calls Tryd.prog 79 #[.int .i64 (k : Int), .int .i64 (n : Int)] w fun e w' => e = .returned (.bool (fitsB k n)) ∧ w' = w := by
  obtain ⟨c0, c1, c2, c3⟩ := hS.at k h1 h8
  have he : eachN k = 1 ∨ eachN k = 4 ∨ eachN k = 8 := by unfold eachN; split <;> (try split) <;> omega
  have hm : mostN k ≤ 65535 := by unfold mostN; repeat (first | omega | split)
  have hl : leastN k ≤ 8 := by unfold leastN; repeat (first | omega | split)
  unfold fitsB
  generalize leastN k = le at *
  generalize mostN k = mo at *
  generalize eachN k = ea at *
  clear hS c0
  have k0 : (0 : Int) ≤ (k : Int) := Int.natCast_nonneg _
  have k9 : (k : Int) < 9 := by omega
  have jz : ((ea : Int) == 0) = false := by simp; omega
  by_cases ha : le ≤ n
  · by_cases hb : n ≤ mo
    · have HD : Hid (decide (le ≤ n ∧ n ≤ mo ∧ n % ea = 0) = (((n : Int) % (ea : Int)) == 0)) := by
        show decide _ = _
        rw [Bool.eq_iff_iff]
        simp only [decide_eq_true_eq, beq_iff_eq]
        rcases he with rfl | rfl | rfl <;> omega
      go_enter Tryd.func79, Tryd.ntmps79
      go_wp2
      go_ret
      exact ⟨ret_bool HD.out.symm, rfl⟩
    · have HD : Hid (decide (le ≤ n ∧ n ≤ mo ∧ n % ea = 0) = false) := by show decide _ = _; exact decide_eq_false (fun h9 => hb h9.2.1)
      go_enter Tryd.func79, Tryd.ntmps79
      go_wp2
      go_ret
      exact ⟨ret_bool HD.out.symm, rfl⟩
  · have HD : Hid (decide (le ≤ n ∧ n ≤ mo ∧ n % ea = 0) = false) := by show decide _ = _; exact decide_eq_false (fun h9 => ha h9.1)
    go_enter Tryd.func79, Tryd.ntmps79
    go_wp2
    go_ret
    exact ⟨ret_bool HD.out.symm, rfl⟩
end Go.Proofs.YthigjonagbfbbaaDoor
