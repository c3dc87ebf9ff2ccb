/- Capabilities as a value; the program's Good. -/
import Derived.Test.YtflhohfeahcnfaaGreatDoorBrd
import Derived.Test.YtflhohfeahcnfaaGreatDoorCpP
namespace Go.Proofs.YtflhohfeahcnfaaGreatDoor
open Go.RowKit
set_option maxRecDepth 100000

/-- Capabilities as a value. -/
def capV (c : Cp) : Value := .agg #[.bool c.four, .int .i64 c.as4, .bool c.gr, .bool c.rs, .int .i64 c.tm, .bool c.fam, .bool c.fwd, .bool c.ll, .int .i64 c.lt]
/-- The box that holds them. -/
def capC (c : Cp) : Array Value := #[.bool c.four, .int .i64 c.as4, .bool c.gr, .bool c.rs, .int .i64 c.tm, .bool c.fam, .bool c.fwd, .bool c.ll, .int .i64 c.lt]
theorem below_new (w : World) (o : Obj) : Below w.heap.size w (w.alloc o) := (Below.refl _ _).alloc (Nat.le_refl _) _
set_option maxHeartbeats 800000 in
theorem isFour_any (c : Cp) (w : World) : Calls Tryz.prog 122 #[capV c] w fun e w' => e = .returned (.bool (gFour c)) ∧ Below w.heap.size w w' := by
  obtain ⟨four, as4, gr, rs, tm, fam, fwd, ll, lt⟩ := c
  cases four with
  | false =>
    have HG : Hid (gFour ⟨false, as4, gr, rs, tm, fam, fwd, ll, lt⟩ = decide (as4 = 0)) := rfl
    generalize gFour ⟨false, as4, gr, rs, tm, fam, fwd, ll, lt⟩ = g at *
    unfold capV
    go_enter Tryz.func122, Tryz.ntmps122
    go_wp2
    go_ret
    exact ⟨ret_bool (by rw [HG.out]; first | rfl | (rw [Bool.eq_iff_iff]; simp)), below_new _ _⟩
  | true =>
    have HG : Hid (gFour ⟨true, as4, gr, rs, tm, fam, fwd, ll, lt⟩ = decide (1 ≤ as4 ∧ as4 ≤ 4294967295)) := rfl
    generalize gFour ⟨true, as4, gr, rs, tm, fam, fwd, ll, lt⟩ = g at *
    unfold capV
    by_cases h1 : 1 ≤ as4
    · have HD : Hid (decide (1 ≤ as4 ∧ as4 ≤ 4294967295) = decide (as4 ≤ 4294967295)) := by show decide _ = _; rw [Bool.eq_iff_iff]; simp [h1]
      go_enter Tryz.func122, Tryz.ntmps122
      go_wp2
      go_ret
      exact ⟨ret_bool (by rw [HG.out, HD.out]), below_new _ _⟩
    · have HD : Hid (decide (1 ≤ as4 ∧ as4 ≤ 4294967295) = false) := decide_eq_false (fun h9 => h1 h9.1)
      have h2 : decide (1 ≤ as4) = false := decide_eq_false h1
      clear h1
      go_enter Tryz.func122, Tryz.ntmps122
      go_wp2
      go_ret
      exact ⟨ret_bool (by rw [HG.out, HD.out]), below_new _ _⟩
set_option maxHeartbeats 800000 in
theorem isLL_any (c : Cp) (w : World) : Calls Tryz.prog 139 #[capV c] w fun e w' => e = .returned (.bool (gLL c)) ∧ Below w.heap.size w w' := by
  obtain ⟨four, as4, gr, rs, tm, fam, fwd, ll, lt⟩ := c
  cases ll with
  | false =>
    have HG : Hid (gLL ⟨four, as4, gr, rs, tm, fam, fwd, false, lt⟩ = decide (lt = 0)) := rfl
    generalize gLL ⟨four, as4, gr, rs, tm, fam, fwd, false, lt⟩ = g at *
    unfold capV
    go_enter Tryz.func139, Tryz.ntmps139
    go_wp2
    go_ret
    exact ⟨ret_bool (by rw [HG.out]; first | rfl | (rw [Bool.eq_iff_iff]; simp)), below_new _ _⟩
  | true =>
    have HG : Hid (gLL ⟨four, as4, gr, rs, tm, fam, fwd, true, lt⟩ = decide (0 ≤ lt ∧ lt ≤ 16777215)) := rfl
    generalize gLL ⟨four, as4, gr, rs, tm, fam, fwd, true, lt⟩ = g at *
    unfold capV
    by_cases h1 : 0 ≤ lt
    · have HD : Hid (decide (0 ≤ lt ∧ lt ≤ 16777215) = decide (lt ≤ 16777215)) := by show decide _ = _; rw [Bool.eq_iff_iff]; simp [h1]
      go_enter Tryz.func139, Tryz.ntmps139
      go_wp2
      go_ret
      exact ⟨ret_bool (by rw [HG.out, HD.out]), below_new _ _⟩
    · have HD : Hid (decide (0 ≤ lt ∧ lt ≤ 16777215) = false) := decide_eq_false (fun h9 => h1 h9.1)
      have h2 : decide (0 ≤ lt) = false := decide_eq_false h1
      clear h1
      go_enter Tryz.func139, Tryz.ntmps139
      go_wp2
      go_ret
      exact ⟨ret_bool (by rw [HG.out, HD.out]), below_new _ _⟩
/-- The first half of a good graceful restart. -/
def gG1 (gr rs : Bool) (tm : Int) (fam : Bool) : Bool := gr || (!rs && decide (tm = 0) && !fam)
set_option maxHeartbeats 1600000 in
theorem isGR_no (c : Cp) (w : World) (h : gG1 c.gr c.rs c.tm c.fam = false) : Calls Tryz.prog 138 #[capV c] w fun e w' => e = .returned (.bool false) ∧ Below w.heap.size w w' := by
  obtain ⟨four, as4, gr, rs, tm, fam, fwd, ll, lt⟩ := c
  simp only at h
  unfold capV
  cases gr with
  | true => cases h
  | false =>
    cases rs with
    | true =>
      clear h
      go_enter Tryz.func138, Tryz.ntmps138
      go_wp2
      go_ret
      exact ⟨rfl, below_new _ _⟩
    | false =>
      by_cases ht : tm = 0
      · subst ht
        cases fam with
        | false => cases h
        | true =>
          clear h
          go_enter Tryz.func138, Tryz.ntmps138
          go_wp2
          go_ret
          exact ⟨rfl, below_new _ _⟩
      · have ht2 : (tm != 0) = true := by simpa using ht
        clear h
        go_enter Tryz.func138, Tryz.ntmps138
        go_wp2
        go_ret
        exact ⟨rfl, below_new _ _⟩
set_option maxHeartbeats 1600000 in
theorem isGR_tail (c : Cp) (w : World) (h : gG1 c.gr c.rs c.tm c.fam = true) : Calls Tryz.prog 138 #[capV c] w fun e w' => e = .returned (.bool (decide (0 ≤ c.tm ∧ c.tm ≤ 4095) && (c.fam || !c.fwd))) ∧ Below w.heap.size w w' := by
  obtain ⟨four, as4, gr, rs, tm, fam, fwd, ll, lt⟩ := c
  simp only at h
  simp only
  unfold capV
  cases gr with
  | false =>
    have h2 : rs = false ∧ tm = 0 ∧ fam = false := by unfold gG1 at h; simpa [and_assoc] using h
    obtain ⟨rfl, rfl, rfl⟩ := h2
    clear h
    go_enter Tryz.func138, Tryz.ntmps138
    go_wp2
    go_ret
    exact ⟨ret_bool (by cases fwd <;> rfl), below_new _ _⟩
  | true =>
    clear h
    by_cases h1 : 0 ≤ tm
    · by_cases h2 : tm ≤ 4095
      · have HD : Hid (decide (0 ≤ tm ∧ tm ≤ 4095) = true) := decide_eq_true ⟨h1, h2⟩
        generalize decide (0 ≤ tm ∧ tm ≤ 4095) = dd at *
        cases fam with
        | true =>
          go_enter Tryz.func138, Tryz.ntmps138
          go_wp2
          go_ret
          exact ⟨ret_bool (by rw [HD.out]; rfl), below_new _ _⟩
        | false =>
          go_enter Tryz.func138, Tryz.ntmps138
          go_wp2
          go_ret
          exact ⟨ret_bool (by rw [HD.out]; cases fwd <;> rfl), below_new _ _⟩
      · have HD : Hid (decide (0 ≤ tm ∧ tm ≤ 4095) = false) := decide_eq_false (fun h9 => h2 h9.2)
        generalize decide (0 ≤ tm ∧ tm ≤ 4095) = dd at *
        have h3 : decide (tm ≤ 4095) = false := decide_eq_false h2
        clear h2
        go_enter Tryz.func138, Tryz.ntmps138
        go_wp2
        go_ret
        exact ⟨ret_bool (by rw [HD.out]; rfl), below_new _ _⟩
    · have HD : Hid (decide (0 ≤ tm ∧ tm ≤ 4095) = false) := decide_eq_false (fun h9 => h1 h9.1)
      generalize decide (0 ≤ tm ∧ tm ≤ 4095) = dd at *
      have h3 : decide (0 ≤ tm) = false := decide_eq_false h1
      clear h1
      go_enter Tryz.func138, Tryz.ntmps138
      go_wp2
      go_ret
      exact ⟨ret_bool (by rw [HD.out]; rfl), below_new _ _⟩
theorem isGR_any (c : Cp) (w : World) : Calls Tryz.prog 138 #[capV c] w fun e w' => e = .returned (.bool (gGR c)) ∧ Below w.heap.size w w' := by
  have e : gGR c = (gG1 c.gr c.rs c.tm c.fam && (decide (0 ≤ c.tm ∧ c.tm ≤ 4095) && (c.fam || !c.fwd))) := rfl
  rw [e]
  cases h : gG1 c.gr c.rs c.tm c.fam with
  | true => exact isGR_tail c w h
  | false => exact isGR_no c w h
set_option maxHeartbeats 1600000 in
theorem goodc_any (c : Cp) (w : World) : Calls Tryz.prog 108 #[capV c] w fun e w' => e = .returned (.bool (goodC c)) ∧ Below w.heap.size w w' := by
  have HE : Hid (goodC c = (gFour c && gGR c && gLL c)) := rfl
  have H1 := hide (fun W => isFour_any c W)
  have H2 := hide (fun W => isGR_any c W)
  have H3 := hide (fun W => isLL_any c W)
  generalize goodC c = g at *
  generalize gFour c = g1 at *
  generalize gGR c = g2 at *
  generalize gLL c = g3 at *
  obtain ⟨four, as4, gr, rs, tm, fam, fwd, ll, lt⟩ := c
  unfold capV at *
  simp only at *
  go_enter Tryz.func108, Tryz.ntmps108
  go_wp2_with fail
  refine (H1.out _).mono ?_
  rintro e w1 ⟨rfl, hb1⟩
  have HB1 : Hid (Below w.heap.size w w1) := (below_new w _).trans (hb1.mono (below_new w _).size)
  have k : ∀ j, w1.cell? ⟨w.heap.size, j, none⟩ = (w.alloc (.cells #[.bool four, .int .i64 as4, .bool gr, .bool rs, .int .i64 tm, .bool fam, .bool fwd, .bool ll, .int .i64 lt] 26)).cell? ⟨w.heap.size, j, none⟩ := fun j => hb1.cell (p := ⟨w.heap.size, j, none⟩) (by simp)
  have KB : Hid (∀ X, Below w1.heap.size w1 X → X.cell? ⟨w.heap.size, 0, none⟩ = some (.bool four) ∧ X.cell? ⟨w.heap.size, 1, none⟩ = some (.int .i64 as4) ∧ X.cell? ⟨w.heap.size, 2, none⟩ = some (.bool gr) ∧ X.cell? ⟨w.heap.size, 3, none⟩ = some (.bool rs) ∧ X.cell? ⟨w.heap.size, 4, none⟩ = some (.int .i64 tm) ∧ X.cell? ⟨w.heap.size, 5, none⟩ = some (.bool fam) ∧ X.cell? ⟨w.heap.size, 6, none⟩ = some (.bool fwd) ∧ X.cell? ⟨w.heap.size, 7, none⟩ = some (.bool ll) ∧ X.cell? ⟨w.heap.size, 8, none⟩ = some (.int .i64 lt)) := fun X hb => by
    have k2 : ∀ j, X.cell? ⟨w.heap.size, j, none⟩ = w1.cell? ⟨w.heap.size, j, none⟩ := fun j => hb.cell (p := ⟨w.heap.size, j, none⟩) (Nat.lt_of_lt_of_le (by simp) hb1.size)
    simp only [k2, k]
    refine ⟨?_, ?_, ?_, ?_, ?_, ?_, ?_, ?_, ?_⟩ <;> simp [go_sem]
  clear hb1 k
  obtain ⟨x0, x1, x2, x3, x4, x5, x6, x7, x8⟩ := KB.out w1 (Below.refl _ _)
  cases g1 with
  | false =>
    go_wp2
    go_ret
    exact ⟨ret_bool (by rw [HE.out]; rfl), HB1.out⟩
  | true =>
    go_wp2_with fail
    refine (H2.out _).mono ?_
    rintro e w2 ⟨rfl, hb2⟩
    have HB2 : Hid (Below w.heap.size w w2) := HB1.out.trans (hb2.mono HB1.out.size)
    clear x0 x1 x2 x3 x4 x5 x6 x7 x8
    obtain ⟨x0, x1, x2, x3, x4, x5, x6, x7, x8⟩ := KB.out w2 hb2
    clear hb2
    cases g2 with
    | false =>
      go_wp2
      go_ret
      exact ⟨ret_bool (by rw [HE.out]; rfl), HB2.out⟩
    | true =>
      go_wp2_with fail
      refine (H3.out _).mono ?_
      rintro e w3 ⟨rfl, hb3⟩
      have HB3 : Hid (Below w.heap.size w w3) := HB2.out.trans (hb3.mono HB2.out.size)
      clear hb3
      go_wp2
      go_ret
      exact ⟨ret_bool (by rw [HE.out]; rfl), HB3.out⟩
end Go.Proofs.YtflhohfeahcnfaaGreatDoor
