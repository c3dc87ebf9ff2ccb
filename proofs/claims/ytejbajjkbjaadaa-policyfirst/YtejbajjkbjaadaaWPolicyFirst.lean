/- PolicyFirst's walk. -/
import Derived.Test.YtejbajjkbjaadaaPoG
import Derived.Test.YtejbajjkbjaadaaMix
namespace Go.Proofs.Ytejbajjkbjaadaa
open Go.RowKit
set_option maxRecDepth 100000

theorem applyR_cons (r : Rul) (l : List Rul) (A : Nat) (L : Int) : applyR (r :: l) A L = if spk A L r then (if r.d then (0, false) else (r.pf, true)) else applyR l A L := by
  unfold applyR
  rw [List.find?_cons]
  cases spk A L r with
  | true => rfl
  | false => rfl
set_option maxHeartbeats 1600000 in
theorem first_long (r : Rul) (a : Option Addr) (n c A : Nat) (L : Int) (w : World) (hn : 100 < n) :
    Calls Try.prog 4 #[ruleV r, .slice a n c, pfx A L] w fun e w' => e = .returned (.bool true) ∧ Below w.heap.size w w' := by
  have dn : (100 : Int) < (n : Int) := by omega
  unfold pfx ruleV
  go_enter Try.func4, Try.ntmps4
  go_wp2_with fail
  refine (answers_any _).mono ?_
  rintro e w2 ⟨rfl, hb2⟩
  have HB : Hid (Below w.heap.size w w2) := (((Below.refl _ _).alloc (Nat.le_refl _) _).alloc (by simp) _).trans (hb2.mono (by simp <;> omega))
  clear hb2
  go_wp2
  go_ret
  exact ⟨rfl, HB.out⟩
/-- The boxes of the rule and of the prefix. -/
structure FSt (w0 : World) (X A : Nat) (L : Int) (r : Rul) : Prop where
  r : RulAt w0 X 0 r
  p0 : w0.cell? ⟨X + 1, 0, none⟩ = some (.int .u32 (A : Int))
  p1 : w0.cell? ⟨X + 1, 1, none⟩ = some (.int .i64 L)
theorem FSt.below {w w' : World} {X A B : Nat} {L : Int} {r : Rul} (h : FSt w X A L r) (hb : Below B w w') (hB : w.heap.size ≤ B) : FSt w' X A L r :=
  ⟨h.r.below hb hB, by rw [hb.cell (p := ⟨X + 1, 0, none⟩) (Nat.lt_of_lt_of_le (World.block_lt_of_cell? w _ h.p0) hB)]; exact h.p0, by rw [hb.cell (p := ⟨X + 1, 1, none⟩) (Nat.lt_of_lt_of_le (World.block_lt_of_cell? w _ h.p1) hB)]; exact h.p1⟩
theorem fst_new (w : World) (A : Nat) (L : Int) (r : Rul) (t u : TypeId) : FSt ((w.alloc (.cells #[.int .u32 (r.A : Int), .int .i64 r.L, .int .i64 r.mn, .int .i64 r.mx, .bool r.d, .int .i64 r.pf] t)).alloc (.cells #[.int .u32 (A : Int), .int .i64 L] u)) w.heap.size A L r :=
  ⟨(box_rule w r t).below ((Below.refl _ _).alloc (Nat.le_refl _) _) (Nat.le_refl _), by simp [go_sem], by simp [go_sem]⟩
set_option maxHeartbeats 3200000 in
theorem first_d (r : Rul) (a : Option Addr) (n c A : Nat) (L : Int) (l : List Rul) (w : World) (hn : n ≤ 100) (hl : l.length = n) (hr : RulesIn w a l) (hA : A < 4294967296) (hrA : r.A < 4294967296) (hc : covB r.A r.L A L = true) (h1 : r.mn ≤ L) (h2 : L ≤ r.mx) (hd : r.d = true) :
    Calls Try.prog 4 #[ruleV r, .slice a n c, pfx A L] w fun e w' => e = .returned (.bool true) ∧ Below w.heap.size w w' := by
  have dn : decide ((100 : Int) < (n : Int)) = false := decide_eq_false (by omega)
  have hn2 : Hid (n ≤ 100) := hn
  have HS : Hid (spk A L r = true) := by show _ = _; unfold spk ftB; rw [hc, decide_eq_true h1, decide_eq_true h2]; rfl
  obtain ⟨x, y, hxy⟩ : ∃ x y, applyR l A L = (x, y) := ⟨_, _, rfl⟩
  have HC2 : Hid (applyR (r :: l) A L = (0, false)) := by show _ = _; rw [applyR_cons, HS.out, hd]; rfl
  have HL := hide hl
  have HRI := hide hr
  have HXY := hide hxy
  have HCV := hide hc
  have HD := hide hd
  clear hd
  clear hl hr hxy hn hc
  unfold pfx ruleV
  go_enter Try.func4, Try.ntmps4
  go_wp2_with fail
  have HF := hide (fst_new w A L r 32 25)
  have HB0 : Hid (Below w.heap.size w ((w.alloc (.cells #[.int .u32 (r.A : Int), .int .i64 r.L, .int .i64 r.mn, .int .i64 r.mx, .bool r.d, .int .i64 r.pf] 32)).alloc (.cells #[.int .u32 (A : Int), .int .i64 L] 25))) := ((Below.refl _ _).alloc (Nat.le_refl _) _).alloc (by simp) _
  generalize (w.alloc (.cells #[.int .u32 (r.A : Int), .int .i64 r.L, .int .i64 r.mn, .int .i64 r.mx, .bool r.d, .int .i64 r.pf] 32)).alloc (.cells #[.int .u32 (A : Int), .int .i64 L] 25) = w0 at *
  have f1 : RulesIn (w0.drew.alloc (.cells #[.int .u32 (r.A : Int), .int .i64 r.L, .int .i64 r.mn, .int .i64 r.mx, .bool r.d, .int .i64 r.pf] 32)) a l := HRI.out.below ((HB0.out.drew).alloc HB0.out.size _) (Nat.le_refl _)
  obtain ⟨v5, w5, hrun, ho5, hb5⟩ := app_rules (k := [r]) (c := c) (own_laid w0.drew w0.heap.size 32 6 #[.int .u32 (r.A : Int), .int .i64 r.L, .int .i64 r.mn, .int .i64 r.mx, .bool r.d, .int .i64 r.pf] 1 (Nat.le_refl _) rfl (by omega)) (Nat.le_refl _) rfl ((Below.refl w0.heap.size w0).drew.alloc (Nat.le_refl _) _).size HL.out f1 (by have := hn2.out; omega)
  obtain ⟨a5, c5, rfl, hri5⟩ := rules_own ho5 (by simp [HL.out]; omega) (fun q hq => by
    rcases List.mem_cons.1 (by simpa using hq) with rfl | hq
    · exact hrA
    · exact HRI.out.mem q hq)
  have hB5 : Below w0.heap.size w0 w5 := (((Below.refl _ _).drew).alloc (Nat.le_refl _) _).trans hb5
  have HRun := hide hrun
  have HRI5 := hide hri5
  have HB5 := hide hB5
  clear hrun ho5 hb5 hri5 hB5 f1
  refine region_ord (fun w' => FSt w' w.heap.size A L r) (fun k => k == 1 || k == 3 || k == 5) [0, 2, 4, 1, 3, 5, 6, 7, 8, 9, 10] (by kernel_rfl) (by kernel_rfl) (by rfl) (by kernel_rfl) (HF.out.below (Below.refl _ _).drew (Nat.le_refl _)) ?_
  repeat refine ord_q (by rfl) (by rfl) (by rfl) (fun w9 h9 => (by obtain ⟨⟨s0, s1, s2, s3, s4, s5⟩, p0, p1⟩ := h9; simp only [Nat.zero_add] at s1 s2 s3 s4 s5; go_simp; first | done | rfl)) (by go_simp; first | done | rfl) ?_
  refine ord_l (by rfl) (by rfl) (by rfl) ?_
  go_simp
  refine ⟨HF.out.below ((Below.refl _ _).drew.alloc (Nat.le_refl _) _) (Nat.le_refl _), ?_⟩
  refine ord_l (by rfl) (by rfl) (by rfl) ?_
  refine opwp_append _ _ _ _ _ (by rfl) (by rfl) HRun.out ?_
  refine ⟨HF.out.below HB5.out (Nat.le_refl _), ?_⟩
  refine ord_l (by rfl) (by rfl) (by rfl) ?_
  go_simp
  refine (apply_is w5 (by have := hn2.out; omega) (by simp [HL.out]; omega) HRI5.out hA HC2.out).mono ?_
  rintro e w1 ⟨rfl, hb1⟩
  have hbw : Below w0.heap.size w0 w1 := HB5.out.trans (hb1.mono HB5.out.size)
  refine ⟨HF.out.below hbw (Nat.le_refl _), ?_⟩
  repeat refine ord_q (by rfl) (by rfl) (by rfl) (fun w9 h9 => (by go_simp; first | done | rfl)) (by go_simp; first | done | rfl) ?_
  refine ⟨fun _ h => (by cases h), ?_⟩
  have HF1 := hide (HF.out.below hbw (Nat.le_refl _))
  have HB1 : Hid (Below w.heap.size w w1) := HB0.out.trans (hbw.mono HB0.out.size)
  clear hb1 hbw HF HB5 HRun HRI5
  have p0 := HF1.out.p0
  have p1 := HF1.out.p1
  go_wp2_with fail
  refine (apply_is w1 (by have := hn2.out; omega) HL.out (HRI.out.below HB1.out (Nat.le_refl _)) hA HXY.out).mono ?_
  rintro e w2 ⟨rfl, hb2⟩
  have HF2 := hide (HF1.out.below hb2 (Nat.le_refl _))
  have HB2 : Hid (Below w.heap.size w w2) := HB1.out.trans (hb2.mono HB1.out.size)
  clear hb2 HF1 HB1 p0 p1
  have p0 := HF2.out.p0
  have p1 := HF2.out.p1
  have s0 := HF2.out.r.c0
  have s1 := HF2.out.r.c1
  simp only [Nat.zero_add] at s1
  go_wp2_with fail
  refine (rcov_is w2 hrA hA HCV.out).mono ?_
  rintro e w3 ⟨rfl, hb3⟩
  have HF3 := hide (HF2.out.below hb3 (Nat.le_refl _))
  have HB3 : Hid (Below w.heap.size w w3) := HB2.out.trans (hb3.mono HB2.out.size)
  clear hb3 HF2 HB2 p0 p1 s0 s1
  have p1 := HF3.out.p1
  have s2 := HF3.out.r.c2
  have s3 := HF3.out.r.c3
  simp only [Nat.zero_add] at s2 s3
  go_wp2_with fail
  refine (answers_any w3).mono ?_
  rintro e w4 ⟨rfl, hb4⟩
  have HF4 := hide (HF3.out.below hb4 (Nat.le_refl _))
  have HB4 : Hid (Below w.heap.size w w4) := HB3.out.trans (hb4.mono HB3.out.size)
  clear hb4 HF3 HB3 p1 s2 s3
  have s4 := HF4.out.r.c4
  have s5 := HF4.out.r.c5
  simp only [Nat.zero_add] at s4 s5
  rw [HD.out] at s4
  go_wp2
  go_ret
  exact ⟨rfl, HB4.out⟩
set_option maxHeartbeats 3200000 in
theorem first_t (r : Rul) (a : Option Addr) (n c A : Nat) (L : Int) (l : List Rul) (w : World) (hn : n ≤ 100) (hl : l.length = n) (hr : RulesIn w a l) (hA : A < 4294967296) (hrA : r.A < 4294967296) (hc : covB r.A r.L A L = true) (h1 : r.mn ≤ L) (h2 : L ≤ r.mx) (hd : r.d = false) :
    Calls Try.prog 4 #[ruleV r, .slice a n c, pfx A L] w fun e w' => e = .returned (.bool true) ∧ Below w.heap.size w w' := by
  have dn : decide ((100 : Int) < (n : Int)) = false := decide_eq_false (by omega)
  have hn2 : Hid (n ≤ 100) := hn
  have HS : Hid (spk A L r = true) := by show _ = _; unfold spk ftB; rw [hc, decide_eq_true h1, decide_eq_true h2]; rfl
  obtain ⟨x, y, hxy⟩ : ∃ x y, applyR l A L = (x, y) := ⟨_, _, rfl⟩
  have HC2 : Hid (applyR (r :: l) A L = (r.pf, true)) := by show _ = _; rw [applyR_cons, HS.out, hd]; rfl
  have HL := hide hl
  have HRI := hide hr
  have HXY := hide hxy
  have HCV := hide hc
  have HD := hide hd
  clear hd
  clear hl hr hxy hn hc
  unfold pfx ruleV
  go_enter Try.func4, Try.ntmps4
  go_wp2_with fail
  have HF := hide (fst_new w A L r 32 25)
  have HB0 : Hid (Below w.heap.size w ((w.alloc (.cells #[.int .u32 (r.A : Int), .int .i64 r.L, .int .i64 r.mn, .int .i64 r.mx, .bool r.d, .int .i64 r.pf] 32)).alloc (.cells #[.int .u32 (A : Int), .int .i64 L] 25))) := ((Below.refl _ _).alloc (Nat.le_refl _) _).alloc (by simp) _
  generalize (w.alloc (.cells #[.int .u32 (r.A : Int), .int .i64 r.L, .int .i64 r.mn, .int .i64 r.mx, .bool r.d, .int .i64 r.pf] 32)).alloc (.cells #[.int .u32 (A : Int), .int .i64 L] 25) = w0 at *
  have f1 : RulesIn (w0.drew.alloc (.cells #[.int .u32 (r.A : Int), .int .i64 r.L, .int .i64 r.mn, .int .i64 r.mx, .bool r.d, .int .i64 r.pf] 32)) a l := HRI.out.below ((HB0.out.drew).alloc HB0.out.size _) (Nat.le_refl _)
  obtain ⟨v5, w5, hrun, ho5, hb5⟩ := app_rules (k := [r]) (c := c) (own_laid w0.drew w0.heap.size 32 6 #[.int .u32 (r.A : Int), .int .i64 r.L, .int .i64 r.mn, .int .i64 r.mx, .bool r.d, .int .i64 r.pf] 1 (Nat.le_refl _) rfl (by omega)) (Nat.le_refl _) rfl ((Below.refl w0.heap.size w0).drew.alloc (Nat.le_refl _) _).size HL.out f1 (by have := hn2.out; omega)
  obtain ⟨a5, c5, rfl, hri5⟩ := rules_own ho5 (by simp [HL.out]; omega) (fun q hq => by
    rcases List.mem_cons.1 (by simpa using hq) with rfl | hq
    · exact hrA
    · exact HRI.out.mem q hq)
  have hB5 : Below w0.heap.size w0 w5 := (((Below.refl _ _).drew).alloc (Nat.le_refl _) _).trans hb5
  have HRun := hide hrun
  have HRI5 := hide hri5
  have HB5 := hide hB5
  clear hrun ho5 hb5 hri5 hB5 f1
  refine region_ord (fun w' => FSt w' w.heap.size A L r) (fun k => k == 1 || k == 3 || k == 5) [0, 2, 4, 1, 3, 5, 6, 7, 8, 9, 10] (by kernel_rfl) (by kernel_rfl) (by rfl) (by kernel_rfl) (HF.out.below (Below.refl _ _).drew (Nat.le_refl _)) ?_
  repeat refine ord_q (by rfl) (by rfl) (by rfl) (fun w9 h9 => (by obtain ⟨⟨s0, s1, s2, s3, s4, s5⟩, p0, p1⟩ := h9; simp only [Nat.zero_add] at s1 s2 s3 s4 s5; go_simp; first | done | rfl)) (by go_simp; first | done | rfl) ?_
  refine ord_l (by rfl) (by rfl) (by rfl) ?_
  go_simp
  refine ⟨HF.out.below ((Below.refl _ _).drew.alloc (Nat.le_refl _) _) (Nat.le_refl _), ?_⟩
  refine ord_l (by rfl) (by rfl) (by rfl) ?_
  refine opwp_append _ _ _ _ _ (by rfl) (by rfl) HRun.out ?_
  refine ⟨HF.out.below HB5.out (Nat.le_refl _), ?_⟩
  refine ord_l (by rfl) (by rfl) (by rfl) ?_
  go_simp
  refine (apply_is w5 (by have := hn2.out; omega) (by simp [HL.out]; omega) HRI5.out hA HC2.out).mono ?_
  rintro e w1 ⟨rfl, hb1⟩
  have hbw : Below w0.heap.size w0 w1 := HB5.out.trans (hb1.mono HB5.out.size)
  refine ⟨HF.out.below hbw (Nat.le_refl _), ?_⟩
  repeat refine ord_q (by rfl) (by rfl) (by rfl) (fun w9 h9 => (by go_simp; first | done | rfl)) (by go_simp; first | done | rfl) ?_
  refine ⟨fun _ h => (by cases h), ?_⟩
  have HF1 := hide (HF.out.below hbw (Nat.le_refl _))
  have HB1 : Hid (Below w.heap.size w w1) := HB0.out.trans (hbw.mono HB0.out.size)
  clear hb1 hbw HF HB5 HRun HRI5
  have p0 := HF1.out.p0
  have p1 := HF1.out.p1
  go_wp2_with fail
  refine (apply_is w1 (by have := hn2.out; omega) HL.out (HRI.out.below HB1.out (Nat.le_refl _)) hA HXY.out).mono ?_
  rintro e w2 ⟨rfl, hb2⟩
  have HF2 := hide (HF1.out.below hb2 (Nat.le_refl _))
  have HB2 : Hid (Below w.heap.size w w2) := HB1.out.trans (hb2.mono HB1.out.size)
  clear hb2 HF1 HB1 p0 p1
  have p0 := HF2.out.p0
  have p1 := HF2.out.p1
  have s0 := HF2.out.r.c0
  have s1 := HF2.out.r.c1
  simp only [Nat.zero_add] at s1
  go_wp2_with fail
  refine (rcov_is w2 hrA hA HCV.out).mono ?_
  rintro e w3 ⟨rfl, hb3⟩
  have HF3 := hide (HF2.out.below hb3 (Nat.le_refl _))
  have HB3 : Hid (Below w.heap.size w w3) := HB2.out.trans (hb3.mono HB2.out.size)
  clear hb3 HF2 HB2 p0 p1 s0 s1
  have p1 := HF3.out.p1
  have s2 := HF3.out.r.c2
  have s3 := HF3.out.r.c3
  simp only [Nat.zero_add] at s2 s3
  go_wp2_with fail
  refine (answers_any w3).mono ?_
  rintro e w4 ⟨rfl, hb4⟩
  have HF4 := hide (HF3.out.below hb4 (Nat.le_refl _))
  have HB4 : Hid (Below w.heap.size w w4) := HB3.out.trans (hb4.mono HB3.out.size)
  clear hb4 HF3 HB3 p1 s2 s3
  have s4 := HF4.out.r.c4
  have s5 := HF4.out.r.c5
  simp only [Nat.zero_add] at s4 s5
  rw [HD.out] at s4
  go_wp2
  go_ret
  exact ⟨rfl, HB4.out⟩
set_option maxHeartbeats 3200000 in
theorem first_c (r : Rul) (a : Option Addr) (n c A : Nat) (L : Int) (l : List Rul) (w : World) (hn : n ≤ 100) (hl : l.length = n) (hr : RulesIn w a l) (hA : A < 4294967296) (hrA : r.A < 4294967296) (hc : covB r.A r.L A L = false) :
    Calls Try.prog 4 #[ruleV r, .slice a n c, pfx A L] w fun e w' => e = .returned (.bool true) ∧ Below w.heap.size w w' := by
  have dn : decide ((100 : Int) < (n : Int)) = false := decide_eq_false (by omega)
  have hn2 : Hid (n ≤ 100) := hn
  have HS : Hid (spk A L r = false) := by show _ = _; unfold spk ftB; rw [hc]; rfl
  obtain ⟨x, y, hxy⟩ : ∃ x y, applyR l A L = (x, y) := ⟨_, _, rfl⟩
  have HC2 : Hid (applyR (r :: l) A L = (x, y)) := by show _ = _; rw [applyR_cons, HS.out, hxy]; rfl
  have HL := hide hl
  have HRI := hide hr
  have HXY := hide hxy
  have HCV := hide hc
  clear hl hr hxy hn hc
  unfold pfx ruleV
  go_enter Try.func4, Try.ntmps4
  go_wp2_with fail
  have HF := hide (fst_new w A L r 32 25)
  have HB0 : Hid (Below w.heap.size w ((w.alloc (.cells #[.int .u32 (r.A : Int), .int .i64 r.L, .int .i64 r.mn, .int .i64 r.mx, .bool r.d, .int .i64 r.pf] 32)).alloc (.cells #[.int .u32 (A : Int), .int .i64 L] 25))) := ((Below.refl _ _).alloc (Nat.le_refl _) _).alloc (by simp) _
  generalize (w.alloc (.cells #[.int .u32 (r.A : Int), .int .i64 r.L, .int .i64 r.mn, .int .i64 r.mx, .bool r.d, .int .i64 r.pf] 32)).alloc (.cells #[.int .u32 (A : Int), .int .i64 L] 25) = w0 at *
  have f1 : RulesIn (w0.drew.alloc (.cells #[.int .u32 (r.A : Int), .int .i64 r.L, .int .i64 r.mn, .int .i64 r.mx, .bool r.d, .int .i64 r.pf] 32)) a l := HRI.out.below ((HB0.out.drew).alloc HB0.out.size _) (Nat.le_refl _)
  obtain ⟨v5, w5, hrun, ho5, hb5⟩ := app_rules (k := [r]) (c := c) (own_laid w0.drew w0.heap.size 32 6 #[.int .u32 (r.A : Int), .int .i64 r.L, .int .i64 r.mn, .int .i64 r.mx, .bool r.d, .int .i64 r.pf] 1 (Nat.le_refl _) rfl (by omega)) (Nat.le_refl _) rfl ((Below.refl w0.heap.size w0).drew.alloc (Nat.le_refl _) _).size HL.out f1 (by have := hn2.out; omega)
  obtain ⟨a5, c5, rfl, hri5⟩ := rules_own ho5 (by simp [HL.out]; omega) (fun q hq => by
    rcases List.mem_cons.1 (by simpa using hq) with rfl | hq
    · exact hrA
    · exact HRI.out.mem q hq)
  have hB5 : Below w0.heap.size w0 w5 := (((Below.refl _ _).drew).alloc (Nat.le_refl _) _).trans hb5
  have HRun := hide hrun
  have HRI5 := hide hri5
  have HB5 := hide hB5
  clear hrun ho5 hb5 hri5 hB5 f1
  refine region_ord (fun w' => FSt w' w.heap.size A L r) (fun k => k == 1 || k == 3 || k == 5) [0, 2, 4, 1, 3, 5, 6, 7, 8, 9, 10] (by kernel_rfl) (by kernel_rfl) (by rfl) (by kernel_rfl) (HF.out.below (Below.refl _ _).drew (Nat.le_refl _)) ?_
  repeat refine ord_q (by rfl) (by rfl) (by rfl) (fun w9 h9 => (by obtain ⟨⟨s0, s1, s2, s3, s4, s5⟩, p0, p1⟩ := h9; simp only [Nat.zero_add] at s1 s2 s3 s4 s5; go_simp; first | done | rfl)) (by go_simp; first | done | rfl) ?_
  refine ord_l (by rfl) (by rfl) (by rfl) ?_
  go_simp
  refine ⟨HF.out.below ((Below.refl _ _).drew.alloc (Nat.le_refl _) _) (Nat.le_refl _), ?_⟩
  refine ord_l (by rfl) (by rfl) (by rfl) ?_
  refine opwp_append _ _ _ _ _ (by rfl) (by rfl) HRun.out ?_
  refine ⟨HF.out.below HB5.out (Nat.le_refl _), ?_⟩
  refine ord_l (by rfl) (by rfl) (by rfl) ?_
  go_simp
  refine (apply_is w5 (by have := hn2.out; omega) (by simp [HL.out]; omega) HRI5.out hA HC2.out).mono ?_
  rintro e w1 ⟨rfl, hb1⟩
  have hbw : Below w0.heap.size w0 w1 := HB5.out.trans (hb1.mono HB5.out.size)
  refine ⟨HF.out.below hbw (Nat.le_refl _), ?_⟩
  repeat refine ord_q (by rfl) (by rfl) (by rfl) (fun w9 h9 => (by go_simp; first | done | rfl)) (by go_simp; first | done | rfl) ?_
  refine ⟨fun _ h => (by cases h), ?_⟩
  have HF1 := hide (HF.out.below hbw (Nat.le_refl _))
  have HB1 : Hid (Below w.heap.size w w1) := HB0.out.trans (hbw.mono HB0.out.size)
  clear hb1 hbw HF HB5 HRun HRI5
  have p0 := HF1.out.p0
  have p1 := HF1.out.p1
  go_wp2_with fail
  refine (apply_is w1 (by have := hn2.out; omega) HL.out (HRI.out.below HB1.out (Nat.le_refl _)) hA HXY.out).mono ?_
  rintro e w2 ⟨rfl, hb2⟩
  have HF2 := hide (HF1.out.below hb2 (Nat.le_refl _))
  have HB2 : Hid (Below w.heap.size w w2) := HB1.out.trans (hb2.mono HB1.out.size)
  clear hb2 HF1 HB1 p0 p1
  have p0 := HF2.out.p0
  have p1 := HF2.out.p1
  have s0 := HF2.out.r.c0
  have s1 := HF2.out.r.c1
  simp only [Nat.zero_add] at s1
  go_wp2_with fail
  refine (rcov_is w2 hrA hA HCV.out).mono ?_
  rintro e w3 ⟨rfl, hb3⟩
  have HF3 := hide (HF2.out.below hb3 (Nat.le_refl _))
  have HB3 : Hid (Below w.heap.size w w3) := HB2.out.trans (hb3.mono HB2.out.size)
  clear hb3 HF2 HB2 p0 p1 s0 s1
  have p1 := HF3.out.p1
  have s2 := HF3.out.r.c2
  have s3 := HF3.out.r.c3
  simp only [Nat.zero_add] at s2 s3
  go_wp2_with fail
  refine (answers_any w3).mono ?_
  rintro e w4 ⟨rfl, hb4⟩
  have HF4 := hide (HF3.out.below hb4 (Nat.le_refl _))
  have HB4 : Hid (Below w.heap.size w w4) := HB3.out.trans (hb4.mono HB3.out.size)
  clear hb4 HF3 HB3 p1 s2 s3
  have s4 := HF4.out.r.c4
  have s5 := HF4.out.r.c5
  simp only [Nat.zero_add] at s4 s5
  go_wp2
  go_ret
  exact ⟨rfl, HB4.out⟩
set_option maxHeartbeats 3200000 in
theorem first_mn (r : Rul) (a : Option Addr) (n c A : Nat) (L : Int) (l : List Rul) (w : World) (hn : n ≤ 100) (hl : l.length = n) (hr : RulesIn w a l) (hA : A < 4294967296) (hrA : r.A < 4294967296) (hc : covB r.A r.L A L = true) (h1 : ¬ r.mn ≤ L) :
    Calls Try.prog 4 #[ruleV r, .slice a n c, pfx A L] w fun e w' => e = .returned (.bool true) ∧ Below w.heap.size w w' := by
  have dn : decide ((100 : Int) < (n : Int)) = false := decide_eq_false (by omega)
  have hn2 : Hid (n ≤ 100) := hn
  have HS : Hid (spk A L r = false) := by show _ = _; unfold spk ftB; rw [hc, decide_eq_false h1]; rfl
  obtain ⟨x, y, hxy⟩ : ∃ x y, applyR l A L = (x, y) := ⟨_, _, rfl⟩
  have HC2 : Hid (applyR (r :: l) A L = (x, y)) := by show _ = _; rw [applyR_cons, HS.out, hxy]; rfl
  have HL := hide hl
  have HRI := hide hr
  have HXY := hide hxy
  have HCV := hide hc
  have e1 : decide (r.mn ≤ L) = false := decide_eq_false h1
  clear h1
  clear hl hr hxy hn hc
  unfold pfx ruleV
  go_enter Try.func4, Try.ntmps4
  go_wp2_with fail
  have HF := hide (fst_new w A L r 32 25)
  have HB0 : Hid (Below w.heap.size w ((w.alloc (.cells #[.int .u32 (r.A : Int), .int .i64 r.L, .int .i64 r.mn, .int .i64 r.mx, .bool r.d, .int .i64 r.pf] 32)).alloc (.cells #[.int .u32 (A : Int), .int .i64 L] 25))) := ((Below.refl _ _).alloc (Nat.le_refl _) _).alloc (by simp) _
  generalize (w.alloc (.cells #[.int .u32 (r.A : Int), .int .i64 r.L, .int .i64 r.mn, .int .i64 r.mx, .bool r.d, .int .i64 r.pf] 32)).alloc (.cells #[.int .u32 (A : Int), .int .i64 L] 25) = w0 at *
  have f1 : RulesIn (w0.drew.alloc (.cells #[.int .u32 (r.A : Int), .int .i64 r.L, .int .i64 r.mn, .int .i64 r.mx, .bool r.d, .int .i64 r.pf] 32)) a l := HRI.out.below ((HB0.out.drew).alloc HB0.out.size _) (Nat.le_refl _)
  obtain ⟨v5, w5, hrun, ho5, hb5⟩ := app_rules (k := [r]) (c := c) (own_laid w0.drew w0.heap.size 32 6 #[.int .u32 (r.A : Int), .int .i64 r.L, .int .i64 r.mn, .int .i64 r.mx, .bool r.d, .int .i64 r.pf] 1 (Nat.le_refl _) rfl (by omega)) (Nat.le_refl _) rfl ((Below.refl w0.heap.size w0).drew.alloc (Nat.le_refl _) _).size HL.out f1 (by have := hn2.out; omega)
  obtain ⟨a5, c5, rfl, hri5⟩ := rules_own ho5 (by simp [HL.out]; omega) (fun q hq => by
    rcases List.mem_cons.1 (by simpa using hq) with rfl | hq
    · exact hrA
    · exact HRI.out.mem q hq)
  have hB5 : Below w0.heap.size w0 w5 := (((Below.refl _ _).drew).alloc (Nat.le_refl _) _).trans hb5
  have HRun := hide hrun
  have HRI5 := hide hri5
  have HB5 := hide hB5
  clear hrun ho5 hb5 hri5 hB5 f1
  refine region_ord (fun w' => FSt w' w.heap.size A L r) (fun k => k == 1 || k == 3 || k == 5) [0, 2, 4, 1, 3, 5, 6, 7, 8, 9, 10] (by kernel_rfl) (by kernel_rfl) (by rfl) (by kernel_rfl) (HF.out.below (Below.refl _ _).drew (Nat.le_refl _)) ?_
  repeat refine ord_q (by rfl) (by rfl) (by rfl) (fun w9 h9 => (by obtain ⟨⟨s0, s1, s2, s3, s4, s5⟩, p0, p1⟩ := h9; simp only [Nat.zero_add] at s1 s2 s3 s4 s5; go_simp; first | done | rfl)) (by go_simp; first | done | rfl) ?_
  refine ord_l (by rfl) (by rfl) (by rfl) ?_
  go_simp
  refine ⟨HF.out.below ((Below.refl _ _).drew.alloc (Nat.le_refl _) _) (Nat.le_refl _), ?_⟩
  refine ord_l (by rfl) (by rfl) (by rfl) ?_
  refine opwp_append _ _ _ _ _ (by rfl) (by rfl) HRun.out ?_
  refine ⟨HF.out.below HB5.out (Nat.le_refl _), ?_⟩
  refine ord_l (by rfl) (by rfl) (by rfl) ?_
  go_simp
  refine (apply_is w5 (by have := hn2.out; omega) (by simp [HL.out]; omega) HRI5.out hA HC2.out).mono ?_
  rintro e w1 ⟨rfl, hb1⟩
  have hbw : Below w0.heap.size w0 w1 := HB5.out.trans (hb1.mono HB5.out.size)
  refine ⟨HF.out.below hbw (Nat.le_refl _), ?_⟩
  repeat refine ord_q (by rfl) (by rfl) (by rfl) (fun w9 h9 => (by go_simp; first | done | rfl)) (by go_simp; first | done | rfl) ?_
  refine ⟨fun _ h => (by cases h), ?_⟩
  have HF1 := hide (HF.out.below hbw (Nat.le_refl _))
  have HB1 : Hid (Below w.heap.size w w1) := HB0.out.trans (hbw.mono HB0.out.size)
  clear hb1 hbw HF HB5 HRun HRI5
  have p0 := HF1.out.p0
  have p1 := HF1.out.p1
  go_wp2_with fail
  refine (apply_is w1 (by have := hn2.out; omega) HL.out (HRI.out.below HB1.out (Nat.le_refl _)) hA HXY.out).mono ?_
  rintro e w2 ⟨rfl, hb2⟩
  have HF2 := hide (HF1.out.below hb2 (Nat.le_refl _))
  have HB2 : Hid (Below w.heap.size w w2) := HB1.out.trans (hb2.mono HB1.out.size)
  clear hb2 HF1 HB1 p0 p1
  have p0 := HF2.out.p0
  have p1 := HF2.out.p1
  have s0 := HF2.out.r.c0
  have s1 := HF2.out.r.c1
  simp only [Nat.zero_add] at s1
  go_wp2_with fail
  refine (rcov_is w2 hrA hA HCV.out).mono ?_
  rintro e w3 ⟨rfl, hb3⟩
  have HF3 := hide (HF2.out.below hb3 (Nat.le_refl _))
  have HB3 : Hid (Below w.heap.size w w3) := HB2.out.trans (hb3.mono HB2.out.size)
  clear hb3 HF2 HB2 p0 p1 s0 s1
  have p1 := HF3.out.p1
  have s2 := HF3.out.r.c2
  have s3 := HF3.out.r.c3
  simp only [Nat.zero_add] at s2 s3
  go_wp2_with fail
  refine (answers_any w3).mono ?_
  rintro e w4 ⟨rfl, hb4⟩
  have HF4 := hide (HF3.out.below hb4 (Nat.le_refl _))
  have HB4 : Hid (Below w.heap.size w w4) := HB3.out.trans (hb4.mono HB3.out.size)
  clear hb4 HF3 HB3 p1 s2 s3
  have s4 := HF4.out.r.c4
  have s5 := HF4.out.r.c5
  simp only [Nat.zero_add] at s4 s5
  go_wp2
  go_ret
  exact ⟨rfl, HB4.out⟩
set_option maxHeartbeats 3200000 in
theorem first_mx (r : Rul) (a : Option Addr) (n c A : Nat) (L : Int) (l : List Rul) (w : World) (hn : n ≤ 100) (hl : l.length = n) (hr : RulesIn w a l) (hA : A < 4294967296) (hrA : r.A < 4294967296) (hc : covB r.A r.L A L = true) (h1 : r.mn ≤ L) (h2 : ¬ L ≤ r.mx) :
    Calls Try.prog 4 #[ruleV r, .slice a n c, pfx A L] w fun e w' => e = .returned (.bool true) ∧ Below w.heap.size w w' := by
  have dn : decide ((100 : Int) < (n : Int)) = false := decide_eq_false (by omega)
  have hn2 : Hid (n ≤ 100) := hn
  have HS : Hid (spk A L r = false) := by show _ = _; unfold spk ftB; rw [hc, decide_eq_true h1, decide_eq_false h2]; rfl
  obtain ⟨x, y, hxy⟩ : ∃ x y, applyR l A L = (x, y) := ⟨_, _, rfl⟩
  have HC2 : Hid (applyR (r :: l) A L = (x, y)) := by show _ = _; rw [applyR_cons, HS.out, hxy]; rfl
  have HL := hide hl
  have HRI := hide hr
  have HXY := hide hxy
  have HCV := hide hc
  have e2 : decide (L ≤ r.mx) = false := decide_eq_false h2
  clear h2
  clear hl hr hxy hn hc
  unfold pfx ruleV
  go_enter Try.func4, Try.ntmps4
  go_wp2_with fail
  have HF := hide (fst_new w A L r 32 25)
  have HB0 : Hid (Below w.heap.size w ((w.alloc (.cells #[.int .u32 (r.A : Int), .int .i64 r.L, .int .i64 r.mn, .int .i64 r.mx, .bool r.d, .int .i64 r.pf] 32)).alloc (.cells #[.int .u32 (A : Int), .int .i64 L] 25))) := ((Below.refl _ _).alloc (Nat.le_refl _) _).alloc (by simp) _
  generalize (w.alloc (.cells #[.int .u32 (r.A : Int), .int .i64 r.L, .int .i64 r.mn, .int .i64 r.mx, .bool r.d, .int .i64 r.pf] 32)).alloc (.cells #[.int .u32 (A : Int), .int .i64 L] 25) = w0 at *
  have f1 : RulesIn (w0.drew.alloc (.cells #[.int .u32 (r.A : Int), .int .i64 r.L, .int .i64 r.mn, .int .i64 r.mx, .bool r.d, .int .i64 r.pf] 32)) a l := HRI.out.below ((HB0.out.drew).alloc HB0.out.size _) (Nat.le_refl _)
  obtain ⟨v5, w5, hrun, ho5, hb5⟩ := app_rules (k := [r]) (c := c) (own_laid w0.drew w0.heap.size 32 6 #[.int .u32 (r.A : Int), .int .i64 r.L, .int .i64 r.mn, .int .i64 r.mx, .bool r.d, .int .i64 r.pf] 1 (Nat.le_refl _) rfl (by omega)) (Nat.le_refl _) rfl ((Below.refl w0.heap.size w0).drew.alloc (Nat.le_refl _) _).size HL.out f1 (by have := hn2.out; omega)
  obtain ⟨a5, c5, rfl, hri5⟩ := rules_own ho5 (by simp [HL.out]; omega) (fun q hq => by
    rcases List.mem_cons.1 (by simpa using hq) with rfl | hq
    · exact hrA
    · exact HRI.out.mem q hq)
  have hB5 : Below w0.heap.size w0 w5 := (((Below.refl _ _).drew).alloc (Nat.le_refl _) _).trans hb5
  have HRun := hide hrun
  have HRI5 := hide hri5
  have HB5 := hide hB5
  clear hrun ho5 hb5 hri5 hB5 f1
  refine region_ord (fun w' => FSt w' w.heap.size A L r) (fun k => k == 1 || k == 3 || k == 5) [0, 2, 4, 1, 3, 5, 6, 7, 8, 9, 10] (by kernel_rfl) (by kernel_rfl) (by rfl) (by kernel_rfl) (HF.out.below (Below.refl _ _).drew (Nat.le_refl _)) ?_
  repeat refine ord_q (by rfl) (by rfl) (by rfl) (fun w9 h9 => (by obtain ⟨⟨s0, s1, s2, s3, s4, s5⟩, p0, p1⟩ := h9; simp only [Nat.zero_add] at s1 s2 s3 s4 s5; go_simp; first | done | rfl)) (by go_simp; first | done | rfl) ?_
  refine ord_l (by rfl) (by rfl) (by rfl) ?_
  go_simp
  refine ⟨HF.out.below ((Below.refl _ _).drew.alloc (Nat.le_refl _) _) (Nat.le_refl _), ?_⟩
  refine ord_l (by rfl) (by rfl) (by rfl) ?_
  refine opwp_append _ _ _ _ _ (by rfl) (by rfl) HRun.out ?_
  refine ⟨HF.out.below HB5.out (Nat.le_refl _), ?_⟩
  refine ord_l (by rfl) (by rfl) (by rfl) ?_
  go_simp
  refine (apply_is w5 (by have := hn2.out; omega) (by simp [HL.out]; omega) HRI5.out hA HC2.out).mono ?_
  rintro e w1 ⟨rfl, hb1⟩
  have hbw : Below w0.heap.size w0 w1 := HB5.out.trans (hb1.mono HB5.out.size)
  refine ⟨HF.out.below hbw (Nat.le_refl _), ?_⟩
  repeat refine ord_q (by rfl) (by rfl) (by rfl) (fun w9 h9 => (by go_simp; first | done | rfl)) (by go_simp; first | done | rfl) ?_
  refine ⟨fun _ h => (by cases h), ?_⟩
  have HF1 := hide (HF.out.below hbw (Nat.le_refl _))
  have HB1 : Hid (Below w.heap.size w w1) := HB0.out.trans (hbw.mono HB0.out.size)
  clear hb1 hbw HF HB5 HRun HRI5
  have p0 := HF1.out.p0
  have p1 := HF1.out.p1
  go_wp2_with fail
  refine (apply_is w1 (by have := hn2.out; omega) HL.out (HRI.out.below HB1.out (Nat.le_refl _)) hA HXY.out).mono ?_
  rintro e w2 ⟨rfl, hb2⟩
  have HF2 := hide (HF1.out.below hb2 (Nat.le_refl _))
  have HB2 : Hid (Below w.heap.size w w2) := HB1.out.trans (hb2.mono HB1.out.size)
  clear hb2 HF1 HB1 p0 p1
  have p0 := HF2.out.p0
  have p1 := HF2.out.p1
  have s0 := HF2.out.r.c0
  have s1 := HF2.out.r.c1
  simp only [Nat.zero_add] at s1
  go_wp2_with fail
  refine (rcov_is w2 hrA hA HCV.out).mono ?_
  rintro e w3 ⟨rfl, hb3⟩
  have HF3 := hide (HF2.out.below hb3 (Nat.le_refl _))
  have HB3 : Hid (Below w.heap.size w w3) := HB2.out.trans (hb3.mono HB2.out.size)
  clear hb3 HF2 HB2 p0 p1 s0 s1
  have p1 := HF3.out.p1
  have s2 := HF3.out.r.c2
  have s3 := HF3.out.r.c3
  simp only [Nat.zero_add] at s2 s3
  go_wp2_with fail
  refine (answers_any w3).mono ?_
  rintro e w4 ⟨rfl, hb4⟩
  have HF4 := hide (HF3.out.below hb4 (Nat.le_refl _))
  have HB4 : Hid (Below w.heap.size w w4) := HB3.out.trans (hb4.mono HB3.out.size)
  clear hb4 HF3 HB3 p1 s2 s3
  have s4 := HF4.out.r.c4
  have s5 := HF4.out.r.c5
  simp only [Nat.zero_add] at s4 s5
  go_wp2
  go_ret
  exact ⟨rfl, HB4.out⟩
theorem policyFirst_walk (r : Rul) (a : Option Addr) (c A : Nat) (L : Int) (l : List Rul) (w : World) (hr : RulesIn w a l) (hA : A < 4294967296) (hrA : r.A < 4294967296) :
    Calls Try.prog 4 #[ruleV r, .slice a l.length c, pfx A L] w fun e w' => e = .returned (.bool true) ∧ Below w.heap.size w w' := by
  by_cases hn : 100 < l.length
  · exact first_long r a _ c A L w hn
  · cases hc : covB r.A r.L A L with
    | false => exact first_c r a _ c A L l w (by omega) rfl hr hA hrA hc
    | true =>
      by_cases h1 : r.mn ≤ L
      · by_cases h2 : L ≤ r.mx
        · cases hd : r.d with
          | true => exact first_d r a _ c A L l w (by omega) rfl hr hA hrA hc h1 h2 hd
          | false => exact first_t r a _ c A L l w (by omega) rfl hr hA hrA hc h1 h2 hd
        · exact first_mx r a _ c A L l w (by omega) rfl hr hA hrA hc h1 h2
      · exact first_mn r a _ c A L l w (by omega) rfl hr hA hrA hc h1
end Go.Proofs.Ytejbajjkbjaadaa
