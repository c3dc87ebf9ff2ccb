/- The program's isGood, Good. -/
import Derived.Test.YtejbajjkbjaadaaPoB
import Derived.Laws.EntriesVeiled
namespace Go.Proofs.Ytejbajjkbjaadaa
open Go.RowKit
set_option maxRecDepth 100000

/-- May r be a policy's? -/
def goodR (r : Rul) : Bool := rightB r.A r.L && (ftB 0 32 r.mn && (ftB 0 32 r.mx && ftB (-1) 4294967295 r.pf))
def goodL (l : List Rul) : Bool := decide (l.length ≤ 16) && l.all goodR
set_option maxHeartbeats 1600000 in
theorem isgood_f0 (r : Rul) (w : World) (hr : r.A < 4294967296) (h0 : rightB r.A r.L = false) :
    Calls Try.prog 17 #[ruleV r] w fun e w' => e = .returned (.bool (goodR r)) ∧ Below w.heap.size w w' := by
  have HS : Hid (false = goodR r) := by show _ = _; unfold goodR; rw [h0]; rfl
  have H0 := hide h0
  clear h0
  unfold ruleV
  go_enter Try.func17, Try.ntmps17
  go_wp2_with fail
  refine (fromto_any 0 32 _).mono ?_
  rintro e w0 ⟨rfl, rfl⟩
  go_wp2_with fail
  refine (fromto_any (-1) 4294967295 _).mono ?_
  rintro e w1 ⟨rfl, hw⟩
  have HB1 : Hid (Below w.heap.size w w1) := by show Below _ _ _; rw [hw]; exact ((((((Below.refl _ _).alloc (Nat.le_refl _) _).alloc (by simp) _).alloc (by simp <;> omega) _)).alloc (by simp <;> omega) _).alloc (by simp <;> omega) _
  have R1 : RulAt w1 w.heap.size 0 r := by
    rw [hw]
    exact ((((box_rule w r 32).below ((Below.refl _ _).alloc (Nat.le_refl _) _) (Nat.le_refl _)).below ((Below.refl _ _).alloc (Nat.le_refl _) _) (Nat.le_refl _)).below ((Below.refl _ _).alloc (Nat.le_refl _) _) (Nat.le_refl _)).below ((Below.refl _ _).alloc (Nat.le_refl _) _) (Nat.le_refl _)
  have f0 : w1.cell? ⟨w.heap.size + 1, 0, none⟩ = some (.int .i64 0) := by rw [hw]; simp [go_sem]
  have f1 : w1.cell? ⟨w.heap.size + 1 + 1, 0, none⟩ = some (.int .i64 32) := by rw [hw]; simp [go_sem]
  have f2 : w1.cell? ⟨w.heap.size + 1 + 1 + 1, 0, none⟩ = some (.int .i64 (-1)) := by rw [hw]; simp [go_sem]
  have f3 : w1.cell? ⟨w.heap.size + 1 + 1 + 1 + 1, 0, none⟩ = some (.int .i64 4294967295) := by rw [hw]; simp [go_sem]
  clear hw
  have k0 := R1.c0
  have k1 := R1.c1
  have ec := Try.call24
  go_wp2_with fail
  refine (pright_is w1 hr H0.out).mono ?_
  rintro e w2 ⟨rfl, hb2⟩
  have R2 := R1.below hb2 (Nat.le_refl _)
  have k2 := R2.c2
  have k3 := R2.c3
  have k5 := R2.c5
  have g0 : w2.cell? ⟨w.heap.size + 1, 0, none⟩ = some (.int .i64 0) := by rw [hb2.cell (p := ⟨w.heap.size + 1, 0, none⟩) (World.block_lt_of_cell? w1 _ f0)]; exact f0
  have g1 : w2.cell? ⟨w.heap.size + 1 + 1, 0, none⟩ = some (.int .i64 32) := by rw [hb2.cell (p := ⟨w.heap.size + 1 + 1, 0, none⟩) (World.block_lt_of_cell? w1 _ f1)]; exact f1
  have g2 : w2.cell? ⟨w.heap.size + 1 + 1 + 1, 0, none⟩ = some (.int .i64 (-1)) := by rw [hb2.cell (p := ⟨w.heap.size + 1 + 1 + 1, 0, none⟩) (World.block_lt_of_cell? w1 _ f2)]; exact f2
  have g3 : w2.cell? ⟨w.heap.size + 1 + 1 + 1 + 1, 0, none⟩ = some (.int .i64 4294967295) := by rw [hb2.cell (p := ⟨w.heap.size + 1 + 1 + 1 + 1, 0, none⟩) (World.block_lt_of_cell? w1 _ f3)]; exact f3
  have HB2 : Hid (Below w.heap.size w w2) := HB1.out.trans (hb2.mono HB1.out.size)
  clear hb2 R1 k0 k1 f0 f1 f2 f3
  go_wp2
  go_ret
  exact ⟨ret_bool HS.out, HB2.out⟩
set_option maxHeartbeats 1600000 in
theorem isgood_f1 (r : Rul) (w : World) (hr : r.A < 4294967296) (h0 : rightB r.A r.L = true) (h1 : ftB 0 32 r.mn = false) :
    Calls Try.prog 17 #[ruleV r] w fun e w' => e = .returned (.bool (goodR r)) ∧ Below w.heap.size w w' := by
  have HS : Hid (false = goodR r) := by show _ = _; unfold goodR; rw [h0, h1]; rfl
  have H0 := hide h0
  have H1 := hide h1
  clear h0 h1
  unfold ruleV
  go_enter Try.func17, Try.ntmps17
  go_wp2_with fail
  refine (fromto_any 0 32 _).mono ?_
  rintro e w0 ⟨rfl, rfl⟩
  go_wp2_with fail
  refine (fromto_any (-1) 4294967295 _).mono ?_
  rintro e w1 ⟨rfl, hw⟩
  have HB1 : Hid (Below w.heap.size w w1) := by show Below _ _ _; rw [hw]; exact ((((((Below.refl _ _).alloc (Nat.le_refl _) _).alloc (by simp) _).alloc (by simp <;> omega) _)).alloc (by simp <;> omega) _).alloc (by simp <;> omega) _
  have R1 : RulAt w1 w.heap.size 0 r := by
    rw [hw]
    exact ((((box_rule w r 32).below ((Below.refl _ _).alloc (Nat.le_refl _) _) (Nat.le_refl _)).below ((Below.refl _ _).alloc (Nat.le_refl _) _) (Nat.le_refl _)).below ((Below.refl _ _).alloc (Nat.le_refl _) _) (Nat.le_refl _)).below ((Below.refl _ _).alloc (Nat.le_refl _) _) (Nat.le_refl _)
  have f0 : w1.cell? ⟨w.heap.size + 1, 0, none⟩ = some (.int .i64 0) := by rw [hw]; simp [go_sem]
  have f1 : w1.cell? ⟨w.heap.size + 1 + 1, 0, none⟩ = some (.int .i64 32) := by rw [hw]; simp [go_sem]
  have f2 : w1.cell? ⟨w.heap.size + 1 + 1 + 1, 0, none⟩ = some (.int .i64 (-1)) := by rw [hw]; simp [go_sem]
  have f3 : w1.cell? ⟨w.heap.size + 1 + 1 + 1 + 1, 0, none⟩ = some (.int .i64 4294967295) := by rw [hw]; simp [go_sem]
  clear hw
  have k0 := R1.c0
  have k1 := R1.c1
  have ec := Try.call24
  go_wp2_with fail
  refine (pright_is w1 hr H0.out).mono ?_
  rintro e w2 ⟨rfl, hb2⟩
  have R2 := R1.below hb2 (Nat.le_refl _)
  have k2 := R2.c2
  have k3 := R2.c3
  have k5 := R2.c5
  have g0 : w2.cell? ⟨w.heap.size + 1, 0, none⟩ = some (.int .i64 0) := by rw [hb2.cell (p := ⟨w.heap.size + 1, 0, none⟩) (World.block_lt_of_cell? w1 _ f0)]; exact f0
  have g1 : w2.cell? ⟨w.heap.size + 1 + 1, 0, none⟩ = some (.int .i64 32) := by rw [hb2.cell (p := ⟨w.heap.size + 1 + 1, 0, none⟩) (World.block_lt_of_cell? w1 _ f1)]; exact f1
  have g2 : w2.cell? ⟨w.heap.size + 1 + 1 + 1, 0, none⟩ = some (.int .i64 (-1)) := by rw [hb2.cell (p := ⟨w.heap.size + 1 + 1 + 1, 0, none⟩) (World.block_lt_of_cell? w1 _ f2)]; exact f2
  have g3 : w2.cell? ⟨w.heap.size + 1 + 1 + 1 + 1, 0, none⟩ = some (.int .i64 4294967295) := by rw [hb2.cell (p := ⟨w.heap.size + 1 + 1 + 1 + 1, 0, none⟩) (World.block_lt_of_cell? w1 _ f3)]; exact f3
  have HB2 : Hid (Below w.heap.size w w2) := HB1.out.trans (hb2.mono HB1.out.size)
  clear hb2 R1 k0 k1 f0 f1 f2 f3
  go_wp2_with fail
  refine (fromto1_is _ g0 g1 H1.out).mono ?_
  rintro e wz ⟨rfl, rfl⟩
  go_wp2
  go_ret
  exact ⟨ret_bool HS.out, HB2.out⟩
set_option maxHeartbeats 1600000 in
theorem isgood_f2 (r : Rul) (w : World) (hr : r.A < 4294967296) (h0 : rightB r.A r.L = true) (h1 : ftB 0 32 r.mn = true) (h2 : ftB 0 32 r.mx = false) :
    Calls Try.prog 17 #[ruleV r] w fun e w' => e = .returned (.bool (goodR r)) ∧ Below w.heap.size w w' := by
  have HS : Hid (false = goodR r) := by show _ = _; unfold goodR; rw [h0, h1, h2]; rfl
  have H0 := hide h0
  have H1 := hide h1
  have H2 := hide h2
  clear h0 h1 h2
  unfold ruleV
  go_enter Try.func17, Try.ntmps17
  go_wp2_with fail
  refine (fromto_any 0 32 _).mono ?_
  rintro e w0 ⟨rfl, rfl⟩
  go_wp2_with fail
  refine (fromto_any (-1) 4294967295 _).mono ?_
  rintro e w1 ⟨rfl, hw⟩
  have HB1 : Hid (Below w.heap.size w w1) := by show Below _ _ _; rw [hw]; exact ((((((Below.refl _ _).alloc (Nat.le_refl _) _).alloc (by simp) _).alloc (by simp <;> omega) _)).alloc (by simp <;> omega) _).alloc (by simp <;> omega) _
  have R1 : RulAt w1 w.heap.size 0 r := by
    rw [hw]
    exact ((((box_rule w r 32).below ((Below.refl _ _).alloc (Nat.le_refl _) _) (Nat.le_refl _)).below ((Below.refl _ _).alloc (Nat.le_refl _) _) (Nat.le_refl _)).below ((Below.refl _ _).alloc (Nat.le_refl _) _) (Nat.le_refl _)).below ((Below.refl _ _).alloc (Nat.le_refl _) _) (Nat.le_refl _)
  have f0 : w1.cell? ⟨w.heap.size + 1, 0, none⟩ = some (.int .i64 0) := by rw [hw]; simp [go_sem]
  have f1 : w1.cell? ⟨w.heap.size + 1 + 1, 0, none⟩ = some (.int .i64 32) := by rw [hw]; simp [go_sem]
  have f2 : w1.cell? ⟨w.heap.size + 1 + 1 + 1, 0, none⟩ = some (.int .i64 (-1)) := by rw [hw]; simp [go_sem]
  have f3 : w1.cell? ⟨w.heap.size + 1 + 1 + 1 + 1, 0, none⟩ = some (.int .i64 4294967295) := by rw [hw]; simp [go_sem]
  clear hw
  have k0 := R1.c0
  have k1 := R1.c1
  have ec := Try.call24
  go_wp2_with fail
  refine (pright_is w1 hr H0.out).mono ?_
  rintro e w2 ⟨rfl, hb2⟩
  have R2 := R1.below hb2 (Nat.le_refl _)
  have k2 := R2.c2
  have k3 := R2.c3
  have k5 := R2.c5
  have g0 : w2.cell? ⟨w.heap.size + 1, 0, none⟩ = some (.int .i64 0) := by rw [hb2.cell (p := ⟨w.heap.size + 1, 0, none⟩) (World.block_lt_of_cell? w1 _ f0)]; exact f0
  have g1 : w2.cell? ⟨w.heap.size + 1 + 1, 0, none⟩ = some (.int .i64 32) := by rw [hb2.cell (p := ⟨w.heap.size + 1 + 1, 0, none⟩) (World.block_lt_of_cell? w1 _ f1)]; exact f1
  have g2 : w2.cell? ⟨w.heap.size + 1 + 1 + 1, 0, none⟩ = some (.int .i64 (-1)) := by rw [hb2.cell (p := ⟨w.heap.size + 1 + 1 + 1, 0, none⟩) (World.block_lt_of_cell? w1 _ f2)]; exact f2
  have g3 : w2.cell? ⟨w.heap.size + 1 + 1 + 1 + 1, 0, none⟩ = some (.int .i64 4294967295) := by rw [hb2.cell (p := ⟨w.heap.size + 1 + 1 + 1 + 1, 0, none⟩) (World.block_lt_of_cell? w1 _ f3)]; exact f3
  have HB2 : Hid (Below w.heap.size w w2) := HB1.out.trans (hb2.mono HB1.out.size)
  clear hb2 R1 k0 k1 f0 f1 f2 f3
  go_wp2_with fail
  refine (fromto1_is _ g0 g1 H1.out).mono ?_
  rintro e wz ⟨rfl, rfl⟩
  go_wp2_with fail
  refine (fromto1_is _ g0 g1 H2.out).mono ?_
  rintro e wz ⟨rfl, rfl⟩
  go_wp2
  go_ret
  exact ⟨ret_bool HS.out, HB2.out⟩
set_option maxHeartbeats 1600000 in
theorem isgood_t (r : Rul) (w : World) (hr : r.A < 4294967296) (h0 : rightB r.A r.L = true) (h1 : ftB 0 32 r.mn = true) (h2 : ftB 0 32 r.mx = true) :
    Calls Try.prog 17 #[ruleV r] w fun e w' => e = .returned (.bool (goodR r)) ∧ Below w.heap.size w w' := by
  have HS : Hid (ftB (-1) 4294967295 r.pf = goodR r) := by show _ = _; unfold goodR; rw [h0, h1, h2]; rfl
  have H0 := hide h0
  have H1 := hide h1
  have H2 := hide h2
  clear h0 h1 h2
  unfold ruleV
  go_enter Try.func17, Try.ntmps17
  go_wp2_with fail
  refine (fromto_any 0 32 _).mono ?_
  rintro e w0 ⟨rfl, rfl⟩
  go_wp2_with fail
  refine (fromto_any (-1) 4294967295 _).mono ?_
  rintro e w1 ⟨rfl, hw⟩
  have HB1 : Hid (Below w.heap.size w w1) := by show Below _ _ _; rw [hw]; exact ((((((Below.refl _ _).alloc (Nat.le_refl _) _).alloc (by simp) _).alloc (by simp <;> omega) _)).alloc (by simp <;> omega) _).alloc (by simp <;> omega) _
  have R1 : RulAt w1 w.heap.size 0 r := by
    rw [hw]
    exact ((((box_rule w r 32).below ((Below.refl _ _).alloc (Nat.le_refl _) _) (Nat.le_refl _)).below ((Below.refl _ _).alloc (Nat.le_refl _) _) (Nat.le_refl _)).below ((Below.refl _ _).alloc (Nat.le_refl _) _) (Nat.le_refl _)).below ((Below.refl _ _).alloc (Nat.le_refl _) _) (Nat.le_refl _)
  have f0 : w1.cell? ⟨w.heap.size + 1, 0, none⟩ = some (.int .i64 0) := by rw [hw]; simp [go_sem]
  have f1 : w1.cell? ⟨w.heap.size + 1 + 1, 0, none⟩ = some (.int .i64 32) := by rw [hw]; simp [go_sem]
  have f2 : w1.cell? ⟨w.heap.size + 1 + 1 + 1, 0, none⟩ = some (.int .i64 (-1)) := by rw [hw]; simp [go_sem]
  have f3 : w1.cell? ⟨w.heap.size + 1 + 1 + 1 + 1, 0, none⟩ = some (.int .i64 4294967295) := by rw [hw]; simp [go_sem]
  clear hw
  have k0 := R1.c0
  have k1 := R1.c1
  have ec := Try.call24
  go_wp2_with fail
  refine (pright_is w1 hr H0.out).mono ?_
  rintro e w2 ⟨rfl, hb2⟩
  have R2 := R1.below hb2 (Nat.le_refl _)
  have k2 := R2.c2
  have k3 := R2.c3
  have k5 := R2.c5
  have g0 : w2.cell? ⟨w.heap.size + 1, 0, none⟩ = some (.int .i64 0) := by rw [hb2.cell (p := ⟨w.heap.size + 1, 0, none⟩) (World.block_lt_of_cell? w1 _ f0)]; exact f0
  have g1 : w2.cell? ⟨w.heap.size + 1 + 1, 0, none⟩ = some (.int .i64 32) := by rw [hb2.cell (p := ⟨w.heap.size + 1 + 1, 0, none⟩) (World.block_lt_of_cell? w1 _ f1)]; exact f1
  have g2 : w2.cell? ⟨w.heap.size + 1 + 1 + 1, 0, none⟩ = some (.int .i64 (-1)) := by rw [hb2.cell (p := ⟨w.heap.size + 1 + 1 + 1, 0, none⟩) (World.block_lt_of_cell? w1 _ f2)]; exact f2
  have g3 : w2.cell? ⟨w.heap.size + 1 + 1 + 1 + 1, 0, none⟩ = some (.int .i64 4294967295) := by rw [hb2.cell (p := ⟨w.heap.size + 1 + 1 + 1 + 1, 0, none⟩) (World.block_lt_of_cell? w1 _ f3)]; exact f3
  have HB2 : Hid (Below w.heap.size w w2) := HB1.out.trans (hb2.mono HB1.out.size)
  clear hb2 R1 k0 k1 f0 f1 f2 f3
  go_wp2_with fail
  refine (fromto1_is _ g0 g1 H1.out).mono ?_
  rintro e wz ⟨rfl, rfl⟩
  go_wp2_with fail
  refine (fromto1_is _ g0 g1 H2.out).mono ?_
  rintro e wz ⟨rfl, rfl⟩
  go_wp2_with fail
  refine (fromto1_is _ g2 g3 HS.out).mono ?_
  rintro e wz ⟨rfl, rfl⟩
  go_wp2
  go_ret
  exact ⟨rfl, HB2.out⟩
theorem isgood_any (r : Rul) (w : World) (hr : r.A < 4294967296) : Calls Try.prog 17 #[ruleV r] w fun e w' => e = .returned (.bool (goodR r)) ∧ Below w.heap.size w w' := by
  cases h0 : rightB r.A r.L with
  | false => exact isgood_f0 r w hr h0
  | true =>
    cases h1 : ftB 0 32 r.mn with
    | false => exact isgood_f1 r w hr h0 h1
    | true =>
      cases h2 : ftB 0 32 r.mx with
      | false => exact isgood_f2 r w hr h0 h1 h2
      | true => exact isgood_t r w hr h0 h1 h2
set_option maxHeartbeats 400000 in
theorem not_any (w : World) : Calls Try.prog 16 #[.func (.func 17) #[] #[]] w fun e w' => e = .returned (.func (.func 22) #[] #[.pointer (some ⟨w.heap.size, 0, none⟩)]) ∧ w' = w.alloc (.cells #[.func (.func 17) #[] #[]] 38) := by
  go_enter Try.func16, Try.ntmps16
  go_wp2
  go_ret
  exact ⟨rfl, rfl⟩
set_option maxHeartbeats 800000 in
theorem not1_any (r : Rul) (x : Nat) (w : World) (hr : r.A < 4294967296) (hx : w.cell? ⟨x, 0, none⟩ = some (.func (.func 17) #[] #[])) :
    Calls Try.prog 22 #[ruleV r, .pointer (some ⟨x, 0, none⟩)] w fun e w' => e = .returned (.bool (!goodR r)) ∧ Below w.heap.size w w' := by
  have hl := World.block_lt_of_cell? w _ hx
  simp only at hl
  have K := hide (isgood_any r (w.alloc (.cells #[.int .u32 (r.A : Int), .int .i64 r.L, .int .i64 r.mn, .int .i64 r.mx, .bool r.d, .int .i64 r.pf] 32)) hr)
  have ec := Try.call17
  unfold ruleV at K ⊢
  go_enter Try.func22, Try.ntmps22
  go_wp2_with fail
  refine K.out.mono ?_
  rintro e w1 ⟨rfl, hb⟩
  have HB := hide hb
  clear hb
  go_wp2
  go_ret
  exact ⟨rfl, ((Below.refl _ _).alloc (Nat.le_refl _) _).trans (HB.out.mono (by simp))⟩
theorem idx_all (l : List Rul) : decide ((0 : Int) ≤ idxR (fun r => !goodR r) l) = !l.all goodR := by
  rcases first_or (fun r => !goodR r) l with h | ⟨k, r, hk, hf, h⟩
  · rw [idxR_none h]
    have : l.all goodR = true := List.all_eq_true.2 fun x hx => by
      obtain ⟨i, hi⟩ := List.mem_iff_getElem?.1 hx
      simpa using h i x hi
    rw [this]; rfl
  · rw [idxR_some hk hf h]
    have : l.all goodR = false := by
      rw [List.all_eq_false]
      exact ⟨r, List.mem_iff_getElem?.2 ⟨k, hk⟩, by simpa using hf⟩
    rw [this]
    simp
set_option maxHeartbeats 800000 in
theorem cont_any (a : Option Addr) (n c x : Nat) (l : List Rul) (w : World) (hn : n ≤ 1000) (hl : l.length = n) (hr : RulesIn w a l) (hx : w.cell? ⟨x, 0, none⟩ = some (.func (.func 17) #[] #[])) :
    Calls Try.prog 15 #[.slice a n c, .func (.func 22) #[] #[.pointer (some ⟨x, 0, none⟩)]] w fun e w' => e = .returned (.bool (!l.all goodR)) ∧ Below w.heap.size w w' := by
  have K := hide (idx_any a n c 22 #[.pointer (some ⟨x, 0, none⟩)] (fun r => !goodR r) l w hn hl hr Try.call22 (fun i r hir w1 hb1 => not1_any r x w1 (hr.lt i r hir) (by rw [hb1.cell (p := ⟨x, 0, none⟩) (World.block_lt_of_cell? w _ hx)]; exact hx)))
  have HE := hide (idx_all l)
  clear hx hr
  go_enter Try.func15, Try.ntmps15
  go_wp2_with fail
  refine K.out.mono ?_
  rintro e w1 ⟨rfl, hb⟩
  have HB := hide hb
  clear hb
  go_wp2
  go_ret
  exact ⟨ret_bool HE.out, HB.out⟩
set_option maxHeartbeats 800000 in
theorem good_any (a : Option Addr) (n c : Nat) (l : List Rul) (w : World) (hn : n ≤ 1000) (hl : l.length = n) (hr : RulesIn w a l) :
    Calls Try.prog 9 #[.slice a n c] w fun e w' => e = .returned (.bool (goodL l)) ∧ Below w.heap.size w w' := by
  by_cases h : n ≤ 16
  · have HV : Hid (l.all goodR = goodL l) := by show _ = _; unfold goodL; rw [hl, decide_eq_true h]; rfl
    have hbw : Below w.heap.size w (w.alloc (.cells #[.func (.func 17) #[] #[]] 38)) := (Below.refl _ _).alloc (Nat.le_refl _) _
    have K := hide (cont_any a n c w.heap.size l _ hn hl (hr.below hbw (Nat.le_refl _)) (by simp [go_sem]))
    have HBW := hide hbw
    clear hbw hr hl
    have h2 : (n : Int) ≤ 16 := by omega
    clear h
    go_enter Try.func9, Try.ntmps9
    go_wp2_with fail
    refine (not_any w).mono ?_
    rintro e w1 ⟨rfl, rfl⟩
    go_wp2_with fail
    refine K.out.mono ?_
    rintro e w2 ⟨rfl, hb⟩
    have HB : Hid (Below w.heap.size w w2) := HBW.out.trans (hb.mono (by simp))
    clear hb
    go_wp2
    go_ret
    exact ⟨ret_bool (by rw [← HV.out]), HB.out⟩
  · have HV : Hid (false = goodL l) := by show _ = _; unfold goodL; rw [hl, decide_eq_false h]; rfl
    have h2 : decide ((n : Int) ≤ 16) = false := decide_eq_false (by omega)
    clear h hr hl
    go_enter Try.func9, Try.ntmps9
    go_wp2
    go_ret
    exact ⟨ret_bool HV.out, Below.refl _ _⟩
end Go.Proofs.Ytejbajjkbjaadaa
