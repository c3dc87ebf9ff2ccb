/- The document's GoodRules. -/
import Derived.Test.YtejbajjkbjaadaaPoD
namespace Go.Proofs.Ytejbajjkbjaadaa
open Go.RowKit
set_option maxRecDepth 100000

theorem ftB_lo {lo hi n : Int} (h : n < lo) : ftB lo hi n = false := by unfold ftB; rw [decide_eq_false (by omega)]; rfl
theorem ftB_hi {lo hi n : Int} (h : hi < n) : ftB lo hi n = false := by unfold ftB; rw [decide_eq_false (show ¬ n ≤ hi by omega)]; simp
theorem ftB_in {lo hi n : Int} (h : ¬ n < lo) (h2 : ¬ hi < n) : ftB lo hi n = true := by unfold ftB; rw [decide_eq_true (by omega), decide_eq_true (by omega)]; rfl
theorem goodR_mn {r : Rul} (h : ftB 0 32 r.mn = false) : goodR r = false := by unfold goodR; rw [h]; simp
theorem goodR_mx {r : Rul} (h : ftB 0 32 r.mx = false) : goodR r = false := by unfold goodR; rw [h]; simp
theorem goodR_pf {r : Rul} (h : ftB (-1) 4294967295 r.pf = false) : goodR r = false := by unfold goodR; rw [h]; simp
theorem goodR_rt {r : Rul} (h : rightB r.A r.L = false) : goodR r = false := by unfold goodR; rw [h]; rfl
theorem goodL_no {l : List Rul} {j : Nat} {r : Rul} (hr : l[j]? = some r) (h : goodR r = false) : goodL l = false := by
  have : l.all goodR = false := by
    rw [List.all_eq_false]
    exact ⟨r, List.mem_iff_getElem?.2 ⟨j, hr⟩, by simp [h]⟩
  unfold goodL
  rw [this]
  simp
theorem goodL_yes {l : List Rul} {n : Nat} (hl : l.length = n) (h : ∀ (q : Nat) (r : Rul), q < n → l[q]? = some r → goodR r = true) : goodL l = decide ((n : Int) ≤ 16) := by
  have : l.all goodR = true := List.all_eq_true.2 fun x hx => by
    obtain ⟨i, hi⟩ := List.mem_iff_getElem?.1 hx
    exact h i x (by have := (List.getElem?_eq_some_iff.1 hi).1; omega) hi
  unfold goodL
  rw [this, hl, Bool.and_true, decide_eq_decide]
  omega
theorem all_more {f : Rul → Bool} {l : List Rul} {j : Nat} {r : Rul} (h : ∀ (q : Nat) (r : Rul), q < j → l[q]? = some r → f r = true) (hr : l[j]? = some r) (hf : f r = true) : ∀ (q : Nat) (r : Rul), q < j + 1 → l[q]? = some r → f r = true := fun q r' hq hr' => by
  by_cases e : q = j
  · subst e
    rw [hr'] at hr
    cases hr
    exact hf
  · exact h q r' (by omega) hr'
set_option maxHeartbeats 400000 in
theorem rgood_empty (a : Option Addr) (c : Nat) (w : World) :
    Calls Try.prog 10 #[.slice a 0 c] w fun e w' => e = .returned (.bool true) ∧ Below w.heap.size w w' := by
  go_enter Try.func10, Try.ntmps10
  go_wp2
  go_loopw [3] (fun i wq => i = .int .i64 0 ∧ Hid (Below w.heap.size w wq)) (fun i _ => 0 - (intOf i).toNat)
  case atStart => exact ⟨rfl, Below.refl _ _⟩
  case round =>
    obtain ⟨rfl, HB⟩ := hrel
    go_wp2
    go_ret
    exact ⟨rfl, HB.out⟩
set_option maxHeartbeats 3200000 in
theorem rgood_some (g o n c : Nat) (l : List Rul) (w : World) (hn : n ≤ 1000) (hl : l.length = n) (hr : RulesRd w g o l) :
    Calls Try.prog 10 #[.slice (some ⟨g, o, none⟩) n c] w fun e w' => e = .returned (.bool (goodL l)) ∧ Below w.heap.size w w' := by
  have HL := hide hl
  have HR := hide hr
  clear hl hr
  go_enter Try.func10, Try.ntmps10
  go_wp2
  go_loopw [3] (fun i wq => ∃ j : Nat, j ≤ n ∧ i = .int .i64 j ∧ Hid (∀ (q : Nat) (r : Rul), q < j → l[q]? = some r → goodR r = true) ∧ Hid (Below w.heap.size w wq)) (fun i _ => n - (intOf i).toNat)
  case atStart => exact ⟨0, Nat.zero_le _, rfl, fun q r hq => absurd hq (by omega), Below.refl _ _⟩
  case round =>
    obtain ⟨j, hj, rfl, HA, HB⟩ := hrel
    by_cases hlt : j < n
    · obtain ⟨r, hr⟩ : ∃ r, l[j]? = some r := ⟨l[j]'(by rw [HL.out]; exact hlt), List.getElem?_eq_getElem _⟩
      have R := (HR.out j r hr).1.below HB.out (Nat.le_refl _)
      have c0 := R.c0
      have c1 := R.c1
      have c2 := R.c2
      have c3 := R.c3
      have c4 := R.c4
      have c5 := R.c5
      have hk0 : (0 : Int) ≤ (j : Int) := Int.natCast_nonneg _
      have hk1 : (j : Int) < (n : Int) := by omega
      have HRJ := hide hr
      clear hr R
      cases hrt : rightB r.A r.L with
      | false =>
        have HRT := hide hrt
        have HV : Hid (false = goodL l) := (goodL_no HRJ.out (goodR_rt hrt)).symm
        clear hrt
        go_wp2_with fail
        refine (rright_is _ HRT.out).mono ?_
        rintro e w2 ⟨rfl, hb2⟩
        have HB2 : Hid (Below w.heap.size w w2) := (HB.out.alloc HB.out.size _).trans (hb2.mono (by have := HB.out.size; simp; omega))
        have d2 : w2.cell? ⟨wr.heap.size, 2, none⟩ = some (.int .i64 r.mn) := by rw [hb2.cell (p := ⟨wr.heap.size, 2, none⟩) (by simp)]; simp [go_sem]
        have d3 : w2.cell? ⟨wr.heap.size, 3, none⟩ = some (.int .i64 r.mx) := by rw [hb2.cell (p := ⟨wr.heap.size, 3, none⟩) (by simp)]; simp [go_sem]
        have d5 : w2.cell? ⟨wr.heap.size, 5, none⟩ = some (.int .i64 r.pf) := by rw [hb2.cell (p := ⟨wr.heap.size, 5, none⟩) (by simp)]; simp [go_sem]
        have z2 : wr.heap.size < w2.heap.size := World.block_lt_of_cell? w2 _ d2
        clear hb2 c0 c1 c2 c3 c4 c5
        go_wp2
        go_ret
        exact ⟨ret_bool HV.out, HB2.out⟩
      | true =>
        have HRT := hide hrt
        clear hrt
        by_cases t0 : r.mn < 0
        · have HV : Hid (false = goodL l) := (goodL_no HRJ.out (goodR_mn (ftB_lo t0))).symm
          go_wp2_with fail
          refine (rright_is _ HRT.out).mono ?_
          rintro e w2 ⟨rfl, hb2⟩
          have HB2 : Hid (Below w.heap.size w w2) := (HB.out.alloc HB.out.size _).trans (hb2.mono (by have := HB.out.size; simp; omega))
          have d2 : w2.cell? ⟨wr.heap.size, 2, none⟩ = some (.int .i64 r.mn) := by rw [hb2.cell (p := ⟨wr.heap.size, 2, none⟩) (by simp)]; simp [go_sem]
          have d3 : w2.cell? ⟨wr.heap.size, 3, none⟩ = some (.int .i64 r.mx) := by rw [hb2.cell (p := ⟨wr.heap.size, 3, none⟩) (by simp)]; simp [go_sem]
          have d5 : w2.cell? ⟨wr.heap.size, 5, none⟩ = some (.int .i64 r.pf) := by rw [hb2.cell (p := ⟨wr.heap.size, 5, none⟩) (by simp)]; simp [go_sem]
          have z2 : wr.heap.size < w2.heap.size := World.block_lt_of_cell? w2 _ d2
          clear hb2 c0 c1 c2 c3 c4 c5
          go_wp2
          go_ret
          exact ⟨ret_bool HV.out, HB2.out⟩
        have n0 := hide t0
        have e0 : decide (r.mn < 0) = false := decide_eq_false t0
        clear t0
        by_cases t1 : 32 < r.mn
        · have HV : Hid (false = goodL l) := (goodL_no HRJ.out (goodR_mn (ftB_hi t1))).symm
          go_wp2_with fail
          refine (rright_is _ HRT.out).mono ?_
          rintro e w2 ⟨rfl, hb2⟩
          have HB2 : Hid (Below w.heap.size w w2) := (HB.out.alloc HB.out.size _).trans (hb2.mono (by have := HB.out.size; simp; omega))
          have d2 : w2.cell? ⟨wr.heap.size, 2, none⟩ = some (.int .i64 r.mn) := by rw [hb2.cell (p := ⟨wr.heap.size, 2, none⟩) (by simp)]; simp [go_sem]
          have d3 : w2.cell? ⟨wr.heap.size, 3, none⟩ = some (.int .i64 r.mx) := by rw [hb2.cell (p := ⟨wr.heap.size, 3, none⟩) (by simp)]; simp [go_sem]
          have d5 : w2.cell? ⟨wr.heap.size, 5, none⟩ = some (.int .i64 r.pf) := by rw [hb2.cell (p := ⟨wr.heap.size, 5, none⟩) (by simp)]; simp [go_sem]
          have z2 : wr.heap.size < w2.heap.size := World.block_lt_of_cell? w2 _ d2
          clear hb2 c0 c1 c2 c3 c4 c5
          go_wp2
          go_ret
          exact ⟨ret_bool HV.out, HB2.out⟩
        have n1 := hide t1
        have e1 : decide (32 < r.mn) = false := decide_eq_false t1
        clear t1
        by_cases t2 : r.mx < 0
        · have HV : Hid (false = goodL l) := (goodL_no HRJ.out (goodR_mx (ftB_lo t2))).symm
          go_wp2_with fail
          refine (rright_is _ HRT.out).mono ?_
          rintro e w2 ⟨rfl, hb2⟩
          have HB2 : Hid (Below w.heap.size w w2) := (HB.out.alloc HB.out.size _).trans (hb2.mono (by have := HB.out.size; simp; omega))
          have d2 : w2.cell? ⟨wr.heap.size, 2, none⟩ = some (.int .i64 r.mn) := by rw [hb2.cell (p := ⟨wr.heap.size, 2, none⟩) (by simp)]; simp [go_sem]
          have d3 : w2.cell? ⟨wr.heap.size, 3, none⟩ = some (.int .i64 r.mx) := by rw [hb2.cell (p := ⟨wr.heap.size, 3, none⟩) (by simp)]; simp [go_sem]
          have d5 : w2.cell? ⟨wr.heap.size, 5, none⟩ = some (.int .i64 r.pf) := by rw [hb2.cell (p := ⟨wr.heap.size, 5, none⟩) (by simp)]; simp [go_sem]
          have z2 : wr.heap.size < w2.heap.size := World.block_lt_of_cell? w2 _ d2
          clear hb2 c0 c1 c2 c3 c4 c5
          go_wp2
          go_ret
          exact ⟨ret_bool HV.out, HB2.out⟩
        have n2 := hide t2
        have e2 : decide (r.mx < 0) = false := decide_eq_false t2
        clear t2
        by_cases t3 : 32 < r.mx
        · have HV : Hid (false = goodL l) := (goodL_no HRJ.out (goodR_mx (ftB_hi t3))).symm
          go_wp2_with fail
          refine (rright_is _ HRT.out).mono ?_
          rintro e w2 ⟨rfl, hb2⟩
          have HB2 : Hid (Below w.heap.size w w2) := (HB.out.alloc HB.out.size _).trans (hb2.mono (by have := HB.out.size; simp; omega))
          have d2 : w2.cell? ⟨wr.heap.size, 2, none⟩ = some (.int .i64 r.mn) := by rw [hb2.cell (p := ⟨wr.heap.size, 2, none⟩) (by simp)]; simp [go_sem]
          have d3 : w2.cell? ⟨wr.heap.size, 3, none⟩ = some (.int .i64 r.mx) := by rw [hb2.cell (p := ⟨wr.heap.size, 3, none⟩) (by simp)]; simp [go_sem]
          have d5 : w2.cell? ⟨wr.heap.size, 5, none⟩ = some (.int .i64 r.pf) := by rw [hb2.cell (p := ⟨wr.heap.size, 5, none⟩) (by simp)]; simp [go_sem]
          have z2 : wr.heap.size < w2.heap.size := World.block_lt_of_cell? w2 _ d2
          clear hb2 c0 c1 c2 c3 c4 c5
          go_wp2
          go_ret
          exact ⟨ret_bool HV.out, HB2.out⟩
        have n3 := hide t3
        have e3 : decide (32 < r.mx) = false := decide_eq_false t3
        clear t3
        by_cases t4 : r.pf < -1
        · have HV : Hid (false = goodL l) := (goodL_no HRJ.out (goodR_pf (ftB_lo t4))).symm
          go_wp2_with fail
          refine (rright_is _ HRT.out).mono ?_
          rintro e w2 ⟨rfl, hb2⟩
          have HB2 : Hid (Below w.heap.size w w2) := (HB.out.alloc HB.out.size _).trans (hb2.mono (by have := HB.out.size; simp; omega))
          have d2 : w2.cell? ⟨wr.heap.size, 2, none⟩ = some (.int .i64 r.mn) := by rw [hb2.cell (p := ⟨wr.heap.size, 2, none⟩) (by simp)]; simp [go_sem]
          have d3 : w2.cell? ⟨wr.heap.size, 3, none⟩ = some (.int .i64 r.mx) := by rw [hb2.cell (p := ⟨wr.heap.size, 3, none⟩) (by simp)]; simp [go_sem]
          have d5 : w2.cell? ⟨wr.heap.size, 5, none⟩ = some (.int .i64 r.pf) := by rw [hb2.cell (p := ⟨wr.heap.size, 5, none⟩) (by simp)]; simp [go_sem]
          have z2 : wr.heap.size < w2.heap.size := World.block_lt_of_cell? w2 _ d2
          clear hb2 c0 c1 c2 c3 c4 c5
          go_wp2
          go_ret
          exact ⟨ret_bool HV.out, HB2.out⟩
        have n4 := hide t4
        have e4 : decide (r.pf < -1) = false := decide_eq_false t4
        clear t4
        by_cases t5 : 4294967295 < r.pf
        · have HV : Hid (false = goodL l) := (goodL_no HRJ.out (goodR_pf (ftB_hi t5))).symm
          go_wp2_with fail
          refine (rright_is _ HRT.out).mono ?_
          rintro e w2 ⟨rfl, hb2⟩
          have HB2 : Hid (Below w.heap.size w w2) := (HB.out.alloc HB.out.size _).trans (hb2.mono (by have := HB.out.size; simp; omega))
          have d2 : w2.cell? ⟨wr.heap.size, 2, none⟩ = some (.int .i64 r.mn) := by rw [hb2.cell (p := ⟨wr.heap.size, 2, none⟩) (by simp)]; simp [go_sem]
          have d3 : w2.cell? ⟨wr.heap.size, 3, none⟩ = some (.int .i64 r.mx) := by rw [hb2.cell (p := ⟨wr.heap.size, 3, none⟩) (by simp)]; simp [go_sem]
          have d5 : w2.cell? ⟨wr.heap.size, 5, none⟩ = some (.int .i64 r.pf) := by rw [hb2.cell (p := ⟨wr.heap.size, 5, none⟩) (by simp)]; simp [go_sem]
          have z2 : wr.heap.size < w2.heap.size := World.block_lt_of_cell? w2 _ d2
          clear hb2 c0 c1 c2 c3 c4 c5
          go_wp2
          go_ret
          exact ⟨ret_bool HV.out, HB2.out⟩
        have n5 := hide t5
        have e5 : decide (4294967295 < r.pf) = false := decide_eq_false t5
        clear t5
        have HG : goodR r = true := by unfold goodR; rw [HRT.out, ftB_in n0.out n1.out, ftB_in n2.out n3.out, ftB_in n4.out n5.out]; rfl
        have HV : Hid (∀ (q : Nat) (r : Rul), q < j + 1 → l[q]? = some r → goodR r = true) := all_more HA.out HRJ.out HG
        clear HG
        go_wp2_with fail
        refine (rright_is _ HRT.out).mono ?_
        rintro e w2 ⟨rfl, hb2⟩
        have HB2 : Hid (Below w.heap.size w w2) := (HB.out.alloc HB.out.size _).trans (hb2.mono (by have := HB.out.size; simp; omega))
        have d2 : w2.cell? ⟨wr.heap.size, 2, none⟩ = some (.int .i64 r.mn) := by rw [hb2.cell (p := ⟨wr.heap.size, 2, none⟩) (by simp)]; simp [go_sem]
        have d3 : w2.cell? ⟨wr.heap.size, 3, none⟩ = some (.int .i64 r.mx) := by rw [hb2.cell (p := ⟨wr.heap.size, 3, none⟩) (by simp)]; simp [go_sem]
        have d5 : w2.cell? ⟨wr.heap.size, 5, none⟩ = some (.int .i64 r.pf) := by rw [hb2.cell (p := ⟨wr.heap.size, 5, none⟩) (by simp)]; simp [go_sem]
        have z2 : wr.heap.size < w2.heap.size := World.block_lt_of_cell? w2 _ d2
        clear hb2 c0 c1 c2 c3 c4 c5
        go_wp2
        exact ⟨⟨j + 1, by omega, by go_num, HV, HB2⟩, by simp [intOf]; omega⟩
    · have HV : Hid (decide ((n : Int) ≤ 16) = goodL l) := (goodL_yes HL.out fun q r hq hr => HA.out q r (by omega) hr).symm
      go_wp2
      go_ret
      exact ⟨ret_bool HV.out, HB.out⟩
theorem rgood_any (a : Option Addr) (n c : Nat) (l : List Rul) (w : World) (hn : n ≤ 1000) (hl : l.length = n) (hr : RulesIn w a l) :
    Calls Try.prog 10 #[.slice a n c] w fun e w' => e = .returned (.bool (goodL l)) ∧ Below w.heap.size w w' := by
  rcases hr with h | ⟨g, o, e, h⟩
  · subst h
    simp at hl
    subst hl
    exact rgood_empty a c w
  · subst e
    exact rgood_some g o n c l w hn hl h
end Go.Proofs.Ytejbajjkbjaadaa
