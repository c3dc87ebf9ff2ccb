/- NegoFirst's ways. -/
import Derived.Test.YtmpnnfbpknfekaaNgF
namespace Go.Proofs.Ytmpnnfbpknfekaa
open Go.RowKit
set_option maxRecDepth 100000

section
variable (ca : Int) (ci cn : Nat) (ch cg cl cs cd n pa : Int) (ia : Option Addr) (il ic : Nat) (oa : Option Addr) (ol oc : Nat) (w : World)
set_option maxHeartbeats 3200000 in
theorem nf0_8 (_ : I64 pa) (hw : ci + 1 < 4294967296) :
    Calls Try.prog 6 #[cfV ⟨ca, ci, cn, ch, cg, cl, cs, cd⟩, pcV n pa ia il ic oa ol oc, .bool true, .bool false, .bool false, .bool false] w fun e w' => e = .returned (.bool true) ∧ Below w.heap.size w w' := by
  have HK : Hid (∀ w, Calls Try.prog 11 #[cfV ⟨ca, ci, cn, ch, cg, cl, cs, cd⟩, pcV n pa ia il ic oa ol oc, opV ⟨pa, 90, ci + 1, false, 0, false, false, 0, false, false, false, 0⟩] w fun e w' => (∃ a9 ln c9, e = .returned (.agg #[.int .i64 2, .int .i64 7, .slice a9 ln c9])) ∧ Below w.heap.size w w') := fun w =>
    (pcheck_any _ n pa ia il ic oa ol oc _ w).mono fun e w' ⟨⟨a9, c9, he, _⟩, hb⟩ => by
      have hk : chkN ⟨ca, ci, cn, ch, cg, cl, cs, cd⟩ pa ⟨pa, 90, ci + 1, false, 0, false, false, 0, false, false, false, 0⟩ = 7 := chk_want ⟨ca, ci, cn, ch, cg, cl, cs, cd⟩ pa (pa) (ci + 1) true false false false (by simp) (fun _ => rfl) (by simp) (fun _ => ⟨by omega, by simp only; omega⟩)
      rw [hk] at he
      exact ⟨⟨_, _, _, he⟩, hb⟩
  have h1 : ¬ (ci : Int) + 1 = 0 := by omega
  have h2 : ((ci : Int) + 1) % 4294967296 = (ci : Int) + 1 := by omega
  simp only [cfV, pcV, opV] at HK ⊢
  go_enter Try.func6, Try.ntmps6
  go_wp2_with fail
  refine (HK.out _).mono ?_
  rintro e w1 ⟨⟨a9, ln, c9, rfl⟩, hb1⟩
  have hb0 := Below.trans ((below_two w _ _).alloc (by simp; omega) _) (hb1.mono (by simp; omega))
  have HB1 := hide hb0
  clear hb1 hb0
  go_wp2_with fail
  refine (answers_any _).mono ?_
  rintro e w2 ⟨rfl, hb2⟩
  obtain ⟨r0, r1, hz⟩ := note_box hb2
  have HB2 := hide (Below.trans ((Below.refl _ _).alloc (Nat.le_refl _) _) (hb2.mono (by simp)))
  clear hb2
  go_wp2
  go_ret
  exact ⟨rfl, HB1.out.trans (HB2.out.mono HB1.out.size)⟩
set_option maxHeartbeats 3200000 in
theorem nf0_9 (_ : I64 pa) (hw : ci + 1 < 4294967296) :
    Calls Try.prog 6 #[cfV ⟨ca, ci, cn, ch, cg, cl, cs, cd⟩, pcV n pa ia il ic oa ol oc, .bool true, .bool false, .bool false, .bool true] w fun e w' => e = .returned (.bool true) ∧ Below w.heap.size w w' := by
  have HK : Hid (∀ w, Calls Try.prog 11 #[cfV ⟨ca, ci, cn, ch, cg, cl, cs, cd⟩, pcV n pa ia il ic oa ol oc, opV ⟨pa, 1, ci + 1, false, 0, false, false, 0, false, false, false, 0⟩] w fun e w' => (∃ a9 ln c9, e = .returned (.agg #[.int .i64 2, .int .i64 7, .slice a9 ln c9])) ∧ Below w.heap.size w w') := fun w =>
    (pcheck_any _ n pa ia il ic oa ol oc _ w).mono fun e w' ⟨⟨a9, c9, he, _⟩, hb⟩ => by
      have hk : chkN ⟨ca, ci, cn, ch, cg, cl, cs, cd⟩ pa ⟨pa, 1, ci + 1, false, 0, false, false, 0, false, false, false, 0⟩ = 7 := chk_want ⟨ca, ci, cn, ch, cg, cl, cs, cd⟩ pa (pa) (ci + 1) true false false true (by simp) (fun _ => rfl) (by simp) (fun _ => ⟨by omega, by simp only; omega⟩)
      rw [hk] at he
      exact ⟨⟨_, _, _, he⟩, hb⟩
  have h1 : ¬ (ci : Int) + 1 = 0 := by omega
  have h2 : ((ci : Int) + 1) % 4294967296 = (ci : Int) + 1 := by omega
  simp only [cfV, pcV, opV] at HK ⊢
  go_enter Try.func6, Try.ntmps6
  go_wp2_with fail
  refine (HK.out _).mono ?_
  rintro e w1 ⟨⟨a9, ln, c9, rfl⟩, hb1⟩
  have hb0 := Below.trans ((below_two w _ _).alloc (by simp; omega) _) (hb1.mono (by simp; omega))
  have HB1 := hide hb0
  clear hb1 hb0
  go_wp2_with fail
  refine (answers_any _).mono ?_
  rintro e w2 ⟨rfl, hb2⟩
  obtain ⟨r0, r1, hz⟩ := note_box hb2
  have HB2 := hide (Below.trans ((Below.refl _ _).alloc (Nat.le_refl _) _) (hb2.mono (by simp)))
  clear hb2
  go_wp2
  go_ret
  exact ⟨rfl, HB1.out.trans (HB2.out.mono HB1.out.size)⟩
set_option maxHeartbeats 3200000 in
theorem nf0_10 (_ : I64 pa) (hw : ci + 1 < 4294967296) :
    Calls Try.prog 6 #[cfV ⟨ca, ci, cn, ch, cg, cl, cs, cd⟩, pcV n pa ia il ic oa ol oc, .bool true, .bool false, .bool true, .bool false] w fun e w' => e = .returned (.bool true) ∧ Below w.heap.size w w' := by
  have HK : Hid (∀ w, Calls Try.prog 11 #[cfV ⟨ca, ci, cn, ch, cg, cl, cs, cd⟩, pcV n pa ia il ic oa ol oc, opV ⟨pa, 90, ci, false, 0, false, false, 0, false, false, false, 0⟩] w fun e w' => (∃ a9 ln c9, e = .returned (.agg #[.int .i64 2, .int .i64 7, .slice a9 ln c9])) ∧ Below w.heap.size w w') := fun w =>
    (pcheck_any _ n pa ia il ic oa ol oc _ w).mono fun e w' ⟨⟨a9, c9, he, _⟩, hb⟩ => by
      have hk : chkN ⟨ca, ci, cn, ch, cg, cl, cs, cd⟩ pa ⟨pa, 90, ci, false, 0, false, false, 0, false, false, false, 0⟩ = 7 := chk_want ⟨ca, ci, cn, ch, cg, cl, cs, cd⟩ pa (pa) (ci) true false true false (by simp) (fun _ => rfl) (fun _ => rfl) (by simp)
      rw [hk] at he
      exact ⟨⟨_, _, _, he⟩, hb⟩
  have h1 : ¬ (ci : Int) + 1 = 0 := by omega
  have h2 : ((ci : Int) + 1) % 4294967296 = (ci : Int) + 1 := by omega
  simp only [cfV, pcV, opV] at HK ⊢
  go_enter Try.func6, Try.ntmps6
  go_wp2_with fail
  refine (HK.out _).mono ?_
  rintro e w1 ⟨⟨a9, ln, c9, rfl⟩, hb1⟩
  have hb0 := Below.trans ((below_two w _ _).alloc (by simp; omega) _) (hb1.mono (by simp; omega))
  have HB1 := hide hb0
  clear hb1 hb0
  go_wp2_with fail
  refine (answers_any _).mono ?_
  rintro e w2 ⟨rfl, hb2⟩
  obtain ⟨r0, r1, hz⟩ := note_box hb2
  have HB2 := hide (Below.trans ((Below.refl _ _).alloc (Nat.le_refl _) _) (hb2.mono (by simp)))
  clear hb2
  go_wp2
  go_ret
  exact ⟨rfl, HB1.out.trans (HB2.out.mono HB1.out.size)⟩
set_option maxHeartbeats 3200000 in
theorem nf0_11 (_ : I64 pa) (hw : ci + 1 < 4294967296) :
    Calls Try.prog 6 #[cfV ⟨ca, ci, cn, ch, cg, cl, cs, cd⟩, pcV n pa ia il ic oa ol oc, .bool true, .bool false, .bool true, .bool true] w fun e w' => e = .returned (.bool true) ∧ Below w.heap.size w w' := by
  have HK : Hid (∀ w, Calls Try.prog 11 #[cfV ⟨ca, ci, cn, ch, cg, cl, cs, cd⟩, pcV n pa ia il ic oa ol oc, opV ⟨pa, 1, ci, false, 0, false, false, 0, false, false, false, 0⟩] w fun e w' => (∃ a9 ln c9, e = .returned (.agg #[.int .i64 2, .int .i64 7, .slice a9 ln c9])) ∧ Below w.heap.size w w') := fun w =>
    (pcheck_any _ n pa ia il ic oa ol oc _ w).mono fun e w' ⟨⟨a9, c9, he, _⟩, hb⟩ => by
      have hk : chkN ⟨ca, ci, cn, ch, cg, cl, cs, cd⟩ pa ⟨pa, 1, ci, false, 0, false, false, 0, false, false, false, 0⟩ = 7 := chk_want ⟨ca, ci, cn, ch, cg, cl, cs, cd⟩ pa (pa) (ci) true false true true (by simp) (fun _ => rfl) (fun _ => rfl) (by simp)
      rw [hk] at he
      exact ⟨⟨_, _, _, he⟩, hb⟩
  have h1 : ¬ (ci : Int) + 1 = 0 := by omega
  have h2 : ((ci : Int) + 1) % 4294967296 = (ci : Int) + 1 := by omega
  simp only [cfV, pcV, opV] at HK ⊢
  go_enter Try.func6, Try.ntmps6
  go_wp2_with fail
  refine (HK.out _).mono ?_
  rintro e w1 ⟨⟨a9, ln, c9, rfl⟩, hb1⟩
  have hb0 := Below.trans ((below_two w _ _).alloc (by simp; omega) _) (hb1.mono (by simp; omega))
  have HB1 := hide hb0
  clear hb1 hb0
  go_wp2_with fail
  refine (answers_any _).mono ?_
  rintro e w2 ⟨rfl, hb2⟩
  obtain ⟨r0, r1, hz⟩ := note_box hb2
  have HB2 := hide (Below.trans ((Below.refl _ _).alloc (Nat.le_refl _) _) (hb2.mono (by simp)))
  clear hb2
  go_wp2
  go_ret
  exact ⟨rfl, HB1.out.trans (HB2.out.mono HB1.out.size)⟩
set_option maxHeartbeats 3200000 in
theorem nf0_12 (hpa : I64 pa) (hw : ci + 1 < 4294967296) :
    Calls Try.prog 6 #[cfV ⟨ca, ci, cn, ch, cg, cl, cs, cd⟩, pcV n pa ia il ic oa ol oc, .bool true, .bool true, .bool false, .bool false] w fun e w' => e = .returned (.bool true) ∧ Below w.heap.size w w' := by
  have HK : Hid (∀ w, Calls Try.prog 11 #[cfV ⟨ca, ci, cn, ch, cg, cl, cs, cd⟩, pcV n pa ia il ic oa ol oc, opV ⟨wrap64 (pa + 1), 90, ci + 1, false, 0, false, false, 0, false, false, false, 0⟩] w fun e w' => (∃ a9 ln c9, e = .returned (.agg #[.int .i64 2, .int .i64 7, .slice a9 ln c9])) ∧ Below w.heap.size w w') := fun w =>
    (pcheck_any _ n pa ia il ic oa ol oc _ w).mono fun e w' ⟨⟨a9, c9, he, _⟩, hb⟩ => by
      have hk : chkN ⟨ca, ci, cn, ch, cg, cl, cs, cd⟩ pa ⟨wrap64 (pa + 1), 90, ci + 1, false, 0, false, false, 0, false, false, false, 0⟩ = 7 := chk_want ⟨ca, ci, cn, ch, cg, cl, cs, cd⟩ pa (wrap64 (pa + 1)) (ci + 1) true true false false (fun _ => wrap64_ne pa hpa) (by simp) (by simp) (fun _ => ⟨by omega, by simp only; omega⟩)
      rw [hk] at he
      exact ⟨⟨_, _, _, he⟩, hb⟩
  have h1 : ¬ (ci : Int) + 1 = 0 := by omega
  have h2 : ((ci : Int) + 1) % 4294967296 = (ci : Int) + 1 := by omega
  simp only [cfV, pcV, opV] at HK ⊢
  clear hpa
  go_enter Try.func6, Try.ntmps6
  go_wp2_with fail
  refine (HK.out _).mono ?_
  rintro e w1 ⟨⟨a9, ln, c9, rfl⟩, hb1⟩
  have hb0 := Below.trans ((below_two w _ _).alloc (by simp; omega) _) (hb1.mono (by simp; omega))
  have HB1 := hide hb0
  clear hb1 hb0
  go_wp2_with fail
  refine (answers_any _).mono ?_
  rintro e w2 ⟨rfl, hb2⟩
  obtain ⟨r0, r1, hz⟩ := note_box hb2
  have HB2 := hide (Below.trans ((Below.refl _ _).alloc (Nat.le_refl _) _) (hb2.mono (by simp)))
  clear hb2
  go_wp2
  go_ret
  exact ⟨rfl, HB1.out.trans (HB2.out.mono HB1.out.size)⟩
set_option maxHeartbeats 3200000 in
theorem nf0_13 (hpa : I64 pa) (hw : ci + 1 < 4294967296) :
    Calls Try.prog 6 #[cfV ⟨ca, ci, cn, ch, cg, cl, cs, cd⟩, pcV n pa ia il ic oa ol oc, .bool true, .bool true, .bool false, .bool true] w fun e w' => e = .returned (.bool true) ∧ Below w.heap.size w w' := by
  have HK : Hid (∀ w, Calls Try.prog 11 #[cfV ⟨ca, ci, cn, ch, cg, cl, cs, cd⟩, pcV n pa ia il ic oa ol oc, opV ⟨wrap64 (pa + 1), 1, ci + 1, false, 0, false, false, 0, false, false, false, 0⟩] w fun e w' => (∃ a9 ln c9, e = .returned (.agg #[.int .i64 2, .int .i64 7, .slice a9 ln c9])) ∧ Below w.heap.size w w') := fun w =>
    (pcheck_any _ n pa ia il ic oa ol oc _ w).mono fun e w' ⟨⟨a9, c9, he, _⟩, hb⟩ => by
      have hk : chkN ⟨ca, ci, cn, ch, cg, cl, cs, cd⟩ pa ⟨wrap64 (pa + 1), 1, ci + 1, false, 0, false, false, 0, false, false, false, 0⟩ = 7 := chk_want ⟨ca, ci, cn, ch, cg, cl, cs, cd⟩ pa (wrap64 (pa + 1)) (ci + 1) true true false true (fun _ => wrap64_ne pa hpa) (by simp) (by simp) (fun _ => ⟨by omega, by simp only; omega⟩)
      rw [hk] at he
      exact ⟨⟨_, _, _, he⟩, hb⟩
  have h1 : ¬ (ci : Int) + 1 = 0 := by omega
  have h2 : ((ci : Int) + 1) % 4294967296 = (ci : Int) + 1 := by omega
  simp only [cfV, pcV, opV] at HK ⊢
  clear hpa
  go_enter Try.func6, Try.ntmps6
  go_wp2_with fail
  refine (HK.out _).mono ?_
  rintro e w1 ⟨⟨a9, ln, c9, rfl⟩, hb1⟩
  have hb0 := Below.trans ((below_two w _ _).alloc (by simp; omega) _) (hb1.mono (by simp; omega))
  have HB1 := hide hb0
  clear hb1 hb0
  go_wp2_with fail
  refine (answers_any _).mono ?_
  rintro e w2 ⟨rfl, hb2⟩
  obtain ⟨r0, r1, hz⟩ := note_box hb2
  have HB2 := hide (Below.trans ((Below.refl _ _).alloc (Nat.le_refl _) _) (hb2.mono (by simp)))
  clear hb2
  go_wp2
  go_ret
  exact ⟨rfl, HB1.out.trans (HB2.out.mono HB1.out.size)⟩
set_option maxHeartbeats 3200000 in
theorem nf0_14 (hpa : I64 pa) (hw : ci + 1 < 4294967296) :
    Calls Try.prog 6 #[cfV ⟨ca, ci, cn, ch, cg, cl, cs, cd⟩, pcV n pa ia il ic oa ol oc, .bool true, .bool true, .bool true, .bool false] w fun e w' => e = .returned (.bool true) ∧ Below w.heap.size w w' := by
  have HK : Hid (∀ w, Calls Try.prog 11 #[cfV ⟨ca, ci, cn, ch, cg, cl, cs, cd⟩, pcV n pa ia il ic oa ol oc, opV ⟨wrap64 (pa + 1), 90, ci, false, 0, false, false, 0, false, false, false, 0⟩] w fun e w' => (∃ a9 ln c9, e = .returned (.agg #[.int .i64 2, .int .i64 7, .slice a9 ln c9])) ∧ Below w.heap.size w w') := fun w =>
    (pcheck_any _ n pa ia il ic oa ol oc _ w).mono fun e w' ⟨⟨a9, c9, he, _⟩, hb⟩ => by
      have hk : chkN ⟨ca, ci, cn, ch, cg, cl, cs, cd⟩ pa ⟨wrap64 (pa + 1), 90, ci, false, 0, false, false, 0, false, false, false, 0⟩ = 7 := chk_want ⟨ca, ci, cn, ch, cg, cl, cs, cd⟩ pa (wrap64 (pa + 1)) (ci) true true true false (fun _ => wrap64_ne pa hpa) (by simp) (fun _ => rfl) (by simp)
      rw [hk] at he
      exact ⟨⟨_, _, _, he⟩, hb⟩
  have h1 : ¬ (ci : Int) + 1 = 0 := by omega
  have h2 : ((ci : Int) + 1) % 4294967296 = (ci : Int) + 1 := by omega
  simp only [cfV, pcV, opV] at HK ⊢
  clear hpa
  go_enter Try.func6, Try.ntmps6
  go_wp2_with fail
  refine (HK.out _).mono ?_
  rintro e w1 ⟨⟨a9, ln, c9, rfl⟩, hb1⟩
  have hb0 := Below.trans ((below_two w _ _).alloc (by simp; omega) _) (hb1.mono (by simp; omega))
  have HB1 := hide hb0
  clear hb1 hb0
  go_wp2_with fail
  refine (answers_any _).mono ?_
  rintro e w2 ⟨rfl, hb2⟩
  obtain ⟨r0, r1, hz⟩ := note_box hb2
  have HB2 := hide (Below.trans ((Below.refl _ _).alloc (Nat.le_refl _) _) (hb2.mono (by simp)))
  clear hb2
  go_wp2
  go_ret
  exact ⟨rfl, HB1.out.trans (HB2.out.mono HB1.out.size)⟩
set_option maxHeartbeats 3200000 in
theorem nf0_15 (hpa : I64 pa) (hw : ci + 1 < 4294967296) :
    Calls Try.prog 6 #[cfV ⟨ca, ci, cn, ch, cg, cl, cs, cd⟩, pcV n pa ia il ic oa ol oc, .bool true, .bool true, .bool true, .bool true] w fun e w' => e = .returned (.bool true) ∧ Below w.heap.size w w' := by
  have HK : Hid (∀ w, Calls Try.prog 11 #[cfV ⟨ca, ci, cn, ch, cg, cl, cs, cd⟩, pcV n pa ia il ic oa ol oc, opV ⟨wrap64 (pa + 1), 1, ci, false, 0, false, false, 0, false, false, false, 0⟩] w fun e w' => (∃ a9 ln c9, e = .returned (.agg #[.int .i64 2, .int .i64 7, .slice a9 ln c9])) ∧ Below w.heap.size w w') := fun w =>
    (pcheck_any _ n pa ia il ic oa ol oc _ w).mono fun e w' ⟨⟨a9, c9, he, _⟩, hb⟩ => by
      have hk : chkN ⟨ca, ci, cn, ch, cg, cl, cs, cd⟩ pa ⟨wrap64 (pa + 1), 1, ci, false, 0, false, false, 0, false, false, false, 0⟩ = 7 := chk_want ⟨ca, ci, cn, ch, cg, cl, cs, cd⟩ pa (wrap64 (pa + 1)) (ci) true true true true (fun _ => wrap64_ne pa hpa) (by simp) (fun _ => rfl) (by simp)
      rw [hk] at he
      exact ⟨⟨_, _, _, he⟩, hb⟩
  have h1 : ¬ (ci : Int) + 1 = 0 := by omega
  have h2 : ((ci : Int) + 1) % 4294967296 = (ci : Int) + 1 := by omega
  simp only [cfV, pcV, opV] at HK ⊢
  clear hpa
  go_enter Try.func6, Try.ntmps6
  go_wp2_with fail
  refine (HK.out _).mono ?_
  rintro e w1 ⟨⟨a9, ln, c9, rfl⟩, hb1⟩
  have hb0 := Below.trans ((below_two w _ _).alloc (by simp; omega) _) (hb1.mono (by simp; omega))
  have HB1 := hide hb0
  clear hb1 hb0
  go_wp2_with fail
  refine (answers_any _).mono ?_
  rintro e w2 ⟨rfl, hb2⟩
  obtain ⟨r0, r1, hz⟩ := note_box hb2
  have HB2 := hide (Below.trans ((Below.refl _ _).alloc (Nat.le_refl _) _) (hb2.mono (by simp)))
  clear hb2
  go_wp2
  go_ret
  exact ⟨rfl, HB1.out.trans (HB2.out.mono HB1.out.size)⟩
end
end Go.Proofs.Ytmpnnfbpknfekaa
