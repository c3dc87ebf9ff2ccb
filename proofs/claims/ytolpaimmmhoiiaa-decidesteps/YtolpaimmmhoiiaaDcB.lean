/- The document's score, step by step (written by tools/gen_score.py). -/
import Derived.Test.YtolpaimmmhoiiaaDcA
import Derived.Deep.QuietTactic
import Derived.BigQuiet
namespace Go.Proofs.Ytolpaimmmhoiiaa
open Go.RowKit
set_option maxRecDepth 100000

/-- Has another one a lower Med, and the same First? -/
def lower (r o : Rt) : Bool := match firstP r.att.path, firstP o.att.path with
  | some f, some g => decide (f = g) && decide (medA o.att < medA r.att)
  | _, _ => false
/-- How good one is at a step; the least are left. -/
def scoreR (step : Nat) (num : Int) (infos : List Inf) (left : List Rt) (r : Rt) : Int := match step with
  | 0 => if r.peer < 0 then 0 else 1
  | 1 => if r.stale = 2 then 1 else 0
  | 2 => - prefA r.att
  | 3 => (lenP r.att.path : Int)
  | 4 => r.att.origin
  | 5 => if left.any (lower r) then 1 else 0
  | 6 => if (infoL infos r.peer).num = num then 1 else 0
  | 7 => ((infoL infos r.peer).id : Int)
  | _ => r.peer
/-- What a route's numbers are. -/
def fitR (r : Rt) : Prop := r.att.path.length + sumP r.att.path ≤ 100000 ∧ -9007199254740992 ≤ r.att.pref ∧ r.att.pref ≤ 9007199254740992
theorem infoL_id : ∀ (l : List Inf) (p : Int), (∀ x ∈ l, x.id < 4294967296) → (infoL l p).id < 4294967296
  | [], _, _ => by show (0 : Nat) < _; omega
  | x :: l, p, h => by
    rw [infoL]
    split
    · exact h x (by simp)
    · exact infoL_id l p fun y hy => h y (by simp [hy])
section
attribute [local go_sem ↓] keptR_load keptR_store keptR_box keptR_alloc keptR_build keptA_load
set_option maxHeartbeats 3200000 in
theorem score_0 (num : Int) (ai : Option Addr) (ci : Nat) (infos : List Inf) (al : Option Addr) (cl : Nat) (all : List Rt) (ae : Option Addr) (ne ce : Nat) (left : List Rt) (n : Nat) (r : Rt) (w : World) (hn : all[n]? = some r) (ha : all.length ≤ 3000) (hi : infos.length ≤ 100000) (hid : ∀ x ∈ infos, x.id < 4294967296) (hr : fitR r) (R : RtsRd w al all) (I : InfsRd w ai infos) :
    Calls Try.prog 19 #[.int .i64 0, .int .i64 num, .slice ai infos.length ci, .slice al all.length cl, .slice ae ne ce, .int .i64 (n : Int)] w fun e w' => e = .returned (.int .i64 (scoreR 0 num infos left r)) ∧ Below w.heap.size w w' := by
  have hnl := (List.getElem?_eq_some_iff.1 hn).1
  obtain ⟨g, o, rfl, hc⟩ := R (by omega)
  obtain ⟨pa, pc, ca, cc, ra, rc, rt⟩ := hc n r hn
  have RR := hide rt
  have HI := hide I
  have HID := hide hid
  have HOK := hide hr
  have HHI := hide hi
  clear hn hc R I hid hr rt hi
  obtain ⟨m, hm⟩ : ∃ m, m = all.length := ⟨_, rfl⟩
  rw [← hm] at ha hnl ⊢
  clear hm
  have zg := World.block_lt_of_cell? w _ (RR.out.1 0 _ rfl)
  simp only at zg
  have hn0 : (0 : Int) ≤ (n : Int) := Int.natCast_nonneg _
  have hnm : (n : Int) < (m : Int) := by omega
  go_enter Try.func19, Try.ntmps19
  go_wp2_with fail
  refine kept_load_intro _ _ _ (by rfl) (run_loadR_at RR.out) ?_
  go_wp2_with fail
  refine kept_alloc_intro _ (run_allocR _) ?_
  go_wp2_with fail
  refine kept_store_intro _ _ _ (.agg (rtC pa pc ca cc ra rc r)) (by rfl) (by rfl) (run_storeR (Bl.new w zR) rfl (RC.rt _ _ _ _ _ _ _)) ?_
  have b1 : Below w.heap.size w ((w.alloc (.cells zR 41)).setCells w.heap.size 0 (rtC pa pc ca cc ra rc r).toList) := below_puts ((Below.refl _ _).alloc (Nat.le_refl _) _) (Nat.le_refl _) _
  have HZ : Hid (Bl ((w.alloc (.cells zR 41)).setCells w.heap.size 0 (rtC pa pc ca cc ra rc r).toList) w.heap.size (rtC pa pc ca cc ra rc r)) := (Bl.new w zR).put rfl
  generalize (w.alloc (.cells zR 41)).setCells w.heap.size 0 (rtC pa pc ca cc ra rc r).toList = w1 at *
  have HB1 := hide b1
  have HA1 : Hid (AtRd w1 pa ca ra r.att) := RR.out.2.below b1
  have HI1 := hide (HI.out.below b1)
  have z1 := HZ.out.lt
  clear b1 zg RR HI
  have c2 : w1.cell? ⟨w.heap.size, 2, none⟩ = some (.int .i64 r.peer) := HZ.out.cell 2 rfl
  by_cases hq : r.peer < 0
  · have HE : Hid ((0 : Int) = scoreR 0 num infos left r) := by show _ = _; unfold scoreR; simp [hq]
    skip
    go_wp2
    go_ret
    exact ⟨ret_int HE.out, HB1.out⟩
  · have HE : Hid ((1 : Int) = scoreR 0 num infos left r) := by show _ = _; unfold scoreR; simp [hq]
    have f1 : decide (r.peer < 0) = false := decide_eq_false hq
    clear hq
    go_wp2
    go_ret
    exact ⟨ret_int HE.out, HB1.out⟩
set_option maxHeartbeats 3200000 in
theorem score_1 (num : Int) (ai : Option Addr) (ci : Nat) (infos : List Inf) (al : Option Addr) (cl : Nat) (all : List Rt) (ae : Option Addr) (ne ce : Nat) (left : List Rt) (n : Nat) (r : Rt) (w : World) (hn : all[n]? = some r) (ha : all.length ≤ 3000) (hi : infos.length ≤ 100000) (hid : ∀ x ∈ infos, x.id < 4294967296) (hr : fitR r) (R : RtsRd w al all) (I : InfsRd w ai infos) :
    Calls Try.prog 19 #[.int .i64 1, .int .i64 num, .slice ai infos.length ci, .slice al all.length cl, .slice ae ne ce, .int .i64 (n : Int)] w fun e w' => e = .returned (.int .i64 (scoreR 1 num infos left r)) ∧ Below w.heap.size w w' := by
  have hnl := (List.getElem?_eq_some_iff.1 hn).1
  obtain ⟨g, o, rfl, hc⟩ := R (by omega)
  obtain ⟨pa, pc, ca, cc, ra, rc, rt⟩ := hc n r hn
  have RR := hide rt
  have HI := hide I
  have HID := hide hid
  have HOK := hide hr
  have HHI := hide hi
  clear hn hc R I hid hr rt hi
  obtain ⟨m, hm⟩ : ∃ m, m = all.length := ⟨_, rfl⟩
  rw [← hm] at ha hnl ⊢
  clear hm
  have zg := World.block_lt_of_cell? w _ (RR.out.1 0 _ rfl)
  simp only at zg
  have hn0 : (0 : Int) ≤ (n : Int) := Int.natCast_nonneg _
  have hnm : (n : Int) < (m : Int) := by omega
  go_enter Try.func19, Try.ntmps19
  go_wp2_with fail
  refine kept_load_intro _ _ _ (by rfl) (run_loadR_at RR.out) ?_
  go_wp2_with fail
  refine kept_alloc_intro _ (run_allocR _) ?_
  go_wp2_with fail
  refine kept_store_intro _ _ _ (.agg (rtC pa pc ca cc ra rc r)) (by rfl) (by rfl) (run_storeR (Bl.new w zR) rfl (RC.rt _ _ _ _ _ _ _)) ?_
  have b1 : Below w.heap.size w ((w.alloc (.cells zR 41)).setCells w.heap.size 0 (rtC pa pc ca cc ra rc r).toList) := below_puts ((Below.refl _ _).alloc (Nat.le_refl _) _) (Nat.le_refl _) _
  have HZ : Hid (Bl ((w.alloc (.cells zR 41)).setCells w.heap.size 0 (rtC pa pc ca cc ra rc r).toList) w.heap.size (rtC pa pc ca cc ra rc r)) := (Bl.new w zR).put rfl
  generalize (w.alloc (.cells zR 41)).setCells w.heap.size 0 (rtC pa pc ca cc ra rc r).toList = w1 at *
  have HB1 := hide b1
  have HA1 : Hid (AtRd w1 pa ca ra r.att) := RR.out.2.below b1
  have HI1 := hide (HI.out.below b1)
  have z1 := HZ.out.lt
  clear b1 zg RR HI
  have c2 : w1.cell? ⟨w.heap.size, 10, none⟩ = some (.int .i64 r.stale) := HZ.out.cell 10 rfl
  by_cases hq : r.stale = 2
  · have HE : Hid ((1 : Int) = scoreR 1 num infos left r) := by show _ = _; unfold scoreR; simp [hq]
    have f1 : (r.stale != 2) = false := by simp [hq]
    have f2 : (r.stale == 2) = true := by simp [hq]
    clear hq
    go_wp2
    go_ret
    exact ⟨ret_int HE.out, HB1.out⟩
  · have HE : Hid ((0 : Int) = scoreR 1 num infos left r) := by show _ = _; unfold scoreR; simp [hq]
    have f1 : (r.stale != 2) = true := by simpa using hq
    have f2 : (r.stale == 2) = false := by simpa using hq
    clear hq
    go_wp2
    go_ret
    exact ⟨ret_int HE.out, HB1.out⟩
set_option maxHeartbeats 3200000 in
theorem score_2 (num : Int) (ai : Option Addr) (ci : Nat) (infos : List Inf) (al : Option Addr) (cl : Nat) (all : List Rt) (ae : Option Addr) (ne ce : Nat) (left : List Rt) (n : Nat) (r : Rt) (w : World) (hn : all[n]? = some r) (ha : all.length ≤ 3000) (hi : infos.length ≤ 100000) (hid : ∀ x ∈ infos, x.id < 4294967296) (hr : fitR r) (R : RtsRd w al all) (I : InfsRd w ai infos) :
    Calls Try.prog 19 #[.int .i64 2, .int .i64 num, .slice ai infos.length ci, .slice al all.length cl, .slice ae ne ce, .int .i64 (n : Int)] w fun e w' => e = .returned (.int .i64 (scoreR 2 num infos left r)) ∧ Below w.heap.size w w' := by
  have hnl := (List.getElem?_eq_some_iff.1 hn).1
  obtain ⟨g, o, rfl, hc⟩ := R (by omega)
  obtain ⟨pa, pc, ca, cc, ra, rc, rt⟩ := hc n r hn
  have RR := hide rt
  have HI := hide I
  have HID := hide hid
  have HOK := hide hr
  have HHI := hide hi
  clear hn hc R I hid hr rt hi
  obtain ⟨m, hm⟩ : ∃ m, m = all.length := ⟨_, rfl⟩
  rw [← hm] at ha hnl ⊢
  clear hm
  have zg := World.block_lt_of_cell? w _ (RR.out.1 0 _ rfl)
  simp only at zg
  have hn0 : (0 : Int) ≤ (n : Int) := Int.natCast_nonneg _
  have hnm : (n : Int) < (m : Int) := by omega
  go_enter Try.func19, Try.ntmps19
  go_wp2_with fail
  refine kept_load_intro _ _ _ (by rfl) (run_loadR_at RR.out) ?_
  go_wp2_with fail
  refine kept_alloc_intro _ (run_allocR _) ?_
  go_wp2_with fail
  refine kept_store_intro _ _ _ (.agg (rtC pa pc ca cc ra rc r)) (by rfl) (by rfl) (run_storeR (Bl.new w zR) rfl (RC.rt _ _ _ _ _ _ _)) ?_
  have b1 : Below w.heap.size w ((w.alloc (.cells zR 41)).setCells w.heap.size 0 (rtC pa pc ca cc ra rc r).toList) := below_puts ((Below.refl _ _).alloc (Nat.le_refl _) _) (Nat.le_refl _) _
  have HZ : Hid (Bl ((w.alloc (.cells zR 41)).setCells w.heap.size 0 (rtC pa pc ca cc ra rc r).toList) w.heap.size (rtC pa pc ca cc ra rc r)) := (Bl.new w zR).put rfl
  generalize (w.alloc (.cells zR 41)).setCells w.heap.size 0 (rtC pa pc ca cc ra rc r).toList = w1 at *
  have HB1 := hide b1
  have HA1 : Hid (AtRd w1 pa ca ra r.att) := RR.out.2.below b1
  have HI1 := hide (HI.out.below b1)
  have z1 := HZ.out.lt
  clear b1 zg RR HI
  have HE : Hid (- prefA r.att = scoreR 2 num infos left r) := rfl
  have hw : wrap64 (- prefA r.att) = - prefA r.att := by
    have := HOK.out.2
    have h1 : -9007199254740992 ≤ prefA r.att ∧ prefA r.att ≤ 9007199254740992 := by unfold prefA; split <;> omega
    simp [wrap64]
    omega
  go_wp2_with fail
  refine kept_load_intro _ _ _ (by rfl) (run_loadA HZ.out) ?_
  go_wp2_with fail
  refine (pref_any pa pc ca cc ra rc r.att w1).mono ?_
  rintro e w2 ⟨rfl, b2⟩
  have HB2 : Hid (Below w.heap.size w w2) := HB1.out.trans (b2.mono HB1.out.size)
  clear b2
  generalize prefA r.att = pp at *
  go_wp2
  go_ret
  exact ⟨ret_int (hw.trans HE.out), HB2.out⟩
set_option maxHeartbeats 3200000 in
theorem score_3 (num : Int) (ai : Option Addr) (ci : Nat) (infos : List Inf) (al : Option Addr) (cl : Nat) (all : List Rt) (ae : Option Addr) (ne ce : Nat) (left : List Rt) (n : Nat) (r : Rt) (w : World) (hn : all[n]? = some r) (ha : all.length ≤ 3000) (hi : infos.length ≤ 100000) (hid : ∀ x ∈ infos, x.id < 4294967296) (hr : fitR r) (R : RtsRd w al all) (I : InfsRd w ai infos) :
    Calls Try.prog 19 #[.int .i64 3, .int .i64 num, .slice ai infos.length ci, .slice al all.length cl, .slice ae ne ce, .int .i64 (n : Int)] w fun e w' => e = .returned (.int .i64 (scoreR 3 num infos left r)) ∧ Below w.heap.size w w' := by
  have hnl := (List.getElem?_eq_some_iff.1 hn).1
  obtain ⟨g, o, rfl, hc⟩ := R (by omega)
  obtain ⟨pa, pc, ca, cc, ra, rc, rt⟩ := hc n r hn
  have RR := hide rt
  have HI := hide I
  have HID := hide hid
  have HOK := hide hr
  have HHI := hide hi
  clear hn hc R I hid hr rt hi
  obtain ⟨m, hm⟩ : ∃ m, m = all.length := ⟨_, rfl⟩
  rw [← hm] at ha hnl ⊢
  clear hm
  have zg := World.block_lt_of_cell? w _ (RR.out.1 0 _ rfl)
  simp only at zg
  have hn0 : (0 : Int) ≤ (n : Int) := Int.natCast_nonneg _
  have hnm : (n : Int) < (m : Int) := by omega
  go_enter Try.func19, Try.ntmps19
  go_wp2_with fail
  refine kept_load_intro _ _ _ (by rfl) (run_loadR_at RR.out) ?_
  go_wp2_with fail
  refine kept_alloc_intro _ (run_allocR _) ?_
  go_wp2_with fail
  refine kept_store_intro _ _ _ (.agg (rtC pa pc ca cc ra rc r)) (by rfl) (by rfl) (run_storeR (Bl.new w zR) rfl (RC.rt _ _ _ _ _ _ _)) ?_
  have b1 : Below w.heap.size w ((w.alloc (.cells zR 41)).setCells w.heap.size 0 (rtC pa pc ca cc ra rc r).toList) := below_puts ((Below.refl _ _).alloc (Nat.le_refl _) _) (Nat.le_refl _) _
  have HZ : Hid (Bl ((w.alloc (.cells zR 41)).setCells w.heap.size 0 (rtC pa pc ca cc ra rc r).toList) w.heap.size (rtC pa pc ca cc ra rc r)) := (Bl.new w zR).put rfl
  generalize (w.alloc (.cells zR 41)).setCells w.heap.size 0 (rtC pa pc ca cc ra rc r).toList = w1 at *
  have HB1 := hide b1
  have HA1 : Hid (AtRd w1 pa ca ra r.att) := RR.out.2.below b1
  have HI1 := hide (HI.out.below b1)
  have z1 := HZ.out.lt
  clear b1 zg RR HI
  have c4 : w1.cell? ⟨w.heap.size, 4, none⟩ = some (.slice pa r.att.path.length pc) := HZ.out.cell 4 rfl
  have HE : Hid ((lenP r.att.path : Int) = scoreR 3 num infos left r) := rfl
  have K := hide (rlen_any pa pc r.att.path w1 (by have := HOK.out.1; omega) HA1.out.path)
  go_wp2_with fail
  refine K.out.mono ?_
  rintro e w2 ⟨rfl, rfl⟩
  go_wp2
  go_ret
  exact ⟨ret_int HE.out, HB1.out⟩
set_option maxHeartbeats 3200000 in
theorem score_4 (num : Int) (ai : Option Addr) (ci : Nat) (infos : List Inf) (al : Option Addr) (cl : Nat) (all : List Rt) (ae : Option Addr) (ne ce : Nat) (left : List Rt) (n : Nat) (r : Rt) (w : World) (hn : all[n]? = some r) (ha : all.length ≤ 3000) (hi : infos.length ≤ 100000) (hid : ∀ x ∈ infos, x.id < 4294967296) (hr : fitR r) (R : RtsRd w al all) (I : InfsRd w ai infos) :
    Calls Try.prog 19 #[.int .i64 4, .int .i64 num, .slice ai infos.length ci, .slice al all.length cl, .slice ae ne ce, .int .i64 (n : Int)] w fun e w' => e = .returned (.int .i64 (scoreR 4 num infos left r)) ∧ Below w.heap.size w w' := by
  have hnl := (List.getElem?_eq_some_iff.1 hn).1
  obtain ⟨g, o, rfl, hc⟩ := R (by omega)
  obtain ⟨pa, pc, ca, cc, ra, rc, rt⟩ := hc n r hn
  have RR := hide rt
  have HI := hide I
  have HID := hide hid
  have HOK := hide hr
  have HHI := hide hi
  clear hn hc R I hid hr rt hi
  obtain ⟨m, hm⟩ : ∃ m, m = all.length := ⟨_, rfl⟩
  rw [← hm] at ha hnl ⊢
  clear hm
  have zg := World.block_lt_of_cell? w _ (RR.out.1 0 _ rfl)
  simp only at zg
  have hn0 : (0 : Int) ≤ (n : Int) := Int.natCast_nonneg _
  have hnm : (n : Int) < (m : Int) := by omega
  go_enter Try.func19, Try.ntmps19
  go_wp2_with fail
  refine kept_load_intro _ _ _ (by rfl) (run_loadR_at RR.out) ?_
  go_wp2_with fail
  refine kept_alloc_intro _ (run_allocR _) ?_
  go_wp2_with fail
  refine kept_store_intro _ _ _ (.agg (rtC pa pc ca cc ra rc r)) (by rfl) (by rfl) (run_storeR (Bl.new w zR) rfl (RC.rt _ _ _ _ _ _ _)) ?_
  have b1 : Below w.heap.size w ((w.alloc (.cells zR 41)).setCells w.heap.size 0 (rtC pa pc ca cc ra rc r).toList) := below_puts ((Below.refl _ _).alloc (Nat.le_refl _) _) (Nat.le_refl _) _
  have HZ : Hid (Bl ((w.alloc (.cells zR 41)).setCells w.heap.size 0 (rtC pa pc ca cc ra rc r).toList) w.heap.size (rtC pa pc ca cc ra rc r)) := (Bl.new w zR).put rfl
  generalize (w.alloc (.cells zR 41)).setCells w.heap.size 0 (rtC pa pc ca cc ra rc r).toList = w1 at *
  have HB1 := hide b1
  have HA1 : Hid (AtRd w1 pa ca ra r.att) := RR.out.2.below b1
  have HI1 := hide (HI.out.below b1)
  have z1 := HZ.out.lt
  clear b1 zg RR HI
  have c3 : w1.cell? ⟨w.heap.size, 3, none⟩ = some (.int .i64 r.att.origin) := HZ.out.cell 3 rfl
  have HE : Hid (r.att.origin = scoreR 4 num infos left r) := rfl
  go_wp2
  go_ret
  exact ⟨ret_int HE.out, HB1.out⟩
set_option maxHeartbeats 3200000 in
theorem score_6 (num : Int) (ai : Option Addr) (ci : Nat) (infos : List Inf) (al : Option Addr) (cl : Nat) (all : List Rt) (ae : Option Addr) (ne ce : Nat) (left : List Rt) (n : Nat) (r : Rt) (w : World) (hn : all[n]? = some r) (ha : all.length ≤ 3000) (hi : infos.length ≤ 100000) (hid : ∀ x ∈ infos, x.id < 4294967296) (hr : fitR r) (R : RtsRd w al all) (I : InfsRd w ai infos) :
    Calls Try.prog 19 #[.int .i64 6, .int .i64 num, .slice ai infos.length ci, .slice al all.length cl, .slice ae ne ce, .int .i64 (n : Int)] w fun e w' => e = .returned (.int .i64 (scoreR 6 num infos left r)) ∧ Below w.heap.size w w' := by
  have hnl := (List.getElem?_eq_some_iff.1 hn).1
  obtain ⟨g, o, rfl, hc⟩ := R (by omega)
  obtain ⟨pa, pc, ca, cc, ra, rc, rt⟩ := hc n r hn
  have RR := hide rt
  have HI := hide I
  have HID := hide hid
  have HOK := hide hr
  have HHI := hide hi
  clear hn hc R I hid hr rt hi
  obtain ⟨m, hm⟩ : ∃ m, m = all.length := ⟨_, rfl⟩
  rw [← hm] at ha hnl ⊢
  clear hm
  have zg := World.block_lt_of_cell? w _ (RR.out.1 0 _ rfl)
  simp only at zg
  have hn0 : (0 : Int) ≤ (n : Int) := Int.natCast_nonneg _
  have hnm : (n : Int) < (m : Int) := by omega
  go_enter Try.func19, Try.ntmps19
  go_wp2_with fail
  refine kept_load_intro _ _ _ (by rfl) (run_loadR_at RR.out) ?_
  go_wp2_with fail
  refine kept_alloc_intro _ (run_allocR _) ?_
  go_wp2_with fail
  refine kept_store_intro _ _ _ (.agg (rtC pa pc ca cc ra rc r)) (by rfl) (by rfl) (run_storeR (Bl.new w zR) rfl (RC.rt _ _ _ _ _ _ _)) ?_
  have b1 : Below w.heap.size w ((w.alloc (.cells zR 41)).setCells w.heap.size 0 (rtC pa pc ca cc ra rc r).toList) := below_puts ((Below.refl _ _).alloc (Nat.le_refl _) _) (Nat.le_refl _) _
  have HZ : Hid (Bl ((w.alloc (.cells zR 41)).setCells w.heap.size 0 (rtC pa pc ca cc ra rc r).toList) w.heap.size (rtC pa pc ca cc ra rc r)) := (Bl.new w zR).put rfl
  generalize (w.alloc (.cells zR 41)).setCells w.heap.size 0 (rtC pa pc ca cc ra rc r).toList = w1 at *
  have HB1 := hide b1
  have HA1 : Hid (AtRd w1 pa ca ra r.att) := RR.out.2.below b1
  have HI1 := hide (HI.out.below b1)
  have z1 := HZ.out.lt
  clear b1 zg RR HI
  have c2 : w1.cell? ⟨w.heap.size, 2, none⟩ = some (.int .i64 r.peer) := HZ.out.cell 2 rfl
  have K := hide (info_any ai ci infos r.peer w1 HHI.out HI1.out)
  unfold infV at K
  have HS : Hid (scoreR 6 num infos left r = if (infoL infos r.peer).num = num then 1 else 0) := rfl
  generalize infoL infos r.peer = x at *
  have hf1 : ∀ W, (Instr.field 62 (.agg #[.int .i64 x.peer, .int .i64 x.num, .int .u32 (x.id : Int)]) 1).run Try.prog W = .ok (.int .i64 x.num) W := fun W => by kernel_rfl
  have hf2 : ∀ W, (Instr.field 62 (.agg #[.int .i64 x.peer, .int .i64 x.num, .int .u32 (x.id : Int)]) 2).run Try.prog W = .ok (.int .u32 (x.id : Int)) W := fun W => by kernel_rfl
  go_wp2_with fail
  refine K.out.mono ?_
  rintro e w2 ⟨rfl, b2⟩
  have HB2 : Hid (Below w.heap.size w w2) := HB1.out.trans (b2.mono HB1.out.size)
  clear b2 K c2
  by_cases hq : x.num = num
  · have HE : Hid ((1 : Int) = scoreR 6 num infos left r) := by show _ = _; rw [HS.out, if_pos hq]
    have f1 : (x.num != num) = false := by simp [hq]
    have f2 : (x.num == num) = true := by simp [hq]
    clear hq HS
    go_wp2
    go_ret
    exact ⟨ret_int HE.out, HB2.out⟩
  · have HE : Hid ((0 : Int) = scoreR 6 num infos left r) := by show _ = _; rw [HS.out, if_neg hq]
    have f1 : (x.num != num) = true := by simpa using hq
    have f2 : (x.num == num) = false := by simpa using hq
    clear hq HS
    go_wp2
    go_ret
    exact ⟨ret_int HE.out, HB2.out⟩
set_option maxHeartbeats 3200000 in
theorem score_7 (num : Int) (ai : Option Addr) (ci : Nat) (infos : List Inf) (al : Option Addr) (cl : Nat) (all : List Rt) (ae : Option Addr) (ne ce : Nat) (left : List Rt) (n : Nat) (r : Rt) (w : World) (hn : all[n]? = some r) (ha : all.length ≤ 3000) (hi : infos.length ≤ 100000) (hid : ∀ x ∈ infos, x.id < 4294967296) (hr : fitR r) (R : RtsRd w al all) (I : InfsRd w ai infos) :
    Calls Try.prog 19 #[.int .i64 7, .int .i64 num, .slice ai infos.length ci, .slice al all.length cl, .slice ae ne ce, .int .i64 (n : Int)] w fun e w' => e = .returned (.int .i64 (scoreR 7 num infos left r)) ∧ Below w.heap.size w w' := by
  have hnl := (List.getElem?_eq_some_iff.1 hn).1
  obtain ⟨g, o, rfl, hc⟩ := R (by omega)
  obtain ⟨pa, pc, ca, cc, ra, rc, rt⟩ := hc n r hn
  have RR := hide rt
  have HI := hide I
  have HID := hide hid
  have HOK := hide hr
  have HHI := hide hi
  clear hn hc R I hid hr rt hi
  obtain ⟨m, hm⟩ : ∃ m, m = all.length := ⟨_, rfl⟩
  rw [← hm] at ha hnl ⊢
  clear hm
  have zg := World.block_lt_of_cell? w _ (RR.out.1 0 _ rfl)
  simp only at zg
  have hn0 : (0 : Int) ≤ (n : Int) := Int.natCast_nonneg _
  have hnm : (n : Int) < (m : Int) := by omega
  go_enter Try.func19, Try.ntmps19
  go_wp2_with fail
  refine kept_load_intro _ _ _ (by rfl) (run_loadR_at RR.out) ?_
  go_wp2_with fail
  refine kept_alloc_intro _ (run_allocR _) ?_
  go_wp2_with fail
  refine kept_store_intro _ _ _ (.agg (rtC pa pc ca cc ra rc r)) (by rfl) (by rfl) (run_storeR (Bl.new w zR) rfl (RC.rt _ _ _ _ _ _ _)) ?_
  have b1 : Below w.heap.size w ((w.alloc (.cells zR 41)).setCells w.heap.size 0 (rtC pa pc ca cc ra rc r).toList) := below_puts ((Below.refl _ _).alloc (Nat.le_refl _) _) (Nat.le_refl _) _
  have HZ : Hid (Bl ((w.alloc (.cells zR 41)).setCells w.heap.size 0 (rtC pa pc ca cc ra rc r).toList) w.heap.size (rtC pa pc ca cc ra rc r)) := (Bl.new w zR).put rfl
  generalize (w.alloc (.cells zR 41)).setCells w.heap.size 0 (rtC pa pc ca cc ra rc r).toList = w1 at *
  have HB1 := hide b1
  have HA1 : Hid (AtRd w1 pa ca ra r.att) := RR.out.2.below b1
  have HI1 := hide (HI.out.below b1)
  have z1 := HZ.out.lt
  clear b1 zg RR HI
  have c2 : w1.cell? ⟨w.heap.size, 2, none⟩ = some (.int .i64 r.peer) := HZ.out.cell 2 rfl
  have K := hide (info_any ai ci infos r.peer w1 HHI.out HI1.out)
  unfold infV at K
  have HS : Hid (((infoL infos r.peer).id : Int) = scoreR 7 num infos left r) := rfl
  have hid2 : (infoL infos r.peer).id < 4294967296 := infoL_id infos r.peer HID.out
  generalize infoL infos r.peer = x at *
  have hw : IntKind.i64.wrap (x.id : Int) = (x.id : Int) := by rw [IntKind.wrap_i64]; omega
  have hf1 : ∀ W, (Instr.field 62 (.agg #[.int .i64 x.peer, .int .i64 x.num, .int .u32 (x.id : Int)]) 1).run Try.prog W = .ok (.int .i64 x.num) W := fun W => by kernel_rfl
  have hf2 : ∀ W, (Instr.field 62 (.agg #[.int .i64 x.peer, .int .i64 x.num, .int .u32 (x.id : Int)]) 2).run Try.prog W = .ok (.int .u32 (x.id : Int)) W := fun W => by kernel_rfl
  go_wp2_with fail
  refine K.out.mono ?_
  rintro e w2 ⟨rfl, b2⟩
  have HB2 : Hid (Below w.heap.size w w2) := HB1.out.trans (b2.mono HB1.out.size)
  clear b2 K c2
  go_wp2
  go_ret
  exact ⟨ret_int HS.out, HB2.out⟩
set_option maxHeartbeats 3200000 in
theorem score_8 (num : Int) (ai : Option Addr) (ci : Nat) (infos : List Inf) (al : Option Addr) (cl : Nat) (all : List Rt) (ae : Option Addr) (ne ce : Nat) (left : List Rt) (n : Nat) (r : Rt) (w : World) (hn : all[n]? = some r) (ha : all.length ≤ 3000) (hi : infos.length ≤ 100000) (hid : ∀ x ∈ infos, x.id < 4294967296) (hr : fitR r) (R : RtsRd w al all) (I : InfsRd w ai infos) :
    Calls Try.prog 19 #[.int .i64 8, .int .i64 num, .slice ai infos.length ci, .slice al all.length cl, .slice ae ne ce, .int .i64 (n : Int)] w fun e w' => e = .returned (.int .i64 (scoreR 8 num infos left r)) ∧ Below w.heap.size w w' := by
  have hnl := (List.getElem?_eq_some_iff.1 hn).1
  obtain ⟨g, o, rfl, hc⟩ := R (by omega)
  obtain ⟨pa, pc, ca, cc, ra, rc, rt⟩ := hc n r hn
  have RR := hide rt
  have HI := hide I
  have HID := hide hid
  have HOK := hide hr
  have HHI := hide hi
  clear hn hc R I hid hr rt hi
  obtain ⟨m, hm⟩ : ∃ m, m = all.length := ⟨_, rfl⟩
  rw [← hm] at ha hnl ⊢
  clear hm
  have zg := World.block_lt_of_cell? w _ (RR.out.1 0 _ rfl)
  simp only at zg
  have hn0 : (0 : Int) ≤ (n : Int) := Int.natCast_nonneg _
  have hnm : (n : Int) < (m : Int) := by omega
  go_enter Try.func19, Try.ntmps19
  go_wp2_with fail
  refine kept_load_intro _ _ _ (by rfl) (run_loadR_at RR.out) ?_
  go_wp2_with fail
  refine kept_alloc_intro _ (run_allocR _) ?_
  go_wp2_with fail
  refine kept_store_intro _ _ _ (.agg (rtC pa pc ca cc ra rc r)) (by rfl) (by rfl) (run_storeR (Bl.new w zR) rfl (RC.rt _ _ _ _ _ _ _)) ?_
  have b1 : Below w.heap.size w ((w.alloc (.cells zR 41)).setCells w.heap.size 0 (rtC pa pc ca cc ra rc r).toList) := below_puts ((Below.refl _ _).alloc (Nat.le_refl _) _) (Nat.le_refl _) _
  have HZ : Hid (Bl ((w.alloc (.cells zR 41)).setCells w.heap.size 0 (rtC pa pc ca cc ra rc r).toList) w.heap.size (rtC pa pc ca cc ra rc r)) := (Bl.new w zR).put rfl
  generalize (w.alloc (.cells zR 41)).setCells w.heap.size 0 (rtC pa pc ca cc ra rc r).toList = w1 at *
  have HB1 := hide b1
  have HA1 : Hid (AtRd w1 pa ca ra r.att) := RR.out.2.below b1
  have HI1 := hide (HI.out.below b1)
  have z1 := HZ.out.lt
  clear b1 zg RR HI
  have c2 : w1.cell? ⟨w.heap.size, 2, none⟩ = some (.int .i64 r.peer) := HZ.out.cell 2 rfl
  have HE : Hid (r.peer = scoreR 8 num infos left r) := rfl
  go_wp2
  go_ret
  exact ⟨ret_int HE.out, HB1.out⟩
end
end Go.Proofs.Ytolpaimmmhoiiaa
