/- The program's weights of a route, and what it asks of a route alone. -/
import Derived.Test.YtolpaimmmhoiiaaDcA
import Derived.Test.YtolpaimmmhoiiaaFlt
import Derived.Test.YtolpaimmmhoiiaaPthQt
import Derived.Test.YtolpaimmmhoiiaaRtM
namespace Go.Proofs.Ytolpaimmmhoiiaa
open Go.RowKit
set_option maxRecDepth 100000

/-- A float that is the whole number n was answered. -/
def FlRet (e : Ending) (n : Int) : Prop := ∃ b, e = .returned (.float .f64 b) ∧ FlIs b n
theorem FlRet.mk {b : Nat} {n : Int} (h : FlIs b n) : FlRet (.returned (.float .f64 b)) n := ⟨b, rfl, h⟩
def orU (x u : Int) : Int := if x < 0 then u else x
theorem lenP_le : ∀ (ss : List (Bool × List Int)), lenP ss ≤ ss.length + sumP ss
  | [] => Nat.le_refl _
  | s :: r => by
    have := lenP_le r
    simp only [lenP, sumP, List.length_cons]
    split <;> omega
/-- What a float holds. -/
def inF (n : Int) : Prop := -9007199254740992 ≤ n ∧ n ≤ 9007199254740992
set_option maxHeartbeats 400000 in
theorem orus_any (x u : Int) (w : World) (h : inF (orU x u)) : Calls Try.prog 43 #[.int .i64 x, .int .i64 u] w fun e w' => FlRet e (orU x u) ∧ w' = w := by
  by_cases hx : x < 0
  · have HE : Hid (orU x u = u) := if_pos hx
    have HF : Hid (FlIs (floatOfInt .f64 u) u) := FlIs.of u (HE.out ▸ h).1 (HE.out ▸ h).2
    clear h
    rw [HE.out]
    go_enter Try.func43, Try.ntmps43
    go_wp2
    go_ret
    exact ⟨FlRet.mk HF.out, rfl⟩
  · have HE : Hid (orU x u = x) := if_neg hx
    have HF : Hid (FlIs (floatOfInt .f64 x) x) := FlIs.of x (HE.out ▸ h).1 (HE.out ▸ h).2
    have f1 : decide (x < 0) = false := decide_eq_false hx
    clear h hx
    rw [HE.out]
    go_enter Try.func43, Try.ntmps43
    go_wp2
    go_ret
    exact ⟨FlRet.mk HF.out, rfl⟩
section
attribute [local go_sem ↓] keptR_load keptR_store keptR_box keptR_alloc keptR_build keptA_load
set_option maxHeartbeats 400000 in
theorem qpref_any (pa : Option Addr) (pc : Nat) (ca : Option Addr) (cc : Nat) (ra : Option Addr) (rc : Nat) (r : Rt) (w : World) (h : inF r.att.pref) :
    Calls Try.prog 25 #[.agg (rtC pa pc ca cc ra rc r)] w fun e w' => FlRet e (prefA r.att) ∧ Below w.heap.size w w' := by
  have K : Hid (∀ w1, Calls Try.prog 43 #[.int .i64 r.att.pref, .int .i64 100] w1 fun e w' => FlRet e (prefA r.att) ∧ w' = w1) := fun w1 => orus_any r.att.pref 100 w1 (by unfold orU inF at *; split <;> omega)
  generalize prefA r.att = n at *
  go_enter Try.func25, Try.ntmps25
  go_wp2_with fail
  refine kept_box_intro _ _ _ (by rfl) (run_boxR _ _) ?_
  have c7 : (w.alloc (.cells (rtC pa pc ca cc ra rc r) 41)).cell? ⟨w.heap.size, 7, none⟩ = some (.int .i64 r.att.pref) := (Bl.new w _).cell 7 rfl
  have HB : Hid (Below w.heap.size w (w.alloc (.cells (rtC pa pc ca cc ra rc r) 41))) := (Below.refl _ _).alloc (Nat.le_refl _) _
  have z1 := World.block_lt_of_cell? _ _ c7
  simp only at z1
  generalize w.alloc (.cells (rtC pa pc ca cc ra rc r) 41) = w1 at *
  go_wp2_with fail
  refine (K.out _).mono ?_
  rintro e w2 ⟨⟨b, rfl, hf⟩, rfl⟩
  have HF := hide hf
  clear hf K
  go_wp2
  go_ret
  exact ⟨FlRet.mk HF.out, HB.out⟩
set_option maxHeartbeats 400000 in
theorem qmed_any (pa : Option Addr) (pc : Nat) (ca : Option Addr) (cc : Nat) (ra : Option Addr) (rc : Nat) (r : Rt) (w : World) (h : inF r.att.med) :
    Calls Try.prog 47 #[.agg (rtC pa pc ca cc ra rc r)] w fun e w' => FlRet e (medA r.att) ∧ Below w.heap.size w w' := by
  have K : Hid (∀ w1, Calls Try.prog 43 #[.int .i64 r.att.med, .int .i64 0] w1 fun e w' => FlRet e (medA r.att) ∧ w' = w1) := fun w1 => orus_any r.att.med 0 w1 (by unfold orU inF at *; split <;> omega)
  generalize medA r.att = n at *
  go_enter Try.func47, Try.ntmps47
  go_wp2_with fail
  refine kept_box_intro _ _ _ (by rfl) (run_boxR _ _) ?_
  have c6 : (w.alloc (.cells (rtC pa pc ca cc ra rc r) 41)).cell? ⟨w.heap.size, 6, none⟩ = some (.int .i64 r.att.med) := (Bl.new w _).cell 6 rfl
  have HB : Hid (Below w.heap.size w (w.alloc (.cells (rtC pa pc ca cc ra rc r) 41))) := (Below.refl _ _).alloc (Nat.le_refl _) _
  have z1 := World.block_lt_of_cell? _ _ c6
  simp only at z1
  generalize w.alloc (.cells (rtC pa pc ca cc ra rc r) 41) = w1 at *
  go_wp2_with fail
  refine (K.out _).mono ?_
  rintro e w2 ⟨⟨b, rfl, hf⟩, rfl⟩
  have HF := hide hf
  clear hf K
  go_wp2
  go_ret
  exact ⟨FlRet.mk HF.out, HB.out⟩
set_option maxHeartbeats 400000 in
theorem qlen_any (pa : Option Addr) (pc : Nat) (ca : Option Addr) (cc : Nat) (ra : Option Addr) (rc : Nat) (r : Rt) (w : World) (hs : r.att.path.length + sumP r.att.path ≤ 100000) (h : PthRd w pa r.att.path) :
    Calls Try.prog 27 #[.agg (rtC pa pc ca cc ra rc r)] w fun e w' => FlRet e (lenP r.att.path : Int) ∧ Below w.heap.size w w' := by
  have K : Hid (∀ w1, Below w.heap.size w w1 → Calls Try.prog 45 #[.slice pa r.att.path.length pc] w1 fun e w' => e = .returned (.int .i64 (lenP r.att.path : Int)) ∧ Below w1.heap.size w1 w') := fun w1 hb => len_any pa pc r.att.path w1 hs (h.below hb)
  have HF : Hid (FlIs (floatOfInt .f64 (lenP r.att.path : Int)) (lenP r.att.path : Int)) := FlIs.of _ (by omega) (by have := lenP_le r.att.path; omega)
  clear h hs
  generalize (lenP r.att.path : Int) = n at *
  go_enter Try.func27, Try.ntmps27
  go_wp2_with fail
  refine kept_box_intro _ _ _ (by rfl) (run_boxR _ _) ?_
  have c4 : (w.alloc (.cells (rtC pa pc ca cc ra rc r) 41)).cell? ⟨w.heap.size, 4, none⟩ = some (.slice pa r.att.path.length pc) := (Bl.new w _).cell 4 rfl
  have HB : Hid (Below w.heap.size w (w.alloc (.cells (rtC pa pc ca cc ra rc r) 41))) := (Below.refl _ _).alloc (Nat.le_refl _) _
  have z1 := World.block_lt_of_cell? _ _ c4
  simp only at z1
  generalize w.alloc (.cells (rtC pa pc ca cc ra rc r) 41) = w1 at *
  generalize r.att.path.length = l at *
  go_wp2_with fail
  refine (K.out _ HB.out).mono ?_
  rintro e w2 ⟨rfl, hb⟩
  have HB2 : Hid (Below w.heap.size w w2) := HB.out.trans (hb.mono HB.out.size)
  clear hb K
  go_wp2
  go_ret
  exact ⟨FlRet.mk HF.out, HB2.out⟩
set_option maxHeartbeats 400000 in
theorem qorig_any (pa : Option Addr) (pc : Nat) (ca : Option Addr) (cc : Nat) (ra : Option Addr) (rc : Nat) (r : Rt) (w : World) (h : inF r.att.origin) :
    Calls Try.prog 28 #[.agg (rtC pa pc ca cc ra rc r)] w fun e w' => FlRet e r.att.origin ∧ Below w.heap.size w w' := by
  have HF : Hid (FlIs (floatOfInt .f64 r.att.origin) r.att.origin) := FlIs.of _ h.1 h.2
  clear h
  go_enter Try.func28, Try.ntmps28
  go_wp2_with fail
  refine kept_box_intro _ _ _ (by rfl) (run_boxR _ _) ?_
  have c3 : (w.alloc (.cells (rtC pa pc ca cc ra rc r) 41)).cell? ⟨w.heap.size, 3, none⟩ = some (.int .i64 r.att.origin) := (Bl.new w _).cell 3 rfl
  have HB : Hid (Below w.heap.size w (w.alloc (.cells (rtC pa pc ca cc ra rc r) 41))) := (Below.refl _ _).alloc (Nat.le_refl _) _
  have z1 := World.block_lt_of_cell? _ _ c3
  simp only at z1
  generalize w.alloc (.cells (rtC pa pc ca cc ra rc r) 41) = w1 at *
  go_wp2
  go_ret
  exact ⟨FlRet.mk HF.out, HB.out⟩
set_option maxHeartbeats 400000 in
theorem qpeer_any (pa : Option Addr) (pc : Nat) (ca : Option Addr) (cc : Nat) (ra : Option Addr) (rc : Nat) (r : Rt) (w : World) (h : inF r.peer) :
    Calls Try.prog 32 #[.agg (rtC pa pc ca cc ra rc r)] w fun e w' => FlRet e r.peer ∧ Below w.heap.size w w' := by
  have HF : Hid (FlIs (floatOfInt .f64 r.peer) r.peer) := FlIs.of _ h.1 h.2
  clear h
  go_enter Try.func32, Try.ntmps32
  go_wp2_with fail
  refine kept_box_intro _ _ _ (by rfl) (run_boxR _ _) ?_
  have c2 : (w.alloc (.cells (rtC pa pc ca cc ra rc r) 41)).cell? ⟨w.heap.size, 2, none⟩ = some (.int .i64 r.peer) := (Bl.new w _).cell 2 rfl
  have HB : Hid (Below w.heap.size w (w.alloc (.cells (rtC pa pc ca cc ra rc r) 41))) := (Below.refl _ _).alloc (Nat.le_refl _) _
  have z1 := World.block_lt_of_cell? _ _ c2
  simp only at z1
  generalize w.alloc (.cells (rtC pa pc ca cc ra rc r) 41) = w1 at *
  go_wp2
  go_ret
  exact ⟨FlRet.mk HF.out, HB.out⟩
set_option maxHeartbeats 400000 in
theorem qstat_any (pa : Option Addr) (pc : Nat) (ca : Option Addr) (cc : Nat) (ra : Option Addr) (rc : Nat) (r : Rt) (w : World) :
    Calls Try.prog 22 #[.agg (rtC pa pc ca cc ra rc r)] w fun e w' => e = .returned (.bool (decide (r.peer < 0))) ∧ Below w.heap.size w w' := by
  go_enter Try.func22, Try.ntmps22
  go_wp2_with fail
  refine kept_box_intro _ _ _ (by rfl) (run_boxR _ _) ?_
  have c2 : (w.alloc (.cells (rtC pa pc ca cc ra rc r) 41)).cell? ⟨w.heap.size, 2, none⟩ = some (.int .i64 r.peer) := (Bl.new w _).cell 2 rfl
  have HB : Hid (Below w.heap.size w (w.alloc (.cells (rtC pa pc ca cc ra rc r) 41))) := (Below.refl _ _).alloc (Nat.le_refl _) _
  have z1 := World.block_lt_of_cell? _ _ c2
  simp only at z1
  generalize w.alloc (.cells (rtC pa pc ca cc ra rc r) 41) = w1 at *
  go_wp2
  go_ret
  exact ⟨rfl, HB.out⟩
set_option maxHeartbeats 400000 in
theorem qnotll_any (pa : Option Addr) (pc : Nat) (ca : Option Addr) (cc : Nat) (ra : Option Addr) (rc : Nat) (r : Rt) (w : World) :
    Calls Try.prog 23 #[.agg (rtC pa pc ca cc ra rc r)] w fun e w' => e = .returned (.bool (r.stale != 2)) ∧ Below w.heap.size w w' := by
  go_enter Try.func23, Try.ntmps23
  go_wp2_with fail
  refine kept_box_intro _ _ _ (by rfl) (run_boxR _ _) ?_
  have c10 : (w.alloc (.cells (rtC pa pc ca cc ra rc r) 41)).cell? ⟨w.heap.size, 10, none⟩ = some (.int .i64 r.stale) := (Bl.new w _).cell 10 rfl
  have HB : Hid (Below w.heap.size w (w.alloc (.cells (rtC pa pc ca cc ra rc r) 41))) := (Below.refl _ _).alloc (Nat.le_refl _) _
  have z1 := World.block_lt_of_cell? _ _ c10
  simp only at z1
  generalize w.alloc (.cells (rtC pa pc ca cc ra rc r) 41) = w1 at *
  go_wp2
  go_ret
  exact ⟨rfl, HB.out⟩
end
end Go.Proofs.Ytolpaimmmhoiiaa
