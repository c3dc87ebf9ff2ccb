/- The program's Static; the sample. -/
import Derived.Test.YtnblkgffgbiemaaRtN
import Derived.Test.YtnblkgffgbiemaaRtS
namespace Go.Proofs.Ytnblkgffgbiemaa
open Go.RowKit
set_option maxRecDepth 100000

/-- A static route. -/
def stR (A : Nat) (L : Int) (nx : Nat) : Rt := ⟨A, L, -1, ⟨0, [], nx, -1, -1, [], []⟩, 0⟩
theorem run_buildS (A : Nat) (L : Int) (nx : Nat) (w : World) : (Instr.build 31 #[(0, .agg #[.int .u32 (A : Int), .int .i64 L]), (1, .int .i64 (-1)), (2, .agg #[.int .i64 0, .slice none 0 0, .int .u32 (nx : Int), .int .i64 (-1), .int .i64 (-1), .slice none 0 0, .slice none 0 0])]).run Try.prog w = .ok (.agg (rtC none 0 none 0 none 0 (stR A L nx))) w := by kernel_rfl
theorem AtRd.none (w : World) (o : Int) (nx : Nat) (md pf : Int) (hn : nx < 4294967296) : AtRd w Option.none Option.none Option.none ⟨o, [], nx, md, pf, [], []⟩ :=
  ⟨⟨fun h => absurd h (by simp), by simp, fun s hs => by simp at hs⟩, fun h => absurd h (by simp), fun h => absurd h (by simp), hn⟩
section
attribute [local go_sem ↓] keptR_load keptR_store keptR_box keptR_alloc keptR_build
set_option maxHeartbeats 800000 in
theorem static_any (A : Nat) (L : Int) (nx : Nat) (w : World) :
    Calls Try.prog 18 #[.agg #[.int .u32 (A : Int), .int .i64 L], .int .u32 (nx : Int)] w fun e w' => e = .returned (rtV none 0 none 0 none 0 (stR A L nx)) ∧ Below w.heap.size w w' := by
  rw [rtV_eq]
  go_enter Try.func18, Try.ntmps18
  go_wp2_with fail
  refine kept_alloc_intro _ (run_allocR _) ?_
  obtain ⟨W0, hW0⟩ : ∃ W0, W0 = (w.alloc (.cells #[.int .u32 (A : Int), .int .i64 L] 24)).alloc (.cells zR 31) := ⟨_, rfl⟩
  have HB0 : Hid (Below w.heap.size w W0) := by show Below _ _ _; rw [hW0]; exact ((Below.refl _ _).alloc (Nat.le_refl _) _).alloc (by simp) _
  have HY0 : Hid (Bl W0 (w.heap.size + 1) zR) := by show Bl _ _ _; rw [hW0]; have := Bl.new (w.alloc (.cells #[.int .u32 (A : Int), .int .i64 L] 24)) zR; simpa using this
  have c0 : W0.cell? ⟨w.heap.size, 0, none⟩ = some (.int .u32 (A : Int)) := by rw [hW0]; simp [go_sem]
  have c1 : W0.cell? ⟨w.heap.size, 1, none⟩ = some (.int .i64 L) := by rw [hW0]; simp [go_sem]
  have z0 : w.heap.size < W0.heap.size := by rw [hW0]; simp; omega
  rw [← hW0]
  simp only [World.size_alloc]
  clear hW0
  go_wp2_with fail
  refine kept_build3_intro _ _ _ _ _ _ _ _ _ _ (by rfl) (by rfl) (by rfl) (run_buildS A L nx _) ?_
  go_wp2_with fail
  refine kept_store_intro _ _ _ _ (by rfl) (by rfl) (run_storeR HY0.out rfl (RC.rt _ _ _ _ _ _ _)) ?_
  have HY9 : Hid (Bl (W0.setCells (w.heap.size + 1) 0 (rtC none 0 none 0 none 0 (stR A L nx)).toList) (w.heap.size + 1) (rtC none 0 none 0 none 0 (stR A L nx))) := HY0.out.put rfl
  have HB9 := hide (below_puts HB0.out (X := w.heap.size + 1) (by omega) (rtC none 0 none 0 none 0 (stR A L nx)).toList)
  generalize W0.setCells (w.heap.size + 1) 0 (rtC none 0 none 0 none 0 (stR A L nx)).toList = w9 at *
  go_wp2_with fail
  exact bodyPost_ret (v := .agg (rtC none 0 none 0 none 0 (stR A L nx))) (res_one Try.results18 _ w9 (w.heap.size + 1) _ rfl HY9.out (RC.rt _ _ _ _ _ _ _)) rfl ⟨rfl, HB9.out⟩
end
/-- The sample, marked. -/
def stM : Rt := ⟨0, 0, -1, ⟨0, [], 7, -1, -1, [4294901766], []⟩, 2⟩
theorem stM_eq : markR (stR 0 0 7) 2 = some stM := by unfold markR markA; rw [if_neg (by decide +kernel), if_pos (by decide +kernel)]; rfl
section
attribute [local go_sem ↓] keptR_load keptR_store keptR_box keptR_alloc keptR_build keptA_load
set_option maxHeartbeats 3200000 in
theorem answers_any (w : World) : Calls Try.prog 8 #[] w fun e w' => e = .returned (.bool true) ∧ Below w.heap.size w w' := by
  go_enter Try.func8, Try.ntmps8
  go_wp2_with fail
  refine (static_any 0 0 7 _).mono ?_
  rintro e w1 ⟨rfl, hb1⟩
  have HB1 := hide hb1
  clear hb1
  go_wp2_with fail
  refine kept_alloc_intro _ (run_allocR _) ?_
  go_wp2_with fail
  refine kept_store_intro _ _ _ (.agg (rtC none 0 none 0 none 0 (stR 0 0 7))) (by rfl) (by rfl) (run_storeR (Bl.new w1 zR) rfl (RC.rt _ _ _ _ _ _ _)) ?_
  have HX2 : Hid (Bl ((w1.alloc (.cells zR 31)).setCells w1.heap.size 0 (rtC none 0 none 0 none 0 (stR 0 0 7)).toList) w1.heap.size (rtC none 0 none 0 none 0 (stR 0 0 7))) := (Bl.new w1 zR).put rfl
  have HB2 : Hid (Below w.heap.size w ((w1.alloc (.cells zR 31)).setCells w1.heap.size 0 (rtC none 0 none 0 none 0 (stR 0 0 7)).toList)) := below_puts (HB1.out.alloc HB1.out.size _) HB1.out.size _
  obtain ⟨X, hX⟩ : ∃ X, X = w1.heap.size := ⟨_, rfl⟩
  rw [← hX] at HX2 HB2 ⊢
  generalize (w1.alloc (.cells zR 31)).setCells X 0 (rtC none 0 none 0 none 0 (stR 0 0 7)).toList = w2 at *
  clear HB1 hX
  go_wp2_with fail
  refine kept_load_intro _ _ _ (by rfl) (run_loadR HX2.out (RC.rt _ _ _ _ _ _ _)) ?_
  go_wp2_with fail
  refine (mark_any none 0 none 0 none 0 (stR 0 0 7) 2 w2 (by decide) (AtRd.none _ _ _ _ _ (by decide))).mono ?_
  rw [stM_eq]
  rintro e w3 ⟨⟨pa, pc, ca, cc, ra, rc, rfl, ho3⟩, hb3⟩
  have HO3 := hide ho3
  have HX3 := hide (HX2.out.below hb3)
  have HB3 : Hid (Below w.heap.size w w3) := HB2.out.trans (hb3.mono HB2.out.size)
  clear ho3 hb3 HX2 HB2
  rw [rtV_eq]
  go_wp2_with fail
  refine kept_alloc_intro _ (run_allocR _) ?_
  go_wp2_with fail
  refine kept_store_intro _ _ _ (.agg (rtC pa pc ca cc ra rc stM)) (by rfl) (by rfl) (run_storeR (Bl.new w3 zR) rfl (RC.rt _ _ _ _ _ _ _)) ?_
  have hb4 : Below w3.heap.size w3 ((w3.alloc (.cells zR 31)).setCells w3.heap.size 0 (rtC pa pc ca cc ra rc stM).toList) := below_puts ((Below.refl _ _).alloc (Nat.le_refl _) _) (Nat.le_refl _) _
  have HY4 : Hid (Bl ((w3.alloc (.cells zR 31)).setCells w3.heap.size 0 (rtC pa pc ca cc ra rc stM).toList) w3.heap.size (rtC pa pc ca cc ra rc stM)) := (Bl.new w3 zR).put rfl
  have HX4 := hide (HX3.out.below hb4)
  have HO4 := hide (HO3.out.later hb4)
  have HB4 : Hid (Below w.heap.size w _) := HB3.out.trans (hb4.mono HB3.out.size)
  obtain ⟨Y, hY⟩ : ∃ Y, Y = w3.heap.size := ⟨_, rfl⟩
  rw [← hY] at HY4 HX4 HO4 HB4 ⊢
  generalize (w3.alloc (.cells zR 31)).setCells Y 0 (rtC pa pc ca cc ra rc stM).toList = w4 at *
  clear HB3 hY hb4 HX3 HO3
  have a1 : w4.cell? ⟨X, 2, none⟩ = some (.int .i64 (-1)) := HX4.out.cell 2 rfl
  have a2 : w4.cell? ⟨X, 5, none⟩ = some (.int .u32 7) := HX4.out.cell 5 rfl
  have a3 : w4.cell? ⟨X, 6, none⟩ = some (.int .i64 (-1)) := HX4.out.cell 6 rfl
  have a4 : w4.cell? ⟨Y, 10, none⟩ = some (.int .i64 2) := HY4.out.cell 10 rfl
  have zX := HX4.out.lt
  have zY := HY4.out.lt
  go_wp2_with fail
  refine kept_load_intro _ _ _ (by rfl) (run_loadA HY4.out) ?_
  clear a1 a2 a3 a4 zX zY
  go_wp2_with fail
  refine (phas_any pa pc ca cc ra rc stM.att 4294901766 w4 (by decide) (HO4.out.rd (by decide) (by decide) (by decide)).comms).mono ?_
  rw [show hasC stM.att.comms 4294901766 = true from by decide +kernel]
  rintro e w5 ⟨rfl, hb5⟩
  have HX5 := hide (HX4.out.below hb5)
  have HB5 : Hid (Below w.heap.size w w5) := HB4.out.trans (hb5.mono HB4.out.size)
  clear hb5 HX4 HY4 HO4 HB4
  go_wp2_with fail
  refine kept_load_intro _ _ _ (by rfl) (run_loadR HX5.out (RC.rt _ _ _ _ _ _ _)) ?_
  go_wp2_with fail
  refine kept_load_intro _ _ _ (by rfl) (run_loadR HX5.out (RC.rt _ _ _ _ _ _ _)) ?_
  go_wp2_with fail
  refine (sameqr_any none 0 none 0 none 0 none 0 none 0 none 0 (stR 0 0 7) (stR 0 0 7) w5 (by decide) (AtRd.none _ _ _ _ _ (by decide)) (AtRd.none _ _ _ _ _ (by decide))).mono ?_
  rw [show eqRt (stR 0 0 7) (stR 0 0 7) = true from by decide +kernel]
  rintro e w6 ⟨rfl, hb6⟩
  have HX6 := hide (HX5.out.below hb6)
  have HB6 : Hid (Below w.heap.size w w6) := HB5.out.trans (hb6.mono HB5.out.size)
  clear hb6 HX5 HB5
  go_wp2_with fail
  refine kept_load_intro _ _ _ (by rfl) (run_loadR HX6.out (RC.rt _ _ _ _ _ _ _)) ?_
  go_wp2_with fail
  refine (usable_any none 0 none 0 none 0 (stR 0 0 7) 1 w6 (by decide) (AtRd.none w6 0 7 (-1) (-1) (by decide)).path).mono ?_
  rw [show (!(hasP (stR 0 0 7).att.path 1)) = true from by decide +kernel]
  rintro e w7 ⟨rfl, hb7⟩
  have HB7 : Hid (Below w.heap.size w w7) := HB6.out.trans (hb7.mono HB6.out.size)
  clear hb7 HX6 HB6
  go_wp2
  go_ret
  exact ⟨rfl, HB7.out⟩
end
end Go.Proofs.Ytnblkgffgbiemaa
