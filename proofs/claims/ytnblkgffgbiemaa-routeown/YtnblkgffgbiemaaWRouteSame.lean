/- RouteSame's walk. -/
import Derived.Test.YtnblkgffgbiemaaWRouteStatic
import Derived.Test.YtnblkgffgbiemaaRtA
import Derived.Test.YtnblkgffgbiemaaPthRd
namespace Go.Proofs.Ytnblkgffgbiemaa
open Go.RowKit
set_option maxRecDepth 100000

/-- Routes of a size that there may be. -/
structure BigR (r : Rt) : Prop where
  path : r.att.path.length ≤ 1152921504606846976
  segs : ∀ s ∈ r.att.path, s.2.length ≤ 1152921504606846976
  comms : r.att.comms.length ≤ 1152921504606846976
  raws : r.att.raws.length ≤ 1152921504606846976
  datas : ∀ q ∈ r.att.raws, q.2.2.length ≤ 1152921504606846976
theorem small_is {pa : Option Addr} {pc : Nat} {ca : Option Addr} {cc : Nat} {ra : Option Addr} {rc : Nat} {r : Rt} (w : World) (hb : BigR r) (h : AtRd w pa ca ra r.att) {y : Bool} (hy : smallR r = y) :
    Calls Try.prog 7 #[rtV pa pc ca cc ra rc r] w fun e w' => e = .returned (.bool y) ∧ Below w.heap.size w w' := by
  rw [← hy]
  exact smallr_any pa pc ca cc ra rc r w hb.path hb.segs hb.comms hb.raws hb.datas h
theorem smallR_size {r : Rt} (h : smallR r = true) : sizeA r.att ≤ 3000 := by
  have := of_decide_eq_true h
  omega
section
attribute [local go_sem ↓] keptR_load keptR_store keptR_box keptR_alloc keptR_build keptA_load
set_option maxHeartbeats 3200000 in
theorem same_great1 (pa1 : Option Addr) (pc1 : Nat) (ca1 : Option Addr) (cc1 : Nat) (ra1 : Option Addr) (rc1 : Nat) (C2 : Array Value) (a : Rt) (num : Int) (x : Nat) (w : World) (hba : BigR a) (h1 : AtRd w pa1 ca1 ra1 a.att) (hs : smallR a = false) :
    Calls Try.prog 4 #[rtV pa1 pc1 ca1 cc1 ra1 rc1 a, .agg C2, .int .i64 num, .int .u32 (x : Int)] w fun e w' => e = .returned (.bool true) ∧ Below w.heap.size w w' := by
  rw [rtV_eq]
  have HR1 := hide h1
  have HS := hide hs
  clear h1 hs
  go_enter Try.func4, Try.ntmps4
  go_wp2_with fail
  refine kept_box_intro _ _ _ (by rfl) (run_boxR _ w) ?_
  go_wp2_with fail
  refine kept_box_intro _ _ _ (by rfl) (run_boxR _ _) ?_
  have HB0 : Hid (Below w.heap.size w ((w.alloc (.cells (rtC pa1 pc1 ca1 cc1 ra1 rc1 a) 31)).alloc (.cells C2 31))) := ((Below.refl _ _).alloc (Nat.le_refl _) _).alloc (by simp) _
  have HX0 : Hid (Bl ((w.alloc (.cells (rtC pa1 pc1 ca1 cc1 ra1 rc1 a) 31)).alloc (.cells C2 31)) w.heap.size (rtC pa1 pc1 ca1 cc1 ra1 rc1 a)) := (Bl.new w _).below ((Below.refl _ _).alloc (Nat.le_refl _) _)
  generalize (w.alloc (.cells (rtC pa1 pc1 ca1 cc1 ra1 rc1 a) 31)).alloc (.cells C2 31) = w0 at *
  go_wp2_with fail
  refine kept_load_intro _ _ _ (by rfl) (run_loadR HX0.out (RC.rt _ _ _ _ _ _ _)) ?_
  go_wp2_with fail
  refine (small_is w0 hba (HR1.out.below HB0.out) HS.out).mono ?_
  rintro e w1 ⟨rfl, hb1⟩
  have HB1 : Hid (Below w.heap.size w w1) := HB0.out.trans (hb1.mono HB0.out.size)
  clear hb1 HX0 HB0
  go_wp2_with fail
  refine (answers_any w1).mono ?_
  rintro e w2 ⟨rfl, hb2⟩
  have HB2 : Hid (Below w.heap.size w w2) := HB1.out.trans (hb2.mono HB1.out.size)
  clear hb2 HB1
  go_wp2
  go_ret
  exact ⟨rfl, HB2.out⟩
set_option maxHeartbeats 3200000 in
theorem same_great2 (pa1 : Option Addr) (pc1 : Nat) (ca1 : Option Addr) (cc1 : Nat) (ra1 : Option Addr) (rc1 : Nat) (pa2 : Option Addr) (pc2 : Nat) (ca2 : Option Addr) (cc2 : Nat) (ra2 : Option Addr) (rc2 : Nat) (a b : Rt) (num : Int) (x : Nat) (w : World) (hba : BigR a) (hbb : BigR b) (h1 : AtRd w pa1 ca1 ra1 a.att) (h2 : AtRd w pa2 ca2 ra2 b.att) (hs : smallR a = true) (hs2 : smallR b = false) :
    Calls Try.prog 4 #[rtV pa1 pc1 ca1 cc1 ra1 rc1 a, rtV pa2 pc2 ca2 cc2 ra2 rc2 b, .int .i64 num, .int .u32 (x : Int)] w fun e w' => e = .returned (.bool true) ∧ Below w.heap.size w w' := by
  rw [rtV_eq, rtV_eq]
  have HR1 := hide h1
  have HR2 := hide h2
  have HS := hide hs
  have HS2 := hide hs2
  clear h1 hs h2 hs2
  go_enter Try.func4, Try.ntmps4
  go_wp2_with fail
  refine kept_box_intro _ _ _ (by rfl) (run_boxR _ w) ?_
  go_wp2_with fail
  refine kept_box_intro _ _ _ (by rfl) (run_boxR _ _) ?_
  obtain ⟨w0, hw0⟩ : ∃ w0, w0 = (w.alloc (.cells (rtC pa1 pc1 ca1 cc1 ra1 rc1 a) 31)).alloc (.cells (rtC pa2 pc2 ca2 cc2 ra2 rc2 b) 31) := ⟨_, rfl⟩
  have HB0 : Hid (Below w.heap.size w w0) := by show Below _ _ _; rw [hw0]; exact ((Below.refl _ _).alloc (Nat.le_refl _) _).alloc (by simp) _
  have HX0 : Hid (Bl w0 w.heap.size (rtC pa1 pc1 ca1 cc1 ra1 rc1 a)) := by show Bl _ _ _; rw [hw0]; exact (Bl.new w _).below ((Below.refl _ _).alloc (Nat.le_refl _) _)
  have HY0 : Hid (Bl w0 (w.heap.size + 1) (rtC pa2 pc2 ca2 cc2 ra2 rc2 b)) := by show Bl _ _ _; rw [hw0]; have := Bl.new (w.alloc (.cells (rtC pa1 pc1 ca1 cc1 ra1 rc1 a) 31)) (rtC pa2 pc2 ca2 cc2 ra2 rc2 b); simpa using this
  rw [← hw0]
  simp only [World.size_alloc]
  clear hw0
  go_wp2_with fail
  refine kept_load_intro _ _ _ (by rfl) (run_loadR HX0.out (RC.rt _ _ _ _ _ _ _)) ?_
  go_wp2_with fail
  refine (small_is w0 hba (HR1.out.below HB0.out) HS.out).mono ?_
  rintro e w1 ⟨rfl, hb1⟩
  have HB1 : Hid (Below w.heap.size w w1) := HB0.out.trans (hb1.mono HB0.out.size)
  have HY1 := hide (HY0.out.below hb1)
  clear hb1 HX0 HB0 HY0
  go_wp2_with fail
  refine kept_load_intro _ _ _ (by rfl) (run_loadR HY1.out (RC.rt _ _ _ _ _ _ _)) ?_
  go_wp2_with fail
  refine (small_is w1 hbb (HR2.out.below HB1.out) HS2.out).mono ?_
  rintro e w2 ⟨rfl, hb2⟩
  have HB2 : Hid (Below w.heap.size w w2) := HB1.out.trans (hb2.mono HB1.out.size)
  clear hb2 HY1 HB1
  go_wp2_with fail
  refine (answers_any w2).mono ?_
  rintro e w3 ⟨rfl, hb3⟩
  have HB3 : Hid (Below w.heap.size w w3) := HB2.out.trans (hb3.mono HB2.out.size)
  clear hb3 HB2
  go_wp2
  go_ret
  exact ⟨rfl, HB3.out⟩
/-- The boxes of two routes. -/
def Two (w : World) (X Y : Nat) (C D : Array Value) : Prop := Bl w X C ∧ Bl w Y D
theorem Two.below {w w' : World} {X Y : Nat} {C D : Array Value} (h : Two w X Y C D) (hb : Below w.heap.size w w') : Two w' X Y C D := ⟨h.1.below hb, h.2.below hb⟩
set_option maxHeartbeats 6400000 in
theorem same_small (pa1 : Option Addr) (pc1 : Nat) (ca1 : Option Addr) (cc1 : Nat) (ra1 : Option Addr) (rc1 : Nat) (pa2 : Option Addr) (pc2 : Nat) (ca2 : Option Addr) (cc2 : Nat) (ra2 : Option Addr) (rc2 : Nat) (a b : Rt) (num : Int) (x : Nat) (w : World) (hba : BigR a) (hbb : BigR b) (h1 : AtRd w pa1 ca1 ra1 a.att) (h2 : AtRd w pa2 ca2 ra2 b.att) (hs : smallR a = true) (hs2 : smallR b = true) :
    Calls Try.prog 4 #[rtV pa1 pc1 ca1 cc1 ra1 rc1 a, rtV pa2 pc2 ca2 cc2 ra2 rc2 b, .int .i64 num, .int .u32 (x : Int)] w fun e w' => e = .returned (.bool true) ∧ Below w.heap.size w w' := by
  rw [rtV_eq, rtV_eq]
  have HR1 := hide h1
  have HR2 := hide h2
  have HS := hide hs
  have HS2 := hide hs2
  have HZ1 : Hid (sizeA a.att ≤ 100000) := Nat.le_trans (smallR_size hs) (by omega)
  have HZ2 : Hid (sizeA b.att ≤ 100000) := Nat.le_trans (smallR_size hs2) (by omega)
  have HP1 : Hid (a.att.path.length + sumP a.att.path ≤ 100000 ∧ a.att.comms.length ≤ 100000) := by show _ ∧ _; have := HZ1.out; unfold sizeA at this; omega
  clear h1 hs h2 hs2
  go_enter Try.func4, Try.ntmps4
  go_wp2_with fail
  refine kept_box_intro _ _ _ (by rfl) (run_boxR _ w) ?_
  go_wp2_with fail
  refine kept_box_intro _ _ _ (by rfl) (run_boxR _ _) ?_
  obtain ⟨w0, hw0⟩ : ∃ w0, w0 = (w.alloc (.cells (rtC pa1 pc1 ca1 cc1 ra1 rc1 a) 31)).alloc (.cells (rtC pa2 pc2 ca2 cc2 ra2 rc2 b) 31) := ⟨_, rfl⟩
  have HB0 : Hid (Below w.heap.size w w0) := by show Below _ _ _; rw [hw0]; exact ((Below.refl _ _).alloc (Nat.le_refl _) _).alloc (by simp) _
  have HX0 : Hid (Bl w0 w.heap.size (rtC pa1 pc1 ca1 cc1 ra1 rc1 a)) := by show Bl _ _ _; rw [hw0]; exact (Bl.new w _).below ((Below.refl _ _).alloc (Nat.le_refl _) _)
  have HY0 : Hid (Bl w0 (w.heap.size + 1) (rtC pa2 pc2 ca2 cc2 ra2 rc2 b)) := by show Bl _ _ _; rw [hw0]; have := Bl.new (w.alloc (.cells (rtC pa1 pc1 ca1 cc1 ra1 rc1 a) 31)) (rtC pa2 pc2 ca2 cc2 ra2 rc2 b); simpa using this
  rw [← hw0]
  simp only [World.size_alloc]
  clear hw0
  go_wp2_with fail
  refine kept_load_intro _ _ _ (by rfl) (run_loadR HX0.out (RC.rt _ _ _ _ _ _ _)) ?_
  go_wp2_with fail
  refine (small_is w0 hba (HR1.out.below HB0.out) HS.out).mono ?_
  rintro e w1 ⟨rfl, hb1⟩
  have HB1 : Hid (Below w.heap.size w w1) := HB0.out.trans (hb1.mono HB0.out.size)
  have HX1 := hide (HX0.out.below hb1)
  have HY1 := hide (HY0.out.below hb1)
  clear hb1 HX0 HB0 HY0
  go_wp2_with fail
  refine kept_load_intro _ _ _ (by rfl) (run_loadR HY1.out (RC.rt _ _ _ _ _ _ _)) ?_
  go_wp2_with fail
  refine (small_is w1 hbb (HR2.out.below HB1.out) HS2.out).mono ?_
  rintro e w2 ⟨rfl, hb2⟩
  have HB2 : Hid (Below w.heap.size w w2) := HB1.out.trans (hb2.mono HB1.out.size)
  have HT2 : Hid (Two w2 w.heap.size (w.heap.size + 1) (rtC pa1 pc1 ca1 cc1 ra1 rc1 a) (rtC pa2 pc2 ca2 cc2 ra2 rc2 b)) := ⟨HX1.out.below hb2, HY1.out.below hb2⟩
  clear hb2 HX1 HY1 HB1 HS HS2
  go_wp2_with fail
  refine region_ord (fun w' => Two w' w.heap.size (w.heap.size + 1) (rtC pa1 pc1 ca1 cc1 ra1 rc1 a) (rtC pa2 pc2 ca2 cc2 ra2 rc2 b)) (fun k => k == 0 || k == 4 || k == 7 || k == 13 || k == 18 || k == 26 || k == 30) [0, 1, 2, 3, 5, 6, 4, 7, 8, 9, 10, 11, 12, 14, 15, 16, 17, 13, 18, 19, 20, 21, 22, 23, 24, 25, 27, 28, 29, 26, 30, 31, 32, 33] (by kernel_rfl) (by kernel_rfl) (by rfl) (by kernel_rfl) (HT2.out.below (Below.refl _ _).drew) ?_
  refine ord_l (by rfl) (by rfl) (by rfl) ?_
  go_simp
  refine (answers_any _).mono ?_
  rintro e w3 ⟨rfl, hb3⟩
  have b3 : Below w2.heap.size w2 w3 := (Below.refl _ _).drew.trans hb3
  refine ⟨HT2.out.below b3, ?_⟩
  have HB3 : Hid (Below w.heap.size w w3) := HB2.out.trans (b3.mono HB2.out.size)
  refine ord_q (by rfl) (by rfl) (by rfl) (fun w9 h9 => (by go_simp; first | done | rfl)) (by go_simp; first | done | rfl) ?_
  refine ord_q (by rfl) (by rfl) (by rfl) (fun w9 h9 => exec_loadR (by rfl) h9.1 (RC.rt _ _ _ _ _ _ _)) (by go_simp; first | done | rfl) ?_
  refine ord_q (by rfl) (by rfl) (by rfl) (fun w9 h9 => exec_loadR (by rfl) h9.2 (RC.rt _ _ _ _ _ _ _)) (by go_simp; first | done | rfl) ?_
  refine ord_q (by rfl) (by rfl) (by rfl) (fun w9 h9 => exec_loadR (by rfl) h9.1 (RC.rt _ _ _ _ _ _ _)) (by go_simp; first | done | rfl) ?_
  refine ord_q (by rfl) (by rfl) (by rfl) (fun w9 h9 => exec_loadR (by rfl) h9.2 (RC.rt _ _ _ _ _ _ _)) (by go_simp; first | done | rfl) ?_
  refine ord_l (by rfl) (by rfl) (by rfl) ?_
  go_simp
  refine (sameqr_any pa1 pc1 ca1 cc1 ra1 rc1 pa2 pc2 ca2 cc2 ra2 rc2 a b w3 HZ1.out (HR1.out.below HB3.out) (HR2.out.below HB3.out)).mono ?_
  rintro e w4 ⟨rfl, hb4⟩
  have b4 : Below w2.heap.size w2 w4 := b3.trans (hb4.mono b3.size)
  refine ⟨HT2.out.below b4, ?_⟩
  have HB4 : Hid (Below w.heap.size w w4) := HB2.out.trans (b4.mono HB2.out.size)
  refine ord_l (by rfl) (by rfl) (by rfl) ?_
  go_simp
  refine (samer_any pa1 pc1 ca1 cc1 ra1 rc1 pa2 pc2 ca2 cc2 ra2 rc2 a b w4 HZ1.out HZ2.out (HR1.out.below HB4.out) (HR2.out.below HB4.out)).mono ?_
  rintro e w5 ⟨rfl, hb5⟩
  have b5 : Below w2.heap.size w2 w5 := b4.trans (hb5.mono b4.size)
  refine ⟨HT2.out.below b5, ?_⟩
  have HB5 : Hid (Below w.heap.size w w5) := HB2.out.trans (b5.mono HB2.out.size)
  generalize eqRt a b = y1
  refine ord_q (v := .bool true) (by rfl) (by rfl) (by rfl) (fun w9 h9 => (by go_simp; first | done | rfl)) (by go_simp; first | done | rfl) ?_
  refine ord_q (by rfl) (by rfl) (by rfl) (fun w9 h9 => (by go_simp; first | done | rfl)) (by go_simp; first | done | rfl) ?_
  refine ord_q (by rfl) (by rfl) (by rfl) (fun w9 h9 => (by go_simp; first | done | rfl)) (by go_simp; first | done | rfl) ?_
  refine ord_q (by rfl) (by rfl) (by rfl) (fun w9 h9 => exec_loadR (by rfl) h9.1 (RC.rt _ _ _ _ _ _ _)) (by go_simp; first | done | rfl) ?_
  refine ord_q (by rfl) (by rfl) (by rfl) (fun w9 h9 => (by go_simp; first | done | rfl)) (by go_simp; first | done | rfl) ?_
  iterate 4 refine ord_q (by rfl) (by rfl) (by rfl) (fun w9 h9 => (by have p4 := h9.1.cell 4 (v := .slice pa1 a.att.path.length pc1) rfl; go_simp; first | done | rfl)) (by go_simp; first | done | rfl) ?_
  refine ord_l (by rfl) (by rfl) (by rfl) ?_
  go_simp
  refine (usable_any pa1 pc1 ca1 cc1 ra1 rc1 a num w5 HP1.out.1 (HR1.out.below HB5.out).path).mono ?_
  rintro e w6 ⟨rfl, hb6⟩
  have b6 : Below w2.heap.size w2 w6 := b5.trans (hb6.mono b5.size)
  refine ⟨HT2.out.below b6, ?_⟩
  have HB6 : Hid (Below w.heap.size w w6) := HB2.out.trans (b6.mono HB2.out.size)
  refine ord_l (by rfl) (by rfl) (by rfl) ?_
  go_simp
  refine (rhas_any pa1 pc1 num a.att.path w6 HP1.out.1 (HR1.out.below HB6.out).path).mono ?_
  rintro e w7 ⟨rfl, rfl⟩
  refine ⟨HT2.out.below b6, ?_⟩
  generalize hasP a.att.path num = y2
  refine ord_q (v := .bool (!y2)) (by rfl) (by rfl) (by rfl) (fun w9 h9 => (by go_simp; first | done | rfl)) (by go_simp; first | done | rfl) ?_
  refine ord_q (v := .bool true) (by rfl) (by rfl) (by rfl) (fun w9 h9 => (by go_simp; first | done | rfl)) (by go_simp; first | done | rfl) ?_
  refine ord_q (by rfl) (by rfl) (by rfl) (fun w9 h9 => (by go_simp; first | done | rfl)) (by go_simp; first | done | rfl) ?_
  refine ord_q (by rfl) (by rfl) (by rfl) (fun w9 h9 => (by go_simp; first | done | rfl)) (by go_simp; first | done | rfl) ?_
  refine ord_q (by rfl) (by rfl) (by rfl) (fun w9 h9 => (by go_simp; first | done | rfl)) (by go_simp; first | done | rfl) ?_
  refine ord_q (by rfl) (by rfl) (by rfl) (fun w9 h9 => exec_loadA (by rfl) h9.1) (by go_simp; first | done | rfl) ?_
  refine ord_q (by rfl) (by rfl) (by rfl) (fun w9 h9 => (by go_simp; first | done | rfl)) (by go_simp; first | done | rfl) ?_
  refine ord_q (by rfl) (by rfl) (by rfl) (fun w9 h9 => (by go_simp; first | done | rfl)) (by go_simp; first | done | rfl) ?_
  refine ord_q (by rfl) (by rfl) (by rfl) (fun w9 h9 => exec_loadA (by rfl) h9.1) (by go_simp; first | done | rfl) ?_
  refine ord_q (by rfl) (by rfl) (by rfl) (fun w9 h9 => (by go_simp; first | done | rfl)) (by go_simp; first | done | rfl) ?_
  refine ord_l (by rfl) (by rfl) (by rfl) ?_
  go_simp
  refine (phas_any pa1 pc1 ca1 cc1 ra1 rc1 a.att x w7 HP1.out.2 (HR1.out.below HB6.out).comms).mono ?_
  rintro e w8 ⟨rfl, hb8⟩
  have b8 : Below w2.heap.size w2 w8 := b6.trans (hb8.mono b6.size)
  refine ⟨HT2.out.below b8, ?_⟩
  have HB8 : Hid (Below w.heap.size w w8) := HB2.out.trans (b8.mono HB2.out.size)
  refine ord_l (by rfl) (by rfl) (by rfl) ?_
  go_simp
  refine (rhasc_any pa1 pc1 ca1 cc1 ra1 rc1 a.att x w8 HP1.out.2 (HR1.out.below HB8.out).comms).mono ?_
  rintro e w9 ⟨rfl, hb9⟩
  have b9 : Below w2.heap.size w2 w9 := b8.trans (hb9.mono b8.size)
  refine ⟨HT2.out.below b9, ?_⟩
  generalize hasC a.att.comms x = y3
  refine ord_q (v := .bool true) (by rfl) (by rfl) (by rfl) (fun w9 h9 => (by go_simp; first | done | rfl)) (by go_simp; first | done | rfl) ?_
  refine ord_q (by rfl) (by rfl) (by rfl) (fun w9 h9 => (by go_simp; first | done | rfl)) (by go_simp; first | done | rfl) ?_
  refine ord_q (by rfl) (by rfl) (by rfl) (fun w9 h9 => (by go_simp; first | done | rfl)) (by go_simp; first | done | rfl) ?_
  refine ⟨fun _ h => (by cases h), ?_⟩
  go_wp2
  go_ret
  exact ⟨rfl, HB2.out.trans (b9.mono HB2.out.size)⟩
end
theorem routeSame_walk (pa1 : Option Addr) (pc1 : Nat) (ca1 : Option Addr) (cc1 : Nat) (ra1 : Option Addr) (rc1 : Nat) (pa2 : Option Addr) (pc2 : Nat) (ca2 : Option Addr) (cc2 : Nat) (ra2 : Option Addr) (rc2 : Nat) (a b : Rt) (num : Int) (x : Nat) (w : World) (hba : BigR a) (hbb : BigR b) (h1 : AtRd w pa1 ca1 ra1 a.att) (h2 : AtRd w pa2 ca2 ra2 b.att) :
    Calls Try.prog 4 #[rtV pa1 pc1 ca1 cc1 ra1 rc1 a, rtV pa2 pc2 ca2 cc2 ra2 rc2 b, .int .i64 num, .int .u32 (x : Int)] w fun e w' => e = .returned (.bool true) ∧ Below w.heap.size w w' := by
  cases hs : smallR a with
  | false => exact same_great1 pa1 pc1 ca1 cc1 ra1 rc1 _ a num x w hba h1 hs
  | true =>
    cases hs2 : smallR b with
    | false => exact same_great2 pa1 pc1 ca1 cc1 ra1 rc1 pa2 pc2 ca2 cc2 ra2 rc2 a b num x w hba hbb h1 h2 hs hs2
    | true => exact same_small pa1 pc1 ca1 cc1 ra1 rc1 pa2 pc2 ca2 cc2 ra2 rc2 a b num x w hba hbb h1 h2 hs hs2
end Go.Proofs.Ytnblkgffgbiemaa
