/- The document's Mark. -/
import Derived.Test.YtnblkgffgbiemaaRtN
namespace Go.Proofs.Ytnblkgffgbiemaa
open Go.RowKit
set_option maxRecDepth 100000

/-- What the document's Mark answers. -/
def RMarkIs (w' : World) (e : Ending) (pa : Option Addr) (pc : Nat) (ra : Option Addr) (rc : Nat) : Option Rt → Prop
  | none => e = .returned (.tuple #[.agg zR, .bool false])
  | some m => ∃ ca cc, e = .returned (.tuple #[rtV pa pc ca cc ra rc m, .bool true]) ∧ AtRd w' pa ca ra m.att
/-- Cells that are read, behind a row of the call's own. -/
theorem app_cells {t e size bytes : Nat} (he : Elem t e size bytes) {w : World} {B g m k n : Nat} {ys xs : List Value} (a : Option Addr) (c : Nat) (ho : w.ownsRow B e size (.slice (some ⟨g, 0, none⟩) m k) m ys) (hB : B ≤ w.heap.size) (hl : m + n ≤ 1000000) (h : Cells w a n size xs) :
    ∃ v' w', (Builtin.append_ #[t, t] t #[.slice (some ⟨g, 0, none⟩) m k, .slice a n c]).run Try.prog w = .ok v' w' ∧ w'.ownsRow B e size v' (m + n) (ys ++ xs) ∧ Below B w w' := by
  obtain ⟨h1, h2, h3, h4⟩ := h
  cases a with
  | none =>
    obtain rfl : n = 0 := h2 rfl
    have hx : xs = [] := List.length_eq_zero_iff.1 (by omega)
    subst hx
    have hk : m ≤ k := by
      rcases ho.2 with ⟨e9, _⟩ | ⟨g', cap, cur, e9, _, _, h9, _⟩
      · cases e9
      · simp only [Value.slice.injEq] at e9
        obtain ⟨_, _, rfl⟩ := e9
        exact h9
    exact ⟨_, w, append_nil he w _ m k c hk, by rw [List.append_nil]; exact ho, Below.refl _ _⟩
  | some ad => exact app_old he ho hB ad n c xs h1 (h3 ad rfl) h4 hl
theorem own_reads {w : World} {B c : Nat} {a : Option Addr} {cs : List Nat} (h : w.ownsRow B 22 1 (.slice a cs.length c) cs.length (ucells cs)) : CRd w a cs := by
  obtain ⟨a9, c9, e9, h9⟩ := own_crd h
  injection e9 with e9 _ _
  subst e9
  exact h9
/-- The document's list of communities with one more. -/
theorem app_two {w : World} {cs : List Nat} (a : Option Addr) (c : Nat) (x : Nat) (hl : cs.length ≤ 100000) (h : CRd w a cs) :
    ∃ v6 w6 a7 c7 w7, (Builtin.append_ #[26, 26] 26 #[.slice (some ⟨w.heap.size, 0, none⟩) 0 0, .slice a cs.length c]).run Try.prog (w.alloc (.cells #[] 22)) = .ok v6 w6 ∧ (Builtin.append_ #[26, 26] 26 #[v6, .slice (some ⟨w6.heap.size, 0, none⟩) 1 1]).run Try.prog (w6.alloc (.cells #[.int .u32 (x : Int)] 22)) = .ok (.slice a7 (cs.length + 1) c7) w7 ∧ w7.ownsRow w.heap.size 22 1 (.slice a7 (cs ++ [x]).length c7) (cs ++ [x]).length (ucells (cs ++ [x])) ∧ Below w.heap.size w w6 ∧ Below w.heap.size w w7 ∧ ∃ a6 c6, v6 = .slice a6 cs.length c6 := by
  have hb1 : Below w.heap.size w (w.alloc (.cells #[] 22)) := (Below.refl _ _).alloc (Nat.le_refl _) _
  obtain ⟨v6, w6, hr6, ho6, hb6⟩ := app_cells elemU32 a c (own_empty w 22 1) hb1.size (by omega) ((cells_u h).below hb1)
  rw [Nat.zero_add, List.nil_append] at ho6
  have hb16 := hb1.trans hb6
  obtain ⟨v7, w7, hr7, ho7, hb7⟩ := app_new elemU32 ho6 hb16.size 1 [.int .u32 (x : Int)] rfl (by intro u hu; simp at hu; subst hu; rfl) (by omega) w6.heap.size rfl
  obtain ⟨a6, c6, e6⟩ := own_shape ho6
  obtain ⟨a7, c7, rfl⟩ := own_shape ho7
  have e : ucells (cs ++ [x]) = ucells cs ++ [.int .u32 (x : Int)] := by simp [ucells]
  rw [← e] at ho7
  have ho8 : w7.ownsRow w.heap.size 22 1 (.slice a7 (cs ++ [x]).length c7) (cs ++ [x]).length (ucells (cs ++ [x])) := by
    rw [List.length_append]; exact ho7
  exact ⟨v6, w6, a7, c7, w7, hr6, hr7, ho8, hb16, hb16.trans hb7, a6, c6, e6⟩
section
attribute [local go_sem ↓] keptR_load keptR_store keptR_box keptR_alloc keptR_build keptA_load kept_app
set_option maxHeartbeats 3200000 in
theorem rmark_other (pa : Option Addr) (pc : Nat) (ca : Option Addr) (cc : Nat) (ra : Option Addr) (rc : Nat) (r : Rt) (st : Int) (w : World) (hl : sizeA r.att ≤ 100000) (h : AtRd w pa ca ra r.att) (hst : st ≠ 2) :
    Calls Try.prog 10 #[rtV pa pc ca cc ra rc r, .int .i64 st] w fun e w' => RMarkIs w' e pa pc ra rc (markR r st) ∧ Below w.heap.size w w' := by
  have HR := hide h
  have HL : Hid (r.att.comms.length ≤ 100000) := by show _ ≤ _; unfold sizeA at hl; omega
  clear h hl
  rw [rtV_eq]
  have HM : Hid (markR r st = some { r with stale := st }) := by show _ = _; unfold markR markA; rw [if_neg (fun h => hst h.1), if_neg (fun h => hst h.1)]
  have hst2 : (st == 2) = false := by simpa using hst
  clear hst
  go_enter Try.func10, Try.ntmps10
  go_wp2_with fail
  refine kept_box_intro _ _ _ (by rfl) (run_boxR (rtC pa pc ca cc ra rc r) w) ?_
  go_wp2_with fail
  refine kept_alloc_intro _ (run_allocR _) ?_
  obtain ⟨w1, hW0⟩ : ∃ W0, W0 = (w.alloc (.cells (rtC pa pc ca cc ra rc r) 31)).alloc (.cells zR 31) := ⟨_, rfl⟩
  have hs1 : w.heap.size + 2 ≤ w1.heap.size := by rw [hW0]; simp
  have HB1 : Hid (Below w.heap.size w w1) := by show Below _ _ _; rw [hW0]; exact ((Below.refl _ _).alloc (Nat.le_refl _) _).alloc (by simp) _
  have HX1 : Hid (Bl w1 w.heap.size (rtC pa pc ca cc ra rc r)) := by show Bl _ _ _; rw [hW0]; exact (Bl.new w _).below ((Below.refl _ _).alloc (Nat.le_refl _) _)
  have HY1 : Hid (Bl w1 (w.heap.size + 1) zR) := by show Bl _ _ _; rw [hW0]; have := Bl.new (w.alloc (.cells (rtC pa pc ca cc ra rc r) 31)) zR; simpa using this
  rw [← hW0]
  simp only [World.size_alloc]
  clear hW0
  have HB2 := HB1
  have HX2 := HX1
  have HY2 := HY1
  have hs2 := hs1
  clear HB1 HX1 HY1 hs1
  generalize w1 = w2 at *
  have c10 : w2.cell? ⟨w.heap.size, 10, none⟩ = some (.int .i64 r.stale) := HX2.out.cell 10 rfl
  have f10 := HX2.out.frozen 10
  have c8 : w2.cell? ⟨w.heap.size, 8, none⟩ = some (.slice ca r.att.comms.length cc) := HX2.out.cell 8 rfl
  have z2 : w.heap.size < w2.heap.size := by omega
  go_wp2_with fail
  have HX3 : Hid (Bl (w2.setCell ⟨w.heap.size, 10, none⟩ (.int .i64 st)) w.heap.size (rtC pa pc ca cc ra rc { r with stale := st })) := HX2.out.set 10 (.int .i64 st)
  have HY3 := hide (HY2.out.other 10 (.int .i64 st) (Y := w.heap.size) (by omega))
  have HB3 : Hid (Below w.heap.size w (w2.setCell ⟨w.heap.size, 10, none⟩ (.int .i64 st))) := HB2.out.setCell (Nat.le_refl _) _
  have hs3 : w.heap.size + 2 ≤ (w2.setCell ⟨w.heap.size, 10, none⟩ (.int .i64 st)).heap.size := by simpa using hs2
  clear c10 f10 c8 z2
  generalize w2.setCell ⟨w.heap.size, 10, none⟩ (.int .i64 st) = w3 at *
  clear HB2 HX2 HY2 hs2
  refine kept_load_intro _ _ _ (by rfl) (run_loadR HX3.out (RC.rt _ _ _ _ _ _ _)) ?_
  go_wp2_with fail
  refine kept_store_intro _ _ _ _ (by rfl) (by rfl) (run_storeR HY3.out rfl (RC.rt _ _ _ _ _ _ _)) ?_
  have HY9 : Hid (Bl (w3.setCells (w.heap.size + 1) 0 (rtC pa pc ca cc ra rc { r with stale := st }).toList) (w.heap.size + 1) (rtC pa pc ca cc ra rc { r with stale := st })) := HY3.out.put rfl
  have hb9 := below_puts (Below.refl (w.heap.size + 1) w3) (X := w.heap.size + 1) (Nat.le_refl _) (rtC pa pc ca cc ra rc { r with stale := st }).toList
  have HB9 := hide (HB3.out.trans (hb9.mono (by omega)))
  have HA9 : Hid (AtRd (w3.setCells (w.heap.size + 1) 0 (rtC pa pc ca cc ra rc { r with stale := st }).toList) pa ca ra (r.att)) := HR.out.below HB9.out
  clear hb9
  generalize w3.setCells (w.heap.size + 1) 0 (rtC pa pc ca cc ra rc { r with stale := st }).toList = w9 at *
  go_wp2_with fail
  rw [HM.out]
  refine bodyPost_ret (v := .tuple #[.agg (rtC pa pc ca cc ra rc { r with stale := st }), .bool true]) (res_two Try.results10 _ w9 (w.heap.size + 1) _ _ rfl rfl HY9.out (RC.rt _ _ _ _ _ _ _)) rfl ⟨⟨ca, cc, rfl, HA9.out⟩, HB9.out⟩
set_option maxHeartbeats 3200000 in
theorem rmark_none (pa : Option Addr) (pc : Nat) (ca : Option Addr) (cc : Nat) (ra : Option Addr) (rc : Nat) (r : Rt) (w : World) (hl : sizeA r.att ≤ 100000) (h : AtRd w pa ca ra r.att) (hn : hasC r.att.comms 4294901767 = true) :
    Calls Try.prog 10 #[rtV pa pc ca cc ra rc r, .int .i64 2] w fun e w' => RMarkIs w' e pa pc ra rc (markR r 2) ∧ Below w.heap.size w w' := by
  have HR := hide h
  have HL : Hid (r.att.comms.length ≤ 100000) := by show _ ≤ _; unfold sizeA at hl; omega
  clear h hl
  rw [rtV_eq]
  have HN := hide hn
  have HM : Hid (markR r 2 = none) := by show _ = _; unfold markR; rw [if_pos ⟨rfl, hn⟩]
  clear hn
  go_enter Try.func10, Try.ntmps10
  go_wp2_with fail
  refine kept_box_intro _ _ _ (by rfl) (run_boxR (rtC pa pc ca cc ra rc r) w) ?_
  go_wp2_with fail
  refine kept_alloc_intro _ (run_allocR _) ?_
  obtain ⟨w1, hW0⟩ : ∃ W0, W0 = (w.alloc (.cells (rtC pa pc ca cc ra rc r) 31)).alloc (.cells zR 31) := ⟨_, rfl⟩
  have hs1 : w.heap.size + 2 ≤ w1.heap.size := by rw [hW0]; simp
  have HB1 : Hid (Below w.heap.size w w1) := by show Below _ _ _; rw [hW0]; exact ((Below.refl _ _).alloc (Nat.le_refl _) _).alloc (by simp) _
  have HX1 : Hid (Bl w1 w.heap.size (rtC pa pc ca cc ra rc r)) := by show Bl _ _ _; rw [hW0]; exact (Bl.new w _).below ((Below.refl _ _).alloc (Nat.le_refl _) _)
  have HY1 : Hid (Bl w1 (w.heap.size + 1) zR) := by show Bl _ _ _; rw [hW0]; have := Bl.new (w.alloc (.cells (rtC pa pc ca cc ra rc r) 31)) zR; simpa using this
  rw [← hW0]
  simp only [World.size_alloc]
  clear hW0
  go_wp2_with fail
  refine kept_load_intro _ _ _ (by rfl) (run_loadA HX1.out) ?_
  go_wp2_with fail
  refine (rhasc_any pa pc ca cc ra rc r.att 4294901767 w1 HL.out (HR.out.comms.below HB1.out)).mono ?_
  rw [HN.out]
  rintro e w2 ⟨rfl, hb2⟩
  have HB2 : Hid (Below w.heap.size w w2) := HB1.out.trans (hb2.mono HB1.out.size)
  have HX2 := hide (HX1.out.below hb2)
  have HY2 := hide (HY1.out.below hb2)
  have hs2 : w.heap.size + 2 ≤ w2.heap.size := by have := hb2.size; omega
  clear hb2 HB1 HX1 HY1 hs1
  go_wp2_with fail
  refine kept_build0_intro _ (run_build0R _) ?_
  go_wp2_with fail
  refine kept_store_intro _ _ _ _ (by rfl) (by rfl) (run_storeR HY2.out rfl RC.zero) ?_
  have HY9 : Hid (Bl (w2.setCells (w.heap.size + 1) 0 zR.toList) (w.heap.size + 1) zR) := HY2.out.put rfl
  have HB9 := hide (below_puts HB2.out (X := w.heap.size + 1) (by omega) zR.toList)
  generalize w2.setCells (w.heap.size + 1) 0 zR.toList = w9 at *
  go_wp2_with fail
  rw [HM.out]
  refine bodyPost_ret (v := .tuple #[.agg zR, .bool false]) (res_two Try.results10 _ w9 (w.heap.size + 1) _ _ rfl rfl HY9.out RC.zero) rfl ⟨rfl, HB9.out⟩
set_option maxHeartbeats 3200000 in
theorem rmark_has (pa : Option Addr) (pc : Nat) (ca : Option Addr) (cc : Nat) (ra : Option Addr) (rc : Nat) (r : Rt) (w : World) (hl : sizeA r.att ≤ 100000) (h : AtRd w pa ca ra r.att) (hn : hasC r.att.comms 4294901767 = false) (hs : hasC r.att.comms 4294901766 = true) :
    Calls Try.prog 10 #[rtV pa pc ca cc ra rc r, .int .i64 2] w fun e w' => RMarkIs w' e pa pc ra rc (markR r 2) ∧ Below w.heap.size w w' := by
  have HR := hide h
  have HL : Hid (r.att.comms.length ≤ 100000) := by show _ ≤ _; unfold sizeA at hl; omega
  clear h hl
  rw [rtV_eq]
  have HN := hide hn
  have HS := hide hs
  have HM : Hid (markR r 2 = some { r with stale := 2 }) := by show _ = _; unfold markR markA; rw [if_neg (fun h => by rw [hn] at h; cases h.2), if_neg (fun h => by have h9 := h.2; unfold lastB at h9; rw [hs] at h9; cases h9)]
  clear hn hs
  go_enter Try.func10, Try.ntmps10
  go_wp2_with fail
  refine kept_box_intro _ _ _ (by rfl) (run_boxR (rtC pa pc ca cc ra rc r) w) ?_
  go_wp2_with fail
  refine kept_alloc_intro _ (run_allocR _) ?_
  obtain ⟨w1, hW0⟩ : ∃ W0, W0 = (w.alloc (.cells (rtC pa pc ca cc ra rc r) 31)).alloc (.cells zR 31) := ⟨_, rfl⟩
  have hs1 : w.heap.size + 2 ≤ w1.heap.size := by rw [hW0]; simp
  have HB1 : Hid (Below w.heap.size w w1) := by show Below _ _ _; rw [hW0]; exact ((Below.refl _ _).alloc (Nat.le_refl _) _).alloc (by simp) _
  have HX1 : Hid (Bl w1 w.heap.size (rtC pa pc ca cc ra rc r)) := by show Bl _ _ _; rw [hW0]; exact (Bl.new w _).below ((Below.refl _ _).alloc (Nat.le_refl _) _)
  have HY1 : Hid (Bl w1 (w.heap.size + 1) zR) := by show Bl _ _ _; rw [hW0]; have := Bl.new (w.alloc (.cells (rtC pa pc ca cc ra rc r) 31)) zR; simpa using this
  rw [← hW0]
  simp only [World.size_alloc]
  clear hW0
  go_wp2_with fail
  refine kept_load_intro _ _ _ (by rfl) (run_loadA HX1.out) ?_
  go_wp2_with fail
  refine (rhasc_any pa pc ca cc ra rc r.att 4294901767 w1 HL.out (HR.out.comms.below HB1.out)).mono ?_
  rw [HN.out]
  rintro e w2 ⟨rfl, hb2⟩
  have HB2 : Hid (Below w.heap.size w w2) := HB1.out.trans (hb2.mono HB1.out.size)
  have HX2 := hide (HX1.out.below hb2)
  have HY2 := hide (HY1.out.below hb2)
  have hs2 : w.heap.size + 2 ≤ w2.heap.size := by have := hb2.size; omega
  clear hb2 HB1 HX1 HY1 hs1
  have c10 : w2.cell? ⟨w.heap.size, 10, none⟩ = some (.int .i64 r.stale) := HX2.out.cell 10 rfl
  have f10 := HX2.out.frozen 10
  have c8 : w2.cell? ⟨w.heap.size, 8, none⟩ = some (.slice ca r.att.comms.length cc) := HX2.out.cell 8 rfl
  have z2 : w.heap.size < w2.heap.size := by omega
  go_wp2_with fail
  have HX3 : Hid (Bl (w2.setCell ⟨w.heap.size, 10, none⟩ (.int .i64 2)) w.heap.size (rtC pa pc ca cc ra rc { r with stale := 2 })) := HX2.out.set 10 (.int .i64 2)
  have HY3 := hide (HY2.out.other 10 (.int .i64 2) (Y := w.heap.size) (by omega))
  have HB3 : Hid (Below w.heap.size w (w2.setCell ⟨w.heap.size, 10, none⟩ (.int .i64 2))) := HB2.out.setCell (Nat.le_refl _) _
  have hs3 : w.heap.size + 2 ≤ (w2.setCell ⟨w.heap.size, 10, none⟩ (.int .i64 2)).heap.size := by simpa using hs2
  clear c10 f10 c8 z2
  generalize w2.setCell ⟨w.heap.size, 10, none⟩ (.int .i64 2) = w3 at *
  clear HB2 HX2 HY2 hs2
  refine kept_load_intro _ _ _ (by rfl) (run_loadA HX3.out) ?_
  go_wp2_with fail
  refine (rhasc_any pa pc ca cc ra rc r.att 4294901766 w3 HL.out (HR.out.comms.below HB3.out)).mono ?_
  rw [HS.out]
  rintro e w4 ⟨rfl, hb4⟩
  have HB4 : Hid (Below w.heap.size w w4) := HB3.out.trans (hb4.mono HB3.out.size)
  have HX4 := hide (HX3.out.below hb4)
  have HY4 := hide (HY3.out.below hb4)
  have hs4 : w.heap.size + 2 ≤ w4.heap.size := by have := hb4.size; omega
  clear hb4 HB3 HX3 HY3 hs3
  have c8 : w4.cell? ⟨w.heap.size, 8, none⟩ = some (.slice ca r.att.comms.length cc) := HX4.out.cell 8 rfl
  have z4 : w.heap.size < w4.heap.size := by omega
  go_wp2_with fail
  refine kept_load_intro _ _ _ (by rfl) (run_loadR HX4.out (RC.rt _ _ _ _ _ _ _)) ?_
  go_wp2_with fail
  refine kept_store_intro _ _ _ _ (by rfl) (by rfl) (run_storeR HY4.out rfl (RC.rt _ _ _ _ _ _ _)) ?_
  have HY9 : Hid (Bl (w4.setCells (w.heap.size + 1) 0 (rtC pa pc ca cc ra rc { r with stale := 2 }).toList) (w.heap.size + 1) (rtC pa pc ca cc ra rc { r with stale := 2 })) := HY4.out.put rfl
  have hb9 := below_puts (Below.refl (w.heap.size + 1) w4) (X := w.heap.size + 1) (Nat.le_refl _) (rtC pa pc ca cc ra rc { r with stale := 2 }).toList
  have HB9 := hide (HB4.out.trans (hb9.mono (by omega)))
  have HA9 : Hid (AtRd (w4.setCells (w.heap.size + 1) 0 (rtC pa pc ca cc ra rc { r with stale := 2 }).toList) pa ca ra (r.att)) := HR.out.below HB9.out
  clear hb9
  generalize w4.setCells (w.heap.size + 1) 0 (rtC pa pc ca cc ra rc { r with stale := 2 }).toList = w9 at *
  go_wp2_with fail
  rw [HM.out]
  refine bodyPost_ret (v := .tuple #[.agg (rtC pa pc ca cc ra rc { r with stale := 2 }), .bool true]) (res_two Try.results10 _ w9 (w.heap.size + 1) _ _ rfl rfl HY9.out (RC.rt _ _ _ _ _ _ _)) rfl ⟨⟨ca, cc, rfl, HA9.out⟩, HB9.out⟩
set_option maxHeartbeats 3200000 in
theorem rmark_many (pa : Option Addr) (pc : Nat) (ca : Option Addr) (cc : Nat) (ra : Option Addr) (rc : Nat) (r : Rt) (w : World) (hl : sizeA r.att ≤ 100000) (h : AtRd w pa ca ra r.att) (hn : hasC r.att.comms 4294901767 = false) (hs : hasC r.att.comms 4294901766 = false) (hm : ¬ r.att.comms.length < 32) :
    Calls Try.prog 10 #[rtV pa pc ca cc ra rc r, .int .i64 2] w fun e w' => RMarkIs w' e pa pc ra rc (markR r 2) ∧ Below w.heap.size w w' := by
  have HR := hide h
  have HL : Hid (r.att.comms.length ≤ 100000) := by show _ ≤ _; unfold sizeA at hl; omega
  clear h hl
  rw [rtV_eq]
  have HN := hide hn
  have HS := hide hs
  have HM : Hid (markR r 2 = some { r with stale := 2 }) := by show _ = _; unfold markR markA; rw [if_neg (fun h => by rw [hn] at h; cases h.2), if_neg (fun h => by have h9 := h.2; unfold lastB at h9; rw [hs, decide_eq_false (by omega)] at h9; cases h9)]
  clear hn hs
  have hm2 : decide ((r.att.comms.length : Int) < 32) = false := decide_eq_false (by omega)
  have hm3 : decide (r.att.comms.length < 32) = false := decide_eq_false hm
  clear hm
  go_enter Try.func10, Try.ntmps10
  go_wp2_with fail
  refine kept_box_intro _ _ _ (by rfl) (run_boxR (rtC pa pc ca cc ra rc r) w) ?_
  go_wp2_with fail
  refine kept_alloc_intro _ (run_allocR _) ?_
  obtain ⟨w1, hW0⟩ : ∃ W0, W0 = (w.alloc (.cells (rtC pa pc ca cc ra rc r) 31)).alloc (.cells zR 31) := ⟨_, rfl⟩
  have hs1 : w.heap.size + 2 ≤ w1.heap.size := by rw [hW0]; simp
  have HB1 : Hid (Below w.heap.size w w1) := by show Below _ _ _; rw [hW0]; exact ((Below.refl _ _).alloc (Nat.le_refl _) _).alloc (by simp) _
  have HX1 : Hid (Bl w1 w.heap.size (rtC pa pc ca cc ra rc r)) := by show Bl _ _ _; rw [hW0]; exact (Bl.new w _).below ((Below.refl _ _).alloc (Nat.le_refl _) _)
  have HY1 : Hid (Bl w1 (w.heap.size + 1) zR) := by show Bl _ _ _; rw [hW0]; have := Bl.new (w.alloc (.cells (rtC pa pc ca cc ra rc r) 31)) zR; simpa using this
  rw [← hW0]
  simp only [World.size_alloc]
  clear hW0
  go_wp2_with fail
  refine kept_load_intro _ _ _ (by rfl) (run_loadA HX1.out) ?_
  go_wp2_with fail
  refine (rhasc_any pa pc ca cc ra rc r.att 4294901767 w1 HL.out (HR.out.comms.below HB1.out)).mono ?_
  rw [HN.out]
  rintro e w2 ⟨rfl, hb2⟩
  have HB2 : Hid (Below w.heap.size w w2) := HB1.out.trans (hb2.mono HB1.out.size)
  have HX2 := hide (HX1.out.below hb2)
  have HY2 := hide (HY1.out.below hb2)
  have hs2 : w.heap.size + 2 ≤ w2.heap.size := by have := hb2.size; omega
  clear hb2 HB1 HX1 HY1 hs1
  have c10 : w2.cell? ⟨w.heap.size, 10, none⟩ = some (.int .i64 r.stale) := HX2.out.cell 10 rfl
  have f10 := HX2.out.frozen 10
  have c8 : w2.cell? ⟨w.heap.size, 8, none⟩ = some (.slice ca r.att.comms.length cc) := HX2.out.cell 8 rfl
  have z2 : w.heap.size < w2.heap.size := by omega
  go_wp2_with fail
  have HX3 : Hid (Bl (w2.setCell ⟨w.heap.size, 10, none⟩ (.int .i64 2)) w.heap.size (rtC pa pc ca cc ra rc { r with stale := 2 })) := HX2.out.set 10 (.int .i64 2)
  have HY3 := hide (HY2.out.other 10 (.int .i64 2) (Y := w.heap.size) (by omega))
  have HB3 : Hid (Below w.heap.size w (w2.setCell ⟨w.heap.size, 10, none⟩ (.int .i64 2))) := HB2.out.setCell (Nat.le_refl _) _
  have hs3 : w.heap.size + 2 ≤ (w2.setCell ⟨w.heap.size, 10, none⟩ (.int .i64 2)).heap.size := by simpa using hs2
  clear c10 f10 c8 z2
  generalize w2.setCell ⟨w.heap.size, 10, none⟩ (.int .i64 2) = w3 at *
  clear HB2 HX2 HY2 hs2
  refine kept_load_intro _ _ _ (by rfl) (run_loadA HX3.out) ?_
  go_wp2_with fail
  refine (rhasc_any pa pc ca cc ra rc r.att 4294901766 w3 HL.out (HR.out.comms.below HB3.out)).mono ?_
  rw [HS.out]
  rintro e w4 ⟨rfl, hb4⟩
  have HB4 : Hid (Below w.heap.size w w4) := HB3.out.trans (hb4.mono HB3.out.size)
  have HX4 := hide (HX3.out.below hb4)
  have HY4 := hide (HY3.out.below hb4)
  have hs4 : w.heap.size + 2 ≤ w4.heap.size := by have := hb4.size; omega
  clear hb4 HB3 HX3 HY3 hs3
  have c8 : w4.cell? ⟨w.heap.size, 8, none⟩ = some (.slice ca r.att.comms.length cc) := HX4.out.cell 8 rfl
  have z4 : w.heap.size < w4.heap.size := by omega
  go_wp2_with fail
  refine kept_load_intro _ _ _ (by rfl) (run_loadR HX4.out (RC.rt _ _ _ _ _ _ _)) ?_
  go_wp2_with fail
  refine kept_store_intro _ _ _ _ (by rfl) (by rfl) (run_storeR HY4.out rfl (RC.rt _ _ _ _ _ _ _)) ?_
  have HY9 : Hid (Bl (w4.setCells (w.heap.size + 1) 0 (rtC pa pc ca cc ra rc { r with stale := 2 }).toList) (w.heap.size + 1) (rtC pa pc ca cc ra rc { r with stale := 2 })) := HY4.out.put rfl
  have hb9 := below_puts (Below.refl (w.heap.size + 1) w4) (X := w.heap.size + 1) (Nat.le_refl _) (rtC pa pc ca cc ra rc { r with stale := 2 }).toList
  have HB9 := hide (HB4.out.trans (hb9.mono (by omega)))
  have HA9 : Hid (AtRd (w4.setCells (w.heap.size + 1) 0 (rtC pa pc ca cc ra rc { r with stale := 2 }).toList) pa ca ra (r.att)) := HR.out.below HB9.out
  clear hb9
  generalize w4.setCells (w.heap.size + 1) 0 (rtC pa pc ca cc ra rc { r with stale := 2 }).toList = w9 at *
  go_wp2_with fail
  rw [HM.out]
  refine bodyPost_ret (v := .tuple #[.agg (rtC pa pc ca cc ra rc { r with stale := 2 }), .bool true]) (res_two Try.results10 _ w9 (w.heap.size + 1) _ _ rfl rfl HY9.out (RC.rt _ _ _ _ _ _ _)) rfl ⟨⟨ca, cc, rfl, HA9.out⟩, HB9.out⟩
set_option maxHeartbeats 3200000 in
theorem rmark_last (pa : Option Addr) (pc : Nat) (ca : Option Addr) (cc : Nat) (ra : Option Addr) (rc : Nat) (r : Rt) (w : World) (h : AtRd w pa ca ra r.att) (hn : hasC r.att.comms 4294901767 = false) (hs : hasC r.att.comms 4294901766 = false) (hm : r.att.comms.length < 32) :
    Calls Try.prog 10 #[rtV pa pc ca cc ra rc r, .int .i64 2] w fun e w' => RMarkIs w' e pa pc ra rc (markR r 2) ∧ Below w.heap.size w w' := by
  have HR := hide h
  have HL : Hid (r.att.comms.length ≤ 100000) := by show _ ≤ _; omega
  clear h
  rw [rtV_eq]
  have HN := hide hn
  have HS := hide hs
  have HM : Hid (markR r 2 = some { r with att := { r.att with comms := r.att.comms ++ [4294901766] }, stale := 2 }) := by show _ = _; unfold markR markA; rw [if_neg (fun h => by rw [hn] at h; cases h.2), if_pos ⟨rfl, by unfold lastB; rw [hs, decide_eq_true (by omega)]; rfl⟩]
  clear hn hs
  have hm2 : (r.att.comms.length : Int) < 32 := by omega
  go_enter Try.func10, Try.ntmps10
  go_wp2_with fail
  refine kept_box_intro _ _ _ (by rfl) (run_boxR (rtC pa pc ca cc ra rc r) w) ?_
  go_wp2_with fail
  refine kept_alloc_intro _ (run_allocR _) ?_
  obtain ⟨w1, hW0⟩ : ∃ W0, W0 = (w.alloc (.cells (rtC pa pc ca cc ra rc r) 31)).alloc (.cells zR 31) := ⟨_, rfl⟩
  have hs1 : w.heap.size + 2 ≤ w1.heap.size := by rw [hW0]; simp
  have HB1 : Hid (Below w.heap.size w w1) := by show Below _ _ _; rw [hW0]; exact ((Below.refl _ _).alloc (Nat.le_refl _) _).alloc (by simp) _
  have HX1 : Hid (Bl w1 w.heap.size (rtC pa pc ca cc ra rc r)) := by show Bl _ _ _; rw [hW0]; exact (Bl.new w _).below ((Below.refl _ _).alloc (Nat.le_refl _) _)
  have HY1 : Hid (Bl w1 (w.heap.size + 1) zR) := by show Bl _ _ _; rw [hW0]; have := Bl.new (w.alloc (.cells (rtC pa pc ca cc ra rc r) 31)) zR; simpa using this
  rw [← hW0]
  simp only [World.size_alloc]
  clear hW0
  go_wp2_with fail
  refine kept_load_intro _ _ _ (by rfl) (run_loadA HX1.out) ?_
  go_wp2_with fail
  refine (rhasc_any pa pc ca cc ra rc r.att 4294901767 w1 HL.out (HR.out.comms.below HB1.out)).mono ?_
  rw [HN.out]
  rintro e w2 ⟨rfl, hb2⟩
  have HB2 : Hid (Below w.heap.size w w2) := HB1.out.trans (hb2.mono HB1.out.size)
  have HX2 := hide (HX1.out.below hb2)
  have HY2 := hide (HY1.out.below hb2)
  have hs2 : w.heap.size + 2 ≤ w2.heap.size := by have := hb2.size; omega
  clear hb2 HB1 HX1 HY1 hs1
  have c10 : w2.cell? ⟨w.heap.size, 10, none⟩ = some (.int .i64 r.stale) := HX2.out.cell 10 rfl
  have f10 := HX2.out.frozen 10
  have c8 : w2.cell? ⟨w.heap.size, 8, none⟩ = some (.slice ca r.att.comms.length cc) := HX2.out.cell 8 rfl
  have z2 : w.heap.size < w2.heap.size := by omega
  go_wp2_with fail
  have HX3 : Hid (Bl (w2.setCell ⟨w.heap.size, 10, none⟩ (.int .i64 2)) w.heap.size (rtC pa pc ca cc ra rc { r with stale := 2 })) := HX2.out.set 10 (.int .i64 2)
  have HY3 := hide (HY2.out.other 10 (.int .i64 2) (Y := w.heap.size) (by omega))
  have HB3 : Hid (Below w.heap.size w (w2.setCell ⟨w.heap.size, 10, none⟩ (.int .i64 2))) := HB2.out.setCell (Nat.le_refl _) _
  have hs3 : w.heap.size + 2 ≤ (w2.setCell ⟨w.heap.size, 10, none⟩ (.int .i64 2)).heap.size := by simpa using hs2
  clear c10 f10 c8 z2
  generalize w2.setCell ⟨w.heap.size, 10, none⟩ (.int .i64 2) = w3 at *
  clear HB2 HX2 HY2 hs2
  refine kept_load_intro _ _ _ (by rfl) (run_loadA HX3.out) ?_
  go_wp2_with fail
  refine (rhasc_any pa pc ca cc ra rc r.att 4294901766 w3 HL.out (HR.out.comms.below HB3.out)).mono ?_
  rw [HS.out]
  rintro e w4 ⟨rfl, hb4⟩
  have HB4 : Hid (Below w.heap.size w w4) := HB3.out.trans (hb4.mono HB3.out.size)
  have HX4 := hide (HX3.out.below hb4)
  have HY4 := hide (HY3.out.below hb4)
  have hs4 : w.heap.size + 2 ≤ w4.heap.size := by have := hb4.size; omega
  clear hb4 HB3 HX3 HY3 hs3
  have c8 : w4.cell? ⟨w.heap.size, 8, none⟩ = some (.slice ca r.att.comms.length cc) := HX4.out.cell 8 rfl
  have z4 : w.heap.size < w4.heap.size := by omega
  go_wp2_with fail
  obtain ⟨v6, w6, a7, c7, w7, hr6, hr7, hc7, hb6, hb7, a6, c6, rfl⟩ := app_two (x := 4294901766) ca cc HL.out (HR.out.comms.below HB4.out)
  have HR6 := hide hr6
  have HR7 := hide hr7
  have HC7 : Hid (w7.ownsRow (w.heap.size + 2) 22 1 (.slice a7 (r.att.comms ++ [4294901766]).length c7) (r.att.comms ++ [4294901766]).length (ucells (r.att.comms ++ [4294901766]))) := own_base hc7 hs4
  have HX7 := hide (HX4.out.below hb7)
  have HY7 := hide (HY4.out.below hb7)
  have HB7 : Hid (Below w.heap.size w w7) := HB4.out.trans (hb7.mono HB4.out.size)
  have hs7 : w.heap.size + 2 ≤ w7.heap.size := by have := hb7.size; omega
  clear hr6 hr7 hc7 hb6 hb7 HX4 HY4 HB4
  refine kept_app_intro _ _ _ _ _ _ (w' := w6) (by rfl) (by rfl) (by exact HR6.out) ?_
  go_wp2_with fail
  refine kept_app_intro _ _ _ _ _ _ (w' := w7) (by rfl) (by rfl) (by exact HR7.out) ?_
  clear HR6 HR7 c8 z4 hs4
  have c8 : w7.cell? ⟨w.heap.size, 8, none⟩ = some (.slice ca r.att.comms.length cc) := HX7.out.cell 8 rfl
  have f8 := HX7.out.frozen 8
  have z7 : w.heap.size < w7.heap.size := by omega
  go_wp2_with fail
  have HX8 : Hid (Bl (w7.setCell ⟨w.heap.size, 8, none⟩ (.slice a7 (r.att.comms.length + 1) c7)) w.heap.size (rtC pa pc a7 c7 ra rc { r with att := { r.att with comms := r.att.comms ++ [4294901766] }, stale := 2 })) := by
    have h9 := HX7.out.set 8 (.slice a7 (r.att.comms.length + 1) c7)
    have e9 : ((rtC pa pc ca cc ra rc { r with stale := 2 }).setIfInBounds 8 (.slice a7 (r.att.comms.length + 1) c7)) = rtC pa pc a7 c7 ra rc { r with att := { r.att with comms := r.att.comms ++ [4294901766] }, stale := 2 } := by
      unfold rtC
      simp [List.length_append]
    rw [e9] at h9
    exact h9
  have HY8 := hide (HY7.out.other 8 (.slice a7 (r.att.comms.length + 1) c7) (Y := w.heap.size) (by omega))
  have HB8 : Hid (Below w.heap.size w (w7.setCell ⟨w.heap.size, 8, none⟩ (.slice a7 (r.att.comms.length + 1) c7))) := HB7.out.setCell (Nat.le_refl _) _
  have HC8 : Hid ((w7.setCell ⟨w.heap.size, 8, none⟩ (.slice a7 (r.att.comms.length + 1) c7)).ownsRow (w.heap.size + 2) 22 1 (.slice a7 (r.att.comms ++ [4294901766]).length c7) (r.att.comms ++ [4294901766]).length (ucells (r.att.comms ++ [4294901766]))) := own_keeps HC7.out ((Keeps.refl (fun k => k = w.heap.size) w7).setCell _ _ _ (.inl rfl)) (fun b h1 h2 => by omega)
  clear c8 f8 z7
  generalize w7.setCell ⟨w.heap.size, 8, none⟩ (.slice a7 (r.att.comms.length + 1) c7) = w8 at *
  clear HX7 HY7 HB7 HC7
  refine kept_load_intro _ _ _ (by rfl) (run_loadR HX8.out (RC.rt _ _ _ _ _ _ _)) ?_
  go_wp2_with fail
  refine kept_store_intro _ _ _ _ (by rfl) (by rfl) (run_storeR HY8.out rfl (RC.rt _ _ _ _ _ _ _)) ?_
  have HY9 : Hid (Bl (w8.setCells (w.heap.size + 1) 0 (rtC pa pc a7 c7 ra rc { r with att := { r.att with comms := r.att.comms ++ [4294901766] }, stale := 2 }).toList) (w.heap.size + 1) (rtC pa pc a7 c7 ra rc { r with att := { r.att with comms := r.att.comms ++ [4294901766] }, stale := 2 })) := HY8.out.put rfl
  have hb9 := below_puts (Below.refl (w.heap.size + 1) w8) (X := w.heap.size + 1) (Nat.le_refl _) (rtC pa pc a7 c7 ra rc { r with att := { r.att with comms := r.att.comms ++ [4294901766] }, stale := 2 }).toList
  have HB9 := hide (HB8.out.trans (hb9.mono (by omega)))
  have HA9 : Hid (AtRd (w8.setCells (w.heap.size + 1) 0 (rtC pa pc a7 c7 ra rc { r with att := { r.att with comms := r.att.comms ++ [4294901766] }, stale := 2 }).toList) pa a7 ra ({ r.att with comms := r.att.comms ++ [4294901766] })) := ⟨HR.out.path.below HB9.out, own_reads (own_keeps HC8.out ((Keeps.refl (fun k => k = w.heap.size + 1) w8).setCells _ _ _ (.inl rfl)) (fun b h1 h2 => by omega)), HR.out.raws.below HB9.out, HR.out.next⟩
  clear hb9
  generalize w8.setCells (w.heap.size + 1) 0 (rtC pa pc a7 c7 ra rc { r with att := { r.att with comms := r.att.comms ++ [4294901766] }, stale := 2 }).toList = w9 at *
  go_wp2_with fail
  rw [HM.out]
  refine bodyPost_ret (v := .tuple #[.agg (rtC pa pc a7 c7 ra rc { r with att := { r.att with comms := r.att.comms ++ [4294901766] }, stale := 2 }), .bool true]) (res_two Try.results10 _ w9 (w.heap.size + 1) _ _ rfl rfl HY9.out (RC.rt _ _ _ _ _ _ _)) rfl ⟨⟨a7, c7, rfl, HA9.out⟩, HB9.out⟩
end
theorem rmark_any (pa : Option Addr) (pc : Nat) (ca : Option Addr) (cc : Nat) (ra : Option Addr) (rc : Nat) (r : Rt) (st : Int) (w : World) (hl : sizeA r.att ≤ 100000) (h : AtRd w pa ca ra r.att) :
    Calls Try.prog 10 #[rtV pa pc ca cc ra rc r, .int .i64 st] w fun e w' => RMarkIs w' e pa pc ra rc (markR r st) ∧ Below w.heap.size w w' := by
  by_cases hst : st = 2
  · subst hst
    cases hn : hasC r.att.comms 4294901767 with
    | true => exact rmark_none pa pc ca cc ra rc r w hl h hn
    | false =>
      cases hs : hasC r.att.comms 4294901766 with
      | true => exact rmark_has pa pc ca cc ra rc r w hl h hn hs
      | false =>
        by_cases hm : r.att.comms.length < 32
        · exact rmark_last pa pc ca cc ra rc r w h hn hs hm
        · exact rmark_many pa pc ca cc ra rc r w hl h hn hs hm
  · exact rmark_other pa pc ca cc ra rc r st w hl h hst
end Go.Proofs.Ytnblkgffgbiemaa
