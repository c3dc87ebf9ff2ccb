/- AdjinNone's walk. -/
import Derived.Test.YtjlmkaeepeamkaaHAy
namespace Go.Proofs.Ytjlmkaeepeamkaa
open Go.RowKit
set_option maxRecDepth 100000

section
attribute [local go_sem ↓] keptR_load keptR_store keptR_box keptR_alloc keptR_build
set_option maxHeartbeats 6400000 in
theorem adjinNone_walk (pa : Option Addr) (pc : Nat) (ca : Option Addr) (cc : Nat) (ra : Option Addr) (rc : Nat) (r : Rt) (w : World) :
    Calls Try.prog 5 #[rtV pa pc ca cc ra rc r] w fun e w' => e = .returned (.bool true) ∧ Below w.heap.size w w' := by
  rw [rtV_eq]
  go_enter Try.func5, Try.ntmps5
  go_wp2_with fail
  refine kept_box_intro _ _ _ (by rfl) (run_boxR (rtC pa pc ca cc ra rc r) w) ?_
  have HB1 : Hid (Below w.heap.size w (w.alloc (.cells (rtC pa pc ca cc ra rc r) 36))) := (Below.refl _ _).alloc (Nat.le_refl _) _
  have HX1 := hide (Bl.new w (rtC pa pc ca cc ra rc r))
  generalize w.alloc (.cells (rtC pa pc ca cc ra rc r) 36) = w1 at *
  go_wp2_with fail
  refine kept_load_intro _ _ _ (by rfl) (run_loadR HX1.out (RC.rt _ _ _ _ _ _ _)) ?_
  go_wp2_with fail
  refine (put_nil _ w1).mono ?_
  rintro e w2 ⟨rfl, b2⟩
  have HX2 := hide (HX1.out.below b2)
  have HB2 : Hid (Below w.heap.size w w2) := HB1.out.trans (b2.mono HB1.out.size)
  clear b2 HX1 HB1
  have c0 := HX2.out.cell 0 rfl
  have c1 := HX2.out.cell 1 rfl
  have c2 := HX2.out.cell 2 rfl
  have z2 := HX2.out.lt
  go_wp2_with fail
  refine (get_nil r.A r.L r.peer w2).mono ?_
  rintro e w3 ⟨rfl, b3⟩
  have HX3 := hide (HX2.out.below b3)
  have HB3 : Hid (Below w.heap.size w w3) := HB2.out.trans (b3.mono HB2.out.size)
  clear b3 HX2 HB2 c0 c1 c2 z2
  go_wp2_with fail
  refine kept_alloc_intro _ (run_allocR _) ?_
  go_wp2_with fail
  refine kept_store_intro _ _ _ (.agg zR) (by rfl) (by rfl) (run_storeR (Bl.new w3 zR) rfl RC.zero) ?_
  have b4 : Below w3.heap.size w3 ((w3.alloc (.cells zR 36)).setCells w3.heap.size 0 zR.toList) := below_puts ((Below.refl _ _).alloc (Nat.le_refl _) _) (Nat.le_refl _) _
  generalize (w3.alloc (.cells zR 36)).setCells w3.heap.size 0 zR.toList = w4 at *
  have HX4 := hide (HX3.out.below b4)
  have HB4 : Hid (Below w.heap.size w w4) := HB3.out.trans (b4.mono HB3.out.size)
  clear b4 HX3 HB3
  go_wp2_with fail
  refine region_ord (fun W => Bl W w.heap.size (rtC pa pc ca cc ra rc r)) (fun k => k == 0 || k == 11 || k == 18 || k == 23 || k == 27 || k == 31) [0, 1, 2, 3, 4, 5, 6, 7, 8, 9, 10, 11, 12, 13, 14, 15, 16, 17, 20, 21, 22, 26, 30, 18, 19, 23, 24, 25, 27, 28, 29, 31, 32, 33, 34, 35] (by kernel_rfl) (by kernel_rfl) (by rfl) (by kernel_rfl) (HX4.out.below (Below.refl _ _).drew) ?_
  have b5 : Below w4.heap.size w4 w4.drew := (Below.refl _ _).drew
  have HX5 := hide (HX4.out.below b5)
  have HB5 : Hid (Below w.heap.size w w4.drew) := HB4.out.trans (b5.mono HB4.out.size)
  clear b5 HX4 HB4
  generalize w4.drew = w5 at *
  refine ord_l (by rfl) (by rfl) (by rfl) ?_
  go_simp
  refine (answers_any w5).mono ?_
  rintro e w6 ⟨rfl, b6⟩
  have HX6 := hide (HX5.out.below b6)
  have HB6 : Hid (Below w.heap.size w w6) := HB5.out.trans (b6.mono HB5.out.size)
  clear b6 HX5 HB5
  refine ⟨HX6.out, ?_⟩
  iterate 10 refine ord_q (by rfl) (by rfl) (by rfl) (fun w9 h9 => (by
    have d0 := h9.cell 0 rfl
    have d1 := h9.cell 1 rfl
    have d2 := h9.cell 2 rfl
    clear h9
    go_simp; first | done | rfl)) (by go_simp; first | done | rfl) ?_
  refine ord_l (by rfl) (by rfl) (by rfl) ?_
  go_simp
  refine (drop_nil r.A r.L r.peer w6).mono ?_
  rintro e w7 ⟨rfl, b7⟩
  have HX7 := hide (HX6.out.below b7)
  have HB7 : Hid (Below w.heap.size w w7) := HB6.out.trans (b7.mono HB6.out.size)
  clear b7 HX6 HB6
  refine ⟨HX7.out, ?_⟩
  iterate 11 refine ord_q (by rfl) (by rfl) (by rfl) (fun w9 h9 => (by
    have d0 := h9.cell 0 rfl
    have d1 := h9.cell 1 rfl
    have d2 := h9.cell 2 rfl
    clear h9
    go_simp; first | done | rfl)) (by go_simp; first | done | rfl) ?_
  refine ord_l (by rfl) (by rfl) (by rfl) ?_
  go_simp
  refine (of_nil r.peer w7).mono ?_
  rintro e w8 ⟨rfl, b8⟩
  have HX8 := hide (HX7.out.below b8)
  have HB8 : Hid (Below w.heap.size w w8) := HB7.out.trans (b8.mono HB7.out.size)
  clear b8 HX7 HB7
  refine ⟨HX8.out, ?_⟩
  refine ord_q (by rfl) (by rfl) (by rfl) (fun w9 h9 => (by clear h9; go_simp; first | done | rfl)) (by go_simp; first | done | rfl) ?_
  refine ord_l (by rfl) (by rfl) (by rfl) ?_
  go_simp
  refine (for_nil r.A r.L w8).mono ?_
  rintro e wa ⟨rfl, ba⟩
  have HXa := hide (HX8.out.below ba)
  have HBa : Hid (Below w.heap.size w wa) := HB8.out.trans (ba.mono HB8.out.size)
  clear ba HX8 HB8
  refine ⟨HXa.out, ?_⟩
  iterate 2 refine ord_q (by rfl) (by rfl) (by rfl) (fun w9 h9 => (by clear h9; go_simp; first | done | rfl)) (by go_simp; first | done | rfl) ?_
  refine ord_l (by rfl) (by rfl) (by rfl) ?_
  go_simp
  refine (prefixes_nil wa).mono ?_
  rintro e wb ⟨rfl, rfl⟩
  refine ⟨HXa.out, ?_⟩
  iterate 2 refine ord_q (by rfl) (by rfl) (by rfl) (fun w9 h9 => (by clear h9; go_simp; first | done | rfl)) (by go_simp; first | done | rfl) ?_
  refine ord_l (by rfl) (by rfl) (by rfl) ?_
  go_simp
  refine (len_nil wb).mono ?_
  rintro e wc ⟨rfl, rfl⟩
  refine ⟨HXa.out, ?_⟩
  iterate 4 refine ord_q (by rfl) (by rfl) (by rfl) (fun w9 h9 => (by clear h9; go_simp; first | done | rfl)) (by go_simp; first | done | rfl) ?_
  refine ⟨fun _ h => (by cases h), ?_⟩
  go_wp2
  go_ret
  exact ⟨rfl, HBa.out⟩
end
end Go.Proofs.Ytjlmkaeepeamkaa
