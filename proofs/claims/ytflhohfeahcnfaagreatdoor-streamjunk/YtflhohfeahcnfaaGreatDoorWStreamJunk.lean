/- StreamJunk's walk. -/
import Derived.Test.YtflhohfeahcnfaaGreatDoorHSf
namespace Go.Proofs.YtflhohfeahcnfaaGreatDoor
open Go.RowKit
set_option maxRecDepth 100000

theorem junk_head {bs : List Nat} (hl : 19 ≤ bs.length) (h0 : bs.getD 0 0 ≠ 255) : headM bs = (0, 1, 1, []) := by
  refine headM_mark (by omega) (fun e => h0 ?_)
  have h1 : (bs.take 16)[0]? = some 255 := by rw [e]; rfl
  rw [List.getElem?_take_of_lt (by omega)] at h1
  rw [List.getD_eq_getElem?_getD, h1]
  rfl
section
set_option maxHeartbeats 1600000 in
theorem junk_ans (a0 a1 : Option Addr) (n m c0 c1 : Nat) (w : World) (hS : SaidM w) (h : n < 19 ∨ 1000 < n ∨ 1000 < m) :
    Calls Tryz.prog 8 #[.slice a0 n c0, .slice a1 m c1] w fun e w' => e = .returned (.bool true) ∧ Below w.heap.size w w' := by
  have HA := hide (sanswers_any w hS)
  clear hS
  by_cases h1 : n < 19
  · have i1 : (n : Int) < 19 := by omega
    clear h
    go_enter Tryz.func8, Tryz.ntmps8
    go_wp2_with fail
    refine HA.out.mono ?_
    rintro e w2 ⟨rfl, hb2⟩
    have HB := hide hb2
    clear hb2
    go_wp2
    go_ret
    exact ⟨rfl, HB.out⟩
  · have i1 : decide ((n : Int) < 19) = false := decide_eq_false (by omega)
    by_cases h2 : 1000 < n
    · have i2 : (1000 : Int) < (n : Int) := by omega
      clear h
      go_enter Tryz.func8, Tryz.ntmps8
      go_wp2_with fail
      refine HA.out.mono ?_
      rintro e w2 ⟨rfl, hb2⟩
      have HB := hide hb2
      clear hb2
      go_wp2
      go_ret
      exact ⟨rfl, HB.out⟩
    · have i2 : decide ((1000 : Int) < (n : Int)) = false := decide_eq_false (by omega)
      have i3 : (1000 : Int) < (m : Int) := by omega
      clear h
      go_enter Tryz.func8, Tryz.ntmps8
      go_wp2_with fail
      refine HA.out.mono ?_
      rintro e w2 ⟨rfl, hb2⟩
      have HB := hide hb2
      clear hb2
      go_wp2
      go_ret
      exact ⟨rfl, HB.out⟩
attribute [local go_sem ↓] keptM_load keptM_store keptM_alloc keptM_build
set_option maxHeartbeats 8000000 in
theorem junk_in (g o : Nat) (a1 : Option Addr) (n m c0 c1 : Nat) (js ms : List Nat) (w : World) (hS : SaidM w) (hn : js.length = n) (hm : ms.length = m) (hj : BRd w (some ⟨g, o, none⟩) js) (hmr : BRd w a1 ms) (h1 : 19 ≤ n) (h2 : n ≤ 1000) (h3 : m ≤ 1000) :
    Calls Tryz.prog 8 #[.slice (some ⟨g, o, none⟩) n c0, .slice a1 m c1] w fun e w' => e = .returned (.bool true) ∧ Below w.heap.size w w' := by
  obtain ⟨g', o', e9, hc⟩ := hj.1.2 (by omega)
  cases e9
  have q0 := hc 0 (by omega)
  rw [Nat.add_zero] at q0
  have HJ := hide hj
  have HMr := hide hmr
  have HS := hide hS
  have HN := hide hn
  have HM := hide hm
  have hx : js.getD 0 0 < 256 := by
    rw [List.getD_eq_getElem?_getD, List.getElem?_eq_getElem (by omega)]
    exact hj.2 _ (List.getElem_mem _)
  obtain ⟨x, hxe⟩ : ∃ x, x = js.getD 0 0 := ⟨_, rfl⟩
  have q0' : w.cell? ⟨g, o, none⟩ = some (.int .u8 (x : Int)) := by rw [hxe]; exact q0
  have zg := World.block_lt_of_cell? w _ q0'
  simp only at zg
  have HX := hide hxe
  clear hj hmr hS hn hm hc q0 hx hxe
  have d1 : decide ((n : Int) < 19) = false := decide_eq_false (by omega)
  have d2 : decide ((1000 : Int) < (n : Int)) = false := decide_eq_false (by omega)
  have d3 : decide ((1000 : Int) < (m : Int)) = false := decide_eq_false (by omega)
  have hn0 : (0 : Int) < (n : Int) := by omega
  by_cases hx : x = 255
  · subst hx
    go_enter Tryz.func8, Tryz.ntmps8
    go_wp2_with fail
    refine (sanswers_any w HS.out).mono ?_
    rintro e w2 ⟨rfl, hb2⟩
    have HB := hide hb2
    clear hb2
    go_wp2
    go_ret
    exact ⟨rfl, HB.out⟩
  · have dx : ((x : Int) == 255) = false := by simp; omega
    have HH1 : Hid (headM js = (0, 1, 1, [])) := junk_head (by rw [HN.out]; exact h1) (by rw [← HX.out]; exact hx)
    have HH2 : Hid (headM (js ++ ms) = (0, 1, 1, [])) := junk_head (by rw [List.length_append, HN.out]; omega) (by
      have : (js ++ ms).getD 0 0 = js.getD 0 0 := by
        rw [List.getD_eq_getElem?_getD, List.getD_eq_getElem?_getD, List.getElem?_append_left (by rw [HN.out]; omega)]
      rw [this, ← HX.out]; exact hx)
    clear hx
    go_enter Tryz.func8, Tryz.ntmps8
    go_wp2_with fail
    refine (snew_any w).mono ?_
    rintro e w1 ⟨rfl, rfl⟩
    have HW := hide (wait_new (w := w) (Below.refl w.heap.size w) (Below.refl _ _))
    have HBn : Hid (Below w.heap.size w (w.alloc (.cells #[.slice none 0 0, .int .i64 0, .int .i64 0, .slice none 0 0] 77))) := (Below.refl _ _).alloc (Nat.le_refl _) _
    go_wp2_with fail
    generalize (w.alloc (.cells #[.slice none 0 0, .int .i64 0, .int .i64 0, .slice none 0 0] 77)) = W0 at *
    refine (wait_feed (some ⟨g, o, none⟩) c0 HW.out (by rw [HN.out]; simp; omega) (HJ.out.below HBn.out) HN.out).mono ?_
    rintro e w3 ⟨rfl, HW3, _⟩
    obtain ⟨v3, hw3⟩ := HW3.out
    rw [List.nil_append] at hw3
    obtain ⟨a3, c3, rfl, hc3, hr3⟩ := hw3.read (by rw [HN.out]; omega)
    obtain ⟨t3, hs3⟩ := hw3.st
    rw [HN.out] at hs3 hc3
    have HNX := hide (next_bad w.heap.size n c3 a3 js 0 t3 w3 hs3 HN.out (by omega) hc3 hr3 (HS.out.below hw3.bel) 1 1 [] HH1.out (by omega))
    have HW3' := hide hw3
    clear hs3 hr3 hc3 hw3 HW3 HW HBn
    go_wp2_with fail
    refine HNX.out.mono ?_
    rintro e w4 ⟨⟨u, rfl, a4, c4, rfl, _⟩, hb4⟩
    simp only [List.length_nil]
    have HW4 := hide (HW3'.out.below hb4)
    have HOb : Hid (∀ b, (Value.slice a3 js.length c3).ownBlock = some b → b < w4.heap.size) := fun b h => (own_block HW4.out.own b h).2
    have hSz : w.heap.size < w4.heap.size := Nat.lt_of_lt_of_le HW4.out.hS HW4.out.hB
    clear hb4 HNX HW3'
    obtain ⟨X1, X3, HRA, hX1, HST, HX3, HLB⟩ := law_boxes w4 MC.zero 1 1 a4 0 c4
    have hX1s := hX1
    obtain ⟨zx3, r0, r1, r2, f0, f1, f2⟩ := HX3.out
    go_wp2_with (first | (refine keptM_alloc_intro _ HRA.out ?_; rw [hX1s] at *) | (refine keptM_store_intro _ _ (.pointer (some ⟨w4.heap.size, 0, none⟩)) (.agg zM) (by rfl) (by rfl) HST.out ?_))
    generalize ((X3.setCell ⟨w4.heap.size + 1, 0, none⟩ (.int .i64 1)).setCell ⟨w4.heap.size + 1, 1, none⟩ (.int .i64 1)).setCell ⟨w4.heap.size + 1, 2, none⟩ (.slice a4 0 c4) = V1 at *
    have HW5 := hide (HW4.out.below HLB.out.bel)
    clear HRA hX1 hX1s HST HX3 zx3 r0 r1 r2 f0 f1 f2 HW4
    refine (wait_feed a1 c1 HW5.out (by rw [HN.out, HM.out]; omega) (HMr.out.below HW5.out.bel) HM.out).mono ?_
    rintro e w5 ⟨rfl, HW6, HK6⟩
    obtain ⟨v6, hw6⟩ := HW6.out
    have hlen : (js ++ ms).length = n + m := by rw [List.length_append, HN.out, HM.out]
    obtain ⟨a6, c6, rfl, hc6, hr6⟩ := hw6.read (by rw [hlen]; omega)
    obtain ⟨t6, hs6⟩ := hw6.st
    rw [hlen] at hs6 hc6
    have HNX := hide (next_bad w.heap.size (n + m) c6 a6 (js ++ ms) 0 t6 w5 hs6 hlen (by omega) hc6 hr6 (HS.out.below hw6.bel) 1 1 [] HH2.out (by omega))
    have HLB5 : Hid (Bx w5 w4.heap.size zM 1 1 a4 0 c4) := by
      refine Bx.keep ⟨HLB.out.bM, HLB.out.bN⟩ HK6.out ?_ ?_
      · rintro (h | h)
        · omega
        · have := HOb.out _ h; omega
      · rintro (h | h)
        · omega
        · have := HOb.out _ h; omega
    have HW6' := hide hw6
    clear hs6 hr6 hc6 hw6 HW6 HW5 HK6 HLB
    go_wp2_with fail
    refine HNX.out.mono ?_
    rintro e w7 ⟨⟨u, rfl, a7, c7, rfl, _⟩, hb7⟩
    simp only [List.length_nil]
    have HW7 := hide (HW6'.out.below hb7)
    have HLB7 := hide (HLB5.out.later hb7)
    clear hb7 HNX HW6' HLB5
    obtain ⟨Y1, Y3, HRA, hX1, HST, HX3, HLC⟩ := law_boxes w7 MC.zero 1 1 a7 0 c7
    have hX1s := hX1
    obtain ⟨zx3, r0, r1, r2, f0, f1, f2⟩ := HX3.out
    go_wp2_with (first | (refine keptM_alloc_intro _ HRA.out ?_; rw [hX1s] at *) | (refine keptM_store_intro _ _ (.pointer (some ⟨w7.heap.size, 0, none⟩)) (.agg zM) (by rfl) (by rfl) HST.out ?_))
    generalize ((Y3.setCell ⟨w7.heap.size + 1, 0, none⟩ (.int .i64 1)).setCell ⟨w7.heap.size + 1, 1, none⟩ (.int .i64 1)).setCell ⟨w7.heap.size + 1, 2, none⟩ (.slice a7 0 c7) = V2 at *
    have HW8 := hide (HW7.out.below HLC.out.bel)
    have HLB8 := hide (HLB7.out.later HLC.out.bel)
    clear HRA hX1 hX1s HST HX3 zx3 r0 r1 r2 f0 f1 f2 HW7 HLB7
    refine (sanswers_any V2 (HS.out.below HW8.out.bel)).mono ?_
    rintro e w9 ⟨rfl, hb9⟩
    have HW9 := hide (HW8.out.below hb9)
    have HLB9 := hide (HLB8.out.later hb9)
    have HLC9 := hide (HLC.out.later hb9)
    clear hb9 HW8 HLB8 HLC
    have y0 : w9.cell? ⟨w4.heap.size, 0, none⟩ = some (.int .i64 0) := range_of HLB9.out.bM 0 _ rfl
    have y1 : w9.cell? ⟨w4.heap.size + 1, 0, none⟩ = some (.int .i64 1) := range_of HLB9.out.bN 0 _ rfl
    have y2 : w9.cell? ⟨w4.heap.size + 1, 1, none⟩ = some (.int .i64 1) := range_of HLB9.out.bN 1 _ rfl
    have x0 : w9.cell? ⟨w7.heap.size, 0, none⟩ = some (.int .i64 0) := range_of HLC9.out.bM 0 _ rfl
    have x1 : w9.cell? ⟨w7.heap.size + 1, 0, none⟩ = some (.int .i64 1) := range_of HLC9.out.bN 0 _ rfl
    have x2 : w9.cell? ⟨w7.heap.size + 1, 1, none⟩ = some (.int .i64 1) := range_of HLC9.out.bN 1 _ rfl
    have zy1 : w4.heap.size + 1 < w9.heap.size := World.block_lt_of_cell? w9 _ y1
    have zy0 : w4.heap.size < w9.heap.size := by omega
    have zx1 : w7.heap.size + 1 < w9.heap.size := World.block_lt_of_cell? w9 _ x1
    have zx0 : w7.heap.size < w9.heap.size := by omega
    obtain ⟨t9, hs9⟩ := HW9.out.st
    rw [hlen] at hs9
    have HS9 := hide hs9
    have HB9 := hide HW9.out.bel
    clear hs9 HW9 HLB9 HLC9
    go_wp2_with fail
    refine (left_any w9 w.heap.size a6 (n + m) c6 0 0 t9 HS9.out).mono ?_
    rintro e wz ⟨rfl, rfl⟩
    have hw9 : IntKind.i64.wrap ((n : Int) + (m : Int)) = (n : Int) + (m : Int) := by rw [IntKind.wrap_i64]; omega
    have hcast : (((n + m : Nat) : Int)) = (n : Int) + (m : Int) := by omega
    go_wp2
    go_ret
    exact ⟨by simp, HB9.out⟩
end
theorem streamJunk_walk (a0 a1 : Option Addr) (c0 c1 : Nat) (js ms : List Nat) (w : World) (hS : SaidM w) (hj : BRd w a0 js) (hm : BRd w a1 ms) :
    Calls Tryz.prog 8 #[.slice a0 js.length c0, .slice a1 ms.length c1] w fun e w' => e = .returned (.bool true) ∧ Below w.heap.size w w' := by
  by_cases h : js.length < 19 ∨ 1000 < js.length ∨ 1000 < ms.length
  · exact junk_ans a0 a1 _ _ c0 c1 w hS h
  · obtain ⟨g, o, rfl, _⟩ := hj.1.2 (by omega)
    exact junk_in g o a1 _ _ c0 c1 js ms w hS rfl rfl hj hm (by omega) (by omega) (by omega)
end Go.Proofs.YtflhohfeahcnfaaGreatDoor
