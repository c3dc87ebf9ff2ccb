/- What a program that does nothing does not answer. -/
import Derived.Test.YtempaadgheondaaDoorAtQ4
import Derived.Test.YtempaadgheondaaDoorAtQz
import Derived.Test.YtempaadgheondaaDoorAtQe
import Derived.Test.YtempaadgheondaaDoorHPlain
namespace Go.Proofs.YtempaadgheondaaDoor
open Go.RowKit
set_option maxRecDepth 100000

/-- The attributes that are tried. -/
def five : At := ⟨0, [], 167772161, 5, -1, [], []⟩
theorem five_good : goodA five = true := by decide
theorem five_fine : Fine five := ⟨five_good, by decide, fun x h => by simp [five] at h⟩
theorem five_enc : (encA five).length = 21 := by decide +kernel
theorem five_lt : ∀ x ∈ encA five, x < 256 := by decide +kernel
theorem five_same : eqA five five = true := by decide
theorem bad_read : readA [64, 1, 1, 5] = .inl (3, 6, [64, 1, 1, 5]) := by kernel_rfl
theorem five_rd (w : World) (p q r : Option Addr) : AtRd w p q r five := ⟨⟨fun h => by simp [five] at h, by simp [five], fun s h => by simp [five] at h⟩, fun h => by simp [five] at h, fun h => by simp [five] at h, by decide⟩
theorem ans_encode (W : World) (hS : Said W) : Calls Tryd.prog 11 #[.agg #[.int .i64 0, .slice none 0 0, .int .u32 167772161, .int .i64 5, .int .i64 (-1), .slice none 0 0, .slice none 0 0]] W fun e w' => ∃ a1 c1, e = .returned (.slice a1 21 c1) ∧ Below W.heap.size W w' ∧ Calls Tryd.prog 16 #[.slice a1 21 c1] w' fun e w2 => ∃ p1 k1 p5 k5 p6 k6, e = .returned (.tuple #[.agg #[.int .i64 0, .slice p1 0 k1, .int .u32 167772161, .int .i64 5, .int .i64 (-1), .slice p5 0 k5, .slice p6 0 k6], .agg #[.int .i64 0, .int .i64 0, .slice none 0 0]]) ∧ Below w'.heap.size w' w2 := by
  refine (penca_any none 0 none 0 none 0 five W hS (by decide) (five_rd W none none none) five_fine.comms).mono ?_
  rintro e w' ⟨v, rfl, ho, hb⟩
  obtain ⟨a1, c1, rfl, hc, hrd⟩ := own_brd ho (by rw [five_enc]; omega) five_lt
  have hd := decode_any a1 c1 (encA five) w' (hS.below hb) (by rw [five_enc]; omega) hc hrd
  rw [read_back five_fine] at hd
  rw [five_enc] at hd ⊢
  refine ⟨a1, c1, rfl, hb, hd.mono ?_⟩
  rintro e w2 ⟨⟨p1, k1, p5, k5, p6, k6, rfl, _⟩, hb2⟩
  exact ⟨p1, k1, p5, k5, p6, k6, rfl, hb2⟩
theorem ans_bad (W : World) (hS : Said W) (H : Nat) (h : ∀ j x, [64, 1, 1, 5][j]? = some x → W.cell? ⟨H, j, none⟩ = some (.int .u8 ((x : Nat) : Int))) : Calls Tryd.prog 16 #[.slice (some ⟨H, 0, none⟩) 4 4] W fun e w2 => ∃ a9 c9, e = .returned (.tuple #[.agg #[.int .i64 0, .slice none 0 0, .int .u32 0, .int .i64 0, .int .i64 0, .slice none 0 0, .slice none 0 0], .agg #[.int .i64 3, .int .i64 6, .slice a9 4 c9]]) ∧ Below W.heap.size W w2 := by
  have hd := decode_any (some ⟨H, 0, none⟩) 4 [64, 1, 1, 5] W hS (by decide) (by decide) ⟨⟨by unfold maxLen; simp, fun _ => ⟨H, 0, rfl, fun i hi => by
    rw [Nat.zero_add]
    exact h i _ (by show _ = some (List.getD _ _ _); rw [List.getD_eq_getElem?_getD, List.getElem?_eq_getElem hi]; rfl)⟩⟩, by decide⟩
  rw [bad_read] at hd
  refine hd.mono ?_
  rintro e w2 ⟨⟨a9, c9, rfl, _⟩, hb2⟩
  exact ⟨a9, c9, rfl, hb2⟩
theorem ans_good (W : World) (hS : Said W) : Calls Tryd.prog 12 #[.agg #[.int .i64 0, .slice none 0 0, .int .u32 167772161, .int .i64 5, .int .i64 (-1), .slice none 0 0, .slice none 0 0]] W fun e w' => e = .returned (.bool true) ∧ Below W.heap.size W w' := by
  have h := pgood_any none 0 none 0 none 0 five W hS (by decide) (five_rd W none none none)
  rw [five_good] at h
  exact h
theorem ans_same (W : World) (p1 p5 p6 : Option Addr) (k1 k5 k6 : Nat) : Calls Tryd.prog 20 #[.agg #[.int .i64 0, .slice none 0 0, .int .u32 167772161, .int .i64 5, .int .i64 (-1), .slice none 0 0, .slice none 0 0], .agg #[.int .i64 0, .slice p1 0 k1, .int .u32 167772161, .int .i64 5, .int .i64 (-1), .slice p5 0 k5, .slice p6 0 k6]] W fun e w' => e = .returned (.bool true) ∧ Below W.heap.size W w' := by
  have h := psame_any none none none p1 p5 p6 0 0 0 k1 k5 k6 five five W (by decide) (five_rd W none none none) (five_rd W p1 p5 p6)
  rw [five_same] at h
  exact h
set_option maxHeartbeats 3200000 in
theorem answers_any (w : World) (hS : Said w) : Calls Tryd.prog 10 #[] w fun e w' => e = .returned (.bool true) ∧ Below w.heap.size w w' := by
  have HS := hide hS
  clear hS
  go_enter Tryd.func10, Tryd.ntmps10
  go_wp2_with fail
  obtain ⟨wa, hwa⟩ : ∃ wa, wa = w.alloc (.cells #[.int .i64 0, .slice none 0 0, .int .u32 167772161, .int .i64 5, .int .i64 (-1), .slice none 0 0, .slice none 0 0] 27) := ⟨_, rfl⟩
  have hPa : w.heap.size < wa.heap.size := by rw [hwa]; simp
  have HBa : Hid (Below w.heap.size w wa) := by show Below _ _ _; rw [hwa]; exact (Below.refl _ _).alloc (Nat.le_refl _) _
  have CA : Hid (∀ X, Below wa.heap.size wa X → X.cell? ⟨w.heap.size, 0, none⟩ = some (.int .i64 0) ∧ X.cell? ⟨w.heap.size, 1, none⟩ = some (.slice none 0 0) ∧ X.cell? ⟨w.heap.size, 2, none⟩ = some (.int .u32 167772161) ∧ X.cell? ⟨w.heap.size, 3, none⟩ = some (.int .i64 5) ∧ X.cell? ⟨w.heap.size, 4, none⟩ = some (.int .i64 (-1)) ∧ X.cell? ⟨w.heap.size, 5, none⟩ = some (.slice none 0 0) ∧ X.cell? ⟨w.heap.size, 6, none⟩ = some (.slice none 0 0)) := fun X hb => by
    have k : ∀ j, X.cell? ⟨w.heap.size, j, none⟩ = wa.cell? ⟨w.heap.size, j, none⟩ := fun j => hb.cell (p := ⟨w.heap.size, j, none⟩) hPa
    simp only [k]
    rw [hwa]
    refine ⟨?_, ?_, ?_, ?_, ?_, ?_, ?_⟩ <;> simp [go_sem]
  rw [← hwa]
  clear hwa
  refine (ans_encode wa (HS.out.below HBa.out)).mono ?_
  rintro e w1 ⟨a1, c1, rfl, hb1, hd1⟩
  have HD1 := hide hd1
  have HB1 := hide hb1
  clear hd1 hb1
  go_wp2_with fail
  refine HD1.out.mono ?_
  rintro e w2 ⟨p1, k1, p5, k5, p6, k6, rfl, hb2⟩
  have HB2 : Hid (Below wa.heap.size wa w2) := HB1.out.trans (hb2.mono HB1.out.size)
  clear hb2 HB1 HD1
  have hP2 : w.heap.size < w2.heap.size := Nat.lt_of_lt_of_le hPa HB2.out.size
  go_wp2_with fail
  obtain ⟨wz, hwz⟩ : ∃ wz, wz = ((w2.alloc (.cells #[.int .i64 0, .slice p1 0 k1, .int .u32 167772161, .int .i64 5, .int .i64 (-1), .slice p5 0 k5, .slice p6 0 k6] 27)).alloc (.cells #[.int .i64 0, .int .i64 0, .slice none 0 0] 34)).alloc (.cells #[.int .u8 64, .int .u8 1, .int .u8 1, .int .u8 5] 5) := ⟨_, rfl⟩
  have hPz : w2.heap.size + 2 < wz.heap.size := by rw [hwz]; simp
  have HBz : Hid (Below w2.heap.size w2 wz) := by show Below _ _ _; rw [hwz]; exact (((Below.refl _ _).alloc (Nat.le_refl _) _).alloc (by simp) _).alloc (by simp; omega) _
  have HBZ : Hid (Below wa.heap.size wa wz) := HB2.out.trans (HBz.out.mono HB2.out.size)
  have CB : Hid (∀ X, Below wz.heap.size wz X → X.cell? ⟨w2.heap.size, 0, none⟩ = some (.int .i64 0) ∧ X.cell? ⟨w2.heap.size, 1, none⟩ = some (.slice p1 0 k1) ∧ X.cell? ⟨w2.heap.size, 2, none⟩ = some (.int .u32 167772161) ∧ X.cell? ⟨w2.heap.size, 3, none⟩ = some (.int .i64 5) ∧ X.cell? ⟨w2.heap.size, 4, none⟩ = some (.int .i64 (-1)) ∧ X.cell? ⟨w2.heap.size, 5, none⟩ = some (.slice p5 0 k5) ∧ X.cell? ⟨w2.heap.size, 6, none⟩ = some (.slice p6 0 k6)) := fun X hb => by
    have k : ∀ j, X.cell? ⟨w2.heap.size, j, none⟩ = wz.cell? ⟨w2.heap.size, j, none⟩ := fun j => hb.cell (p := ⟨w2.heap.size, j, none⟩) (by simp only; omega)
    simp only [k]
    rw [hwz]
    refine ⟨?_, ?_, ?_, ?_, ?_, ?_, ?_⟩ <;> simp [go_sem]
  have CN : Hid (∀ X, Below wz.heap.size wz X → X.cell? ⟨w2.heap.size + 1, 0, none⟩ = some (.int .i64 0)) := fun X hb => by
    rw [hb.cell (p := ⟨w2.heap.size + 1, 0, none⟩) (by simp only; omega), hwz]
    simp [go_sem]
  have CD : Hid (∀ j x, [64, 1, 1, 5][j]? = some x → wz.cell? ⟨w2.heap.size + 1 + 1, j, none⟩ = some (.int .u8 ((x : Nat) : Int))) := fun j x hj => by
    have hj4 : j < 4 := by have := (List.getElem?_eq_some_iff.1 hj).1; simpa using this
    rw [hwz]
    rcases (by omega : j = 0 ∨ j = 1 ∨ j = 2 ∨ j = 3) with rfl | rfl | rfl | rfl <;> (simp at hj; subst hj; simp [go_sem])
  rw [← hwz]
  clear hwz HBz
  refine (ans_bad wz (HS.out.below (HBa.out.trans (HBZ.out.mono HBa.out.size))) _ CD.out).mono ?_
  rintro e w3 ⟨a9, c9, rfl, hb3⟩
  have HB3 := hide hb3
  obtain ⟨x0, x1, x2, x3, x4, x5, x6⟩ := CA.out w3 (HBZ.out.trans (hb3.mono HBZ.out.size))
  obtain ⟨y0, y1, y2, y3, y4, y5, y6⟩ := CB.out w3 hb3
  have n0 := CN.out w3 hb3
  have l3 := hb3.size
  have l1 : w.heap.size < w3.heap.size := by omega
  have l2 : w2.heap.size < w3.heap.size := by omega
  have l4 : w2.heap.size + 1 < w3.heap.size := by omega
  clear hb3 l3 CD CN
  go_wp2_with fail
  obtain ⟨wy, hwy⟩ : ∃ wy, wy = (w3.alloc (.cells #[.int .i64 0, .slice none 0 0, .int .u32 0, .int .i64 0, .int .i64 0, .slice none 0 0, .slice none 0 0] 27)).alloc (.cells #[.int .i64 3, .int .i64 6, .slice a9 4 c9] 34) := ⟨_, rfl⟩
  have hPy : w3.heap.size + 1 < wy.heap.size := by rw [hwy]; simp
  have HBy : Hid (Below w3.heap.size w3 wy) := by show Below _ _ _; rw [hwy]; exact ((Below.refl _ _).alloc (Nat.le_refl _) _).alloc (by simp) _
  have CM : Hid (∀ X, Below wy.heap.size wy X → X.cell? ⟨w3.heap.size + 1, 0, none⟩ = some (.int .i64 3) ∧ X.cell? ⟨w3.heap.size + 1, 1, none⟩ = some (.int .i64 6) ∧ X.cell? ⟨w3.heap.size + 1, 2, none⟩ = some (.slice a9 4 c9)) := fun X hb => by
    have k : ∀ j, X.cell? ⟨w3.heap.size + 1, j, none⟩ = wy.cell? ⟨w3.heap.size + 1, j, none⟩ := fun j => hb.cell (p := ⟨w3.heap.size + 1, j, none⟩) hPy
    simp only [k]
    rw [hwy]
    refine ⟨?_, ?_, ?_⟩ <;> simp [go_sem]
  rw [← hwy]
  clear hwy
  have HBY : Hid (Below wz.heap.size wz wy) := HB3.out.trans (HBy.out.mono HB3.out.size)
  have HWY : Hid (Below w.heap.size w wy) := HBa.out.trans ((HBZ.out.trans (HBY.out.mono HBZ.out.size)).mono HBa.out.size)
  clear HBy HB3 x0 x1 x2 x3 x4 x5 x6 y0 y1 y2 y3 y4 y5 y6 n0
  refine (ans_good wy (HS.out.below HWY.out)).mono ?_
  rintro e w4 ⟨rfl, hb4⟩
  have HB4 := hide hb4
  have HZ4 : Hid (Below wz.heap.size wz w4) := HBY.out.trans (hb4.mono HBY.out.size)
  obtain ⟨x0, x1, x2, x3, x4, x5, x6⟩ := CA.out w4 (HBZ.out.trans (HZ4.out.mono HBZ.out.size))
  obtain ⟨y0, y1, y2, y3, y4, y5, y6⟩ := CB.out w4 HZ4.out
  clear hb4
  go_wp2_with fail
  refine (ans_same w4 p1 p5 p6 k1 k5 k6).mono ?_
  rintro e w5 ⟨rfl, hb5⟩
  obtain ⟨m0, m1, m2⟩ := CM.out w5 (HB4.out.trans (hb5.mono HB4.out.size))
  have HB5 : Hid (Below w.heap.size w w5) := HWY.out.trans ((HB4.out.trans (hb5.mono HB4.out.size)).mono HWY.out.size)
  clear hb5 x0 x1 x2 x3 x4 x5 x6 y0 y1 y2 y3 y4 y5 y6
  go_wp2
  go_ret
  exact ⟨rfl, HB5.out⟩
end Go.Proofs.YtempaadgheondaaDoor
