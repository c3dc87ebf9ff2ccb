/- AttrUnknown's walk: its ways. -/
import Derived.Test.YtempaadgheondabDoorAtW
import Derived.Test.YtempaadgheondabDoorHDt
import Derived.Test.YtempaadgheondabDoorAtQ5
import Derived.Test.YtempaadgheondabDoorAtSl
import Derived.Test.YtempaadgheondabDoorHRaw
import Derived.Test.YtempaadgheondabDoorAtEn
import Derived.Test.YtempaadgheondabDoorHGl
import Derived.Test.YtempaadgheondabDoorAtFr
import Derived.Deep.RegionHeld3
import Derived.Test.YtempaadgheondabDoorAtSy
namespace Go.Proofs.YtempaadgheondabDoor
open Go.RowKit
set_option maxRecDepth 100000

set_option maxHeartbeats 1600000 in
theorem aunk_big (o1 : Int) (pa1 : Option Addr) (pn1 pc1 : Nat) (nx1 : Nat) (md1 pf1 : Int) (ca1 : Option Addr) (cn1 cc1 : Nat) (ra1 : Option Addr) (rn1 rc1 : Nat) (ty flags : Nat) (da : Option Addr) (dn dc : Nat) (w : World) 
    (KA : Hid (∀ W, Below w.heap.size w W → Calls Tryd.prog 6 #[] W fun e w' => e = .returned (.bool true) ∧ Below W.heap.size W w'))
    (KM : Hid (∀ W, Below w.heap.size w W → Calls Tryd.prog 4 #[.agg #[.int .i64 o1, .slice pa1 pn1 pc1, .int .u32 (nx1 : Int), .int .i64 md1, .int .i64 pf1, .slice ca1 cn1 cc1, .slice ra1 rn1 rc1]] W fun e w' => e = .returned (.bool false) ∧ Below W.heap.size W w')) :
    Calls Tryd.prog 3 #[.agg #[.int .i64 o1, .slice pa1 pn1 pc1, .int .u32 (nx1 : Int), .int .i64 md1, .int .i64 pf1, .slice ca1 cn1 cc1, .slice ra1 rn1 rc1], .int .u8 (ty : Int), .int .u8 (flags : Int), .slice da dn dc] w fun e w' => e = .returned (.bool true) ∧ Below w.heap.size w w' := by
  obtain ⟨wb, hwb⟩ : ∃ wb, wb = w.alloc (.cells #[.int .i64 o1, .slice pa1 pn1 pc1, .int .u32 (nx1 : Int), .int .i64 md1, .int .i64 pf1, .slice ca1 cn1 cc1, .slice ra1 rn1 rc1] 27) := ⟨_, rfl⟩
  have HBb : Hid (Below w.heap.size w wb) := by show Below _ _ _; rw [hwb]; exact (Below.refl _ _).alloc (Nat.le_refl _) _
  have hPb : w.heap.size < wb.heap.size := by rw [hwb]; simp
  have C1 : Hid (∀ X, Below wb.heap.size wb X → X.cell? ⟨w.heap.size, 0, none⟩ = some (.int .i64 o1) ∧ X.cell? ⟨w.heap.size, 1, none⟩ = some (.slice pa1 pn1 pc1) ∧ X.cell? ⟨w.heap.size, 2, none⟩ = some (.int .u32 (nx1 : Int)) ∧ X.cell? ⟨w.heap.size, 3, none⟩ = some (.int .i64 md1) ∧ X.cell? ⟨w.heap.size, 4, none⟩ = some (.int .i64 pf1) ∧ X.cell? ⟨w.heap.size, 5, none⟩ = some (.slice ca1 cn1 cc1) ∧ X.cell? ⟨w.heap.size, 6, none⟩ = some (.slice ra1 rn1 rc1)) := fun X hb => by
    have k : ∀ j, X.cell? ⟨w.heap.size, j, none⟩ = wb.cell? ⟨w.heap.size, j, none⟩ := fun j => hb.cell (p := ⟨w.heap.size, j, none⟩) hPb
    simp only [k]
    rw [hwb]
    refine ⟨?_, ?_, ?_, ?_, ?_, ?_, ?_⟩ <;> simp [go_sem]
  go_enter Tryd.func3, Tryd.ntmps3
  go_wp2_with fail
  rw [← hwb]
  clear hwb
  refine (KM.out wb HBb.out).mono ?_
  rintro e w0 ⟨rfl, hb0⟩
  have HW0 := hide hb0
  have HB0 : Hid (Below w.heap.size w w0) := HBb.out.trans (hb0.mono HBb.out.size)
  obtain ⟨x0, x1, x2, x3, x4, x5, x6⟩ := C1.out w0 hb0
  clear hb0 KM
  go_wp2_with fail
  refine (KA.out w0 HB0.out).mono ?_
  rintro e w2 ⟨rfl, hb2⟩
  have HB2 : Hid (Below w.heap.size w w2) := HB0.out.trans (hb2.mono HB0.out.size)
  clear hb2
  go_wp2
  go_ret
  exact ⟨rfl, HB2.out⟩
set_option maxHeartbeats 1600000 in
theorem aunk_bad (o1 : Int) (pa1 : Option Addr) (pn1 pc1 : Nat) (nx1 : Nat) (md1 pf1 : Int) (ca1 : Option Addr) (cn1 cc1 : Nat) (ra1 : Option Addr) (rn1 rc1 : Nat) (ty flags : Nat) (da : Option Addr) (dn dc : Nat) (w : World) 
    (KA : Hid (∀ W, Below w.heap.size w W → Calls Tryd.prog 6 #[] W fun e w' => e = .returned (.bool true) ∧ Below W.heap.size W w'))
    (KM : Hid (∀ W, Below w.heap.size w W → Calls Tryd.prog 4 #[.agg #[.int .i64 o1, .slice pa1 pn1 pc1, .int .u32 (nx1 : Int), .int .i64 md1, .int .i64 pf1, .slice ca1 cn1 cc1, .slice ra1 rn1 rc1]] W fun e w' => e = .returned (.bool true) ∧ Below W.heap.size W w'))
    (KR : Hid (∀ W, Below w.heap.size w W → Calls Tryd.prog 5 #[.agg #[.int .i64 o1, .slice pa1 pn1 pc1, .int .u32 (nx1 : Int), .int .i64 md1, .int .i64 pf1, .slice ca1 cn1 cc1, .slice ra1 rn1 rc1]] W fun e w' => e = .returned (.bool false) ∧ Below W.heap.size W w')) :
    Calls Tryd.prog 3 #[.agg #[.int .i64 o1, .slice pa1 pn1 pc1, .int .u32 (nx1 : Int), .int .i64 md1, .int .i64 pf1, .slice ca1 cn1 cc1, .slice ra1 rn1 rc1], .int .u8 (ty : Int), .int .u8 (flags : Int), .slice da dn dc] w fun e w' => e = .returned (.bool true) ∧ Below w.heap.size w w' := by
  obtain ⟨wb, hwb⟩ : ∃ wb, wb = w.alloc (.cells #[.int .i64 o1, .slice pa1 pn1 pc1, .int .u32 (nx1 : Int), .int .i64 md1, .int .i64 pf1, .slice ca1 cn1 cc1, .slice ra1 rn1 rc1] 27) := ⟨_, rfl⟩
  have HBb : Hid (Below w.heap.size w wb) := by show Below _ _ _; rw [hwb]; exact (Below.refl _ _).alloc (Nat.le_refl _) _
  have hPb : w.heap.size < wb.heap.size := by rw [hwb]; simp
  have C1 : Hid (∀ X, Below wb.heap.size wb X → X.cell? ⟨w.heap.size, 0, none⟩ = some (.int .i64 o1) ∧ X.cell? ⟨w.heap.size, 1, none⟩ = some (.slice pa1 pn1 pc1) ∧ X.cell? ⟨w.heap.size, 2, none⟩ = some (.int .u32 (nx1 : Int)) ∧ X.cell? ⟨w.heap.size, 3, none⟩ = some (.int .i64 md1) ∧ X.cell? ⟨w.heap.size, 4, none⟩ = some (.int .i64 pf1) ∧ X.cell? ⟨w.heap.size, 5, none⟩ = some (.slice ca1 cn1 cc1) ∧ X.cell? ⟨w.heap.size, 6, none⟩ = some (.slice ra1 rn1 rc1)) := fun X hb => by
    have k : ∀ j, X.cell? ⟨w.heap.size, j, none⟩ = wb.cell? ⟨w.heap.size, j, none⟩ := fun j => hb.cell (p := ⟨w.heap.size, j, none⟩) hPb
    simp only [k]
    rw [hwb]
    refine ⟨?_, ?_, ?_, ?_, ?_, ?_, ?_⟩ <;> simp [go_sem]
  go_enter Tryd.func3, Tryd.ntmps3
  go_wp2_with fail
  rw [← hwb]
  clear hwb
  refine (KM.out wb HBb.out).mono ?_
  rintro e w0 ⟨rfl, hb0⟩
  have HW0 := hide hb0
  have HB0 : Hid (Below w.heap.size w w0) := HBb.out.trans (hb0.mono HBb.out.size)
  obtain ⟨x0, x1, x2, x3, x4, x5, x6⟩ := C1.out w0 hb0
  clear hb0 KM
  go_wp2_with fail
  refine (KR.out w0 HB0.out).mono ?_
  rintro e w1 ⟨rfl, hb1⟩
  have HW1 := hide (HW0.out.trans (hb1.mono HW0.out.size))
  have HB1 : Hid (Below w.heap.size w w1) := HB0.out.trans (hb1.mono HB0.out.size)
  clear hb1 KR x0 x1 x2 x3 x4 x5 x6
  obtain ⟨x0, x1, x2, x3, x4, x5, x6⟩ := C1.out w1 HW1.out
  go_wp2_with fail
  refine (KA.out w1 HB1.out).mono ?_
  rintro e w2 ⟨rfl, hb2⟩
  have HB2 : Hid (Below w.heap.size w w2) := HB1.out.trans (hb2.mono HB1.out.size)
  clear hb2
  go_wp2
  go_ret
  exact ⟨rfl, HB2.out⟩
set_option maxHeartbeats 1600000 in
theorem aunk_low (o1 : Int) (pa1 : Option Addr) (pn1 pc1 : Nat) (nx1 : Nat) (md1 pf1 : Int) (ca1 : Option Addr) (cn1 cc1 : Nat) (ra1 : Option Addr) (rn1 rc1 : Nat) (ty flags : Nat) (da : Option Addr) (dn dc : Nat) (w : World) (h9 : (ty : Int) < 9)
    (KA : Hid (∀ W, Below w.heap.size w W → Calls Tryd.prog 6 #[] W fun e w' => e = .returned (.bool true) ∧ Below W.heap.size W w'))
    (KM : Hid (∀ W, Below w.heap.size w W → Calls Tryd.prog 4 #[.agg #[.int .i64 o1, .slice pa1 pn1 pc1, .int .u32 (nx1 : Int), .int .i64 md1, .int .i64 pf1, .slice ca1 cn1 cc1, .slice ra1 rn1 rc1]] W fun e w' => e = .returned (.bool true) ∧ Below W.heap.size W w'))
    (KR : Hid (∀ W, Below w.heap.size w W → Calls Tryd.prog 5 #[.agg #[.int .i64 o1, .slice pa1 pn1 pc1, .int .u32 (nx1 : Int), .int .i64 md1, .int .i64 pf1, .slice ca1 cn1 cc1, .slice ra1 rn1 rc1]] W fun e w' => e = .returned (.bool true) ∧ Below W.heap.size W w')) :
    Calls Tryd.prog 3 #[.agg #[.int .i64 o1, .slice pa1 pn1 pc1, .int .u32 (nx1 : Int), .int .i64 md1, .int .i64 pf1, .slice ca1 cn1 cc1, .slice ra1 rn1 rc1], .int .u8 (ty : Int), .int .u8 (flags : Int), .slice da dn dc] w fun e w' => e = .returned (.bool true) ∧ Below w.heap.size w w' := by
  obtain ⟨wb, hwb⟩ : ∃ wb, wb = w.alloc (.cells #[.int .i64 o1, .slice pa1 pn1 pc1, .int .u32 (nx1 : Int), .int .i64 md1, .int .i64 pf1, .slice ca1 cn1 cc1, .slice ra1 rn1 rc1] 27) := ⟨_, rfl⟩
  have HBb : Hid (Below w.heap.size w wb) := by show Below _ _ _; rw [hwb]; exact (Below.refl _ _).alloc (Nat.le_refl _) _
  have hPb : w.heap.size < wb.heap.size := by rw [hwb]; simp
  have C1 : Hid (∀ X, Below wb.heap.size wb X → X.cell? ⟨w.heap.size, 0, none⟩ = some (.int .i64 o1) ∧ X.cell? ⟨w.heap.size, 1, none⟩ = some (.slice pa1 pn1 pc1) ∧ X.cell? ⟨w.heap.size, 2, none⟩ = some (.int .u32 (nx1 : Int)) ∧ X.cell? ⟨w.heap.size, 3, none⟩ = some (.int .i64 md1) ∧ X.cell? ⟨w.heap.size, 4, none⟩ = some (.int .i64 pf1) ∧ X.cell? ⟨w.heap.size, 5, none⟩ = some (.slice ca1 cn1 cc1) ∧ X.cell? ⟨w.heap.size, 6, none⟩ = some (.slice ra1 rn1 rc1)) := fun X hb => by
    have k : ∀ j, X.cell? ⟨w.heap.size, j, none⟩ = wb.cell? ⟨w.heap.size, j, none⟩ := fun j => hb.cell (p := ⟨w.heap.size, j, none⟩) hPb
    simp only [k]
    rw [hwb]
    refine ⟨?_, ?_, ?_, ?_, ?_, ?_, ?_⟩ <;> simp [go_sem]
  go_enter Tryd.func3, Tryd.ntmps3
  go_wp2_with fail
  rw [← hwb]
  clear hwb
  refine (KM.out wb HBb.out).mono ?_
  rintro e w0 ⟨rfl, hb0⟩
  have HW0 := hide hb0
  have HB0 : Hid (Below w.heap.size w w0) := HBb.out.trans (hb0.mono HBb.out.size)
  obtain ⟨x0, x1, x2, x3, x4, x5, x6⟩ := C1.out w0 hb0
  clear hb0 KM
  go_wp2_with fail
  refine (KR.out w0 HB0.out).mono ?_
  rintro e w1 ⟨rfl, hb1⟩
  have HW1 := hide (HW0.out.trans (hb1.mono HW0.out.size))
  have HB1 : Hid (Below w.heap.size w w1) := HB0.out.trans (hb1.mono HB0.out.size)
  clear hb1 KR x0 x1 x2 x3 x4 x5 x6
  obtain ⟨x0, x1, x2, x3, x4, x5, x6⟩ := C1.out w1 HW1.out
  go_wp2_with fail
  refine (KA.out w1 HB1.out).mono ?_
  rintro e w2 ⟨rfl, hb2⟩
  have HB2 : Hid (Below w.heap.size w w2) := HB1.out.trans (hb2.mono HB1.out.size)
  clear hb2
  go_wp2
  go_ret
  exact ⟨rfl, HB2.out⟩
set_option maxHeartbeats 1600000 in
theorem aunk_long (o1 : Int) (pa1 : Option Addr) (pn1 pc1 : Nat) (nx1 : Nat) (md1 pf1 : Int) (ca1 : Option Addr) (cn1 cc1 : Nat) (ra1 : Option Addr) (rn1 rc1 : Nat) (ty flags : Nat) (da : Option Addr) (dn dc : Nat) (w : World) (h9 : decide ((ty : Int) < 9) = false) (hd : (200 : Int) < (dn : Int))
    (KA : Hid (∀ W, Below w.heap.size w W → Calls Tryd.prog 6 #[] W fun e w' => e = .returned (.bool true) ∧ Below W.heap.size W w'))
    (KM : Hid (∀ W, Below w.heap.size w W → Calls Tryd.prog 4 #[.agg #[.int .i64 o1, .slice pa1 pn1 pc1, .int .u32 (nx1 : Int), .int .i64 md1, .int .i64 pf1, .slice ca1 cn1 cc1, .slice ra1 rn1 rc1]] W fun e w' => e = .returned (.bool true) ∧ Below W.heap.size W w'))
    (KR : Hid (∀ W, Below w.heap.size w W → Calls Tryd.prog 5 #[.agg #[.int .i64 o1, .slice pa1 pn1 pc1, .int .u32 (nx1 : Int), .int .i64 md1, .int .i64 pf1, .slice ca1 cn1 cc1, .slice ra1 rn1 rc1]] W fun e w' => e = .returned (.bool true) ∧ Below W.heap.size W w')) :
    Calls Tryd.prog 3 #[.agg #[.int .i64 o1, .slice pa1 pn1 pc1, .int .u32 (nx1 : Int), .int .i64 md1, .int .i64 pf1, .slice ca1 cn1 cc1, .slice ra1 rn1 rc1], .int .u8 (ty : Int), .int .u8 (flags : Int), .slice da dn dc] w fun e w' => e = .returned (.bool true) ∧ Below w.heap.size w w' := by
  obtain ⟨wb, hwb⟩ : ∃ wb, wb = w.alloc (.cells #[.int .i64 o1, .slice pa1 pn1 pc1, .int .u32 (nx1 : Int), .int .i64 md1, .int .i64 pf1, .slice ca1 cn1 cc1, .slice ra1 rn1 rc1] 27) := ⟨_, rfl⟩
  have HBb : Hid (Below w.heap.size w wb) := by show Below _ _ _; rw [hwb]; exact (Below.refl _ _).alloc (Nat.le_refl _) _
  have hPb : w.heap.size < wb.heap.size := by rw [hwb]; simp
  have C1 : Hid (∀ X, Below wb.heap.size wb X → X.cell? ⟨w.heap.size, 0, none⟩ = some (.int .i64 o1) ∧ X.cell? ⟨w.heap.size, 1, none⟩ = some (.slice pa1 pn1 pc1) ∧ X.cell? ⟨w.heap.size, 2, none⟩ = some (.int .u32 (nx1 : Int)) ∧ X.cell? ⟨w.heap.size, 3, none⟩ = some (.int .i64 md1) ∧ X.cell? ⟨w.heap.size, 4, none⟩ = some (.int .i64 pf1) ∧ X.cell? ⟨w.heap.size, 5, none⟩ = some (.slice ca1 cn1 cc1) ∧ X.cell? ⟨w.heap.size, 6, none⟩ = some (.slice ra1 rn1 rc1)) := fun X hb => by
    have k : ∀ j, X.cell? ⟨w.heap.size, j, none⟩ = wb.cell? ⟨w.heap.size, j, none⟩ := fun j => hb.cell (p := ⟨w.heap.size, j, none⟩) hPb
    simp only [k]
    rw [hwb]
    refine ⟨?_, ?_, ?_, ?_, ?_, ?_, ?_⟩ <;> simp [go_sem]
  go_enter Tryd.func3, Tryd.ntmps3
  go_wp2_with fail
  rw [← hwb]
  clear hwb
  refine (KM.out wb HBb.out).mono ?_
  rintro e w0 ⟨rfl, hb0⟩
  have HW0 := hide hb0
  have HB0 : Hid (Below w.heap.size w w0) := HBb.out.trans (hb0.mono HBb.out.size)
  obtain ⟨x0, x1, x2, x3, x4, x5, x6⟩ := C1.out w0 hb0
  clear hb0 KM
  go_wp2_with fail
  refine (KR.out w0 HB0.out).mono ?_
  rintro e w1 ⟨rfl, hb1⟩
  have HW1 := hide (HW0.out.trans (hb1.mono HW0.out.size))
  have HB1 : Hid (Below w.heap.size w w1) := HB0.out.trans (hb1.mono HB0.out.size)
  clear hb1 KR x0 x1 x2 x3 x4 x5 x6
  obtain ⟨x0, x1, x2, x3, x4, x5, x6⟩ := C1.out w1 HW1.out
  go_wp2_with fail
  refine (KA.out w1 HB1.out).mono ?_
  rintro e w2 ⟨rfl, hb2⟩
  have HB2 : Hid (Below w.heap.size w w2) := HB1.out.trans (hb2.mono HB1.out.size)
  clear hb2
  go_wp2
  go_ret
  exact ⟨rfl, HB2.out⟩
set_option maxHeartbeats 1600000 in
theorem aunk_raws (o1 : Int) (pa1 : Option Addr) (pn1 pc1 : Nat) (nx1 : Nat) (md1 pf1 : Int) (ca1 : Option Addr) (cn1 cc1 : Nat) (ra1 : Option Addr) (rn1 rc1 : Nat) (ty flags : Nat) (da : Option Addr) (dn dc : Nat) (w : World) (h9 : decide ((ty : Int) < 9) = false) (hd : decide ((200 : Int) < (dn : Int)) = false) (hr : (0 : Int) < (rn1 : Int))
    (KA : Hid (∀ W, Below w.heap.size w W → Calls Tryd.prog 6 #[] W fun e w' => e = .returned (.bool true) ∧ Below W.heap.size W w'))
    (KM : Hid (∀ W, Below w.heap.size w W → Calls Tryd.prog 4 #[.agg #[.int .i64 o1, .slice pa1 pn1 pc1, .int .u32 (nx1 : Int), .int .i64 md1, .int .i64 pf1, .slice ca1 cn1 cc1, .slice ra1 rn1 rc1]] W fun e w' => e = .returned (.bool true) ∧ Below W.heap.size W w'))
    (KR : Hid (∀ W, Below w.heap.size w W → Calls Tryd.prog 5 #[.agg #[.int .i64 o1, .slice pa1 pn1 pc1, .int .u32 (nx1 : Int), .int .i64 md1, .int .i64 pf1, .slice ca1 cn1 cc1, .slice ra1 rn1 rc1]] W fun e w' => e = .returned (.bool true) ∧ Below W.heap.size W w')) :
    Calls Tryd.prog 3 #[.agg #[.int .i64 o1, .slice pa1 pn1 pc1, .int .u32 (nx1 : Int), .int .i64 md1, .int .i64 pf1, .slice ca1 cn1 cc1, .slice ra1 rn1 rc1], .int .u8 (ty : Int), .int .u8 (flags : Int), .slice da dn dc] w fun e w' => e = .returned (.bool true) ∧ Below w.heap.size w w' := by
  obtain ⟨wb, hwb⟩ : ∃ wb, wb = w.alloc (.cells #[.int .i64 o1, .slice pa1 pn1 pc1, .int .u32 (nx1 : Int), .int .i64 md1, .int .i64 pf1, .slice ca1 cn1 cc1, .slice ra1 rn1 rc1] 27) := ⟨_, rfl⟩
  have HBb : Hid (Below w.heap.size w wb) := by show Below _ _ _; rw [hwb]; exact (Below.refl _ _).alloc (Nat.le_refl _) _
  have hPb : w.heap.size < wb.heap.size := by rw [hwb]; simp
  have C1 : Hid (∀ X, Below wb.heap.size wb X → X.cell? ⟨w.heap.size, 0, none⟩ = some (.int .i64 o1) ∧ X.cell? ⟨w.heap.size, 1, none⟩ = some (.slice pa1 pn1 pc1) ∧ X.cell? ⟨w.heap.size, 2, none⟩ = some (.int .u32 (nx1 : Int)) ∧ X.cell? ⟨w.heap.size, 3, none⟩ = some (.int .i64 md1) ∧ X.cell? ⟨w.heap.size, 4, none⟩ = some (.int .i64 pf1) ∧ X.cell? ⟨w.heap.size, 5, none⟩ = some (.slice ca1 cn1 cc1) ∧ X.cell? ⟨w.heap.size, 6, none⟩ = some (.slice ra1 rn1 rc1)) := fun X hb => by
    have k : ∀ j, X.cell? ⟨w.heap.size, j, none⟩ = wb.cell? ⟨w.heap.size, j, none⟩ := fun j => hb.cell (p := ⟨w.heap.size, j, none⟩) hPb
    simp only [k]
    rw [hwb]
    refine ⟨?_, ?_, ?_, ?_, ?_, ?_, ?_⟩ <;> simp [go_sem]
  go_enter Tryd.func3, Tryd.ntmps3
  go_wp2_with fail
  rw [← hwb]
  clear hwb
  refine (KM.out wb HBb.out).mono ?_
  rintro e w0 ⟨rfl, hb0⟩
  have HW0 := hide hb0
  have HB0 : Hid (Below w.heap.size w w0) := HBb.out.trans (hb0.mono HBb.out.size)
  obtain ⟨x0, x1, x2, x3, x4, x5, x6⟩ := C1.out w0 hb0
  clear hb0 KM
  go_wp2_with fail
  refine (KR.out w0 HB0.out).mono ?_
  rintro e w1 ⟨rfl, hb1⟩
  have HW1 := hide (HW0.out.trans (hb1.mono HW0.out.size))
  have HB1 : Hid (Below w.heap.size w w1) := HB0.out.trans (hb1.mono HB0.out.size)
  clear hb1 KR x0 x1 x2 x3 x4 x5 x6
  obtain ⟨x0, x1, x2, x3, x4, x5, x6⟩ := C1.out w1 HW1.out
  go_wp2_with fail
  refine (KA.out w1 HB1.out).mono ?_
  rintro e w2 ⟨rfl, hb2⟩
  have HB2 : Hid (Below w.heap.size w w2) := HB1.out.trans (hb2.mono HB1.out.size)
  clear hb2
  go_wp2
  go_ret
  exact ⟨rfl, HB2.out⟩
/-- The flags without the mark of a long length. -/
def clrU (fl : Nat) : Nat := fl - fl / 16 % 2 * 16
theorem clrU_bits (fl : Nat) (h : fl < 256) : bits .andNot .u8 (fl : Int) 16 = (clrU fl : Int) ∧ clrU fl < 256 ∧ clrU fl / 16 % 2 = 0 := by
  have key : ∀ y : Fin 256, bits .andNot .u8 ((y : Nat) : Int) 16 = (clrU (y : Nat) : Int) := by decide +kernel
  refine ⟨key ⟨fl, h⟩, ?_, ?_⟩ <;> unfold clrU <;> omega
/-- What has been done of the region that reads the bytes. -/
def lst5 : Nat → Bool → Bool → Array Bool
  | 0, A, N => #[false, true, false, true, false, false, false, false, false, false, A, N, false, false]
  | 1, A, N => #[true, true, false, true, false, false, false, false, false, false, A, N, false, false]
  | 2, A, N => #[true, true, true, true, false, false, false, false, false, false, A, N, false, false]
  | 3, A, N => #[true, true, true, true, true, false, false, false, false, false, A, N, false, false]
  | 4, A, N => #[true, true, true, true, true, true, false, false, false, false, A, N, false, false]
  | _, A, N => #[true, true, true, true, true, true, true, true, true, true, A, N, false, false]
theorem lst5_A : ∀ k N, k ≤ 5 → (lst5 k false N).setIfInBounds 10 true = lst5 k true N
  | 0, _, _ => rfl
  | 1, _, _ => rfl
  | 2, _, _ => rfl
  | 3, _, _ => rfl
  | 4, _, _ => rfl
  | _ + 5, _, _ => rfl
theorem lst5_N : ∀ k A, k ≤ 5 → (lst5 k A false).setIfInBounds 11 true = lst5 k A true
  | 0, _, _ => rfl
  | 1, _, _ => rfl
  | 2, _, _ => rfl
  | 3, _, _ => rfl
  | 4, _, _ => rfl
  | _ + 5, _, _ => rfl
section
attribute [local go_sem ↓] kept_append
set_option maxHeartbeats 6400000 in
theorem aunk_ref (o1 : Int) (pa1 : Option Addr) (pn1 pc1 : Nat) (nx1 : Nat) (md1 pf1 : Int) (ca1 : Option Addr) (cn1 cc1 : Nat) (ra1 : Option Addr) (rc1 : Nat) (ty flags : Nat) (da : Option Addr) (dn dc : Nat) (d E : List Nat) (el : Nat) (w : World)
    (hty : 9 ≤ ty) (hty2 : ty < 256) (hfl : flags < 256) (hdn : d.length = dn) (hd2 : dn ≤ 200) (hrd : BRd w da d) (hel : E.length = el) (hel9 : el ≤ 9000) (hE : ∀ x ∈ E, x < 256) (h128 : (clrU flags : Int) < 128)
    (KA : Hid (∀ W, Below w.heap.size w W → Calls Tryd.prog 6 #[] W fun e w' => e = .returned (.bool true) ∧ Below W.heap.size W w'))
    (KM : Hid (∀ W, Below w.heap.size w W → Calls Tryd.prog 4 #[.agg #[.int .i64 o1, .slice pa1 pn1 pc1, .int .u32 (nx1 : Int), .int .i64 md1, .int .i64 pf1, .slice ca1 cn1 cc1, .slice ra1 0 rc1]] W fun e w' => e = .returned (.bool true) ∧ Below W.heap.size W w'))
    (KR : Hid (∀ W, Below w.heap.size w W → Calls Tryd.prog 5 #[.agg #[.int .i64 o1, .slice pa1 pn1 pc1, .int .u32 (nx1 : Int), .int .i64 md1, .int .i64 pf1, .slice ca1 cn1 cc1, .slice ra1 0 rc1]] W fun e w' => e = .returned (.bool true) ∧ Below W.heap.size W w'))
    (KAT : Hid (∀ W, Below w.heap.size w W → Calls Tryd.prog 8 #[.agg #[.int .i64 o1, .slice pa1 pn1 pc1, .int .u32 (nx1 : Int), .int .i64 md1, .int .i64 pf1, .slice ca1 cn1 cc1, .slice ra1 0 rc1]] W fun e w' => ∃ v, e = .returned v ∧ w'.ownsRow W.heap.size 5 1 v E.length (bcells E) ∧ Below W.heap.size W w'))
    (KD : Hid (∀ W a9 n9 c9, Below w.heap.size w W → n9 = ([clrU flags, ty, dn] ++ d ++ E).length → n9 ≤ c9 → BRd W a9 ([clrU flags, ty, dn] ++ d ++ E) → Calls Tryd.prog 7 #[.slice a9 n9 c9] W fun e w' => ∃ cA cN, e = .returned (.tuple #[.agg cA, .agg cN]) ∧ cA.size = 7 ∧ cN.size = 3 ∧ cA.all (·.oneCell') = true ∧ cN.all (·.oneCell') = true ∧ (∃ ab cb, cN = #[.int .i64 3, .int .i64 2, .slice ab (3 + dn) cb] ∧ ∀ X : World, w'.heap.size ≤ X.heap.size → (∀ k, W.heap.size ≤ k → k < w'.heap.size → X.heap[k]? = w'.heap[k]?) → BRd X ab ([clrU flags, ty, dn] ++ d)) ∧ Below W.heap.size W w')) :
    Calls Tryd.prog 3 #[.agg #[.int .i64 o1, .slice pa1 pn1 pc1, .int .u32 (nx1 : Int), .int .i64 md1, .int .i64 pf1, .slice ca1 cn1 cc1, .slice ra1 0 rc1], .int .u8 (ty : Int), .int .u8 (flags : Int), .slice da dn dc] w fun e w' => e = .returned (.bool true) ∧ Below w.heap.size w w' := by
  obtain ⟨hand, hc256, _⟩ := clrU_bits flags hfl
  obtain ⟨wb, hwb⟩ : ∃ wb, wb = w.alloc (.cells #[.int .i64 o1, .slice pa1 pn1 pc1, .int .u32 (nx1 : Int), .int .i64 md1, .int .i64 pf1, .slice ca1 cn1 cc1, .slice ra1 0 rc1] 27) := ⟨_, rfl⟩
  have HBb : Hid (Below w.heap.size w wb) := by show Below _ _ _; rw [hwb]; exact (Below.refl _ _).alloc (Nat.le_refl _) _
  have hPb : w.heap.size < wb.heap.size := by rw [hwb]; simp
  have C1 : Hid (∀ X, Below wb.heap.size wb X → X.cell? ⟨w.heap.size, 0, none⟩ = some (.int .i64 o1) ∧ X.cell? ⟨w.heap.size, 1, none⟩ = some (.slice pa1 pn1 pc1) ∧ X.cell? ⟨w.heap.size, 2, none⟩ = some (.int .u32 (nx1 : Int)) ∧ X.cell? ⟨w.heap.size, 3, none⟩ = some (.int .i64 md1) ∧ X.cell? ⟨w.heap.size, 4, none⟩ = some (.int .i64 pf1) ∧ X.cell? ⟨w.heap.size, 5, none⟩ = some (.slice ca1 cn1 cc1) ∧ X.cell? ⟨w.heap.size, 6, none⟩ = some (.slice ra1 0 rc1)) := fun X hb => by
    have k : ∀ j, X.cell? ⟨w.heap.size, j, none⟩ = wb.cell? ⟨w.heap.size, j, none⟩ := fun j => hb.cell (p := ⟨w.heap.size, j, none⟩) hPb
    simp only [k]
    rw [hwb]
    refine ⟨?_, ?_, ?_, ?_, ?_, ?_, ?_⟩ <;> simp [go_sem]
  have FZ : Hid (∀ X, Below wb.heap.size wb X → X.frozen? ⟨w.heap.size, 6, none⟩ = false) := fun X hb => by
    rw [hb.frozen (p := ⟨w.heap.size, 6, none⟩) hPb, hwb]
    have h := heap_alloc_new w (.cells #[.int .i64 o1, .slice pa1 pn1 pc1, .int .u32 (nx1 : Int), .int .i64 md1, .int .i64 pf1, .slice ca1 cn1 cc1, .slice ra1 0 rc1] 27)
    simp only [World.frozen?, h]
    simp
  have h9 : decide ((ty : Int) < 9) = false := decide_eq_false (by omega)
  have h200 : decide ((200 : Int) < (dn : Int)) = false := decide_eq_false (by omega)
  have HDN := hide hdn
  have HRD := hide hrd
  have HEL := hide hel
  have HE := hide hE
  generalize clrU flags = fl at *
  clear hdn hrd hel hE
  go_enter Tryd.func3, Tryd.ntmps3
  go_wp2_with fail
  rw [← hwb]
  clear hwb
  refine (KM.out wb HBb.out).mono ?_
  rintro e w0 ⟨rfl, hb0⟩
  have HW0 := hide hb0
  have HB0 : Hid (Below w.heap.size w w0) := HBb.out.trans (hb0.mono HBb.out.size)
  obtain ⟨x0, x1, x2, x3, x4, x5, x6⟩ := C1.out w0 hb0
  clear hb0 KM
  go_wp2_with fail
  refine (KR.out w0 HB0.out).mono ?_
  rintro e w1 ⟨rfl, hb1⟩
  have HW1 := hide (HW0.out.trans (hb1.mono HW0.out.size))
  have HB1 : Hid (Below w.heap.size w w1) := HB0.out.trans (hb1.mono HB0.out.size)
  clear hb1 KR x0 x1 x2 x3 x4 x5 x6
  obtain ⟨x0, x1, x2, x3, x4, x5, x6⟩ := C1.out w1 HW1.out
  -- x
  have hbl : Below w1.heap.size w1 (w1.alloc (.cells #[.int .u8 (fl : Int), .int .u8 (ty : Int), .int .u8 (dn : Int)] 5)) := (Below.refl _ _).alloc (Nat.le_refl _) _
  have hlit : (w1.alloc (.cells #[.int .u8 (fl : Int), .int .u8 (ty : Int), .int .u8 (dn : Int)] 5)).ownsRow w1.heap.size 5 1 (.slice (some ⟨w1.heap.size, 0, none⟩) 3 3) [fl, ty, dn].length (bcells [fl, ty, dn]) :=
    ⟨rfl, .inr ⟨w1.heap.size, 3, _, rfl, Nat.le_refl _, by unfold World.alloc; exact Array.getElem?_push_size, Nat.le_refl _, by unfold maxLen; omega, rfl, rfl⟩⟩
  obtain ⟨v2, w2, hr2, ho2, hb2⟩ := app_any d da dc hlit hbl.size (by rw [HDN.out]; simp; omega) (HRD.out.below (HB1.out.trans (hbl.mono HB1.out.size)))
  rw [HDN.out] at hr2
  have hxl : ([fl, ty, dn] ++ d).length = 3 + dn := by rw [List.length_append, HDN.out]; rfl
  have hx256 : ∀ x ∈ [fl, ty, dn] ++ d, x < 256 := fun x hx => by
    rcases List.mem_append.1 hx with h | h
    · simp only [List.mem_cons, List.not_mem_nil, or_false] at h
      omega
    · exact HRD.out.2 x h
  obtain ⟨ax, cx, rfl, hcx, hrx⟩ := own_brd ho2 (by omega) hx256
  rw [hxl] at hr2
  have hb12 : Below w1.heap.size w1 w2 := hbl.trans hb2
  have HB2 := hide (HB1.out.trans (hb12.mono HB1.out.size))
  have HW2 := hide (HW1.out.trans (hb12.mono HW1.out.size))
  have HR2 := hide hr2
  have HRX := hide hrx
  have HXL := hide hxl
  have HX2 := hide hx256
  have HD2 : Hid (∀ W v, Below w2.heap.size w2 W → W.ownsRow w2.heap.size 5 1 v ([fl, ty, dn] ++ d ++ E).length (bcells ([fl, ty, dn] ++ d ++ E)) → Calls Tryd.prog 7 #[v] W fun e w' => ∃ cA cN, e = .returned (.tuple #[.agg cA, .agg cN]) ∧ cA.size = 7 ∧ cN.size = 3 ∧ cA.all (·.oneCell') = true ∧ cN.all (·.oneCell') = true ∧ (∃ ab cb, cN = #[.int .i64 3, .int .i64 2, .slice ab (3 + dn) cb] ∧ ∀ X : World, w'.heap.size ≤ X.heap.size → (∀ k, W.heap.size ≤ k → k < w'.heap.size → X.heap[k]? = w'.heap[k]?) → BRd X ab ([fl, ty, dn] ++ d)) ∧ Below W.heap.size W w') := fun W v hb ho => by
    obtain ⟨ad, cd, rfl, hcd, hrd⟩ := own_brd ho (by rw [List.length_append, HXL.out, HEL.out]; omega) (fun x hx => by
      rcases List.mem_append.1 hx with h | h
      · exact HX2.out x h
      · exact HE.out x h)
    exact KD.out W ad _ cd (HB2.out.trans (hb.mono HB2.out.size)) rfl hcd hrd
  have HAT : Hid (∀ W, Below w2.heap.size w2 W → Calls Tryd.prog 8 #[.agg #[.int .i64 o1, .slice pa1 pn1 pc1, .int .u32 (nx1 : Int), .int .i64 md1, .int .i64 pf1, .slice ca1 cn1 cc1, .slice ra1 0 rc1]] W fun e w' => ∃ v, e = .returned v ∧ w'.ownsRow W.heap.size 5 1 v E.length (bcells E) ∧ Below W.heap.size W w') := fun W hb => KAT.out W (HB2.out.trans (hb.mono HB2.out.size))
  clear KD KAT hr2 hrx hxl hx256 hbl hlit ho2 hb2 hb12
  go_wp2_with fail
  refine kept_append_intro _ _ (.slice (some ⟨w1.heap.size, 0, none⟩) 3 3) (.slice da dn dc) (.slice ax (3 + dn) cx) (w' := w2) (by rfl) (by rfl) (by with_reducible exact HR2.out) ?_
  clear x0 x1 x2 x3 x4 x5 x6
  go_wp2_with fail
  have hdr : Below w2.heap.size w2 { w2 with drawn := w2.drawn + 1 } := (Below.refl _ w2).drew
  refine wp_region_noPanic ?_
  refine wp_region_held (S := fun W => Below w2.heap.size w2 W) (by kernel_rfl) ?_
  refine take_slot (i := 1) (d := 49) (v := .slice ax (3 + dn) cx) rfl rfl rfl (by kernel_rfl) (by kernel_rfl) (by kernel_rfl) (fun _ _ _ _ h => h) (fun w _ => op_move _ w _ _ _ rfl rfl) hdr ?_
  simp only [Act.put, List.setIfInBounds_toArray, List.set_cons_zero, List.set_cons_succ]
  refine take_slot (i := 3) (d := 51) (v := .agg #[.int .i64 o1, .slice pa1 pn1 pc1, .int .u32 (nx1 : Int), .int .i64 md1, .int .i64 pf1, .slice ca1 cn1 cc1, .slice ra1 0 rc1]) rfl rfl rfl (by kernel_rfl) (by kernel_rfl) (by kernel_rfl) (fun _ _ _ _ h => h) (fun X hX => by obtain ⟨x0, x1, x2, x3, x4, x5, x6⟩ := C1.out X (HW2.out.trans (hX.mono HW2.out.size)); go_simp) hdr ?_
  simp only [Act.put, List.setIfInBounds_toArray, List.set_cons_zero, List.set_cons_succ]
  refine dec3_region [11, 12, 48, 50, 52, 53, 54, 47, 55, 56] _ w2 _ 11 12 48 49 50 51 52 53 54 47 55 56 0 2 4 5 6 7 8 9 10 11 12 13 #[.int .i64 o1, .slice pa1 pn1 pc1, .int .u32 (nx1 : Int), .int .i64 md1, .int .i64 pf1, .slice ca1 cn1 cc1, .slice ra1 0 rc1] ([fl, ty, dn] ++ d) E ax cx
    (fun W _ cN w' => ∃ ab cb, cN = #[.int .i64 3, .int .i64 2, .slice ab (3 + dn) cb] ∧ ∀ X : World, w'.heap.size ≤ X.heap.size → (∀ k, W.heap.size ≤ k → k < w'.heap.size → X.heap[k]? = w'.heap[k]?) → BRd X ab ([fl, ty, dn] ++ d))
    lst5 (fun _ _ _ _ h => h) ⟨_, _, _, rfl⟩ ⟨_, _, rfl⟩ ⟨_, _, _, rfl⟩ ⟨_, _, rfl⟩ ⟨_, _, _, rfl⟩ ⟨_, _, _, rfl⟩ ⟨_, _, _, rfl⟩ ⟨_, _, _, rfl⟩ ⟨_, _, _, rfl⟩ ⟨_, _, _, rfl⟩ ⟨_, _, _, rfl⟩ ⟨_, _, _, rfl⟩ (by kernel_rfl)
    lst5_A lst5_N ?_ ?_ ?_ ?_ ?_ ?_ ?_ ?_ ?_ ?_ (by kernel_rfl) (by kernel_rfl) (by kernel_rfl) rfl (by decide) ?_ (by decide) (by decide) ?_ rfl HRX.out HE.out HAT.out ?_ HD2.out ?_ hdr
  · intro k A N hk
    match k, hk with
    | 0, _ => cases A <;> cases N <;> decide +kernel
    | 1, _ => cases A <;> cases N <;> decide +kernel
    | 2, _ => cases A <;> cases N <;> decide +kernel
    | 3, _ => cases A <;> cases N <;> decide +kernel
    | 4, _ => cases A <;> cases N <;> decide +kernel
  · intro A N h
    cases A <;> cases N <;> first | (cases h; done) | kernel_rfl
  · intro A N; rfl
  · intro A N; rfl
  · intro A N; rfl
  · intro A N; rfl
  · intro A N; cases A <;> cases N <;> exact ⟨by kernel_rfl, by kernel_rfl⟩
  · intro A N; cases A <;> cases N <;> exact ⟨by kernel_rfl, by kernel_rfl⟩
  · intro A N; cases A <;> cases N <;> exact ⟨by kernel_rfl, by kernel_rfl⟩
  · intro A N; rfl
  · exact (by decide : ∀ s ∈ [11, 12, 48, 50, 52, 53, 54, 47, 55, 56], s < 97)
  · rw [HXL.out]; rfl
  · rw [HXL.out, HEL.out]; omega
  · intro gA gN cA cN Wc w3 W a hfr pA pN hR h0c h1c h2c hblk hov lA lN rA rN
    obtain ⟨ab, cb, rfl, hbr⟩ := hR
    have HBB := hide (hbr W h2c hblk)
    have HXW := hide (HRX.out.below hov)
    have m0 : W.cell? ⟨gN, 0, none⟩ = some (.int .i64 3) := rN 0 _ rfl
    have m1 : W.cell? ⟨gN, 1, none⟩ = some (.int .i64 2) := rN 1 _ rfl
    have m2 : W.cell? ⟨gN, 2, none⟩ = some (.slice ab (3 + dn) cb) := rN 2 _ rfl
    have hgl := World.block_lt_of_cell? W _ m0
    simp only at hgl
    have HMM : Hid (∀ X, Below W.heap.size W X → X.cell? ⟨gN, 0, none⟩ = some (.int .i64 3) ∧ X.cell? ⟨gN, 1, none⟩ = some (.int .i64 2) ∧ X.cell? ⟨gN, 2, none⟩ = some (.slice ab (3 + dn) cb)) := fun X hX => by
      rw [hX.cell (p := ⟨gN, 0, none⟩) hgl, hX.cell (p := ⟨gN, 1, none⟩) hgl, hX.cell (p := ⟨gN, 2, none⟩) hgl]
      exact ⟨m0, m1, m2⟩
    obtain ⟨y0, y1, y2, y3, y4, y5, y6, y7, rfl⟩ := hfr.lay10 (by exact (by decide : ∀ s ∈ [11, 12, 48, 50, 52, 53, 54, 47, 55, 56], s < 97)) pA pN
    have HBW := hide (HB2.out.trans (hov.mono HB2.out.size))
    have HWW := hide (HW2.out.trans (hov.mono HW2.out.size))
    clear hfr pA pN hbr h0c h1c h2c hblk hov rA rN m0 m1 m2 hgl
    refine NoPanic.normal ?_
    simp only [Act.put, List.setIfInBounds_toArray, List.set_cons_zero, List.set_cons_succ]
    go_wp2_with fail
    refine (KA.out W HBW.out).mono ?_
    rintro e w8 ⟨rfl, hb8⟩
    obtain ⟨m0, m1, m2⟩ := HMM.out w8 hb8
    have HB8 := hide (HBW.out.trans (hb8.mono HBW.out.size))
    have HK8 : Hid (Calls Tryd.prog 9 #[.slice ab (3 + dn) cb, .slice ax (3 + dn) cx] w8 fun e w' => e = .returned (.bool true) ∧ Below w8.heap.size w8 w') := by
      have h9 := samed_any ab ax cb cx ([fl, ty, dn] ++ d) ([fl, ty, dn] ++ d) w8 (by rw [HXL.out]; omega) (HBB.out.below hb8) (HXW.out.below hb8)
      rw [HXL.out] at h9
      refine h9.mono fun e w' h => ?_
      obtain ⟨he, m, hm⟩ := h
      refine ⟨by rw [he]; simp, ?_⟩
      rw [hm]
      exact below_drewN (Below.refl _ _) m
    clear hb8
    go_wp2_with fail
    refine HK8.out.mono ?_
    rintro e w9 ⟨rfl, hb9⟩
    have HB9 := hide (HB8.out.trans (hb9.mono HB8.out.size))
    clear hb9
    go_wp2
    go_ret
    exact ⟨rfl, HB9.out⟩
set_option maxHeartbeats 6400000 in
theorem aunk_leave (o1 : Int) (pa1 : Option Addr) (pn1 pc1 : Nat) (nx1 : Nat) (md1 pf1 : Int) (ca1 : Option Addr) (cn1 cc1 : Nat) (ra1 : Option Addr) (rc1 : Nat) (ty flags : Nat) (da : Option Addr) (dn dc : Nat) (d E : List Nat) (b : At) (el : Nat) (w : World)
    (hty : 9 ≤ ty) (hty2 : ty < 256) (hfl : flags < 256) (hdn : d.length = dn) (hd2 : dn ≤ 200) (hrd : BRd w da d) (hel : E.length = el) (hel9 : el ≤ 9000) (hE : ∀ x ∈ E, x < 256) (h128 : decide ((clrU flags : Int) < 128) = false) (h64 : ((clrU flags : Int) / 64 % 2 == 1) = false)
    (KA : Hid (∀ W, Below w.heap.size w W → Calls Tryd.prog 6 #[] W fun e w' => e = .returned (.bool true) ∧ Below W.heap.size W w'))
    (KM : Hid (∀ W, Below w.heap.size w W → Calls Tryd.prog 4 #[.agg #[.int .i64 o1, .slice pa1 pn1 pc1, .int .u32 (nx1 : Int), .int .i64 md1, .int .i64 pf1, .slice ca1 cn1 cc1, .slice ra1 0 rc1]] W fun e w' => e = .returned (.bool true) ∧ Below W.heap.size W w'))
    (KR : Hid (∀ W, Below w.heap.size w W → Calls Tryd.prog 5 #[.agg #[.int .i64 o1, .slice pa1 pn1 pc1, .int .u32 (nx1 : Int), .int .i64 md1, .int .i64 pf1, .slice ca1 cn1 cc1, .slice ra1 0 rc1]] W fun e w' => e = .returned (.bool true) ∧ Below W.heap.size W w'))
    (KAT : Hid (∀ W, Below w.heap.size w W → Calls Tryd.prog 8 #[.agg #[.int .i64 o1, .slice pa1 pn1 pc1, .int .u32 (nx1 : Int), .int .i64 md1, .int .i64 pf1, .slice ca1 cn1 cc1, .slice ra1 0 rc1]] W fun e w' => ∃ v, e = .returned v ∧ w'.ownsRow W.heap.size 5 1 v E.length (bcells E) ∧ Below W.heap.size W w'))
    (KD : Hid (∀ W a9 n9 c9, Below w.heap.size w W → n9 = ([clrU flags, ty, dn] ++ d ++ E).length → n9 ≤ c9 → BRd W a9 ([clrU flags, ty, dn] ++ d ++ E) → Calls Tryd.prog 7 #[.slice a9 n9 c9] W fun e w' => ∃ cA cN, e = .returned (.tuple #[.agg cA, .agg cN]) ∧ cA.size = 7 ∧ cN.size = 3 ∧ cA.all (·.oneCell') = true ∧ cN.all (·.oneCell') = true ∧ (cN = #[.int .i64 0, .int .i64 0, .slice none 0 0] ∧ ∃ p1 j1 p5 j5 p6 j6, cA = #[.int .i64 o1, .slice p1 pn1 j1, .int .u32 (nx1 : Int), .int .i64 md1, .int .i64 pf1, .slice p5 cn1 j5, .slice p6 0 j6] ∧ ∀ X : World, w'.heap.size ≤ X.heap.size → (∀ k, W.heap.size ≤ k → k < w'.heap.size → X.heap[k]? = w'.heap[k]?) → AtRd X p1 p5 p6 b) ∧ Below W.heap.size W w'))
    (KS : Hid (∀ Y p1 j1 p5 j5 p6 j6, Below w.heap.size w Y → AtRd Y p1 p5 p6 b → Calls Tryd.prog 10 #[.agg #[.int .i64 o1, .slice pa1 pn1 pc1, .int .u32 (nx1 : Int), .int .i64 md1, .int .i64 pf1, .slice ca1 cn1 cc1, .slice ra1 0 rc1], .agg #[.int .i64 o1, .slice p1 pn1 j1, .int .u32 (nx1 : Int), .int .i64 md1, .int .i64 pf1, .slice p5 cn1 j5, .slice p6 0 j6]] Y fun e w' => e = .returned (.bool true) ∧ Below Y.heap.size Y w')) :
    Calls Tryd.prog 3 #[.agg #[.int .i64 o1, .slice pa1 pn1 pc1, .int .u32 (nx1 : Int), .int .i64 md1, .int .i64 pf1, .slice ca1 cn1 cc1, .slice ra1 0 rc1], .int .u8 (ty : Int), .int .u8 (flags : Int), .slice da dn dc] w fun e w' => e = .returned (.bool true) ∧ Below w.heap.size w w' := by
  obtain ⟨hand, hc256, _⟩ := clrU_bits flags hfl
  obtain ⟨wb, hwb⟩ : ∃ wb, wb = w.alloc (.cells #[.int .i64 o1, .slice pa1 pn1 pc1, .int .u32 (nx1 : Int), .int .i64 md1, .int .i64 pf1, .slice ca1 cn1 cc1, .slice ra1 0 rc1] 27) := ⟨_, rfl⟩
  have HBb : Hid (Below w.heap.size w wb) := by show Below _ _ _; rw [hwb]; exact (Below.refl _ _).alloc (Nat.le_refl _) _
  have hPb : w.heap.size < wb.heap.size := by rw [hwb]; simp
  have C1 : Hid (∀ X, Below wb.heap.size wb X → X.cell? ⟨w.heap.size, 0, none⟩ = some (.int .i64 o1) ∧ X.cell? ⟨w.heap.size, 1, none⟩ = some (.slice pa1 pn1 pc1) ∧ X.cell? ⟨w.heap.size, 2, none⟩ = some (.int .u32 (nx1 : Int)) ∧ X.cell? ⟨w.heap.size, 3, none⟩ = some (.int .i64 md1) ∧ X.cell? ⟨w.heap.size, 4, none⟩ = some (.int .i64 pf1) ∧ X.cell? ⟨w.heap.size, 5, none⟩ = some (.slice ca1 cn1 cc1) ∧ X.cell? ⟨w.heap.size, 6, none⟩ = some (.slice ra1 0 rc1)) := fun X hb => by
    have k : ∀ j, X.cell? ⟨w.heap.size, j, none⟩ = wb.cell? ⟨w.heap.size, j, none⟩ := fun j => hb.cell (p := ⟨w.heap.size, j, none⟩) hPb
    simp only [k]
    rw [hwb]
    refine ⟨?_, ?_, ?_, ?_, ?_, ?_, ?_⟩ <;> simp [go_sem]
  have FZ : Hid (∀ X, Below wb.heap.size wb X → X.frozen? ⟨w.heap.size, 6, none⟩ = false) := fun X hb => by
    rw [hb.frozen (p := ⟨w.heap.size, 6, none⟩) hPb, hwb]
    have h := heap_alloc_new w (.cells #[.int .i64 o1, .slice pa1 pn1 pc1, .int .u32 (nx1 : Int), .int .i64 md1, .int .i64 pf1, .slice ca1 cn1 cc1, .slice ra1 0 rc1] 27)
    simp only [World.frozen?, h]
    simp
  have h9 : decide ((ty : Int) < 9) = false := decide_eq_false (by omega)
  have h200 : decide ((200 : Int) < (dn : Int)) = false := decide_eq_false (by omega)
  have HDN := hide hdn
  have HRD := hide hrd
  have HEL := hide hel
  have HE := hide hE
  generalize clrU flags = fl at *
  clear hdn hrd hel hE
  go_enter Tryd.func3, Tryd.ntmps3
  go_wp2_with fail
  rw [← hwb]
  clear hwb
  refine (KM.out wb HBb.out).mono ?_
  rintro e w0 ⟨rfl, hb0⟩
  have HW0 := hide hb0
  have HB0 : Hid (Below w.heap.size w w0) := HBb.out.trans (hb0.mono HBb.out.size)
  obtain ⟨x0, x1, x2, x3, x4, x5, x6⟩ := C1.out w0 hb0
  clear hb0 KM
  go_wp2_with fail
  refine (KR.out w0 HB0.out).mono ?_
  rintro e w1 ⟨rfl, hb1⟩
  have HW1 := hide (HW0.out.trans (hb1.mono HW0.out.size))
  have HB1 : Hid (Below w.heap.size w w1) := HB0.out.trans (hb1.mono HB0.out.size)
  clear hb1 KR x0 x1 x2 x3 x4 x5 x6
  obtain ⟨x0, x1, x2, x3, x4, x5, x6⟩ := C1.out w1 HW1.out
  -- x
  have hbl : Below w1.heap.size w1 (w1.alloc (.cells #[.int .u8 (fl : Int), .int .u8 (ty : Int), .int .u8 (dn : Int)] 5)) := (Below.refl _ _).alloc (Nat.le_refl _) _
  have hlit : (w1.alloc (.cells #[.int .u8 (fl : Int), .int .u8 (ty : Int), .int .u8 (dn : Int)] 5)).ownsRow w1.heap.size 5 1 (.slice (some ⟨w1.heap.size, 0, none⟩) 3 3) [fl, ty, dn].length (bcells [fl, ty, dn]) :=
    ⟨rfl, .inr ⟨w1.heap.size, 3, _, rfl, Nat.le_refl _, by unfold World.alloc; exact Array.getElem?_push_size, Nat.le_refl _, by unfold maxLen; omega, rfl, rfl⟩⟩
  obtain ⟨v2, w2, hr2, ho2, hb2⟩ := app_any d da dc hlit hbl.size (by rw [HDN.out]; simp; omega) (HRD.out.below (HB1.out.trans (hbl.mono HB1.out.size)))
  rw [HDN.out] at hr2
  have hxl : ([fl, ty, dn] ++ d).length = 3 + dn := by rw [List.length_append, HDN.out]; rfl
  have hx256 : ∀ x ∈ [fl, ty, dn] ++ d, x < 256 := fun x hx => by
    rcases List.mem_append.1 hx with h | h
    · simp only [List.mem_cons, List.not_mem_nil, or_false] at h
      omega
    · exact HRD.out.2 x h
  obtain ⟨ax, cx, rfl, hcx, hrx⟩ := own_brd ho2 (by omega) hx256
  rw [hxl] at hr2
  have hb12 : Below w1.heap.size w1 w2 := hbl.trans hb2
  have HB2 := hide (HB1.out.trans (hb12.mono HB1.out.size))
  have HW2 := hide (HW1.out.trans (hb12.mono HW1.out.size))
  have HR2 := hide hr2
  have HRX := hide hrx
  have HXL := hide hxl
  have HX2 := hide hx256
  have HD2 : Hid (∀ W v, Below w2.heap.size w2 W → W.ownsRow w2.heap.size 5 1 v ([fl, ty, dn] ++ d ++ E).length (bcells ([fl, ty, dn] ++ d ++ E)) → Calls Tryd.prog 7 #[v] W fun e w' => ∃ cA cN, e = .returned (.tuple #[.agg cA, .agg cN]) ∧ cA.size = 7 ∧ cN.size = 3 ∧ cA.all (·.oneCell') = true ∧ cN.all (·.oneCell') = true ∧ (cN = #[.int .i64 0, .int .i64 0, .slice none 0 0] ∧ ∃ p1 j1 p5 j5 p6 j6, cA = #[.int .i64 o1, .slice p1 pn1 j1, .int .u32 (nx1 : Int), .int .i64 md1, .int .i64 pf1, .slice p5 cn1 j5, .slice p6 0 j6] ∧ ∀ X : World, w'.heap.size ≤ X.heap.size → (∀ k, W.heap.size ≤ k → k < w'.heap.size → X.heap[k]? = w'.heap[k]?) → AtRd X p1 p5 p6 b) ∧ Below W.heap.size W w') := fun W v hb ho => by
    obtain ⟨ad, cd, rfl, hcd, hrd⟩ := own_brd ho (by rw [List.length_append, HXL.out, HEL.out]; omega) (fun x hx => by
      rcases List.mem_append.1 hx with h | h
      · exact HX2.out x h
      · exact HE.out x h)
    exact KD.out W ad _ cd (HB2.out.trans (hb.mono HB2.out.size)) rfl hcd hrd
  have HAT : Hid (∀ W, Below w2.heap.size w2 W → Calls Tryd.prog 8 #[.agg #[.int .i64 o1, .slice pa1 pn1 pc1, .int .u32 (nx1 : Int), .int .i64 md1, .int .i64 pf1, .slice ca1 cn1 cc1, .slice ra1 0 rc1]] W fun e w' => ∃ v, e = .returned v ∧ w'.ownsRow W.heap.size 5 1 v E.length (bcells E) ∧ Below W.heap.size W w') := fun W hb => KAT.out W (HB2.out.trans (hb.mono HB2.out.size))
  clear KD KAT hr2 hrx hxl hx256 hbl hlit ho2 hb2 hb12
  go_wp2_with fail
  refine kept_append_intro _ _ (.slice (some ⟨w1.heap.size, 0, none⟩) 3 3) (.slice da dn dc) (.slice ax (3 + dn) cx) (w' := w2) (by rfl) (by rfl) (by with_reducible exact HR2.out) ?_
  clear x0 x1 x2 x3 x4 x5 x6
  go_wp2_with fail
  have hdr : Below w2.heap.size w2 { w2 with drawn := w2.drawn + 1 } := (Below.refl _ w2).drew
  refine wp_region_noPanic ?_
  refine wp_region_held (S := fun W => Below w2.heap.size w2 W) (by kernel_rfl) ?_
  refine take_slot (i := 1) (d := 49) (v := .slice ax (3 + dn) cx) rfl rfl rfl (by kernel_rfl) (by kernel_rfl) (by kernel_rfl) (fun _ _ _ _ h => h) (fun w _ => op_move _ w _ _ _ rfl rfl) hdr ?_
  simp only [Act.put, List.setIfInBounds_toArray, List.set_cons_zero, List.set_cons_succ]
  refine take_slot (i := 3) (d := 51) (v := .agg #[.int .i64 o1, .slice pa1 pn1 pc1, .int .u32 (nx1 : Int), .int .i64 md1, .int .i64 pf1, .slice ca1 cn1 cc1, .slice ra1 0 rc1]) rfl rfl rfl (by kernel_rfl) (by kernel_rfl) (by kernel_rfl) (fun _ _ _ _ h => h) (fun X hX => by obtain ⟨x0, x1, x2, x3, x4, x5, x6⟩ := C1.out X (HW2.out.trans (hX.mono HW2.out.size)); go_simp) hdr ?_
  simp only [Act.put, List.setIfInBounds_toArray, List.set_cons_zero, List.set_cons_succ]
  refine dec3_region [11, 12, 48, 50, 52, 53, 54, 47, 55, 56] _ w2 _ 11 12 48 49 50 51 52 53 54 47 55 56 0 2 4 5 6 7 8 9 10 11 12 13 #[.int .i64 o1, .slice pa1 pn1 pc1, .int .u32 (nx1 : Int), .int .i64 md1, .int .i64 pf1, .slice ca1 cn1 cc1, .slice ra1 0 rc1] ([fl, ty, dn] ++ d) E ax cx
    (fun W cA cN w' => cN = #[.int .i64 0, .int .i64 0, .slice none 0 0] ∧ ∃ p1 j1 p5 j5 p6 j6, cA = #[.int .i64 o1, .slice p1 pn1 j1, .int .u32 (nx1 : Int), .int .i64 md1, .int .i64 pf1, .slice p5 cn1 j5, .slice p6 0 j6] ∧ ∀ X : World, w'.heap.size ≤ X.heap.size → (∀ k, W.heap.size ≤ k → k < w'.heap.size → X.heap[k]? = w'.heap[k]?) → AtRd X p1 p5 p6 b)
    lst5 (fun _ _ _ _ h => h) ⟨_, _, _, rfl⟩ ⟨_, _, rfl⟩ ⟨_, _, _, rfl⟩ ⟨_, _, rfl⟩ ⟨_, _, _, rfl⟩ ⟨_, _, _, rfl⟩ ⟨_, _, _, rfl⟩ ⟨_, _, _, rfl⟩ ⟨_, _, _, rfl⟩ ⟨_, _, _, rfl⟩ ⟨_, _, _, rfl⟩ ⟨_, _, _, rfl⟩ (by kernel_rfl)
    lst5_A lst5_N ?_ ?_ ?_ ?_ ?_ ?_ ?_ ?_ ?_ ?_ (by kernel_rfl) (by kernel_rfl) (by kernel_rfl) rfl (by decide) ?_ (by decide) (by decide) ?_ rfl HRX.out HE.out HAT.out ?_ HD2.out ?_ hdr
  · intro k A N hk
    match k, hk with
    | 0, _ => cases A <;> cases N <;> decide +kernel
    | 1, _ => cases A <;> cases N <;> decide +kernel
    | 2, _ => cases A <;> cases N <;> decide +kernel
    | 3, _ => cases A <;> cases N <;> decide +kernel
    | 4, _ => cases A <;> cases N <;> decide +kernel
  · intro A N h
    cases A <;> cases N <;> first | (cases h; done) | kernel_rfl
  · intro A N; rfl
  · intro A N; rfl
  · intro A N; rfl
  · intro A N; rfl
  · intro A N; cases A <;> cases N <;> exact ⟨by kernel_rfl, by kernel_rfl⟩
  · intro A N; cases A <;> cases N <;> exact ⟨by kernel_rfl, by kernel_rfl⟩
  · intro A N; cases A <;> cases N <;> exact ⟨by kernel_rfl, by kernel_rfl⟩
  · intro A N; rfl
  · exact (by decide : ∀ s ∈ [11, 12, 48, 50, 52, 53, 54, 47, 55, 56], s < 97)
  · rw [HXL.out]; rfl
  · rw [HXL.out, HEL.out]; omega
  · intro gA gN cA cN Wc w3 W a hfr pA pN hR h0c h1c h2c hblk hov lA lN rA rN
    obtain ⟨rfl, p1, j1, p5, j5, p6, j6, rfl, hbr⟩ := hR
    have m0 : W.cell? ⟨gN, 0, none⟩ = some (.int .i64 0) := rN 0 _ rfl
    have q0 : W.cell? ⟨gA, 0, none⟩ = some (.int .i64 o1) := rA 0 _ rfl
    have q1 : W.cell? ⟨gA, 1, none⟩ = some (.slice p1 pn1 j1) := rA 1 _ rfl
    have q2 : W.cell? ⟨gA, 2, none⟩ = some (.int .u32 (nx1 : Int)) := rA 2 _ rfl
    have q3 : W.cell? ⟨gA, 3, none⟩ = some (.int .i64 md1) := rA 3 _ rfl
    have q4 : W.cell? ⟨gA, 4, none⟩ = some (.int .i64 pf1) := rA 4 _ rfl
    have q5 : W.cell? ⟨gA, 5, none⟩ = some (.slice p5 cn1 j5) := rA 5 _ rfl
    have q6 : W.cell? ⟨gA, 6, none⟩ = some (.slice p6 0 j6) := rA 6 _ rfl
    have hgl := World.block_lt_of_cell? W _ m0
    have hga := World.block_lt_of_cell? W _ q0
    simp only at hgl hga
    obtain ⟨y0, y1, y2, y3, y4, y5, y6, y7, rfl⟩ := hfr.lay10 (by exact (by decide : ∀ s ∈ [11, 12, 48, 50, 52, 53, 54, 47, 55, 56], s < 97)) pA pN
    have HBW := hide (HB2.out.trans (hov.mono HB2.out.size))
    have HWW := hide (HW2.out.trans (hov.mono HW2.out.size))
    have HMM : Hid (∀ X, Below W.heap.size W X → X.cell? ⟨gN, 0, none⟩ = some (.int .i64 0) ∧ X.cell? ⟨gA, 0, none⟩ = some (.int .i64 o1) ∧ X.cell? ⟨gA, 1, none⟩ = some (.slice p1 pn1 j1) ∧ X.cell? ⟨gA, 2, none⟩ = some (.int .u32 (nx1 : Int)) ∧ X.cell? ⟨gA, 3, none⟩ = some (.int .i64 md1) ∧ X.cell? ⟨gA, 4, none⟩ = some (.int .i64 pf1) ∧ X.cell? ⟨gA, 5, none⟩ = some (.slice p5 cn1 j5) ∧ X.cell? ⟨gA, 6, none⟩ = some (.slice p6 0 j6)) := fun X hX => by
      have k : ∀ j, X.cell? ⟨gA, j, none⟩ = W.cell? ⟨gA, j, none⟩ := fun j => hX.cell (p := ⟨gA, j, none⟩) hga
      simp only [k]
      rw [hX.cell (p := ⟨gN, 0, none⟩) hgl]
      exact ⟨m0, q0, q1, q2, q3, q4, q5, q6⟩
    have HCC := hide (hbr W h2c hblk)
    clear hfr pA pN hbr h0c h1c h2c hblk hov rA rN m0 q0 q1 q2 q3 q4 q5 q6 hgl hga
    refine NoPanic.normal ?_
    simp only [Act.put, List.setIfInBounds_toArray, List.set_cons_zero, List.set_cons_succ]
    go_wp2_with fail
    refine (KA.out W HBW.out).mono ?_
    rintro e w8 ⟨rfl, hb8⟩
    obtain ⟨m0, q0, q1, q2, q3, q4, q5, q6⟩ := HMM.out w8 hb8
    obtain ⟨x0, x1, x2, x3, x4, x5, x6⟩ := C1.out w8 (HWW.out.trans (hb8.mono HWW.out.size))
    have HB8 := hide (HBW.out.trans (hb8.mono HBW.out.size))
    have HK8 := hide (KS.out w8 p1 j1 p5 j5 p6 j6 HB8.out (HCC.out.below hb8))
    clear hb8
    go_wp2_with fail
    refine HK8.out.mono ?_
    rintro e w9 ⟨rfl, hb9⟩
    have HB9 := hide (HB8.out.trans (hb9.mono HB8.out.size))
    clear hb9
    go_wp2
    go_ret
    exact ⟨rfl, HB9.out⟩
set_option maxHeartbeats 6400000 in
theorem aunk_pass (o1 : Int) (pa1 : Option Addr) (pn1 pc1 : Nat) (nx1 : Nat) (md1 pf1 : Int) (ca1 : Option Addr) (cn1 cc1 : Nat) (ra1 : Option Addr) (rc1 : Nat) (ty flags : Nat) (da : Option Addr) (dn dc : Nat) (d E : List Nat) (b : At) (el : Nat) (w : World)
    (hty : 9 ≤ ty) (hty2 : ty < 256) (hfl : flags < 256) (hdn : d.length = dn) (hd2 : dn ≤ 200) (hdc : dn ≤ dc) (hrd : BRd w da d) (hel : E.length = el) (hel9 : el ≤ 9000) (hE : ∀ x ∈ E, x < 256) (h128 : decide ((clrU flags : Int) < 128) = false) (h64 : (clrU flags : Int) / 64 % 2 = 1)
    (KA : Hid (∀ W, Below w.heap.size w W → Calls Tryd.prog 6 #[] W fun e w' => e = .returned (.bool true) ∧ Below W.heap.size W w'))
    (KM : Hid (∀ W, Below w.heap.size w W → Calls Tryd.prog 4 #[.agg #[.int .i64 o1, .slice pa1 pn1 pc1, .int .u32 (nx1 : Int), .int .i64 md1, .int .i64 pf1, .slice ca1 cn1 cc1, .slice ra1 0 rc1]] W fun e w' => e = .returned (.bool true) ∧ Below W.heap.size W w'))
    (KR : Hid (∀ W, Below w.heap.size w W → Calls Tryd.prog 5 #[.agg #[.int .i64 o1, .slice pa1 pn1 pc1, .int .u32 (nx1 : Int), .int .i64 md1, .int .i64 pf1, .slice ca1 cn1 cc1, .slice ra1 0 rc1]] W fun e w' => e = .returned (.bool true) ∧ Below W.heap.size W w'))
    (KAT : Hid (∀ W, Below w.heap.size w W → Calls Tryd.prog 8 #[.agg #[.int .i64 o1, .slice pa1 pn1 pc1, .int .u32 (nx1 : Int), .int .i64 md1, .int .i64 pf1, .slice ca1 cn1 cc1, .slice ra1 0 rc1]] W fun e w' => ∃ v, e = .returned v ∧ w'.ownsRow W.heap.size 5 1 v E.length (bcells E) ∧ Below W.heap.size W w'))
    (KD : Hid (∀ W a9 n9 c9, Below w.heap.size w W → n9 = ([clrU flags, ty, dn] ++ d ++ E).length → n9 ≤ c9 → BRd W a9 ([clrU flags, ty, dn] ++ d ++ E) → Calls Tryd.prog 7 #[.slice a9 n9 c9] W fun e w' => ∃ cA cN, e = .returned (.tuple #[.agg cA, .agg cN]) ∧ cA.size = 7 ∧ cN.size = 3 ∧ cA.all (·.oneCell') = true ∧ cN.all (·.oneCell') = true ∧ (cN = #[.int .i64 0, .int .i64 0, .slice none 0 0] ∧ ∃ p1 j1 p5 j5 p6 j6, cA = #[.int .i64 o1, .slice p1 pn1 j1, .int .u32 (nx1 : Int), .int .i64 md1, .int .i64 pf1, .slice p5 cn1 j5, .slice p6 1 j6] ∧ ∀ X : World, w'.heap.size ≤ X.heap.size → (∀ k, W.heap.size ≤ k → k < w'.heap.size → X.heap[k]? = w'.heap[k]?) → AtRd X p1 p5 p6 b) ∧ Below W.heap.size W w'))
    (KS : Hid (∀ Y p1 j1 p5 j5 p6 j6 rq, Below w.heap.size w Y → RawRd Y rq [(224, (ty : Int), d)] → AtRd Y p1 p5 p6 b → Calls Tryd.prog 10 #[.agg #[.int .i64 o1, .slice pa1 pn1 pc1, .int .u32 (nx1 : Int), .int .i64 md1, .int .i64 pf1, .slice ca1 cn1 cc1, .slice rq 1 1], .agg #[.int .i64 o1, .slice p1 pn1 j1, .int .u32 (nx1 : Int), .int .i64 md1, .int .i64 pf1, .slice p5 cn1 j5, .slice p6 1 j6]] Y fun e w' => e = .returned (.bool true) ∧ Below Y.heap.size Y w')) :
    Calls Tryd.prog 3 #[.agg #[.int .i64 o1, .slice pa1 pn1 pc1, .int .u32 (nx1 : Int), .int .i64 md1, .int .i64 pf1, .slice ca1 cn1 cc1, .slice ra1 0 rc1], .int .u8 (ty : Int), .int .u8 (flags : Int), .slice da dn dc] w fun e w' => e = .returned (.bool true) ∧ Below w.heap.size w w' := by
  obtain ⟨hand, hc256, _⟩ := clrU_bits flags hfl
  obtain ⟨wb, hwb⟩ : ∃ wb, wb = w.alloc (.cells #[.int .i64 o1, .slice pa1 pn1 pc1, .int .u32 (nx1 : Int), .int .i64 md1, .int .i64 pf1, .slice ca1 cn1 cc1, .slice ra1 0 rc1] 27) := ⟨_, rfl⟩
  have HBb : Hid (Below w.heap.size w wb) := by show Below _ _ _; rw [hwb]; exact (Below.refl _ _).alloc (Nat.le_refl _) _
  have hPb : w.heap.size < wb.heap.size := by rw [hwb]; simp
  have C1 : Hid (∀ X, Below wb.heap.size wb X → X.cell? ⟨w.heap.size, 0, none⟩ = some (.int .i64 o1) ∧ X.cell? ⟨w.heap.size, 1, none⟩ = some (.slice pa1 pn1 pc1) ∧ X.cell? ⟨w.heap.size, 2, none⟩ = some (.int .u32 (nx1 : Int)) ∧ X.cell? ⟨w.heap.size, 3, none⟩ = some (.int .i64 md1) ∧ X.cell? ⟨w.heap.size, 4, none⟩ = some (.int .i64 pf1) ∧ X.cell? ⟨w.heap.size, 5, none⟩ = some (.slice ca1 cn1 cc1) ∧ X.cell? ⟨w.heap.size, 6, none⟩ = some (.slice ra1 0 rc1)) := fun X hb => by
    have k : ∀ j, X.cell? ⟨w.heap.size, j, none⟩ = wb.cell? ⟨w.heap.size, j, none⟩ := fun j => hb.cell (p := ⟨w.heap.size, j, none⟩) hPb
    simp only [k]
    rw [hwb]
    refine ⟨?_, ?_, ?_, ?_, ?_, ?_, ?_⟩ <;> simp [go_sem]
  have FZ : Hid (∀ X, Below wb.heap.size wb X → X.frozen? ⟨w.heap.size, 6, none⟩ = false) := fun X hb => by
    rw [hb.frozen (p := ⟨w.heap.size, 6, none⟩) hPb, hwb]
    have h := heap_alloc_new w (.cells #[.int .i64 o1, .slice pa1 pn1 pc1, .int .u32 (nx1 : Int), .int .i64 md1, .int .i64 pf1, .slice ca1 cn1 cc1, .slice ra1 0 rc1] 27)
    simp only [World.frozen?, h]
    simp
  have h9 : decide ((ty : Int) < 9) = false := decide_eq_false (by omega)
  have h200 : decide ((200 : Int) < (dn : Int)) = false := decide_eq_false (by omega)
  have HDN := hide hdn
  have HRD := hide hrd
  have HEL := hide hel
  have HE := hide hE
  generalize clrU flags = fl at *
  clear hdn hrd hel hE
  go_enter Tryd.func3, Tryd.ntmps3
  go_wp2_with fail
  rw [← hwb]
  clear hwb
  refine (KM.out wb HBb.out).mono ?_
  rintro e w0 ⟨rfl, hb0⟩
  have HW0 := hide hb0
  have HB0 : Hid (Below w.heap.size w w0) := HBb.out.trans (hb0.mono HBb.out.size)
  obtain ⟨x0, x1, x2, x3, x4, x5, x6⟩ := C1.out w0 hb0
  clear hb0 KM
  go_wp2_with fail
  refine (KR.out w0 HB0.out).mono ?_
  rintro e w1 ⟨rfl, hb1⟩
  have HW1 := hide (HW0.out.trans (hb1.mono HW0.out.size))
  have HB1 : Hid (Below w.heap.size w w1) := HB0.out.trans (hb1.mono HB0.out.size)
  clear hb1 KR x0 x1 x2 x3 x4 x5 x6
  obtain ⟨x0, x1, x2, x3, x4, x5, x6⟩ := C1.out w1 HW1.out
  -- x
  have hbl : Below w1.heap.size w1 (w1.alloc (.cells #[.int .u8 (fl : Int), .int .u8 (ty : Int), .int .u8 (dn : Int)] 5)) := (Below.refl _ _).alloc (Nat.le_refl _) _
  have hlit : (w1.alloc (.cells #[.int .u8 (fl : Int), .int .u8 (ty : Int), .int .u8 (dn : Int)] 5)).ownsRow w1.heap.size 5 1 (.slice (some ⟨w1.heap.size, 0, none⟩) 3 3) [fl, ty, dn].length (bcells [fl, ty, dn]) :=
    ⟨rfl, .inr ⟨w1.heap.size, 3, _, rfl, Nat.le_refl _, by unfold World.alloc; exact Array.getElem?_push_size, Nat.le_refl _, by unfold maxLen; omega, rfl, rfl⟩⟩
  obtain ⟨v2, w2, hr2, ho2, hb2⟩ := app_any d da dc hlit hbl.size (by rw [HDN.out]; simp; omega) (HRD.out.below (HB1.out.trans (hbl.mono HB1.out.size)))
  rw [HDN.out] at hr2
  have hxl : ([fl, ty, dn] ++ d).length = 3 + dn := by rw [List.length_append, HDN.out]; rfl
  have hx256 : ∀ x ∈ [fl, ty, dn] ++ d, x < 256 := fun x hx => by
    rcases List.mem_append.1 hx with h | h
    · simp only [List.mem_cons, List.not_mem_nil, or_false] at h
      omega
    · exact HRD.out.2 x h
  obtain ⟨ax, cx, rfl, hcx, hrx⟩ := own_brd ho2 (by omega) hx256
  rw [hxl] at hr2
  have hb12 : Below w1.heap.size w1 w2 := hbl.trans hb2
  have HB2 := hide (HB1.out.trans (hb12.mono HB1.out.size))
  have HW2 := hide (HW1.out.trans (hb12.mono HW1.out.size))
  have HR2 := hide hr2
  have HRX := hide hrx
  have HXL := hide hxl
  have HX2 := hide hx256
  have HD2 : Hid (∀ W v, Below w2.heap.size w2 W → W.ownsRow w2.heap.size 5 1 v ([fl, ty, dn] ++ d ++ E).length (bcells ([fl, ty, dn] ++ d ++ E)) → Calls Tryd.prog 7 #[v] W fun e w' => ∃ cA cN, e = .returned (.tuple #[.agg cA, .agg cN]) ∧ cA.size = 7 ∧ cN.size = 3 ∧ cA.all (·.oneCell') = true ∧ cN.all (·.oneCell') = true ∧ (cN = #[.int .i64 0, .int .i64 0, .slice none 0 0] ∧ ∃ p1 j1 p5 j5 p6 j6, cA = #[.int .i64 o1, .slice p1 pn1 j1, .int .u32 (nx1 : Int), .int .i64 md1, .int .i64 pf1, .slice p5 cn1 j5, .slice p6 1 j6] ∧ ∀ X : World, w'.heap.size ≤ X.heap.size → (∀ k, W.heap.size ≤ k → k < w'.heap.size → X.heap[k]? = w'.heap[k]?) → AtRd X p1 p5 p6 b) ∧ Below W.heap.size W w') := fun W v hb ho => by
    obtain ⟨ad, cd, rfl, hcd, hrd⟩ := own_brd ho (by rw [List.length_append, HXL.out, HEL.out]; omega) (fun x hx => by
      rcases List.mem_append.1 hx with h | h
      · exact HX2.out x h
      · exact HE.out x h)
    exact KD.out W ad _ cd (HB2.out.trans (hb.mono HB2.out.size)) rfl hcd hrd
  have HAT : Hid (∀ W, Below w2.heap.size w2 W → Calls Tryd.prog 8 #[.agg #[.int .i64 o1, .slice pa1 pn1 pc1, .int .u32 (nx1 : Int), .int .i64 md1, .int .i64 pf1, .slice ca1 cn1 cc1, .slice ra1 0 rc1]] W fun e w' => ∃ v, e = .returned v ∧ w'.ownsRow W.heap.size 5 1 v E.length (bcells E) ∧ Below W.heap.size W w') := fun W hb => KAT.out W (HB2.out.trans (hb.mono HB2.out.size))
  clear KD KAT hr2 hrx hxl hx256 hbl hlit ho2 hb2 hb12
  go_wp2_with fail
  refine kept_append_intro _ _ (.slice (some ⟨w1.heap.size, 0, none⟩) 3 3) (.slice da dn dc) (.slice ax (3 + dn) cx) (w' := w2) (by rfl) (by rfl) (by with_reducible exact HR2.out) ?_
  clear x0 x1 x2 x3 x4 x5 x6
  go_wp2_with fail
  have hdr : Below w2.heap.size w2 { w2 with drawn := w2.drawn + 1 } := (Below.refl _ w2).drew
  refine wp_region_noPanic ?_
  refine wp_region_held (S := fun W => Below w2.heap.size w2 W) (by kernel_rfl) ?_
  refine take_slot (i := 1) (d := 49) (v := .slice ax (3 + dn) cx) rfl rfl rfl (by kernel_rfl) (by kernel_rfl) (by kernel_rfl) (fun _ _ _ _ h => h) (fun w _ => op_move _ w _ _ _ rfl rfl) hdr ?_
  simp only [Act.put, List.setIfInBounds_toArray, List.set_cons_zero, List.set_cons_succ]
  refine take_slot (i := 3) (d := 51) (v := .agg #[.int .i64 o1, .slice pa1 pn1 pc1, .int .u32 (nx1 : Int), .int .i64 md1, .int .i64 pf1, .slice ca1 cn1 cc1, .slice ra1 0 rc1]) rfl rfl rfl (by kernel_rfl) (by kernel_rfl) (by kernel_rfl) (fun _ _ _ _ h => h) (fun X hX => by obtain ⟨x0, x1, x2, x3, x4, x5, x6⟩ := C1.out X (HW2.out.trans (hX.mono HW2.out.size)); go_simp) hdr ?_
  simp only [Act.put, List.setIfInBounds_toArray, List.set_cons_zero, List.set_cons_succ]
  refine dec3_region [11, 12, 48, 50, 52, 53, 54, 47, 55, 56] _ w2 _ 11 12 48 49 50 51 52 53 54 47 55 56 0 2 4 5 6 7 8 9 10 11 12 13 #[.int .i64 o1, .slice pa1 pn1 pc1, .int .u32 (nx1 : Int), .int .i64 md1, .int .i64 pf1, .slice ca1 cn1 cc1, .slice ra1 0 rc1] ([fl, ty, dn] ++ d) E ax cx
    (fun W cA cN w' => cN = #[.int .i64 0, .int .i64 0, .slice none 0 0] ∧ ∃ p1 j1 p5 j5 p6 j6, cA = #[.int .i64 o1, .slice p1 pn1 j1, .int .u32 (nx1 : Int), .int .i64 md1, .int .i64 pf1, .slice p5 cn1 j5, .slice p6 1 j6] ∧ ∀ X : World, w'.heap.size ≤ X.heap.size → (∀ k, W.heap.size ≤ k → k < w'.heap.size → X.heap[k]? = w'.heap[k]?) → AtRd X p1 p5 p6 b)
    lst5 (fun _ _ _ _ h => h) ⟨_, _, _, rfl⟩ ⟨_, _, rfl⟩ ⟨_, _, _, rfl⟩ ⟨_, _, rfl⟩ ⟨_, _, _, rfl⟩ ⟨_, _, _, rfl⟩ ⟨_, _, _, rfl⟩ ⟨_, _, _, rfl⟩ ⟨_, _, _, rfl⟩ ⟨_, _, _, rfl⟩ ⟨_, _, _, rfl⟩ ⟨_, _, _, rfl⟩ (by kernel_rfl)
    lst5_A lst5_N ?_ ?_ ?_ ?_ ?_ ?_ ?_ ?_ ?_ ?_ (by kernel_rfl) (by kernel_rfl) (by kernel_rfl) rfl (by decide) ?_ (by decide) (by decide) ?_ rfl HRX.out HE.out HAT.out ?_ HD2.out ?_ hdr
  · intro k A N hk
    match k, hk with
    | 0, _ => cases A <;> cases N <;> decide +kernel
    | 1, _ => cases A <;> cases N <;> decide +kernel
    | 2, _ => cases A <;> cases N <;> decide +kernel
    | 3, _ => cases A <;> cases N <;> decide +kernel
    | 4, _ => cases A <;> cases N <;> decide +kernel
  · intro A N h
    cases A <;> cases N <;> first | (cases h; done) | kernel_rfl
  · intro A N; rfl
  · intro A N; rfl
  · intro A N; rfl
  · intro A N; rfl
  · intro A N; cases A <;> cases N <;> exact ⟨by kernel_rfl, by kernel_rfl⟩
  · intro A N; cases A <;> cases N <;> exact ⟨by kernel_rfl, by kernel_rfl⟩
  · intro A N; cases A <;> cases N <;> exact ⟨by kernel_rfl, by kernel_rfl⟩
  · intro A N; rfl
  · exact (by decide : ∀ s ∈ [11, 12, 48, 50, 52, 53, 54, 47, 55, 56], s < 97)
  · rw [HXL.out]; rfl
  · rw [HXL.out, HEL.out]; omega
  · intro gA gN cA cN Wc w3 W a hfr pA pN hR h0c h1c h2c hblk hov lA lN rA rN
    obtain ⟨rfl, p1, j1, p5, j5, p6, j6, rfl, hbr⟩ := hR
    have m0 : W.cell? ⟨gN, 0, none⟩ = some (.int .i64 0) := rN 0 _ rfl
    have q0 : W.cell? ⟨gA, 0, none⟩ = some (.int .i64 o1) := rA 0 _ rfl
    have q1 : W.cell? ⟨gA, 1, none⟩ = some (.slice p1 pn1 j1) := rA 1 _ rfl
    have q2 : W.cell? ⟨gA, 2, none⟩ = some (.int .u32 (nx1 : Int)) := rA 2 _ rfl
    have q3 : W.cell? ⟨gA, 3, none⟩ = some (.int .i64 md1) := rA 3 _ rfl
    have q4 : W.cell? ⟨gA, 4, none⟩ = some (.int .i64 pf1) := rA 4 _ rfl
    have q5 : W.cell? ⟨gA, 5, none⟩ = some (.slice p5 cn1 j5) := rA 5 _ rfl
    have q6 : W.cell? ⟨gA, 6, none⟩ = some (.slice p6 1 j6) := rA 6 _ rfl
    have hgl := World.block_lt_of_cell? W _ m0
    have hga := World.block_lt_of_cell? W _ q0
    simp only at hgl hga
    obtain ⟨y0, y1, y2, y3, y4, y5, y6, y7, rfl⟩ := hfr.lay10 (by exact (by decide : ∀ s ∈ [11, 12, 48, 50, 52, 53, 54, 47, 55, 56], s < 97)) pA pN
    have HBW := hide (HB2.out.trans (hov.mono HB2.out.size))
    have HWW := hide (HW2.out.trans (hov.mono HW2.out.size))
    obtain ⟨Ws, hWs⟩ : ∃ Ws, Ws = W.setCell ⟨w.heap.size, 6, none⟩ (.slice (some ⟨W.heap.size, 0, none⟩) 1 1) := ⟨_, rfl⟩
    obtain ⟨W9, hW9⟩ : ∃ W9, W9 = Ws.alloc (.cells #[.int .i64 224, .int .i64 (ty : Int), .slice da dn dc] 38) := ⟨_, rfl⟩
    have hss : Ws.heap.size = W.heap.size := by rw [hWs]; simp
    have hwl : w.heap.size < W.heap.size := Nat.lt_of_lt_of_le hPb HWW.out.size
    have hneA : gA ≠ w.heap.size := by have := HW2.out.size; omega
    have hneN : gN ≠ w.heap.size := by have := HW2.out.size; omega
    obtain ⟨x0, x1, x2, x3, x4, x5, x6⟩ := C1.out W HWW.out
    have hfz := FZ.out W HWW.out
    have hba : Below Ws.heap.size Ws W9 := by rw [hW9]; exact (Below.refl _ _).alloc (Nat.le_refl _) _
    have oth : ∀ (g j : Nat) v, g ≠ w.heap.size ∨ j ≠ 6 → g < W.heap.size → W.cell? ⟨g, j, none⟩ = some v → W9.cell? ⟨g, j, none⟩ = some v := fun g j v hne hlt hv => by
      rw [hba.cell (p := ⟨g, j, none⟩) (by rw [hss]; exact hlt), hWs, World.cell?_setCell_other _ _ _ _ (by intro e9; injection e9 with e1 e2 _; rcases hne with h | h; exact h e1.symm; exact h e2.symm)]
      exact hv
    have hx6 : W9.cell? ⟨w.heap.size, 6, none⟩ = some (.slice (some ⟨W.heap.size, 0, none⟩) 1 1) := by rw [hba.cell (p := ⟨w.heap.size, 6, none⟩) (by rw [hss]; exact hwl), hWs]; exact World.cell?_setCell_same _ _ _ x6
    have HB9 : Hid (Below w.heap.size w W9) := by
      show Below _ _ _
      rw [hW9, hWs]
      have h1 := HBW.out.setCell (p := ⟨w.heap.size, 6, none⟩) (Nat.le_refl _) (.slice (some ⟨W.heap.size, 0, none⟩) 1 1)
      exact h1.alloc h1.size _
    have hsz9 : W.heap.size < W9.heap.size := by rw [hW9, World.size_alloc, hss]; omega
    have HMM : Hid (∀ X, Below W9.heap.size W9 X → X.cell? ⟨gN, 0, none⟩ = some (.int .i64 0) ∧ (X.cell? ⟨gA, 0, none⟩ = some (.int .i64 o1) ∧ X.cell? ⟨gA, 1, none⟩ = some (.slice p1 pn1 j1) ∧ X.cell? ⟨gA, 2, none⟩ = some (.int .u32 (nx1 : Int)) ∧ X.cell? ⟨gA, 3, none⟩ = some (.int .i64 md1) ∧ X.cell? ⟨gA, 4, none⟩ = some (.int .i64 pf1) ∧ X.cell? ⟨gA, 5, none⟩ = some (.slice p5 cn1 j5) ∧ X.cell? ⟨gA, 6, none⟩ = some (.slice p6 1 j6)) ∧ (X.cell? ⟨w.heap.size, 0, none⟩ = some (.int .i64 o1) ∧ X.cell? ⟨w.heap.size, 1, none⟩ = some (.slice pa1 pn1 pc1) ∧ X.cell? ⟨w.heap.size, 2, none⟩ = some (.int .u32 (nx1 : Int)) ∧ X.cell? ⟨w.heap.size, 3, none⟩ = some (.int .i64 md1) ∧ X.cell? ⟨w.heap.size, 4, none⟩ = some (.int .i64 pf1) ∧ X.cell? ⟨w.heap.size, 5, none⟩ = some (.slice ca1 cn1 cc1) ∧ X.cell? ⟨w.heap.size, 6, none⟩ = some (.slice (some ⟨W.heap.size, 0, none⟩) 1 1)) ∧ X.cell? ⟨W.heap.size, 0, none⟩ = some (.int .i64 224) ∧ X.cell? ⟨W.heap.size, 1, none⟩ = some (.int .i64 (ty : Int)) ∧ X.cell? ⟨W.heap.size, 2, none⟩ = some (.slice da dn dc)) := fun X hX => by
      have k : ∀ g j v, g < W.heap.size + 1 → W9.cell? ⟨g, j, none⟩ = some v → X.cell? ⟨g, j, none⟩ = some v := fun g j v hg hv => by rw [hX.cell (p := ⟨g, j, none⟩) (by show g < _; omega)]; exact hv
      have n9 : ∀ j v, #[Value.int .i64 224, .int .i64 (ty : Int), .slice da dn dc][j]? = some v → W9.cell? ⟨W.heap.size, j, none⟩ = some v := fun j v hv => by
        have h1 := World.cell?_alloc_mark Ws #[Value.int .i64 224, .int .i64 (ty : Int), .slice da dn dc] 38 (0, 0) j
        rw [hss] at h1
        rw [hW9, h1]
        exact hv
      refine ⟨k _ _ _ (by omega) (oth _ _ _ (.inl hneN) hgl m0), ⟨?_, ?_, ?_, ?_, ?_, ?_, ?_⟩, ⟨?_, ?_, ?_, ?_, ?_, ?_, ?_⟩, k _ _ _ (by omega) (n9 0 _ rfl), k _ _ _ (by omega) (n9 1 _ rfl), k _ _ _ (by omega) (n9 2 _ rfl)⟩
      · exact k _ _ _ (by omega) (oth _ _ _ (.inl hneA) hga q0)
      · exact k _ _ _ (by omega) (oth _ _ _ (.inl hneA) hga q1)
      · exact k _ _ _ (by omega) (oth _ _ _ (.inl hneA) hga q2)
      · exact k _ _ _ (by omega) (oth _ _ _ (.inl hneA) hga q3)
      · exact k _ _ _ (by omega) (oth _ _ _ (.inl hneA) hga q4)
      · exact k _ _ _ (by omega) (oth _ _ _ (.inl hneA) hga q5)
      · exact k _ _ _ (by omega) (oth _ _ _ (.inl hneA) hga q6)
      · exact k _ _ _ (by omega) (oth _ _ _ (.inr (by decide)) hwl x0)
      · exact k _ _ _ (by omega) (oth _ _ _ (.inr (by decide)) hwl x1)
      · exact k _ _ _ (by omega) (oth _ _ _ (.inr (by decide)) hwl x2)
      · exact k _ _ _ (by omega) (oth _ _ _ (.inr (by decide)) hwl x3)
      · exact k _ _ _ (by omega) (oth _ _ _ (.inr (by decide)) hwl x4)
      · exact k _ _ _ (by omega) (oth _ _ _ (.inr (by decide)) hwl x5)
      · exact k _ _ _ (by omega) hx6
    have HCC := hide (hbr W9 (by omega) (fun k h1 h2 => by
      have hs1 := h0c.size
      have hs2 := HW2.out.size
      rw [hW9, heap_alloc_old _ _ (by omega), hWs, heap_setCell _ _ _ _ k (by omega)]
      exact hblk k h1 h2))
    clear hfr pA pN hbr h0c h1c h2c hblk hov rA rN m0 q0 q1 q2 q3 q4 q5 q6 hgl hga hneA hneN oth x0 x1 x2 x3 x4 x5
    have hwl2 : w.heap.size < W.heap.size + 1 := by omega
    refine NoPanic.normal ?_
    simp only [Act.put, List.setIfInBounds_toArray, List.set_cons_zero, List.set_cons_succ]
    go_wp2_with fail
    rw [← hWs, ← hW9]
    refine (KA.out W9 HB9.out).mono ?_
    rintro e w8 ⟨rfl, hb8⟩
    obtain ⟨m0, ⟨q0, q1, q2, q3, q4, q5, q6⟩, ⟨z0, z1, z2, z3, z4, z5, z6⟩, r0, r1, r2⟩ := HMM.out w8 hb8
    have HB8 := hide (HB9.out.trans (hb8.mono HB9.out.size))
    have HK8 := hide (KS.out w8 p1 j1 p5 j5 p6 j6 (some ⟨W.heap.size, 0, none⟩) HB8.out (fun _ => ⟨W.heap.size, 0, rfl, fun i r hi => by
      have h0 : i = 0 := by have := (List.getElem?_eq_some_iff.1 hi).1; simpa using this
      subst h0
      simp only [List.getElem?_cons_zero, Option.some.injEq] at hi
      subst hi
      exact ⟨r0, r1, da, dc, by rw [HDN.out]; exact r2, by rw [HDN.out]; exact hdc, HRD.out.below HB8.out⟩⟩) (HCC.out.below hb8))
    clear hb8 hW9 hWs hx6 hfz x6
    go_wp2_with fail
    refine HK8.out.mono ?_
    rintro e w9 ⟨rfl, hb9⟩
    have HB10 := hide (HB8.out.trans (hb9.mono HB8.out.size))
    clear hb9
    go_wp2
    go_ret
    exact ⟨rfl, HB10.out⟩
end
end Go.Proofs.YtempaadgheondabDoor
/- AttrUnknown's walk, whole. -/
namespace Go.Proofs.YtempaadgheondabDoor
open Go.RowKit
set_option maxRecDepth 100000

section
variable {w' X : World} {lo : Nat}
/-- A row that a call has made stands where all blocks do that it has made. -/
theorem own_stands {e size n : Nat} {v : Value} {xs : List Value} (h : w'.ownsRow lo e size v n xs) (hX : ∀ k, lo ≤ k → k < w'.heap.size → X.heap[k]? = w'.heap[k]?) : X.ownsRow lo e size v n xs := by
  refine ⟨h.1, ?_⟩
  rcases h.2 with hh | ⟨g, cap, cur, e1, hg, hc, rest⟩
  · exact .inl hh
  · refine .inr ⟨g, cap, cur, e1, hg, ?_, rest⟩
    rw [hX g hg (Array.getElem?_eq_some_iff.1 hc).1]
    exact hc
theorem path_stands {v : Value} {ss : List (Bool × List Int)} (h : OwnPath w' lo v ss) (hX : ∀ k, lo ≤ k → k < w'.heap.size → X.heap[k]? = w'.heap[k]?) : OwnPath X lo v ss := by
  obtain ⟨cs, ho, hc⟩ := h
  refine ⟨cs, own_stands ho hX, fun i s hi => ?_⟩
  obtain ⟨h1, x, h2, h3⟩ := hc i s hi
  exact ⟨h1, x, h2, own_stands h3 hX⟩
theorem raws_stands {v : Value} {rs : List (Int × Int × List Nat)} (h : OwnRaws w' lo v rs) (hX : ∀ k, lo ≤ k → k < w'.heap.size → X.heap[k]? = w'.heap[k]?) : OwnRaws X lo v rs := by
  obtain ⟨cs, ho, hc⟩ := h
  refine ⟨cs, own_stands ho hX, fun i s hi => ?_⟩
  obtain ⟨h1, h2, x, h3, h4⟩ := hc i s hi
  exact ⟨h1, h2, x, h3, own_stands h4 hX⟩
end
theorem attrUnknown_walk (pa0 : Option Addr) (pc0 : Nat) (ca0 : Option Addr) (cc0 : Nat) (ra0 : Option Addr) (rc0 : Nat) (a0 : At) (z1 z2 : Int) (b3 : Option Addr) (c3 : Nat) (bs3 : List Nat) (W : World) (hS : Said W) (g0 : BigA a0) (h0 : AtRd W pa0 ca0 ra0 a0) (wf1 : (Lit.int IntKind.u8 z1).wf = true) (wf2 : (Lit.int IntKind.u8 z2).wf = true) (hc3 : bs3.length ≤ c3) (hr3 : BRd W b3 bs3) :
    Calls Tryd.prog 3 #[atV pa0 pc0 ca0 cc0 ra0 rc0 a0, .int .u8 z1, .int .u8 z2, .slice b3 bs3.length c3] W fun e W' => e = .returned (.bool true) ∧ Below W.heap.size W W' := by
  have b1 := bounds_u8 wf1
  have b2 := bounds_u8 wf2
  obtain ⟨ty, rfl⟩ := Int.eq_ofNat_of_zero_le (show 0 ≤ z1 by omega)
  obtain ⟨fl, rfl⟩ := Int.eq_ofNat_of_zero_le (show 0 ≤ z2 by omega)
  have KA := fun X (hb : Below W.heap.size W X) => answers_any X (hS.below hb)
  have KM := fun X (hb : Below W.heap.size W X) => smalla_any pa0 pc0 ca0 cc0 ra0 rc0 a0 X g0.path g0.segs g0.comms g0.raws g0.datas (h0.below hb)
  cases hs : smallA a0 with
  | false =>
    rw [hs] at KM
    exact aunk_big a0.origin pa0 _ pc0 a0.next a0.med a0.pref ca0 _ cc0 ra0 _ rc0 ty fl b3 _ c3 W KA KM
  | true =>
    rw [hs] at KM
    have hl := of_decide_eq_true hs
    have KR := fun X (hb : Below W.heap.size W X) => gooda_any pa0 pc0 ca0 cc0 ra0 rc0 a0 X (by omega) (h0.below hb)
    cases hg : goodA a0 with
    | false =>
      rw [hg] at KR
      exact aunk_bad a0.origin pa0 _ pc0 a0.next a0.med a0.pref ca0 _ cc0 ra0 _ rc0 ty fl b3 _ c3 W KA KM KR
    | true =>
      rw [hg] at KR
      by_cases h9 : ty < 9
      · exact aunk_low a0.origin pa0 _ pc0 a0.next a0.med a0.pref ca0 _ cc0 ra0 _ rc0 ty fl b3 _ c3 W (by omega) KA KM KR
      by_cases hd : 200 < bs3.length
      · exact aunk_long a0.origin pa0 _ pc0 a0.next a0.med a0.pref ca0 _ cc0 ra0 _ rc0 ty fl b3 _ c3 W (decide_eq_false (by omega)) (by omega) KA KM KR
      by_cases hr : 0 < a0.raws.length
      · exact aunk_raws a0.origin pa0 _ pc0 a0.next a0.med a0.pref ca0 _ cc0 ra0 _ rc0 ty fl b3 _ c3 W (decide_eq_false (by omega)) (decide_eq_false (by omega)) (by omega) KA KM KR
      have hrs : a0.raws = [] := List.length_eq_zero_iff.1 (by omega)
      have hF : Fine a0 := ⟨hg, h0.next, g0.nums⟩
      have hlt := encA_lt hF (raws_lt h0)
      have hln := encA_length hF (raws_lt h0) hl
      have KAT := fun X (hb : Below W.heap.size W X) => rattrs_any pa0 pc0 ca0 cc0 ra0 rc0 a0 X (by omega) (h0.below hb) g0.nums
      obtain ⟨_, c256, c16⟩ := clrU_bits fl (by omega)
      have hd255 : bs3.length ≤ 255 := by omega
      have hlen : ∀ n, n = ([clrU fl, ty, bs3.length] ++ bs3 ++ encA a0).length → n ≤ 10000 := fun n hn => by
        rw [hn, List.length_append, List.length_append]
        simp only [List.length_cons, List.length_nil]
        omega
      have hx256 : ∀ x ∈ [clrU fl, ty, bs3.length] ++ bs3, x < 256 := fun x hx => by
        rcases List.mem_append.1 hx with h | h
        · simp only [List.mem_cons, List.not_mem_nil, or_false] at h
          omega
        · exact hr3.2 x h
      -- the answer of Decode
      have dec : ∀ (b : At), readA ([clrU fl, ty, bs3.length] ++ bs3 ++ encA a0) = .inr b → b.next < 4294967296 → sizeA b ≤ 100000 → (∀ r ∈ b.raws, ∀ x ∈ r.2.2, x < 256) → ∀ X a9 n9 c9, Below W.heap.size W X → n9 = ([clrU fl, ty, bs3.length] ++ bs3 ++ encA a0).length → n9 ≤ c9 → BRd X a9 ([clrU fl, ty, bs3.length] ++ bs3 ++ encA a0) → Calls Tryd.prog 7 #[.slice a9 n9 c9] X fun e w' => ∃ cA cN, e = .returned (.tuple #[.agg cA, .agg cN]) ∧ cA.size = 7 ∧ cN.size = 3 ∧ cA.all (·.oneCell') = true ∧ cN.all (·.oneCell') = true ∧ (cN = #[.int .i64 0, .int .i64 0, .slice none 0 0] ∧ ∃ p1 j1 p5 j5 p6 j6, cA = #[.int .i64 b.origin, .slice p1 b.path.length j1, .int .u32 (b.next : Int), .int .i64 b.med, .int .i64 b.pref, .slice p5 b.comms.length j5, .slice p6 b.raws.length j6] ∧ ∀ Y : World, w'.heap.size ≤ Y.heap.size → (∀ k, X.heap.size ≤ k → k < w'.heap.size → Y.heap[k]? = w'.heap[k]?) → AtRd Y p1 p5 p6 b) ∧ Below X.heap.size X w' := fun b hrd hn1 hn2 hn3 X a9 n9 c9 hb hn hc h9 => by
        have hle := hlen n9 hn
        subst hn
        refine (decode_any a9 c9 _ X (hS.below hb) hle hc h9).mono fun e w' ⟨h1, h2⟩ => ?_
        rw [hrd] at h1
        obtain ⟨p1, k1, p5, k5, p6, k6, he, hp, hcm, hrw⟩ := h1
        exact ⟨_, _, he, rfl, rfl, by simp [Value.oneCell'], by simp [Value.oneCell'], ⟨rfl, p1, k1, p5, k5, p6, k6, rfl, fun Y _ hY => dec_rd hn1 hn2 hn3 (path_stands hp hY) (own_stands hcm hY) (raws_stands hrw hY)⟩, h2⟩
      by_cases h128 : clrU fl < 128
      · have hrd := read_refuse a0 (clrU fl) ty bs3 c16 h128 (by omega) hd255
        have KD : ∀ X a9 n9 c9, Below W.heap.size W X → n9 = ([clrU fl, ty, bs3.length] ++ bs3 ++ encA a0).length → n9 ≤ c9 → BRd X a9 ([clrU fl, ty, bs3.length] ++ bs3 ++ encA a0) → Calls Tryd.prog 7 #[.slice a9 n9 c9] X fun e w' => ∃ cA cN, e = .returned (.tuple #[.agg cA, .agg cN]) ∧ cA.size = 7 ∧ cN.size = 3 ∧ cA.all (·.oneCell') = true ∧ cN.all (·.oneCell') = true ∧ (∃ ab cb, cN = #[.int .i64 3, .int .i64 2, .slice ab (3 + bs3.length) cb] ∧ ∀ Y : World, w'.heap.size ≤ Y.heap.size → (∀ k, X.heap.size ≤ k → k < w'.heap.size → Y.heap[k]? = w'.heap[k]?) → BRd Y ab ([clrU fl, ty, bs3.length] ++ bs3)) ∧ Below X.heap.size X w' := fun X a9 n9 c9 hb hn hc h9 => by
          have hle := hlen n9 hn
          subst hn
          refine (decode_any a9 c9 _ X (hS.below hb) hle hc h9).mono fun e w' ⟨h1, h2⟩ => ?_
          rw [hrd] at h1
          obtain ⟨a8, c8, he, ho⟩ := h1
          have hxl : ([clrU fl, ty, bs3.length] ++ bs3).length = 3 + bs3.length := by rw [List.length_append]; rfl
          have hxl2 : ((3, 2, [clrU fl, ty, bs3.length] ++ bs3) : Nat × Nat × List Nat).2.2.length = 3 + bs3.length := hxl
          rw [hxl2] at he
          refine ⟨_, _, he, rfl, rfl, by simp [Value.oneCell'], by simp [Value.oneCell'], ⟨a8, c8, rfl, fun Y _ hY => ?_⟩, h2⟩
          obtain ⟨a7, c7, e7, _, hbr⟩ := own_brd (bs := [clrU fl, ty, bs3.length] ++ bs3) (own_stands ho hY) (by omega) hx256
          simp only [Value.slice.injEq, true_and] at e7
          obtain ⟨rfl, rfl⟩ := e7
          exact hbr
        obtain ⟨o, pp, nx, md, pf, cm, rs⟩ := a0
        simp only at hrs
        subst hrs
        exact aunk_ref o pa0 _ pc0 nx md pf ca0 _ cc0 ra0 rc0 ty fl b3 _ c3 bs3 _ _ W (by omega) (by omega) (by omega) rfl (by omega) hr3 rfl hln hlt (by omega) KA KM KR KAT KD
      · by_cases h64 : clrU fl / 64 % 2 = 1
        · have hrd := read_pass hF hrs (clrU fl) ty bs3 c16 h128 h64 (by omega) (by omega) hd255
          have hsz : sizeA (withR a0 ty bs3) ≤ 100000 := by
            unfold sizeA at hl ⊢
            unfold withR
            simp only [sumR, List.length_cons, List.length_nil]
            omega
          have KD := dec (withR a0 ty bs3) hrd h0.next hsz (fun r hr9 => by
            have : r = (224, (ty : Int), bs3) := by simpa [withR] using hr9
            subst this
            exact hr3.2)
          have KS : ∀ Y p1 j1 p5 j5 p6 j6 rq, Below W.heap.size W Y → RawRd Y rq [(224, (ty : Int), bs3)] → AtRd Y p1 p5 p6 (withR a0 ty bs3) → Calls Tryd.prog 10 #[atV pa0 pc0 ca0 cc0 rq 1 (withR a0 ty bs3), atV p1 j1 p5 j5 p6 j6 (withR a0 ty bs3)] Y fun e w' => e = .returned (.bool true) ∧ Below Y.heap.size Y w' := fun Y p1 j1 p5 j5 p6 j6 rq hb hrq h2 => by
            have h9 := samea_any pa0 p1 pc0 j1 ca0 p5 cc0 j5 rq p6 1 j6 (withR a0 ty bs3) (withR a0 ty bs3) Y hsz hsz ⟨(h0.below hb).path, (h0.below hb).comms, hrq, h0.next⟩ h2
            rw [eqA_refl] at h9
            exact h9
          obtain ⟨o, pp, nx, md, pf, cm, rs⟩ := a0
          simp only at hrs
          subst hrs
          exact aunk_pass o pa0 _ pc0 nx md pf ca0 _ cc0 ra0 rc0 ty fl b3 _ c3 bs3 _ _ _ W (by omega) (by omega) (by omega) rfl (by omega) hc3 hr3 rfl hln hlt (decide_eq_false (by omega)) (by omega) KA KM KR KAT KD KS
        · have hrd := read_leave hF hrs (clrU fl) ty bs3 c16 h128 h64 (by omega) hd255
          have KD := dec a0 hrd h0.next (by omega) (raws_lt h0)
          have KS : ∀ Y p1 j1 p5 j5 p6 j6, Below W.heap.size W Y → AtRd Y p1 p5 p6 a0 → Calls Tryd.prog 10 #[atV pa0 pc0 ca0 cc0 ra0 rc0 a0, atV p1 j1 p5 j5 p6 j6 a0] Y fun e w' => e = .returned (.bool true) ∧ Below Y.heap.size Y w' := fun Y p1 j1 p5 j5 p6 j6 hb h2 => by
            have h9 := samea_any pa0 p1 pc0 j1 ca0 p5 cc0 j5 ra0 p6 rc0 j6 a0 a0 Y (by omega) (by omega) (h0.below hb) h2
            rw [eqA_refl] at h9
            exact h9
          obtain ⟨o, pp, nx, md, pf, cm, rs⟩ := a0
          simp only at hrs
          subst hrs
          exact aunk_leave o pa0 _ pc0 nx md pf ca0 _ cc0 ra0 rc0 ty fl b3 _ c3 bs3 _ _ _ W (by omega) (by omega) (by omega) rfl (by omega) hr3 rfl hln hlt (decide_eq_false (by omega)) (beq_false_of_ne (by omega)) KA KM KR KAT KD KS
end Go.Proofs.YtempaadgheondabDoor
