/- AttrBack's walk. -/
import Derived.Test.YtcbdegggilnphaaDoorAtQ5
import Derived.Test.YtcbdegggilnphaaDoorAtSy
import Derived.Test.YtcbdegggilnphaaDoorAtSl
import Derived.Test.YtcbdegggilnphaaDoorAtEn
import Derived.Test.YtcbdegggilnphaaDoorAtGl
import Derived.Test.YtcbdegggilnphaaDoorAtFr
import Derived.Test.YtcbdegggilnphaaDoorAtQ6
import Derived.Deep.RegionHeld3
import Derived.Deep.DeepCutAuto
namespace Go.Proofs.YtcbdegggilnphaaDoor
open Go.RowKit
set_option maxRecDepth 100000

set_option maxHeartbeats 1600000 in
theorem aback_big (o1 : Int) (pa1 : Option Addr) (pn1 pc1 : Nat) (nx1 : Nat) (md1 pf1 : Int) (ca1 : Option Addr) (cn1 cc1 : Nat) (ra1 : Option Addr) (rn1 rc1 : Nat) (w : World)
    (KA : Hid (∀ W, Below w.heap.size w W → Calls Tryd.prog 10 #[] W fun e w' => e = .returned (.bool true) ∧ Below W.heap.size W w'))
    (KM : Hid (∀ W, Below w.heap.size w W → Calls Tryd.prog 9 #[.agg #[.int .i64 o1, .slice pa1 pn1 pc1, .int .u32 (nx1 : Int), .int .i64 md1, .int .i64 pf1, .slice ca1 cn1 cc1, .slice ra1 rn1 rc1]] W fun e w' => e = .returned (.bool false) ∧ Below W.heap.size W w')) :
    Calls Tryd.prog 3 #[.agg #[.int .i64 o1, .slice pa1 pn1 pc1, .int .u32 (nx1 : Int), .int .i64 md1, .int .i64 pf1, .slice ca1 cn1 cc1, .slice ra1 rn1 rc1]] w fun e w' => e = .returned (.bool true) ∧ Below w.heap.size w w' := by
  go_enter Tryd.func3, Tryd.ntmps3
  go_wp2_with fail
  have HBb : Hid (Below w.heap.size w (w.alloc (.cells #[.int .i64 o1, .slice pa1 pn1 pc1, .int .u32 (nx1 : Int), .int .i64 md1, .int .i64 pf1, .slice ca1 cn1 cc1, .slice ra1 rn1 rc1] 27))) := (Below.refl _ _).alloc (Nat.le_refl _) _
  refine (KM.out _ HBb.out).mono ?_
  rintro e w0 ⟨rfl, hb0⟩
  have HB0 : Hid (Below w.heap.size w w0) := HBb.out.trans (hb0.mono HBb.out.size)
  clear hb0 KM HBb
  go_wp2_with fail
  refine (KA.out w0 HB0.out).mono ?_
  rintro e w1 ⟨rfl, hb1⟩
  have HB1 : Hid (Below w.heap.size w w1) := HB0.out.trans (hb1.mono HB0.out.size)
  clear hb1
  go_wp2
  go_ret
  exact ⟨rfl, HB1.out⟩
set_option maxHeartbeats 3200000 in
theorem aback_bad (o1 : Int) (pa1 : Option Addr) (pn1 pc1 : Nat) (nx1 : Nat) (md1 pf1 : Int) (ca1 : Option Addr) (cn1 cc1 : Nat) (ra1 : Option Addr) (rn1 rc1 : Nat) (E : List Nat) (el : Nat) (w : World)
    (KA : Hid (∀ W, Below w.heap.size w W → Calls Tryd.prog 10 #[] W fun e w' => e = .returned (.bool true) ∧ Below W.heap.size W w'))
    (KM : Hid (∀ W, Below w.heap.size w W → Calls Tryd.prog 9 #[.agg #[.int .i64 o1, .slice pa1 pn1 pc1, .int .u32 (nx1 : Int), .int .i64 md1, .int .i64 pf1, .slice ca1 cn1 cc1, .slice ra1 rn1 rc1]] W fun e w' => e = .returned (.bool true) ∧ Below W.heap.size W w'))
    (KE : Hid (∀ W, Below w.heap.size w W → Calls Tryd.prog 11 #[.agg #[.int .i64 o1, .slice pa1 pn1 pc1, .int .u32 (nx1 : Int), .int .i64 md1, .int .i64 pf1, .slice ca1 cn1 cc1, .slice ra1 rn1 rc1]] W fun e w' => ∃ a1 c1, e = .returned (.slice a1 el c1) ∧ w'.ownsRow W.heap.size 5 1 (.slice a1 el c1) el (bcells E) ∧ Below W.heap.size W w'))
    (KG : Hid (∀ W, Below w.heap.size w W → Calls Tryd.prog 12 #[.agg #[.int .i64 o1, .slice pa1 pn1 pc1, .int .u32 (nx1 : Int), .int .i64 md1, .int .i64 pf1, .slice ca1 cn1 cc1, .slice ra1 rn1 rc1]] W fun e w' => e = .returned (.bool false) ∧ Below W.heap.size W w'))
    (KR : Hid (∀ W, Below w.heap.size w W → Calls Tryd.prog 13 #[.agg #[.int .i64 o1, .slice pa1 pn1 pc1, .int .u32 (nx1 : Int), .int .i64 md1, .int .i64 pf1, .slice ca1 cn1 cc1, .slice ra1 rn1 rc1]] W fun e w' => e = .returned (.bool false) ∧ Below W.heap.size W w'))
    (KAT : Hid (∀ W, Below w.heap.size w W → Calls Tryd.prog 15 #[.agg #[.int .i64 o1, .slice pa1 pn1 pc1, .int .u32 (nx1 : Int), .int .i64 md1, .int .i64 pf1, .slice ca1 cn1 cc1, .slice ra1 rn1 rc1]] W fun e w' => ∃ a1 c1, e = .returned (.slice a1 el c1) ∧ w'.ownsRow W.heap.size 5 1 (.slice a1 el c1) el (bcells E) ∧ Below W.heap.size W w'))
    (KSB : Hid (∀ W B2 v1 v2, W.ownsRow w.heap.size 5 1 v1 el (bcells E) → W.ownsRow B2 5 1 v2 el (bcells E) → Calls Tryd.prog 14 #[v1, v2] W fun e w' => e = .returned (.bool true) ∧ Below W.heap.size W w')) (hel : el = 0) :
    Calls Tryd.prog 3 #[.agg #[.int .i64 o1, .slice pa1 pn1 pc1, .int .u32 (nx1 : Int), .int .i64 md1, .int .i64 pf1, .slice ca1 cn1 cc1, .slice ra1 rn1 rc1]] w fun e w' => e = .returned (.bool true) ∧ Below w.heap.size w w' := by
  have hez : (el : Int) = 0 := by omega
  have hez2 : ((el : Int) == 0) = true := by rw [hez]; rfl
  clear hel
  go_enter Tryd.func3, Tryd.ntmps3
  go_wp2_with fail
  obtain ⟨wb, hwb⟩ : ∃ wb, wb = w.alloc (.cells #[.int .i64 o1, .slice pa1 pn1 pc1, .int .u32 (nx1 : Int), .int .i64 md1, .int .i64 pf1, .slice ca1 cn1 cc1, .slice ra1 rn1 rc1] 27) := ⟨_, rfl⟩
  have HBb : Hid (Below w.heap.size w wb) := by show Below _ _ _; rw [hwb]; exact (Below.refl _ _).alloc (Nat.le_refl _) _
  have hPb : w.heap.size < wb.heap.size := by rw [hwb]; simp
  have C1 : Hid (∀ X, Below wb.heap.size wb X → X.cell? ⟨w.heap.size, 0, none⟩ = some (.int .i64 o1) ∧ X.cell? ⟨w.heap.size, 1, none⟩ = some (.slice pa1 pn1 pc1) ∧ X.cell? ⟨w.heap.size, 2, none⟩ = some (.int .u32 (nx1 : Int)) ∧ X.cell? ⟨w.heap.size, 3, none⟩ = some (.int .i64 md1) ∧ X.cell? ⟨w.heap.size, 4, none⟩ = some (.int .i64 pf1) ∧ X.cell? ⟨w.heap.size, 5, none⟩ = some (.slice ca1 cn1 cc1) ∧ X.cell? ⟨w.heap.size, 6, none⟩ = some (.slice ra1 rn1 rc1)) := fun X hb => by
    have k : ∀ j, X.cell? ⟨w.heap.size, j, none⟩ = wb.cell? ⟨w.heap.size, j, none⟩ := fun j => hb.cell (p := ⟨w.heap.size, j, none⟩) hPb
    simp only [k]
    rw [hwb]
    refine ⟨?_, ?_, ?_, ?_, ?_, ?_, ?_⟩ <;> simp [go_sem]
  rw [← hwb]
  clear hwb
  refine (KM.out wb HBb.out).mono ?_
  rintro e w0 ⟨rfl, hb0⟩
  have HW0 := hide hb0
  have HB0 : Hid (Below w.heap.size w w0) := HBb.out.trans (hb0.mono HBb.out.size)
  obtain ⟨x0, x1, x2, x3, x4, x5, x6⟩ := C1.out w0 hb0
  clear hb0 KM
  go_wp2_with fail
  refine (KE.out w0 HB0.out).mono ?_
  rintro e w1 ⟨a1, c1, rfl, ho1, hb1⟩
  have HW1 : Hid (Below wb.heap.size wb w1) := HW0.out.trans (hb1.mono HW0.out.size)
  have HB1 : Hid (Below w.heap.size w w1) := HB0.out.trans (hb1.mono HB0.out.size)
  have HO1 : Hid (w1.drew.ownsRow w.heap.size 5 1 (.slice a1 el c1) el (bcells E)) := (own_base ho1 HB0.out.size).drew
  clear hb1 ho1 KE x0 x1 x2 x3 x4 x5 x6 HB0 HW0
  have HSd := hide (C1.out w1.drew HW1.out.drew)
  have HKG := hide (KG.out w1.drew HB1.out.drew)
  have HDW := hide HW1.out.drew
  have HDB := hide HB1.out.drew
  go_upto_region 4 with fail
  go_cut [23] (fun v wq => v = .bool false ∧ Hid (wq.ownsRow w.heap.size 5 1 (.slice a1 el c1) el (bcells E)) ∧ Hid (Below wb.heap.size wb wq) ∧ Hid (Below w.heap.size w wq))
  case first =>
    go_region_held3 (fun w' => w'.cell? ⟨w.heap.size, 0, none⟩ = some (.int .i64 o1) ∧ w'.cell? ⟨w.heap.size, 1, none⟩ = some (.slice pa1 pn1 pc1) ∧ w'.cell? ⟨w.heap.size, 2, none⟩ = some (.int .u32 (nx1 : Int)) ∧ w'.cell? ⟨w.heap.size, 3, none⟩ = some (.int .i64 md1) ∧ w'.cell? ⟨w.heap.size, 4, none⟩ = some (.int .i64 pf1) ∧ w'.cell? ⟨w.heap.size, 5, none⟩ = some (.slice ca1 cn1 cc1) ∧ w'.cell? ⟨w.heap.size, 6, none⟩ = some (.slice ra1 rn1 rc1))
      (with_reducible first | exact HSd.out | exact HS2.out | exact HS3.out | exact HS4.out | exact HS5.out | fail)
      (first
        | (go_at_call 12
           with_reducible refine HKG.out.mono ?_
           rintro e w2 ⟨rfl, hb2⟩
           have HW2 := hide (HDW.out.trans (hb2.mono HDW.out.size))
           have HB2 := hide (HDB.out.trans (hb2.mono HDB.out.size))
           have HO2 := hide (own_later HO1.out hb2)
           have HS2 := hide (C1.out w2 HW2.out)
           have HKR := hide (KR.out w2 HB2.out)
           clear hb2)
        | (go_at_call 13
           with_reducible refine HKR.out.mono ?_
           rintro e w3 ⟨rfl, hb3⟩
           have HW3 := hide (HW2.out.trans (hb3.mono HW2.out.size))
           have HB3 := hide (HB2.out.trans (hb3.mono HB2.out.size))
           have HO3 := hide (own_later HO2.out hb3)
           have HS3 := hide (C1.out w3 HW3.out)
           have HKA := hide (KAT.out w3 HB3.out)
           clear hb3)
        | (go_at_call 15
           with_reducible refine HKA.out.mono ?_
           rintro e w4 ⟨a4, c4, rfl, ho4, hb4⟩
           have HW4 := hide (HW3.out.trans (hb4.mono HW3.out.size))
           have HB4 := hide (HB3.out.trans (hb4.mono HB3.out.size))
           have HO4 := hide (own_later HO3.out hb4)
           have HS4 := hide (C1.out w4 HW4.out)
           have HKS := hide (KSB.out w4 _ _ _ HO4.out ho4)
           clear hb4 ho4)
        | (go_at_call 14
           with_reducible refine HKS.out.mono ?_
           rintro e w5 ⟨rfl, hb5⟩
           have HW5 := hide (HW4.out.trans (hb5.mono HW4.out.size))
           have HB5 := hide (HB4.out.trans (hb5.mono HB4.out.size))
           have HO5 := hide (own_later HO4.out hb5)
           have HS5 := hide (C1.out w5 HW5.out)
           clear hb5))
    all_goals go_wp2_with fail
    all_goals go_meet
    all_goals exact ⟨rfl, HO5, HW5, HB5⟩
  case rest =>
    obtain ⟨rfl, HO6, HW6, HB6⟩ := hcut
    clear HSd HKG HDW HDB HO1 HW1 HB1 KG KAT KSB
    obtain ⟨w6, hw6⟩ : ∃ w6 : World, w6 = wc := ⟨wc, rfl⟩
    subst hw6
    obtain ⟨x0, x1, x2, x3, x4, x5, x6⟩ := C1.out w6 HW6.out
    go_wp2_with fail
    refine (KR.out w6 HB6.out).mono ?_
    rintro e w7 ⟨rfl, hb7⟩
    have HW7 := hide (HW6.out.trans (hb7.mono HW6.out.size))
    have HB7 := hide (HB6.out.trans (hb7.mono HB6.out.size))
    have HO7 := hide (own_later HO6.out hb7)
    clear hb7 HO6 HW6 HB6 KR x0 x1 x2 x3 x4 x5 x6
    go_wp2_with fail
    refine (KA.out w7 HB7.out).mono ?_
    rintro e w8 ⟨rfl, hb8⟩
    have HB8 := hide (HB7.out.trans (hb8.mono HB7.out.size))
    clear hb8
    go_wp2
    go_ret
    exact ⟨rfl, HB8.out⟩
set_option maxHeartbeats 3200000 in
theorem aback_good (o1 : Int) (pa1 : Option Addr) (pn1 pc1 : Nat) (nx1 : Nat) (md1 pf1 : Int) (ca1 : Option Addr) (cn1 cc1 : Nat) (ra1 : Option Addr) (rn1 rc1 : Nat) (E : List Nat) (el : Nat) (w : World)
    (KA : Hid (∀ W, Below w.heap.size w W → Calls Tryd.prog 10 #[] W fun e w' => e = .returned (.bool true) ∧ Below W.heap.size W w'))
    (KM : Hid (∀ W, Below w.heap.size w W → Calls Tryd.prog 9 #[.agg #[.int .i64 o1, .slice pa1 pn1 pc1, .int .u32 (nx1 : Int), .int .i64 md1, .int .i64 pf1, .slice ca1 cn1 cc1, .slice ra1 rn1 rc1]] W fun e w' => e = .returned (.bool true) ∧ Below W.heap.size W w'))
    (KE : Hid (∀ W, Below w.heap.size w W → Calls Tryd.prog 11 #[.agg #[.int .i64 o1, .slice pa1 pn1 pc1, .int .u32 (nx1 : Int), .int .i64 md1, .int .i64 pf1, .slice ca1 cn1 cc1, .slice ra1 rn1 rc1]] W fun e w' => ∃ a1 c1, e = .returned (.slice a1 el c1) ∧ w'.ownsRow W.heap.size 5 1 (.slice a1 el c1) el (bcells E) ∧ Below W.heap.size W w'))
    (KG : Hid (∀ W, Below w.heap.size w W → Calls Tryd.prog 12 #[.agg #[.int .i64 o1, .slice pa1 pn1 pc1, .int .u32 (nx1 : Int), .int .i64 md1, .int .i64 pf1, .slice ca1 cn1 cc1, .slice ra1 rn1 rc1]] W fun e w' => e = .returned (.bool true) ∧ Below W.heap.size W w'))
    (KR : Hid (∀ W, Below w.heap.size w W → Calls Tryd.prog 13 #[.agg #[.int .i64 o1, .slice pa1 pn1 pc1, .int .u32 (nx1 : Int), .int .i64 md1, .int .i64 pf1, .slice ca1 cn1 cc1, .slice ra1 rn1 rc1]] W fun e w' => e = .returned (.bool true) ∧ Below W.heap.size W w'))
    (KAT : Hid (∀ W, Below w.heap.size w W → Calls Tryd.prog 15 #[.agg #[.int .i64 o1, .slice pa1 pn1 pc1, .int .u32 (nx1 : Int), .int .i64 md1, .int .i64 pf1, .slice ca1 cn1 cc1, .slice ra1 rn1 rc1]] W fun e w' => ∃ a1 c1, e = .returned (.slice a1 el c1) ∧ w'.ownsRow W.heap.size 5 1 (.slice a1 el c1) el (bcells E) ∧ Below W.heap.size W w'))
    (KSB : Hid (∀ W B2 v1 v2, W.ownsRow w.heap.size 5 1 v1 el (bcells E) → W.ownsRow B2 5 1 v2 el (bcells E) → Calls Tryd.prog 14 #[v1, v2] W fun e w' => e = .returned (.bool true) ∧ Below W.heap.size W w'))
    (KD : Hid (∀ W a1 c1, Below w.heap.size w W → W.ownsRow w.heap.size 5 1 (.slice a1 el c1) el (bcells E) → Calls Tryd.prog 16 #[.slice a1 el c1] W fun e w' => ∃ p1 k1 p5 k5 p6 k6, e = .returned (.tuple #[.agg #[.int .i64 o1, .slice p1 pn1 k1, .int .u32 (nx1 : Int), .int .i64 md1, .int .i64 pf1, .slice p5 cn1 k5, .slice p6 rn1 k6], .agg #[.int .i64 0, .int .i64 0, .slice none 0 0]]) ∧ Below W.heap.size W w' ∧ ∀ X, Below w'.heap.size w' X → Calls Tryd.prog 17 #[.agg #[.int .i64 o1, .slice pa1 pn1 pc1, .int .u32 (nx1 : Int), .int .i64 md1, .int .i64 pf1, .slice ca1 cn1 cc1, .slice ra1 rn1 rc1], .agg #[.int .i64 o1, .slice p1 pn1 k1, .int .u32 (nx1 : Int), .int .i64 md1, .int .i64 pf1, .slice p5 cn1 k5, .slice p6 rn1 k6]] X fun e w' => e = .returned (.bool true) ∧ Below X.heap.size X w')) :
    Calls Tryd.prog 3 #[.agg #[.int .i64 o1, .slice pa1 pn1 pc1, .int .u32 (nx1 : Int), .int .i64 md1, .int .i64 pf1, .slice ca1 cn1 cc1, .slice ra1 rn1 rc1]] w fun e w' => e = .returned (.bool true) ∧ Below w.heap.size w w' := by
  go_enter Tryd.func3, Tryd.ntmps3
  go_wp2_with fail
  obtain ⟨wb, hwb⟩ : ∃ wb, wb = w.alloc (.cells #[.int .i64 o1, .slice pa1 pn1 pc1, .int .u32 (nx1 : Int), .int .i64 md1, .int .i64 pf1, .slice ca1 cn1 cc1, .slice ra1 rn1 rc1] 27) := ⟨_, rfl⟩
  have HBb : Hid (Below w.heap.size w wb) := by show Below _ _ _; rw [hwb]; exact (Below.refl _ _).alloc (Nat.le_refl _) _
  have hPb : w.heap.size < wb.heap.size := by rw [hwb]; simp
  have C1 : Hid (∀ X, Below wb.heap.size wb X → X.cell? ⟨w.heap.size, 0, none⟩ = some (.int .i64 o1) ∧ X.cell? ⟨w.heap.size, 1, none⟩ = some (.slice pa1 pn1 pc1) ∧ X.cell? ⟨w.heap.size, 2, none⟩ = some (.int .u32 (nx1 : Int)) ∧ X.cell? ⟨w.heap.size, 3, none⟩ = some (.int .i64 md1) ∧ X.cell? ⟨w.heap.size, 4, none⟩ = some (.int .i64 pf1) ∧ X.cell? ⟨w.heap.size, 5, none⟩ = some (.slice ca1 cn1 cc1) ∧ X.cell? ⟨w.heap.size, 6, none⟩ = some (.slice ra1 rn1 rc1)) := fun X hb => by
    have k : ∀ j, X.cell? ⟨w.heap.size, j, none⟩ = wb.cell? ⟨w.heap.size, j, none⟩ := fun j => hb.cell (p := ⟨w.heap.size, j, none⟩) hPb
    simp only [k]
    rw [hwb]
    refine ⟨?_, ?_, ?_, ?_, ?_, ?_, ?_⟩ <;> simp [go_sem]
  rw [← hwb]
  clear hwb
  refine (KM.out wb HBb.out).mono ?_
  rintro e w0 ⟨rfl, hb0⟩
  have HW0 := hide hb0
  have HB0 : Hid (Below w.heap.size w w0) := HBb.out.trans (hb0.mono HBb.out.size)
  obtain ⟨x0, x1, x2, x3, x4, x5, x6⟩ := C1.out w0 hb0
  clear hb0 KM
  go_wp2_with fail
  refine (KE.out w0 HB0.out).mono ?_
  rintro e w1 ⟨a1, c1, rfl, ho1, hb1⟩
  have HW1 : Hid (Below wb.heap.size wb w1) := HW0.out.trans (hb1.mono HW0.out.size)
  have HB1 : Hid (Below w.heap.size w w1) := HB0.out.trans (hb1.mono HB0.out.size)
  have HO1 : Hid (w1.drew.ownsRow w.heap.size 5 1 (.slice a1 el c1) el (bcells E)) := (own_base ho1 HB0.out.size).drew
  clear hb1 ho1 KE x0 x1 x2 x3 x4 x5 x6 HB0 HW0
  have HSd := hide (C1.out w1.drew HW1.out.drew)
  have HKG := hide (KG.out w1.drew HB1.out.drew)
  have HDW := hide HW1.out.drew
  have HDB := hide HB1.out.drew
  go_upto_region 4 with fail
  go_cut [23] (fun v wq => v = .bool false ∧ Hid (wq.ownsRow w.heap.size 5 1 (.slice a1 el c1) el (bcells E)) ∧ Hid (Below wb.heap.size wb wq) ∧ Hid (Below w.heap.size w wq))
  case first =>
    go_region_held3 (fun w' => w'.cell? ⟨w.heap.size, 0, none⟩ = some (.int .i64 o1) ∧ w'.cell? ⟨w.heap.size, 1, none⟩ = some (.slice pa1 pn1 pc1) ∧ w'.cell? ⟨w.heap.size, 2, none⟩ = some (.int .u32 (nx1 : Int)) ∧ w'.cell? ⟨w.heap.size, 3, none⟩ = some (.int .i64 md1) ∧ w'.cell? ⟨w.heap.size, 4, none⟩ = some (.int .i64 pf1) ∧ w'.cell? ⟨w.heap.size, 5, none⟩ = some (.slice ca1 cn1 cc1) ∧ w'.cell? ⟨w.heap.size, 6, none⟩ = some (.slice ra1 rn1 rc1))
      (with_reducible first | exact HSd.out | exact HS2.out | exact HS3.out | exact HS4.out | exact HS5.out | fail)
      (first
        | (go_at_call 12
           with_reducible refine HKG.out.mono ?_
           rintro e w2 ⟨rfl, hb2⟩
           have HW2 := hide (HDW.out.trans (hb2.mono HDW.out.size))
           have HB2 := hide (HDB.out.trans (hb2.mono HDB.out.size))
           have HO2 := hide (own_later HO1.out hb2)
           have HS2 := hide (C1.out w2 HW2.out)
           have HKR := hide (KR.out w2 HB2.out)
           clear hb2)
        | (go_at_call 13
           with_reducible refine HKR.out.mono ?_
           rintro e w3 ⟨rfl, hb3⟩
           have HW3 := hide (HW2.out.trans (hb3.mono HW2.out.size))
           have HB3 := hide (HB2.out.trans (hb3.mono HB2.out.size))
           have HO3 := hide (own_later HO2.out hb3)
           have HS3 := hide (C1.out w3 HW3.out)
           have HKA := hide (KAT.out w3 HB3.out)
           clear hb3)
        | (go_at_call 15
           with_reducible refine HKA.out.mono ?_
           rintro e w4 ⟨a4, c4, rfl, ho4, hb4⟩
           have HW4 := hide (HW3.out.trans (hb4.mono HW3.out.size))
           have HB4 := hide (HB3.out.trans (hb4.mono HB3.out.size))
           have HO4 := hide (own_later HO3.out hb4)
           have HS4 := hide (C1.out w4 HW4.out)
           have HKS := hide (KSB.out w4 _ _ _ HO4.out ho4)
           clear hb4 ho4)
        | (go_at_call 14
           with_reducible refine HKS.out.mono ?_
           rintro e w5 ⟨rfl, hb5⟩
           have HW5 := hide (HW4.out.trans (hb5.mono HW4.out.size))
           have HB5 := hide (HB4.out.trans (hb5.mono HB4.out.size))
           have HO5 := hide (own_later HO4.out hb5)
           have HS5 := hide (C1.out w5 HW5.out)
           clear hb5))
    all_goals go_wp2_with fail
    all_goals go_meet
    all_goals exact ⟨rfl, HO5, HW5, HB5⟩
  case rest =>
    obtain ⟨rfl, HO6, HW6, HB6⟩ := hcut
    clear HSd HKG HDW HDB HO1 HW1 HB1 KG KAT KSB
    obtain ⟨w6, hw6⟩ : ∃ w6 : World, w6 = wc := ⟨wc, rfl⟩
    subst hw6
    obtain ⟨x0, x1, x2, x3, x4, x5, x6⟩ := C1.out w6 HW6.out
    go_wp2_with fail
    refine (KR.out w6 HB6.out).mono ?_
    rintro e w7 ⟨rfl, hb7⟩
    have HW7 := hide (HW6.out.trans (hb7.mono HW6.out.size))
    have HB7 := hide (HB6.out.trans (hb7.mono HB6.out.size))
    have HO7 := hide (own_later HO6.out hb7)
    clear hb7 HO6 HW6 HB6 KR x0 x1 x2 x3 x4 x5 x6
    go_wp2_with fail
    refine (KD.out w7 a1 c1 HB7.out HO7.out).mono ?_
    rintro e w8 ⟨p1, k1, p5, k5, p6, k6, rfl, hb8, hsm⟩
    have HW8 := hide (HW7.out.trans (hb8.mono HW7.out.size))
    have HB8 := hide (HB7.out.trans (hb8.mono HB7.out.size))
    have HSM := hide hsm
    clear hb8 hsm KD HO7 HW7 HB7
    go_wp2_with fail
    obtain ⟨wy, hwy⟩ : ∃ wy, wy = (w8.alloc (.cells #[.int .i64 o1, .slice p1 pn1 k1, .int .u32 (nx1 : Int), .int .i64 md1, .int .i64 pf1, .slice p5 cn1 k5, .slice p6 rn1 k6] 27)).alloc (.cells #[.int .i64 0, .int .i64 0, .slice none 0 0] 34) := ⟨_, rfl⟩
    have hPy : w8.heap.size + 1 < wy.heap.size := by rw [hwy]; simp
    have HBy : Hid (Below w8.heap.size w8 wy) := by show Below _ _ _; rw [hwy]; exact ((Below.refl _ _).alloc (Nat.le_refl _) _).alloc (by simp) _
    have CY : Hid (∀ X, Below wy.heap.size wy X → X.cell? ⟨w8.heap.size + 1, 0, none⟩ = some (.int .i64 0) ∧ X.cell? ⟨w8.heap.size, 0, none⟩ = some (.int .i64 o1) ∧ X.cell? ⟨w8.heap.size, 1, none⟩ = some (.slice p1 pn1 k1) ∧ X.cell? ⟨w8.heap.size, 2, none⟩ = some (.int .u32 (nx1 : Int)) ∧ X.cell? ⟨w8.heap.size, 3, none⟩ = some (.int .i64 md1) ∧ X.cell? ⟨w8.heap.size, 4, none⟩ = some (.int .i64 pf1) ∧ X.cell? ⟨w8.heap.size, 5, none⟩ = some (.slice p5 cn1 k5) ∧ X.cell? ⟨w8.heap.size, 6, none⟩ = some (.slice p6 rn1 k6)) := fun X hb => by
      have k : ∀ j, X.cell? ⟨w8.heap.size, j, none⟩ = wy.cell? ⟨w8.heap.size, j, none⟩ := fun j => hb.cell (p := ⟨w8.heap.size, j, none⟩) (by simp only; omega)
      have k9 : X.cell? ⟨w8.heap.size + 1, 0, none⟩ = wy.cell? ⟨w8.heap.size + 1, 0, none⟩ := hb.cell (p := ⟨w8.heap.size + 1, 0, none⟩) hPy
      simp only [k, k9]
      rw [hwy]
      refine ⟨?_, ?_, ?_, ?_, ?_, ?_, ?_, ?_⟩ <;> simp [go_sem]
    rw [← hwy]
    clear hwy
    have HBY := hide (HB8.out.trans (HBy.out.mono HB8.out.size))
    have HWY := hide (HW8.out.trans (HBy.out.mono HW8.out.size))
    refine (KA.out wy HBY.out).mono ?_
    rintro e w9 ⟨rfl, hb9⟩
    obtain ⟨n0, y0, y1, y2, y3, y4, y5, y6⟩ := CY.out w9 hb9
    obtain ⟨x0, x1, x2, x3, x4, x5, x6⟩ := C1.out w9 (HWY.out.trans (hb9.mono HWY.out.size))
    have HB9 := hide (HBY.out.trans (hb9.mono HBY.out.size))
    have HK9 := hide (HSM.out w9 (HBy.out.trans (hb9.mono HBy.out.size)))
    clear hb9 HSM CY C1 HBY HWY HBy
    go_wp2_with fail
    refine HK9.out.mono ?_
    rintro e w10 ⟨rfl, hb10⟩
    have HB10 := hide (HB9.out.trans (hb10.mono HB9.out.size))
    clear hb10
    go_wp2
    go_ret
    exact ⟨rfl, HB10.out⟩
theorem attrBack_walk (pa0 : Option Addr) (pc0 : Nat) (ca0 : Option Addr) (cc0 : Nat) (ra0 : Option Addr) (rc0 : Nat) (a0 : At) (W : World) (hS : Said W) (g0 : BigA a0) (h0 : AtRd W pa0 ca0 ra0 a0) :
    Calls Tryd.prog 3 #[atV pa0 pc0 ca0 cc0 ra0 rc0 a0] W fun e W' => e = .returned (.bool true) ∧ Below W.heap.size W W' := by
  have KA := fun X (hb : Below W.heap.size W X) => answers_any X (hS.below hb)
  have KM := fun X (hb : Below W.heap.size W X) => smalla_any pa0 pc0 ca0 cc0 ra0 rc0 a0 X g0.path g0.segs g0.comms g0.raws g0.datas (h0.below hb)
  cases hs : smallA a0 with
  | false =>
    rw [hs] at KM
    exact aback_big a0.origin pa0 _ pc0 a0.next a0.med a0.pref ca0 _ cc0 ra0 _ rc0 W KA KM
  | true =>
    rw [hs] at KM
    have hl := of_decide_eq_true hs
    have own : ∀ (f : FuncId) (X : World), (Calls Tryd.prog f #[atV pa0 pc0 ca0 cc0 ra0 rc0 a0] X fun e w' => ∃ v, e = .returned v ∧ w'.ownsRow X.heap.size 5 1 v (encA a0).length (bcells (encA a0)) ∧ Below X.heap.size X w') → Calls Tryd.prog f #[atV pa0 pc0 ca0 cc0 ra0 rc0 a0] X fun e w' => ∃ a1 c1, e = .returned (.slice a1 (encA a0).length c1) ∧ w'.ownsRow X.heap.size 5 1 (.slice a1 (encA a0).length c1) (encA a0).length (bcells (encA a0)) ∧ Below X.heap.size X w' := fun f X h => h.mono fun e w' h9 => by
      obtain ⟨v, he, ho, hb⟩ := h9
      obtain ⟨a1, c1, rfl⟩ := own_shape ho
      exact ⟨a1, c1, he, ho, hb⟩
    have KE := fun X (hb : Below W.heap.size W X) => own _ X (penca_any pa0 pc0 ca0 cc0 ra0 rc0 a0 X (hS.below hb) (by omega) (h0.below hb) g0.nums)
    have KAT := fun X (hb : Below W.heap.size W X) => own _ X (rattrs_any pa0 pc0 ca0 cc0 ra0 rc0 a0 X (by omega) (h0.below hb) g0.nums)
    have KG := fun X (hb : Below W.heap.size W X) => pgood_any pa0 pc0 ca0 cc0 ra0 rc0 a0 X (hS.below hb) (by omega) (h0.below hb)
    have KR := fun X (hb : Below W.heap.size W X) => gooda_any pa0 pc0 ca0 cc0 ra0 rc0 a0 X (by omega) (h0.below hb)
    have hel : (encA a0).length ≤ 10000 := by
      cases hg : goodA a0 with
      | false => unfold encA; rw [hg]; simp
      | true => exact encA_length ⟨hg, h0.next, g0.nums⟩ (raws_lt h0) hl
    have KSB := fun X B2 v1 v2 (h1 : World.ownsRow X W.heap.size 5 1 v1 (encA a0).length (bcells (encA a0))) (h2 : World.ownsRow X B2 5 1 v2 (encA a0).length (bcells (encA a0))) => (sameb_any h1 h2 (by omega)).mono fun e w' h9 => (⟨h9.1, by obtain ⟨_, m, hm⟩ := h9; rw [hm]; exact below_drewN (Below.refl _ _) m⟩ : e = .returned (.bool true) ∧ Below X.heap.size X w')
    cases hg : goodA a0 with
    | false =>
      rw [hg] at KG KR
      exact aback_bad a0.origin pa0 _ pc0 a0.next a0.med a0.pref ca0 _ cc0 ra0 _ rc0 _ _ W KA KM KE KG KR KAT KSB (by unfold encA; rw [hg]; rfl)
    | true =>
      have hF : Fine a0 := ⟨hg, h0.next, g0.nums⟩
      rw [hg] at KG KR
      refine aback_good a0.origin pa0 _ pc0 a0.next a0.med a0.pref ca0 _ cc0 ra0 _ rc0 _ _ W KA KM KE KG KR KAT KSB (fun X a1 c1 hb ho => ?_)
      obtain ⟨a2, c2, e2, hc2, hrd⟩ := own_brd ho (by omega) (encA_lt hF (raws_lt h0))
      simp only [Value.slice.injEq, true_and] at e2
      obtain ⟨rfl, rfl⟩ := e2
      have hd := decode_any a1 c1 (encA a0) X (hS.below hb) (by omega) hc2 hrd
      rw [read_back hF] at hd
      refine hd.mono ?_
      rintro e w' ⟨⟨p1, k1, p5, k5, p6, k6, rfl, hp, hcm, hrw⟩, hb9⟩
      refine ⟨p1, k1, p5, k5, p6, k6, rfl, hb9, fun Y hY => ?_⟩
      have hrd2 : AtRd w' p1 p5 p6 a0 := dec_rd h0.next (by omega) (raws_lt h0) hp hcm hrw
      have h9 := samea_any pa0 p1 pc0 k1 ca0 p5 cc0 k5 ra0 p6 rc0 k6 a0 a0 Y (by omega) (by omega) (h0.below (hb.trans ((hb9.trans (hY.mono hb9.size)).mono hb.size))) (hrd2.below hY)
      rw [eqA_refl] at h9
      exact h9
end Go.Proofs.YtcbdegggilnphaaDoor
