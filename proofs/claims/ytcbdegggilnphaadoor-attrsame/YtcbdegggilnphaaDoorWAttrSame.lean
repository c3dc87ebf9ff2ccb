/- AttrSame's walk. -/
import Derived.Test.YtcbdegggilnphaaDoorAtQ5
import Derived.Test.YtcbdegggilnphaaDoorAtSy
import Derived.Test.YtcbdegggilnphaaDoorAtSl
import Derived.Test.YtcbdegggilnphaaDoorLater
import Derived.Test.YtcbdegggilnphaaDoorAtFr
namespace Go.Proofs.YtcbdegggilnphaaDoor
open Go.RowKit
set_option maxRecDepth 100000

set_option maxHeartbeats 3200000 in
theorem asame_at (o1 : Int) (pa1 : Option Addr) (pn1 pc1 : Nat) (nx1 : Nat) (md1 pf1 : Int) (ca1 : Option Addr) (cn1 cc1 : Nat) (ra1 : Option Addr) (rn1 rc1 : Nat) (o2 : Int) (pa2 : Option Addr) (pn2 pc2 : Nat) (nx2 : Nat) (md2 pf2 : Int) (ca2 : Option Addr) (cn2 cc2 : Nat) (ra2 : Option Addr) (rn2 rc2 : Nat) (s1 s2 g : Bool) (w : World)
    (KA : Hid (∀ W, Below w.heap.size w W → Calls Tryd.prog 10 #[] W fun e w' => e = .returned (.bool true) ∧ Below W.heap.size W w'))
    (KM1 : Hid (∀ W, Below w.heap.size w W → Calls Tryd.prog 9 #[.agg #[.int .i64 o1, .slice pa1 pn1 pc1, .int .u32 (nx1 : Int), .int .i64 md1, .int .i64 pf1, .slice ca1 cn1 cc1, .slice ra1 rn1 rc1]] W fun e w' => e = .returned (.bool s1) ∧ Below W.heap.size W w'))
    (KM2 : Hid (∀ W, Below w.heap.size w W → Calls Tryd.prog 9 #[.agg #[.int .i64 o2, .slice pa2 pn2 pc2, .int .u32 (nx2 : Int), .int .i64 md2, .int .i64 pf2, .slice ca2 cn2 cc2, .slice ra2 rn2 rc2]] W fun e w' => e = .returned (.bool s2) ∧ Below W.heap.size W w'))
    (KS : Hid (s1 = true → s2 = true → (∀ W, Below w.heap.size w W → Calls Tryd.prog 20 #[.agg #[.int .i64 o1, .slice pa1 pn1 pc1, .int .u32 (nx1 : Int), .int .i64 md1, .int .i64 pf1, .slice ca1 cn1 cc1, .slice ra1 rn1 rc1], .agg #[.int .i64 o2, .slice pa2 pn2 pc2, .int .u32 (nx2 : Int), .int .i64 md2, .int .i64 pf2, .slice ca2 cn2 cc2, .slice ra2 rn2 rc2]] W fun e w' => e = .returned (.bool g) ∧ Below W.heap.size W w') ∧ (∀ W, Below w.heap.size w W → Calls Tryd.prog 17 #[.agg #[.int .i64 o1, .slice pa1 pn1 pc1, .int .u32 (nx1 : Int), .int .i64 md1, .int .i64 pf1, .slice ca1 cn1 cc1, .slice ra1 rn1 rc1], .agg #[.int .i64 o2, .slice pa2 pn2 pc2, .int .u32 (nx2 : Int), .int .i64 md2, .int .i64 pf2, .slice ca2 cn2 cc2, .slice ra2 rn2 rc2]] W fun e w' => e = .returned (.bool g) ∧ Below W.heap.size W w') ∧ ∀ W, Below w.heap.size w W → Calls Tryd.prog 20 #[.agg #[.int .i64 o1, .slice pa1 pn1 pc1, .int .u32 (nx1 : Int), .int .i64 md1, .int .i64 pf1, .slice ca1 cn1 cc1, .slice ra1 rn1 rc1], .agg #[.int .i64 o1, .slice pa1 pn1 pc1, .int .u32 (nx1 : Int), .int .i64 md1, .int .i64 pf1, .slice ca1 cn1 cc1, .slice ra1 rn1 rc1]] W fun e w' => e = .returned (.bool true) ∧ Below W.heap.size W w')) :
    Calls Tryd.prog 5 #[.agg #[.int .i64 o1, .slice pa1 pn1 pc1, .int .u32 (nx1 : Int), .int .i64 md1, .int .i64 pf1, .slice ca1 cn1 cc1, .slice ra1 rn1 rc1], .agg #[.int .i64 o2, .slice pa2 pn2 pc2, .int .u32 (nx2 : Int), .int .i64 md2, .int .i64 pf2, .slice ca2 cn2 cc2, .slice ra2 rn2 rc2]] w fun e w' => e = .returned (.bool true) ∧ Below w.heap.size w w' := by
  go_enter Tryd.func5, Tryd.ntmps5
  go_wp2_with fail
  obtain ⟨wb, hwb⟩ : ∃ wb, wb = (w.alloc (.cells #[.int .i64 o1, .slice pa1 pn1 pc1, .int .u32 (nx1 : Int), .int .i64 md1, .int .i64 pf1, .slice ca1 cn1 cc1, .slice ra1 rn1 rc1] 27)).alloc (.cells #[.int .i64 o2, .slice pa2 pn2 pc2, .int .u32 (nx2 : Int), .int .i64 md2, .int .i64 pf2, .slice ca2 cn2 cc2, .slice ra2 rn2 rc2] 27) := ⟨_, rfl⟩
  have HBb : Hid (Below w.heap.size w wb) := by show Below _ _ _; rw [hwb]; exact ((Below.refl _ _).alloc (Nat.le_refl _) _).alloc (by simp) _
  have hPb : w.heap.size + 1 < wb.heap.size := by rw [hwb]; simp
  have C1 : Hid (∀ X, Below wb.heap.size wb X → X.cell? ⟨w.heap.size, 0, none⟩ = some (.int .i64 o1) ∧ X.cell? ⟨w.heap.size, 1, none⟩ = some (.slice pa1 pn1 pc1) ∧ X.cell? ⟨w.heap.size, 2, none⟩ = some (.int .u32 (nx1 : Int)) ∧ X.cell? ⟨w.heap.size, 3, none⟩ = some (.int .i64 md1) ∧ X.cell? ⟨w.heap.size, 4, none⟩ = some (.int .i64 pf1) ∧ X.cell? ⟨w.heap.size, 5, none⟩ = some (.slice ca1 cn1 cc1) ∧ X.cell? ⟨w.heap.size, 6, none⟩ = some (.slice ra1 rn1 rc1)) := fun X hb => by
    have k : ∀ j, X.cell? ⟨w.heap.size, j, none⟩ = wb.cell? ⟨w.heap.size, j, none⟩ := fun j => hb.cell (p := ⟨w.heap.size, j, none⟩) (by simp only; omega)
    simp only [k]
    rw [hwb]
    refine ⟨?_, ?_, ?_, ?_, ?_, ?_, ?_⟩ <;> simp [go_sem]
  have C2 : Hid (∀ X, Below wb.heap.size wb X → X.cell? ⟨w.heap.size + 1, 0, none⟩ = some (.int .i64 o2) ∧ X.cell? ⟨w.heap.size + 1, 1, none⟩ = some (.slice pa2 pn2 pc2) ∧ X.cell? ⟨w.heap.size + 1, 2, none⟩ = some (.int .u32 (nx2 : Int)) ∧ X.cell? ⟨w.heap.size + 1, 3, none⟩ = some (.int .i64 md2) ∧ X.cell? ⟨w.heap.size + 1, 4, none⟩ = some (.int .i64 pf2) ∧ X.cell? ⟨w.heap.size + 1, 5, none⟩ = some (.slice ca2 cn2 cc2) ∧ X.cell? ⟨w.heap.size + 1, 6, none⟩ = some (.slice ra2 rn2 rc2)) := fun X hb => by
    have k : ∀ j, X.cell? ⟨w.heap.size + 1, j, none⟩ = wb.cell? ⟨w.heap.size + 1, j, none⟩ := fun j => hb.cell (p := ⟨w.heap.size + 1, j, none⟩) (by simp only; omega)
    simp only [k]
    rw [hwb]
    refine ⟨?_, ?_, ?_, ?_, ?_, ?_, ?_⟩ <;> simp [go_sem]
  rw [← hwb]
  clear hwb
  refine (KM1.out wb HBb.out).mono ?_
  rintro e w1 ⟨rfl, hb1⟩
  have HW1 := hide hb1
  have HB1 : Hid (Below w.heap.size w w1) := HBb.out.trans (hb1.mono HBb.out.size)
  obtain ⟨y0, y1, y2, y3, y4, y5, y6⟩ := C2.out w1 hb1
  clear hb1 KM1
  cases s1 with
  | false =>
    go_wp2_with fail
    refine (KA.out w1 HB1.out).mono ?_
    rintro e w2 ⟨rfl, hb2⟩
    have HB2 : Hid (Below w.heap.size w w2) := HB1.out.trans (hb2.mono HB1.out.size)
    clear hb2
    go_wp2
    go_ret
    exact ⟨rfl, HB2.out⟩
  | true =>
    go_wp2_with fail
    refine (KM2.out w1 HB1.out).mono ?_
    rintro e w2 ⟨rfl, hb2⟩
    have HW2 : Hid (Below wb.heap.size wb w2) := HW1.out.trans (hb2.mono HW1.out.size)
    have HB2 : Hid (Below w.heap.size w w2) := HB1.out.trans (hb2.mono HB1.out.size)
    clear hb2 KM2 y0 y1 y2 y3 y4 y5 y6
    cases s2 with
    | false =>
      go_wp2_with fail
      refine (KA.out w2 HB2.out).mono ?_
      rintro e w3 ⟨rfl, hb3⟩
      have HB3 : Hid (Below w.heap.size w w3) := HB2.out.trans (hb3.mono HB2.out.size)
      clear hb3
      go_wp2
      go_ret
      exact ⟨rfl, HB3.out⟩
    | true =>
      obtain ⟨k1, k2, k3⟩ := KS.out (by trivial) (by trivial)
      have lat : ∀ x : Later w2, Below w.heap.size w x.w := fun x => HB2.out.trans (x.h.mono HB2.out.size)
      have latb : ∀ x : Later w2, Below wb.heap.size wb x.w := fun x => HW2.out.trans (x.h.mono HW2.out.size)
      have HK0 := hide (fun x : Later w2 => calls_later x (KA.out x.w (lat x)))
      have HK1 := hide (fun x : Later w2 => calls_later x (k1 x.w (lat x)))
      have HK2 := hide (fun x : Later w2 => calls_later x (k2 x.w (lat x)))
      have HK3 := hide (fun x : Later w2 => calls_later x (k3 x.w (lat x)))
      have hx : ∀ x : Later w2, x.w.cell? ⟨w.heap.size, 0, none⟩ = some (.int .i64 o1) ∧ x.w.cell? ⟨w.heap.size, 1, none⟩ = some (.slice pa1 pn1 pc1) ∧ x.w.cell? ⟨w.heap.size, 2, none⟩ = some (.int .u32 (nx1 : Int)) ∧ x.w.cell? ⟨w.heap.size, 3, none⟩ = some (.int .i64 md1) ∧ x.w.cell? ⟨w.heap.size, 4, none⟩ = some (.int .i64 pf1) ∧ x.w.cell? ⟨w.heap.size, 5, none⟩ = some (.slice ca1 cn1 cc1) ∧ x.w.cell? ⟨w.heap.size, 6, none⟩ = some (.slice ra1 rn1 rc1) := fun x => C1.out x.w (latb x)
      have hy : ∀ x : Later w2, x.w.cell? ⟨w.heap.size + 1, 0, none⟩ = some (.int .i64 o2) ∧ x.w.cell? ⟨w.heap.size + 1, 1, none⟩ = some (.slice pa2 pn2 pc2) ∧ x.w.cell? ⟨w.heap.size + 1, 2, none⟩ = some (.int .u32 (nx2 : Int)) ∧ x.w.cell? ⟨w.heap.size + 1, 3, none⟩ = some (.int .i64 md2) ∧ x.w.cell? ⟨w.heap.size + 1, 4, none⟩ = some (.int .i64 pf2) ∧ x.w.cell? ⟨w.heap.size + 1, 5, none⟩ = some (.slice ca2 cn2 cc2) ∧ x.w.cell? ⟨w.heap.size + 1, 6, none⟩ = some (.slice ra2 rn2 rc2) := fun x => C2.out x.w (latb x)
      have x0 := fun x => (hx x).1
      have x1 := fun x => (hx x).2.1
      have x2 := fun x => (hx x).2.2.1
      have x3 := fun x => (hx x).2.2.2.1
      have x4 := fun x => (hx x).2.2.2.2.1
      have x5 := fun x => (hx x).2.2.2.2.2.1
      have x6 := fun x => (hx x).2.2.2.2.2.2
      have y0 := fun x => (hy x).1
      have y1 := fun x => (hy x).2.1
      have y2 := fun x => (hy x).2.2.1
      have y3 := fun x => (hy x).2.2.2.1
      have y4 := fun x => (hy x).2.2.2.2.1
      have y5 := fun x => (hy x).2.2.2.2.2.1
      have y6 := fun x => (hy x).2.2.2.2.2.2
      clear hx hy k1 k2 k3 KS lat latb KA C1 C2
      have hgg : (g == g) = true := by cases g <;> rfl
      go_wp2_with fail
      have hne := later_some w2
      refine region_later (by kernel_rfl) (by kernel_rfl) ?_
      repeat (go_big_quiet_step (first
        | (go_at_call 10; with_reducible exact HK0.out _)
        | (go_at_call 20; with_reducible exact HK1.out _)
        | (go_at_call 17; with_reducible exact HK2.out _)
        | (go_at_call 20; with_reducible exact HK3.out _)))
      refine wpQuiet_nil ?_
      rintro _ ⟨xq, rfl⟩
      go_wp2
      go_ret
      exact ⟨rfl, HB2.out.trans (xq.h.mono HB2.out.size)⟩
theorem eqA_self (a : At) : eqA a a = true := by unfold eqA eqHead eqP; simp
theorem attrSame_walk (pa0 : Option Addr) (pc0 : Nat) (ca0 : Option Addr) (cc0 : Nat) (ra0 : Option Addr) (rc0 : Nat) (a0 : At) (pa1 : Option Addr) (pc1 : Nat) (ca1 : Option Addr) (cc1 : Nat) (ra1 : Option Addr) (rc1 : Nat) (a1 : At) (W : World) (hS : Said W) (g0 : BigA a0) (h0 : AtRd W pa0 ca0 ra0 a0) (g1 : BigA a1) (h1 : AtRd W pa1 ca1 ra1 a1) :
    Calls Tryd.prog 5 #[atV pa0 pc0 ca0 cc0 ra0 rc0 a0, atV pa1 pc1 ca1 cc1 ra1 rc1 a1] W fun e W' => e = .returned (.bool true) ∧ Below W.heap.size W W' :=
  asame_at a0.origin pa0 _ pc0 a0.next a0.med a0.pref ca0 _ cc0 ra0 _ rc0 a1.origin pa1 _ pc1 a1.next a1.med a1.pref ca1 _ cc1 ra1 _ rc1 (smallA a0) (smallA a1) (eqA a0 a1) W
    (fun X hb => answers_any X (hS.below hb))
    (fun X hb => smalla_any pa0 pc0 ca0 cc0 ra0 rc0 a0 X g0.path g0.segs g0.comms g0.raws g0.datas (h0.below hb))
    (fun X hb => smalla_any pa1 pc1 ca1 cc1 ra1 rc1 a1 X g1.path g1.segs g1.comms g1.raws g1.datas (h1.below hb))
    (fun e0 e1 => by
      have l0 := of_decide_eq_true e0
      have l1 := of_decide_eq_true e1
      refine ⟨fun X hb => psame_any pa0 ca0 ra0 pa1 ca1 ra1 pc0 cc0 rc0 pc1 cc1 rc1 a0 a1 X (by omega) (h0.below hb) (h1.below hb), fun X hb => samea_any pa0 pa1 pc0 pc1 ca0 ca1 cc0 cc1 ra0 ra1 rc0 rc1 a0 a1 X (by omega) (by omega) (h0.below hb) (h1.below hb), fun X hb => ?_⟩
      have h9 := psame_any pa0 ca0 ra0 pa0 ca0 ra0 pc0 cc0 rc0 pc0 cc0 rc0 a0 a0 X (by omega) (h0.below hb) (h0.below hb)
      rw [eqA_self] at h9
      exact h9)
end Go.Proofs.YtcbdegggilnphaaDoor
