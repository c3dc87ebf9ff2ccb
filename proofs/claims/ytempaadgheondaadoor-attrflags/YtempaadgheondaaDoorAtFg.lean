/- AttrFlags' walk. -/
import Derived.Test.YtempaadgheondaaDoorAtW
import Derived.Test.YtempaadgheondaaDoorHOrd
import Derived.Test.YtempaadgheondaaDoorAtQ5
import Derived.Test.YtempaadgheondaaDoorAtSl
import Derived.Test.YtempaadgheondaaDoorHRaw
import Derived.Test.YtempaadgheondaaDoorAtEn
import Derived.Test.YtempaadgheondaaDoorHGl
import Derived.Test.YtempaadgheondaaDoorAtFr
import Derived.Test.YtempaadgheondaaDoorLater
import Derived.Deep.RegionWith
import Derived.Deep.RegionHeld3
import Derived.Deep.DeepCutAuto
namespace Go.Proofs.YtempaadgheondaaDoor
open Go.RowKit
set_option maxRecDepth 100000

section
variable {P : Program} {a : Act} {w w' : World} {K : Act → World → Prop} {Q : Exit → Act → World → Prop} {dst : Option Tmp} {ty : TypeId} {pos : String} {after : Array Edge} {gd : Option (Nat × Bool)}
theorem kept_appz (x y : Operand) : Oper.wp P { dst := dst, op := .call { callee := .builtin .append, args := #[x, y], argTypes := #[30, 3] }, type := ty, pos := pos, after := after, guard := gd } a w K Q = Kept P { dst := dst, op := .call { callee := .builtin .append, args := #[x, y], argTypes := #[30, 3] }, type := ty, pos := pos, after := after, guard := gd } a w K Q := rfl
theorem kept_appz_intro (x y : Operand) (p q v : Value) (hr : (Builtin.append_ #[30, 3] ty #[p, q]).run P w = .ok v w') (hx : a.eval x = p) (hy : a.eval y = q) (h : K (a.put dst v) w') :
    Kept P { dst := dst, op := .call { callee := .builtin .append, args := #[x, y], argTypes := #[30, 3] }, type := ty, pos := pos, after := after, guard := gd } a w K Q := by
  unfold Kept Oper.wp execOp
  simp only [resolve, invoke, builtin, Sem.run_bind, Sem.run_pure, Result.andThen_ok, List.map_toArray, List.map_cons, List.map_nil, hx, hy, hr]
  exact h
end
set_option maxHeartbeats 1600000 in
theorem aflags_no (o1 : Int) (pa1 : Option Addr) (pn1 pc1 : Nat) (nx1 : Nat) (md1 pf1 : Int) (ca1 : Option Addr) (cn1 cc1 : Nat) (ra1 : Option Addr) (rn1 rc1 : Nat) (s g : Bool) (z1 z2 : Int) (w : World) (hsg : s = false ∨ g = false)
    (KA : Hid (∀ W, Below w.heap.size w W → Calls Tryd.prog 10 #[] W fun e w' => e = .returned (.bool true) ∧ Below W.heap.size W w'))
    (KM : Hid (∀ W, Below w.heap.size w W → Calls Tryd.prog 9 #[.agg #[.int .i64 o1, .slice pa1 pn1 pc1, .int .u32 (nx1 : Int), .int .i64 md1, .int .i64 pf1, .slice ca1 cn1 cc1, .slice ra1 rn1 rc1]] W fun e w' => e = .returned (.bool s) ∧ Below W.heap.size W w'))
    (KR : Hid (s = true → ∀ W, Below w.heap.size w W → Calls Tryd.prog 13 #[.agg #[.int .i64 o1, .slice pa1 pn1 pc1, .int .u32 (nx1 : Int), .int .i64 md1, .int .i64 pf1, .slice ca1 cn1 cc1, .slice ra1 rn1 rc1]] W fun e w' => e = .returned (.bool g) ∧ Below W.heap.size W w')) :
    Calls Tryd.prog 8 #[.agg #[.int .i64 o1, .slice pa1 pn1 pc1, .int .u32 (nx1 : Int), .int .i64 md1, .int .i64 pf1, .slice ca1 cn1 cc1, .slice ra1 rn1 rc1], .int .u8 z1, .int .u8 z2] w fun e w' => e = .returned (.bool true) ∧ Below w.heap.size w w' := by
  obtain ⟨wb, hwb⟩ : ∃ wb, wb = w.alloc (.cells #[.int .i64 o1, .slice pa1 pn1 pc1, .int .u32 (nx1 : Int), .int .i64 md1, .int .i64 pf1, .slice ca1 cn1 cc1, .slice ra1 rn1 rc1] 27) := ⟨_, rfl⟩
  have HBb : Hid (Below w.heap.size w wb) := by show Below _ _ _; rw [hwb]; exact (Below.refl _ _).alloc (Nat.le_refl _) _
  have hPb : w.heap.size < wb.heap.size := by rw [hwb]; simp
  have C1 : Hid (∀ X, Below wb.heap.size wb X → X.cell? ⟨w.heap.size, 0, none⟩ = some (.int .i64 o1) ∧ X.cell? ⟨w.heap.size, 1, none⟩ = some (.slice pa1 pn1 pc1) ∧ X.cell? ⟨w.heap.size, 2, none⟩ = some (.int .u32 (nx1 : Int)) ∧ X.cell? ⟨w.heap.size, 3, none⟩ = some (.int .i64 md1) ∧ X.cell? ⟨w.heap.size, 4, none⟩ = some (.int .i64 pf1) ∧ X.cell? ⟨w.heap.size, 5, none⟩ = some (.slice ca1 cn1 cc1) ∧ X.cell? ⟨w.heap.size, 6, none⟩ = some (.slice ra1 rn1 rc1)) := fun X hb => by
    have k : ∀ j, X.cell? ⟨w.heap.size, j, none⟩ = wb.cell? ⟨w.heap.size, j, none⟩ := fun j => hb.cell (p := ⟨w.heap.size, j, none⟩) hPb
    simp only [k]
    rw [hwb]
    refine ⟨?_, ?_, ?_, ?_, ?_, ?_, ?_⟩ <;> simp [go_sem]
  go_enter Tryd.func8, Tryd.ntmps8
  go_wp2_with fail
  rw [← hwb]
  clear hwb
  refine (KM.out wb HBb.out).mono ?_
  rintro e w0 ⟨rfl, hb0⟩
  have HB0 : Hid (Below w.heap.size w w0) := HBb.out.trans (hb0.mono HBb.out.size)
  obtain ⟨x0, x1, x2, x3, x4, x5, x6⟩ := C1.out w0 hb0
  clear hb0 KM
  cases s with
  | false =>
    go_wp2_with fail
    refine (KA.out w0 HB0.out).mono ?_
    rintro e w1 ⟨rfl, hb1⟩
    have HB1 : Hid (Below w.heap.size w w1) := HB0.out.trans (hb1.mono HB0.out.size)
    clear hb1
    go_wp2
    go_ret
    exact ⟨rfl, HB1.out⟩
  | true =>
    have hg : g = false := by rcases hsg with h | h; cases h; exact h
    subst hg
    go_wp2_with fail
    refine (KR.out (by trivial) w0 HB0.out).mono ?_
    rintro e w1 ⟨rfl, hb1⟩
    have HB1 : Hid (Below w.heap.size w w1) := HB0.out.trans (hb1.mono HB0.out.size)
    clear hb1
    go_wp2_with fail
    refine (KA.out w1 HB1.out).mono ?_
    rintro e w2 ⟨rfl, hb2⟩
    have HB2 : Hid (Below w.heap.size w w2) := HB1.out.trans (hb2.mono HB1.out.size)
    clear hb2
    go_wp2
    go_ret
    exact ⟨rfl, HB2.out⟩
/-- The flags without the mark of a long length. -/
def clr (fl : Nat) : Nat := fl - fl / 16 % 2 * 16
theorem clr_bits (fl : Nat) (h : fl < 256) : bits .andNot .u8 (fl : Int) 16 = (clr fl : Int) ∧ clr fl < 256 ∧ clr fl / 16 % 2 = 0 ∧ clr fl / 64 = fl / 64 ∧ clr fl / 32 % 2 = fl / 32 % 2 := by
  have key : ∀ y : Fin 256, bits .andNot .u8 ((y : Nat) : Int) 16 = (clr (y : Nat) : Int) := by decide +kernel
  refine ⟨key ⟨fl, h⟩, ?_, ?_, ?_, ?_⟩ <;> unfold clr <;> omega
/-- What has been done of the region that reads the second bytes. -/
def lst8 : Nat → Bool → Bool → Array Bool
  | 0, A, N => #[false, true, false, true, true, false, false, false, false, false, A, N, false, false]
  | 1, A, N => #[true, true, false, true, true, false, false, false, false, false, A, N, false, false]
  | 2, A, N => #[true, true, true, true, true, false, false, false, false, false, A, N, false, false]
  | 3, A, N => #[true, true, true, true, true, true, false, false, false, false, A, N, false, false]
  | _, A, N => #[true, true, true, true, true, true, true, true, true, true, A, N, false, false]
theorem lst8_A : ∀ k N, k ≤ 4 → (lst8 k false N).setIfInBounds 10 true = lst8 k true N
  | 0, _, _ => rfl
  | 1, _, _ => rfl
  | 2, _, _ => rfl
  | 3, _, _ => rfl
  | _ + 4, _, _ => rfl
theorem lst8_N : ∀ k A, k ≤ 4 → (lst8 k A false).setIfInBounds 11 true = lst8 k A true
  | 0, _, _ => rfl
  | 1, _, _ => rfl
  | 2, _, _ => rfl
  | 3, _, _ => rfl
  | _ + 4, _, _ => rfl
section
attribute [local go_sem ↓] kept_append kept_appz
set_option maxHeartbeats 6400000 in
theorem aflags_go (o1 : Int) (pa1 : Option Addr) (pn1 pc1 : Nat) (nx1 : Nat) (md1 pf1 : Int) (ca1 : Option Addr) (cn1 cc1 : Nat) (ra1 : Option Addr) (rn1 rc1 : Nat) (flags more ov el : Nat) (R : List Nat) (fits long : Bool) (k1 s1 k2 s2 : Int) (d1 d2 : List Nat) (w : World)
    (hfl : flags < 256) (hmo : more < 256) (hov : ov < 256) (hel : (64 :: 1 :: 1 :: ov :: R).length = el) (hel5 : 5 ≤ el) (hel9 : el ≤ 9000) (hR : ∀ x ∈ R, x < 256)
    (hfits : fits = (decide (flags / 64 = 1) && decide (flags / 32 % 2 = 0))) (hlong : long = decide (more % 9 ≠ 0))
    (hk1 : fits = true ∧ k1 = 0 ∨ fits = false ∧ k1 = 3 ∧ s1 = 4 ∧ d1 = [clr flags, 1, 1, ov]) (hk2 : long = true ∧ k2 = 3 ∧ s2 = 5 ∧ d2 = [64, 1, 1 + more % 9, 0] ++ List.replicate (more % 9) 0 ∨ long = false ∧ k2 = 0)
    (KA : Hid (∀ W, Below w.heap.size w W → Calls Tryd.prog 10 #[] W fun e w' => e = .returned (.bool true) ∧ Below W.heap.size W w'))
    (KM : Hid (∀ W, Below w.heap.size w W → Calls Tryd.prog 9 #[.agg #[.int .i64 o1, .slice pa1 pn1 pc1, .int .u32 (nx1 : Int), .int .i64 md1, .int .i64 pf1, .slice ca1 cn1 cc1, .slice ra1 rn1 rc1]] W fun e w' => e = .returned (.bool true) ∧ Below W.heap.size W w'))
    (KR : Hid (∀ W, Below w.heap.size w W → Calls Tryd.prog 13 #[.agg #[.int .i64 o1, .slice pa1 pn1 pc1, .int .u32 (nx1 : Int), .int .i64 md1, .int .i64 pf1, .slice ca1 cn1 cc1, .slice ra1 rn1 rc1]] W fun e w' => e = .returned (.bool true) ∧ Below W.heap.size W w'))
    (KAT : Hid (∀ W, Below w.heap.size w W → Calls Tryd.prog 15 #[.agg #[.int .i64 o1, .slice pa1 pn1 pc1, .int .u32 (nx1 : Int), .int .i64 md1, .int .i64 pf1, .slice ca1 cn1 cc1, .slice ra1 rn1 rc1]] W fun e w' => ∃ v, e = .returned v ∧ w'.ownsRow W.heap.size 5 1 v el (bcells (64 :: 1 :: 1 :: ov :: R)) ∧ Below W.heap.size W w'))
    (KD1 : Hid (∀ W a9 n9 c9, Below w.heap.size w W → n9 = el → n9 ≤ c9 → BRd W a9 (clr flags :: 1 :: 1 :: ov :: R) → Calls Tryd.prog 16 #[.slice a9 n9 c9] W fun e w' => ∃ q0 q1 q2 q3 q4 q5 q6 q7 q8 q9 q10 q11 q12 aa cc, e = .returned (.tuple #[.agg #[.int .i64 q0, .slice q1 q2 q3, .int .u32 q4, .int .i64 q5, .int .i64 q6, .slice q7 q8 q9, .slice q10 q11 q12], .agg #[.int .i64 k1, .int .i64 s1, .slice aa d1.length cc]]) ∧ BRd w' aa d1 ∧ Below W.heap.size W w'))
    (KD2 : Hid (∀ W a9 n9 c9, Below w.heap.size w W → n9 = 4 + more % 9 + (el - 4) → n9 ≤ c9 → BRd W a9 ([64, 1, 1 + more % 9, 0] ++ List.replicate (more % 9) 0 ++ R) → Calls Tryd.prog 16 #[.slice a9 n9 c9] W fun e w' => ∃ cA ab cb, e = .returned (.tuple #[.agg cA, .agg #[.int .i64 k2, .int .i64 s2, .slice ab d2.length cb]]) ∧ cA.size = 7 ∧ cA.all (·.oneCell') = true ∧ (∀ X : World, w'.heap.size ≤ X.heap.size → (∀ k, W.heap.size ≤ k → k < w'.heap.size → X.heap[k]? = w'.heap[k]?) → BRd X ab d2) ∧ Below W.heap.size W w')) :
    Calls Tryd.prog 8 #[.agg #[.int .i64 o1, .slice pa1 pn1 pc1, .int .u32 (nx1 : Int), .int .i64 md1, .int .i64 pf1, .slice ca1 cn1 cc1, .slice ra1 rn1 rc1], .int .u8 (flags : Int), .int .u8 (more : Int)] w fun e w' => e = .returned (.bool true) ∧ Below w.heap.size w w' := by
  obtain ⟨hand, hc256, hc16, _, _⟩ := clr_bits flags hfl
  obtain ⟨wb, hwb⟩ : ∃ wb, wb = w.alloc (.cells #[.int .i64 o1, .slice pa1 pn1 pc1, .int .u32 (nx1 : Int), .int .i64 md1, .int .i64 pf1, .slice ca1 cn1 cc1, .slice ra1 rn1 rc1] 27) := ⟨_, rfl⟩
  have HBb : Hid (Below w.heap.size w wb) := by show Below _ _ _; rw [hwb]; exact (Below.refl _ _).alloc (Nat.le_refl _) _
  have hPb : w.heap.size < wb.heap.size := by rw [hwb]; simp
  have C1 : Hid (∀ X, Below wb.heap.size wb X → X.cell? ⟨w.heap.size, 0, none⟩ = some (.int .i64 o1) ∧ X.cell? ⟨w.heap.size, 1, none⟩ = some (.slice pa1 pn1 pc1) ∧ X.cell? ⟨w.heap.size, 2, none⟩ = some (.int .u32 (nx1 : Int)) ∧ X.cell? ⟨w.heap.size, 3, none⟩ = some (.int .i64 md1) ∧ X.cell? ⟨w.heap.size, 4, none⟩ = some (.int .i64 pf1) ∧ X.cell? ⟨w.heap.size, 5, none⟩ = some (.slice ca1 cn1 cc1) ∧ X.cell? ⟨w.heap.size, 6, none⟩ = some (.slice ra1 rn1 rc1)) := fun X hb => by
    have k : ∀ j, X.cell? ⟨w.heap.size, j, none⟩ = wb.cell? ⟨w.heap.size, j, none⟩ := fun j => hb.cell (p := ⟨w.heap.size, j, none⟩) hPb
    simp only [k]
    rw [hwb]
    refine ⟨?_, ?_, ?_, ?_, ?_, ?_, ?_⟩ <;> simp [go_sem]
  obtain ⟨fl, hfe⟩ : ∃ fl, fl = clr flags := ⟨_, rfl⟩
  rw [← hfe] at hand hc256 hk1 KD1
  obtain ⟨m9, hm9⟩ : ∃ m9, m9 = more % 9 := ⟨_, rfl⟩
  rw [← hm9] at hk2 KD2 hlong
  have hm9i : (more : Int) % 9 = (m9 : Int) := by rw [hm9]; simp
  have hm99 : m9 < 9 := by omega
  have HHF := hide hfits
  have HHL := hide hlong
  have HK1 := hide hk1
  have HK2 := hide hk2
  have HEL := hide hel
  have HRR := hide hR
  clear hfe hm9 hc16 hfits hlong hk1 hk2 hel hR
  go_enter Tryd.func8, Tryd.ntmps8
  go_wp2_with fail
  rw [← hwb]
  clear hwb
  refine (KM.out wb HBb.out).mono ?_
  rintro e w0 ⟨rfl, hb0⟩
  have HW0 := hide hb0
  have HB0 : Hid (Below w.heap.size w w0) := HBb.out.trans (hb0.mono HBb.out.size)
  obtain ⟨x0, x1, x2, x3, x4, x5, x6⟩ := C1.out w0 hb0
  clear hb0 KM
  go_wp2_with fail
  refine (KR.out w0 HB0.out).mono ?_
  rintro e w1 ⟨rfl, hb1⟩
  have HW1 := hide (HW0.out.trans (hb1.mono HW0.out.size))
  have HB1 : Hid (Below w.heap.size w w1) := HB0.out.trans (hb1.mono HB0.out.size)
  clear hb1 KR x0 x1 x2 x3 x4 x5 x6
  obtain ⟨x0, x1, x2, x3, x4, x5, x6⟩ := C1.out w1 HW1.out
  go_wp2_with fail
  refine (KAT.out w1 HB1.out).mono ?_
  rintro e w2 ⟨v2, rfl, ho2, hb2⟩
  have HB2 : Hid (Below w.heap.size w w2) := HB1.out.trans (hb2.mono HB1.out.size)
  clear KAT x0 x1 x2 x3 x4 x5 x6 C1 HW0 HW1 HB0 hb2
  have hb256 : ∀ x ∈ 64 :: 1 :: 1 :: ov :: R, x < 256 := fun x hx => by
    simp only [List.mem_cons] at hx
    rcases hx with rfl | rfl | rfl | rfl | hx
    · omega
    · omega
    · omega
    · exact hov
    · exact HRR.out x hx
  obtain ⟨g, c2, rfl, _, _⟩ := ho2.form (by omega)
  have ho2' : w2.ownsRow w1.heap.size 5 1 (.slice (some ⟨g, 0, none⟩) el c2) (64 :: 1 :: 1 :: ov :: R).length (bcells (64 :: 1 :: 1 :: ov :: R)) := by rw [HEL.out]; exact ho2
  obtain ⟨a2, c9, e2, hc2, hr2⟩ := own_brd ho2' (by rw [HEL.out]; omega) hb256
  simp only [Value.slice.injEq] at e2
  obtain ⟨rfl, h99, rfl⟩ := e2
  clear h99
  rw [HEL.out] at hc2
  have hg2 : g < w2.heap.size := (own_block ho2 g rfl).2
  have hbe : Below w2.heap.size w2 (w2.alloc (.cells #[] 5)) := (Below.refl _ _).alloc (Nat.le_refl _) _
  obtain ⟨v4, w4, hr4, ho4, hb4⟩ := app_brd (n := 0) (ys := []) (64 :: 1 :: 1 :: ov :: R) (some ⟨g, 0, none⟩) c2 rfl (own_empty w2) hbe.size (by rw [HEL.out]; omega) (hr2.below hbe)
  rw [List.nil_append, HEL.out] at ho4
  rw [HEL.out] at hr4
  obtain ⟨gx, cx, rfl, _, _⟩ := ho4.form (by omega)
  have hgx := own_block ho4 gx rfl
  have hfx := ho4.frozenAt 0
  have hcx0 : w4.cell? ⟨gx, 0, none⟩ = some (.int .u8 64) := by rw [ho4.cellAt 0 (by omega)]; rfl
  have hcxl : el ≤ cx := by
    rcases ho4.2 with ⟨e, _⟩ | ⟨g', cap, cur, e, _, _, h1, _⟩
    · cases e
    · simp only [Value.slice.injEq] at e
      rw [e.2.2]; exact h1
  have hrx := brd_set0 (y := fl) ho4 HEL.out (by omega) hc256 (fun z hz => hb256 z (List.mem_cons_of_mem _ hz))
  have hb24 : Below w2.heap.size w2 w4 := hbe.trans hb4
  have hb25 : Below w2.heap.size w2 (w4.setCell ⟨gx, 0, none⟩ (.int .u8 (fl : Int))) := hb24.setCell hgx.1 _
  have HB5 : Hid (Below w.heap.size w (w4.setCell ⟨gx, 0, none⟩ (.int .u8 (fl : Int)))) := HB2.out.trans (hb25.mono HB2.out.size)
  have HD1 := hide (KD1.out _ _ el cx HB5.out rfl hcxl hrx)
  have HR4 := hide hr4
  have HRX := hide hrx
  have HR2 := hide hr2
  have HB25 := hide hb25
  have l0 : (0 : Int) < (el : Int) := by omega
  have hgxs := hgx.2
  clear ho2 ho2' hbe hr4 ho4 hb4 hb24 hb25 hrx hr2 hgx KD1
  go_wp2_with fail
  refine kept_append_intro _ _ (.slice (some ⟨w2.heap.size, 0, none⟩) 0 0) (.slice (some ⟨g, 0, none⟩) el c2) (.slice (some ⟨gx, 0, none⟩) el cx) (w' := w4) (by rfl) (by rfl) (by with_reducible exact HR4.out) ?_
  go_wp2_with fail
  refine HD1.out.mono ?_
  rintro e w6 ⟨q0, q1, q2, q3, q4, q5, q6, q7, q8, q9, q10, q11, q12, aa, ca, rfl, hba, hb6⟩
  have HB6 := hide (HB5.out.trans (hb6.mono HB5.out.size))
  have hr26 := (HR2.out.below HB25.out).below hb6
  have hrx6 := HRX.out.below hb6
  obtain ⟨w7, hw7⟩ : ∃ w7, w7 = (w6.alloc (.cells #[.int .i64 q0, .slice q1 q2 q3, .int .u32 q4, .int .i64 q5, .int .i64 q6, .slice q7 q8 q9, .slice q10 q11 q12] 27)).alloc (.cells #[.int .i64 k1, .int .i64 s1, .slice aa d1.length ca] 34) := ⟨_, rfl⟩
  have hb7 : Below w6.heap.size w6 w7 := by rw [hw7]; exact ((Below.refl _ _).alloc (Nat.le_refl _) _).alloc (by simp) _
  have hs7 : w7.heap.size = w6.heap.size + 1 + 1 := by rw [hw7]; simp
  have HB7 := hide (HB6.out.trans (hb7.mono HB6.out.size))
  have HN1 : Hid (∀ X, Below w7.heap.size w7 X → X.cell? ⟨w6.heap.size + 1, 0, none⟩ = some (.int .i64 k1) ∧ X.cell? ⟨w6.heap.size + 1, 1, none⟩ = some (.int .i64 s1) ∧ X.cell? ⟨w6.heap.size + 1, 2, none⟩ = some (.slice aa d1.length ca)) := fun X hb => by
    have k : ∀ j, X.cell? ⟨w6.heap.size + 1, j, none⟩ = w7.cell? ⟨w6.heap.size + 1, j, none⟩ := fun j => hb.cell (p := ⟨w6.heap.size + 1, j, none⟩) (by show w6.heap.size + 1 < _; omega)
    simp only [k]
    rw [hw7]
    have k2 : ∀ j, ((w6.alloc (.cells #[.int .i64 q0, .slice q1 q2 q3, .int .u32 q4, .int .i64 q5, .int .i64 q6, .slice q7 q8 q9, .slice q10 q11 q12] 27)).alloc (.cells #[.int .i64 k1, .int .i64 s1, .slice aa d1.length ca] 34)).cell? ⟨w6.heap.size + 1, j, none⟩ = #[.int .i64 k1, .int .i64 s1, .slice aa d1.length ca][j]? := fun j => by
      have h9 := World.cell?_alloc_mark (w6.alloc (.cells #[.int .i64 q0, .slice q1 q2 q3, .int .u32 q4, .int .i64 q5, .int .i64 q6, .slice q7 q8 q9, .slice q10 q11 q12] 27)) #[.int .i64 k1, .int .i64 s1, .slice aa d1.length ca] 34 (0, 0) j
      simp only [World.size_alloc] at h9
      exact h9
    simp only [k2]
    exact ⟨rfl, rfl, rfl⟩
  have HBA := hide (hba.below hb7)
  have hr27 := hr26.below hb7
  have hrx7 := hrx6.below hb7
  -- y
  have hbl : Below w7.heap.size w7 (w7.alloc (.cells #[.int .u8 64, .int .u8 1, .int .u8 (1 + (m9 : Int)), .int .u8 0] 5)) := (Below.refl _ _).alloc (Nat.le_refl _) _
  have hlit : (w7.alloc (.cells #[.int .u8 64, .int .u8 1, .int .u8 (1 + (m9 : Int)), .int .u8 0] 5)).ownsRow w7.heap.size 5 1 (.slice (some ⟨w7.heap.size, 0, none⟩) 4 4) 4 (bcells [64, 1, 1 + m9, 0]) :=
    ⟨rfl, .inr ⟨w7.heap.size, 4, _, rfl, Nat.le_refl _, by unfold World.alloc; exact Array.getElem?_push_size, Nat.le_refl _, by unfold maxLen; omega, rfl, by simp [bcells, Int.natCast_add]⟩⟩
  obtain ⟨v8, w8, hr8, ho8, hb8⟩ := app_zeros (n := 4) (bs := [64, 1, 1 + m9, 0]) rfl (fun j x hx => by
    have h9 := hlit.cellAt j (by have := (List.getElem?_eq_some_iff.1 hx).1; simpa using this)
    rw [h9]
    unfold bcells
    rw [List.getElem?_map, hx]
    rfl) hlit hbl.size m9 (by omega)
  have hyl : ([64, 1, 1 + m9, 0] ++ List.replicate m9 0).length = 4 + m9 := by simp; omega
  have hy256 : ∀ x ∈ [64, 1, 1 + m9, 0] ++ List.replicate m9 0, x < 256 := fun x hx => by
    simp only [List.mem_append, List.mem_cons, List.not_mem_nil, or_false, List.mem_replicate] at hx
    omega
  obtain ⟨ay, cy, rfl, hcy, hry⟩ := own_brd ho8 (by omega) hy256
  rw [hyl, hs7] at hr8
  rw [hyl] at hcy
  have hb78 : Below w7.heap.size w7 w8 := hbl.trans hb8
  have HB8 := hide (HB7.out.trans (hb78.mono HB7.out.size))
  have hr28 := hr27.below hb78
  have hrx8 := hrx7.below hb78
  have HR8 := hide hr8
  -- the second one's bytes
  have hrest : BRd w8 (some ⟨g, 4, none⟩) R := by
    have h1 := brd_from hr28 4 (el - 4) (by rw [HEL.out]; omega)
    rw [Nat.zero_add] at h1
    have e : ((64 :: 1 :: 1 :: ov :: R).drop 4).take (el - 4) = R := by
      show R.take _ = R
      exact List.take_of_length_le (by have := HEL.out; simp only [List.length_cons] at this; omega)
    rw [e] at h1
    exact h1
  have hRl : R.length = el - 4 := by have := HEL.out; simp only [List.length_cons] at this; omega
  have HRY := hide hry
  have HRS := hide hrest
  have HRX8 := hide hrx8
  have HB78 := hide hb78
  have HD2 : Hid (∀ W v, Below w8.heap.size w8 W → W.ownsRow w8.heap.size 5 1 v ([64, 1, 1 + m9, 0] ++ List.replicate m9 0 ++ R).length (bcells ([64, 1, 1 + m9, 0] ++ List.replicate m9 0 ++ R)) → Calls Tryd.prog 16 #[v] W fun e w' => ∃ cA cN, e = .returned (.tuple #[.agg cA, .agg cN]) ∧ cA.size = 7 ∧ cN.size = 3 ∧ cA.all (·.oneCell') = true ∧ cN.all (·.oneCell') = true ∧ (∃ ab cb, cN = #[.int .i64 k2, .int .i64 s2, .slice ab d2.length cb] ∧ ∀ X : World, w'.heap.size ≤ X.heap.size → (∀ k, W.heap.size ≤ k → k < w'.heap.size → X.heap[k]? = w'.heap[k]?) → BRd X ab d2) ∧ Below W.heap.size W w') := fun W v hb ho => by
    have hdl : ([64, 1, 1 + m9, 0] ++ List.replicate m9 0 ++ R).length = 4 + m9 + (el - 4) := by rw [List.length_append, hyl, hRl]
    obtain ⟨ad, cd, rfl, hcd, hrd⟩ := own_brd ho (by rw [hdl]; omega) (fun x hx => by
      rcases List.mem_append.1 hx with h | h
      · exact hy256 x h
      · exact HRR.out x h)
    refine (KD2.out W ad _ cd (HB8.out.trans (hb.mono HB8.out.size)) hdl hcd hrd).mono ?_
    rintro e w' ⟨cA, ab, cb, rfl, z1, z2, z3, z4⟩
    exact ⟨cA, _, rfl, z1, rfl, z2, by simp [Value.oneCell'], ⟨ab, cb, rfl, z3⟩, z4⟩
  have hc24 : ¬ c2 = 4 := by omega
  have hn8 : (4 : Int) ≤ (el : Int) := by omega
  have hn9 : (el : Int) ≤ (c2 : Int) := by omega
  have HYL := hide hyl
  have HRL := hide hRl
  clear hr8 hb78 hrx8 hry hba hb6 hr26 hrx6 hb7 hr27 hrx7 hbl hlit hb8 hr28 hrest ho8 KD2 hyl hRl hy256
  go_wp2_with fail
  rw [← hw7]
  clear hw7
  refine kept_appz_intro _ _ (.slice (some ⟨w6.heap.size + 1 + 1, 0, none⟩) 4 4) (.int .i64 (m9 : Int)) (.slice ay (4 + m9) cy) (w' := w8) (by with_reducible exact HR8.out) (by rfl) (by rfl) ?_
  go_wp2_with fail
  have hdr : Below w8.heap.size w8 { w8 with drawn := w8.drawn + 1 } := (Below.refl _ w8).drew
  refine wp_region_noPanic ?_
  refine wp_region_held (S := fun W => Below w8.heap.size w8 W) (by kernel_rfl) ?_
  refine take_slot (i := 1) (d := 49) (v := .slice ay (4 + m9) cy) rfl rfl rfl (by kernel_rfl) (by kernel_rfl) (by kernel_rfl) (fun _ _ _ _ h => h) (fun w _ => op_move _ w _ _ _ rfl rfl) hdr ?_
  simp only [Act.put, List.setIfInBounds_toArray, List.set_cons_zero, List.set_cons_succ]
  refine take_slot (i := 3) (d := 51) (v := .slice (some ⟨g, 0, none⟩) el c2) rfl rfl rfl (by kernel_rfl) (by kernel_rfl) (by kernel_rfl) (fun _ _ _ _ h => h) (fun w _ => op_move _ w _ _ _ rfl rfl) hdr ?_
  simp only [Act.put, List.setIfInBounds_toArray, List.set_cons_zero, List.set_cons_succ]
  refine take_slot (i := 4) (d := 52) (v := .slice (some ⟨g, 4, none⟩) (el - 4) (c2 - 4)) rfl rfl rfl (by kernel_rfl) (by kernel_rfl) (by kernel_rfl) (fun _ _ _ _ h => h) (fun w _ => by go_simp) hdr ?_
  simp only [Act.put, List.setIfInBounds_toArray, List.set_cons_zero, List.set_cons_succ]
  refine dec2_region [12, 13, 48, 50, 53, 54, 47, 55, 56] _ w8 _ 12 13 48 49 50 52 53 54 47 55 56 0 2 5 6 7 8 9 10 11 12 13 ([64, 1, 1 + m9, 0] ++ List.replicate m9 0) R ay (some ⟨g, 4, none⟩) cy (c2 - 4)
    (fun W cA cN w' => ∃ ab cb, cN = #[.int .i64 k2, .int .i64 s2, .slice ab d2.length cb] ∧ ∀ X : World, w'.heap.size ≤ X.heap.size → (∀ k, W.heap.size ≤ k → k < w'.heap.size → X.heap[k]? = w'.heap[k]?) → BRd X ab d2)
    lst8 (fun _ _ _ _ h => h) ⟨_, _, _, rfl⟩ ⟨_, _, rfl⟩ ⟨_, _, rfl⟩ ⟨_, _, _, rfl⟩ ⟨_, _, _, rfl⟩ ⟨_, _, _, rfl⟩ ⟨_, _, _, rfl⟩ ⟨_, _, _, rfl⟩ ⟨_, _, _, rfl⟩ ⟨_, _, _, rfl⟩ ⟨_, _, _, rfl⟩ (by kernel_rfl)
    lst8_A lst8_N ?_ ?_ ?_ ?_ ?_ ?_ ?_ ?_ ?_ (by kernel_rfl) (by kernel_rfl) (by kernel_rfl) rfl (by decide) ?_ (by decide) (by decide) ?_ ?_ HRY.out HRS.out ?_ HD2.out ?_ hdr
  · intro k A N hk
    match k, hk with
    | 0, _ => cases A <;> cases N <;> decide +kernel
    | 1, _ => cases A <;> cases N <;> decide +kernel
    | 2, _ => cases A <;> cases N <;> decide +kernel
    | 3, _ => cases A <;> cases N <;> decide +kernel
  · intro A N h
    cases A <;> cases N <;> first | (cases h; done) | kernel_rfl
  · intro A N; rfl
  · intro A N; rfl
  · intro A N; rfl
  · intro A N; cases A <;> cases N <;> exact ⟨by kernel_rfl, by kernel_rfl⟩
  · intro A N; cases A <;> cases N <;> exact ⟨by kernel_rfl, by kernel_rfl⟩
  · intro A N; cases A <;> cases N <;> exact ⟨by kernel_rfl, by kernel_rfl⟩
  · intro A N; rfl
  · exact (by decide : ∀ s ∈ [12, 13, 48, 50, 53, 54, 47, 55, 56], s < 119)
  · rw [HYL.out]; rfl
  · rw [HRL.out]; rfl
  · rw [HYL.out, HRL.out]; omega
  · intro gA gN cA cN Wc w1 W a hfr pA pN hR h0c h1c h2c hblk hov lA lN rA rN
    obtain ⟨ab, cb, rfl, hbr⟩ := hR
    have HBB := hide (hbr W h2c hblk)
    have HOV := hide hov
    have m0 : W.cell? ⟨gN, 0, none⟩ = some (.int .i64 k2) := rN 0 _ rfl
    have m1 : W.cell? ⟨gN, 1, none⟩ = some (.int .i64 s2) := rN 1 _ rfl
    have m2 : W.cell? ⟨gN, 2, none⟩ = some (.slice ab d2.length cb) := rN 2 _ rfl
    obtain ⟨x0, x1, x2, x3, x4, x5, x6, rfl⟩ := hfr.lay9 (by exact (by decide : ∀ s ∈ [12, 13, 48, 50, 53, 54, 47, 55, 56], s < 119)) pA pN
    clear hfr pA pN hbr h0c h1c h2c hblk hov rA rN
    refine NoPanic.normal ?_
    simp only [Act.put, List.setIfInBounds_toArray, List.set_cons_zero, List.set_cons_succ]
    -- WAYS
    have hb7W : Below w7.heap.size w7 W := HB78.out.trans (HOV.out.mono HB78.out.size)
    obtain ⟨n0, n1, n2⟩ := HN1.out W hb7W
    have HBW := hide (HB7.out.trans (hb7W.mono HB7.out.size))
    have HAW := hide (HBA.out.below hb7W)
    have HXW := hide (brd_take (HRX8.out.below HOV.out) 4)
    have HYW := hide (HRY.out.below HOV.out)
    have HKA : Hid (∀ x : Later W, Calls Tryd.prog 10 #[] x.w fun e w' => e = .returned (.bool true) ∧ ∃ y : Later W, w' = y.w) := fun x => calls_later x (KA.out x.w (HBW.out.trans (x.h.mono HBW.out.size)))
    have hcx4 : (4 : Int) ≤ (cx : Int) := by omega
    have hne := later_some W
    clear hb7W HN1 HBA HRX8 HRY HRS HD1 HD2 HR4 HR8 HRX HR2 KA hs7
    have N0 : ∀ x : Later W, x.w.cell? ⟨w6.heap.size + 1, 0, none⟩ = some (.int .i64 k1) := fun x => x.cell n0
    have M0 : ∀ x : Later W, x.w.cell? ⟨gN, 0, none⟩ = some (.int .i64 k2) := fun x => x.cell m0
    have N1 : ∀ x : Later W, x.w.cell? ⟨w6.heap.size + 1, 1, none⟩ = some (.int .i64 s1) := fun x => x.cell n1
    have M1 : ∀ x : Later W, x.w.cell? ⟨gN, 1, none⟩ = some (.int .i64 s2) := fun x => x.cell m1
    have N2 : ∀ x : Later W, x.w.cell? ⟨w6.heap.size + 1, 2, none⟩ = some (.slice aa d1.length ca) := fun x => x.cell n2
    have M2 : ∀ x : Later W, x.w.cell? ⟨gN, 2, none⟩ = some (.slice ab d2.length cb) := fun x => x.cell m2
    clear n0 n1 n2 m0 m1 m2
    have fin : ∀ xq : Later W, Below w.heap.size w xq.w := fun xq => HBW.out.trans (xq.h.mono HBW.out.size)
    have HFIN := hide fin
    clear fin
    rcases HK1.out with ⟨hf, hk⟩ | ⟨hf, hk, hs, hd⟩
    · have h9 := HHF.out
      rw [hf] at h9
      simp only [Bool.true_eq, Bool.and_eq_true, decide_eq_true_eq] at h9
      have h64 : (flags : Int) / 64 = 1 := by omega
      have h32 : (flags : Int) / 32 % 2 = 0 := by omega
      subst hk
      rcases HK2.out with ⟨hl, hk, hs, hd⟩ | ⟨hl, hk⟩
      · have h8 := HHL.out
        rw [hl] at h8
        have hm0 : ((m9 : Int) != 0) = true := by have := of_decide_eq_true h8.symm; simp; omega
        subst hk hs hd
        rw [HYL.out] at M2
        have KS2 : Hid (∀ x : Later W, Calls Tryd.prog 14 #[.slice ab (4 + m9) cb, .slice ay (4 + m9) cy] x.w fun e w' => e = .returned (.bool true) ∧ ∃ y : Later W, w' = y.w) := fun x => calls_drew x (by
          have h9 := samed_any ab ay cb cy _ _ x.w (by rw [HYL.out]; omega) (HBB.out.below x.h) (HYW.out.below x.h)
          rw [HYL.out] at h9
          simpa using h9)
        clear hf hl h9 h8 HK1 HK2 HHF HHL N1
        go_wp2_with fail
        clear h64
        refine region_later (by kernel_rfl) (by kernel_rfl) ?_
        repeat (go_big_quiet_step (first | (go_at_call 10; with_reducible exact HKA.out _) | (go_at_call 14; with_reducible exact KS2.out _)))
        refine wpQuiet_nil ?_
        rintro _ ⟨xq, rfl⟩
        have HBQ := hide (HFIN.out xq)
        go_wp2
        go_ret
        exact ⟨rfl, HBQ.out⟩
      · have h8 := HHL.out
        rw [hl] at h8
        have hm0 : (m9 : Int) = 0 := by have := of_decide_eq_false h8.symm; omega
        subst hk
        clear hf hl h9 h8 HK1 HK2 HHF HHL N1 M1
        go_wp2_with fail
        clear h64
        refine region_later (by kernel_rfl) (by kernel_rfl) ?_
        repeat (go_big_quiet_step (first | (go_at_call 10; with_reducible exact HKA.out _)))
        refine wpQuiet_nil ?_
        rintro _ ⟨xq, rfl⟩
        have HBQ := hide (HFIN.out xq)
        go_wp2
        go_ret
        exact ⟨rfl, HBQ.out⟩
    · have h9 := HHF.out
      rw [hf] at h9
      subst hk hs hd
      have e4 : [fl, 1, 1, ov].length = 4 := rfl
      rw [e4] at N2
      have KS1 : Hid (∀ x : Later W, Calls Tryd.prog 14 #[.slice aa 4 ca, .slice (some ⟨gx, 0, none⟩) 4 cx] x.w fun e w' => e = .returned (.bool true) ∧ ∃ y : Later W, w' = y.w) := fun x => calls_drew x (by
        have h9 := samed_any aa (some ⟨gx, 0, none⟩) ca cx [fl, 1, 1, ov] [fl, 1, 1, ov] x.w (by simp) (HAW.out.below x.h) (HXW.out.below x.h)
        simpa using h9)
      have ways : ((flags : Int) / 64 == 1) = false ∨ ((flags : Int) / 64 = 1 ∧ ((flags : Int) / 32 % 2 == 0) = false) := by
        by_cases h : flags / 64 = 1
        · refine .inr ⟨by omega, beq_false_of_ne fun h2 => ?_⟩
          have h3 : flags / 32 % 2 = 0 := by omega
          rw [h, h3] at h9
          cases h9
        · exact .inl (beq_false_of_ne fun h2 => h (by omega))
      clear h9 hf HK1 HHF
      rcases ways with h64 | ⟨h64, h32⟩
      · rcases HK2.out with ⟨hl, hk, hs, hd⟩ | ⟨hl, hk⟩
        · have h8 := HHL.out
          rw [hl] at h8
          have hm0 : ((m9 : Int) != 0) = true := by have := of_decide_eq_true h8.symm; simp; omega
          subst hk hs hd
          rw [HYL.out] at M2
          have KS2 : Hid (∀ x : Later W, Calls Tryd.prog 14 #[.slice ab (4 + m9) cb, .slice ay (4 + m9) cy] x.w fun e w' => e = .returned (.bool true) ∧ ∃ y : Later W, w' = y.w) := fun x => calls_drew x (by
            have h9 := samed_any ab ay cb cy _ _ x.w (by rw [HYL.out]; omega) (HBB.out.below x.h) (HYW.out.below x.h)
            rw [HYL.out] at h9
            simpa using h9)
          clear hl h8 HK2 HHL
          go_wp2_with fail
          clear h64
          refine region_later (by kernel_rfl) (by kernel_rfl) ?_
          repeat (go_big_quiet_step (first | (go_at_call 10; with_reducible exact HKA.out _) | (go_at_call 14; first | with_reducible exact KS1.out _ | with_reducible exact KS2.out _)))
          refine wpQuiet_nil ?_
          rintro _ ⟨xq, rfl⟩
          have HBQ := hide (HFIN.out xq)
          go_wp2
          go_ret
          exact ⟨rfl, HBQ.out⟩
        · have h8 := HHL.out
          rw [hl] at h8
          have hm0 : (m9 : Int) = 0 := by have := of_decide_eq_false h8.symm; omega
          subst hk
          clear hl h8 HK2 HHL M1
          go_wp2_with fail
          clear h64
          refine region_later (by kernel_rfl) (by kernel_rfl) ?_
          repeat (go_big_quiet_step (first | (go_at_call 10; with_reducible exact HKA.out _) | (go_at_call 14; with_reducible exact KS1.out _)))
          refine wpQuiet_nil ?_
          rintro _ ⟨xq, rfl⟩
          have HBQ := hide (HFIN.out xq)
          go_wp2
          go_ret
          exact ⟨rfl, HBQ.out⟩
      · rcases HK2.out with ⟨hl, hk, hs, hd⟩ | ⟨hl, hk⟩
        · have h8 := HHL.out
          rw [hl] at h8
          have hm0 : ((m9 : Int) != 0) = true := by have := of_decide_eq_true h8.symm; simp; omega
          subst hk hs hd
          rw [HYL.out] at M2
          have KS2 : Hid (∀ x : Later W, Calls Tryd.prog 14 #[.slice ab (4 + m9) cb, .slice ay (4 + m9) cy] x.w fun e w' => e = .returned (.bool true) ∧ ∃ y : Later W, w' = y.w) := fun x => calls_drew x (by
            have h9 := samed_any ab ay cb cy _ _ x.w (by rw [HYL.out]; omega) (HBB.out.below x.h) (HYW.out.below x.h)
            rw [HYL.out] at h9
            simpa using h9)
          clear hl h8 HK2 HHL
          go_wp2_with fail
          clear h64
          refine region_later (by kernel_rfl) (by kernel_rfl) ?_
          repeat (go_big_quiet_step (first | (go_at_call 10; with_reducible exact HKA.out _) | (go_at_call 14; first | with_reducible exact KS1.out _ | with_reducible exact KS2.out _)))
          refine wpQuiet_nil ?_
          rintro _ ⟨xq, rfl⟩
          have HBQ := hide (HFIN.out xq)
          go_wp2
          go_ret
          exact ⟨rfl, HBQ.out⟩
        · have h8 := HHL.out
          rw [hl] at h8
          have hm0 : (m9 : Int) = 0 := by have := of_decide_eq_false h8.symm; omega
          subst hk
          clear hl h8 HK2 HHL M1
          go_wp2_with fail
          clear h64
          refine region_later (by kernel_rfl) (by kernel_rfl) ?_
          repeat (go_big_quiet_step (first | (go_at_call 10; with_reducible exact HKA.out _) | (go_at_call 14; with_reducible exact KS1.out _)))
          refine wpQuiet_nil ?_
          rintro _ ⟨xq, rfl⟩
          have HBQ := hide (HFIN.out xq)
          go_wp2
          go_ret
          exact ⟨rfl, HBQ.out⟩
end
end Go.Proofs.YtempaadgheondaaDoor
