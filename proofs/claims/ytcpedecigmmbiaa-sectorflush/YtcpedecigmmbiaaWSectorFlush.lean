/- SectorFlush's walk. -/
import Derived.Test.YtcpedecigmmbiaaRef
namespace Go.Proofs.Ytcpedecigmmbiaa
open Go.RowKit
set_option linter.unusedVariables false

theorem below_trans {B : Nat} {w w1 w2 : World} (h1 : Below B w w1) (h2 : Below B w1 w2) : Below B w w2 := h1.trans h2

/-- The disk of this law. -/
def flushDisk (f0 : Nat → Nat) (len0 : Nat) (f1 : Nat → Nat) (len1 keep : Nat) (torn at_ : Int) : St :=
  ((((((((St.made (clamp 4 1024).toNat).spent.write (Int.toNat 0) (fill f0 len0)).spent.write (Int.toNat 2) (fill f0 len0)).spent.flush).spent.write (Int.toNat 2) (fill f1 len1)).spent.write (Int.toNat 3) (fill f1 len1))).crash keep torn at_)
theorem flush_zero (f0 : Nat → Nat) (len0 : Nat) (f1 : Nat → Nat) (len1 keep : Nat) (torn at_ : Int) (i : Nat) (hi : i < 64) : (flushDisk f0 len0 f1 len1 keep torn at_).now 0 i = fill f0 len0 i := by
  simp [flushDisk, St.crash, St.landed, St.write, St.flush, St.spent, St.power, St.made, lay, putPage, hi]
theorem flush_one (f0 : Nat → Nat) (len0 : Nat) (f1 : Nat → Nat) (len1 keep : Nat) (torn at_ : Int) (i : Nat) (hi : i < 64) : (flushDisk f0 len0 f1 len1 keep torn at_).now 1 i = fill (fun _ => 0) 0 i := by
  simp [flushDisk, St.crash, St.landed, St.write, St.flush, St.spent, St.power, St.made, lay, putPage, fill]

set_option maxRecDepth 100000 in
set_option maxHeartbeats 1600000 in
theorem sectorFlush_walk (a0 : Option Addr) (len0 cap0 : Nat) (z0 : List Int) (a1 : Option Addr) (len1 cap1 : Nat) (z1 : List Int) (a2 : Int) (a3 : Int) (a4 : Int) (w : World) (w0 : IsRow .u8 w a0 len0 cap0 z0) (w1 : IsRow .u8 w a1 len1 cap1 z1) (w2 : (Lit.int .u64 a2).wf = true) (w3 : (Lit.int .i64 a3).wf = true) (w4 : (Lit.int .i64 a4).wf = true) :
    Calls Try.prog 4 #[.slice a0 len0 cap0, .slice a1 len1 cap1, .int .u64 a2, .int .i64 a3, .int .i64 a4] w fun e w' => e = .returned (.bool true) ∧ Below w.heap.size w w' := by
  obtain ⟨hr0, _⟩ := rw_of w0
  obtain ⟨hr1, _⟩ := rw_of w1
  have hb2 := bounds_u64 w2
  have hb3 := bounds_i64 w3
  have hb4 := bounds_i64 w4
  generalize (fun i => (z0.getD i 0).toNat) = f0 at hr0
  generalize (fun i => (z1.getD i 0).toNat) = f1 at hr1
  have HR0 := hide hr0
  have HR1 := hide hr1
  clear w0 w1 w2 w3 w4 hr0 hr1
  by_cases hl : 64 < len0 ∨ 64 < len1
  · by_cases hl0 : 64 < len0
    · go_enter Try.func4, Try.ntmps4
      go_wp2_with fail
      refine (answers_any _).mono ?_
      rintro e w1 ⟨rfl, hb⟩
      go_wp2
      go_ret
      exact ⟨rfl, hb⟩
    · go_enter Try.func4, Try.ntmps4
      go_wp2_with fail
      refine (answers_any _).mono ?_
      rintro e w1 ⟨rfl, hb⟩
      go_wp2
      go_ret
      exact ⟨rfl, hb⟩
  · have hl0 : len0 ≤ 64 := by omega
    have hl1 : len1 ≤ 64 := by omega
    clear hl
    go_enter Try.func4, Try.ntmps4
    go_wp2_with fail
    refine (own_new 4 _ (by omega)).mono ?_
    rintro e w1 ⟨D, rfl, ho1, hb1⟩
    have HO1 := hide ho1
    have HB1 := hide hb1
    clear ho1 hb1
    go_wp2_with fail
    refine (own_write HO1.out 0 (by omega) (show (0 : Int) < (((clamp 4 1024).toNat : Nat) : Int) by decide) a0 len0 cap0 f0 hl0 rfl (show 0 < 1000000 by omega) (HR0.out.below HB1.out) (fun x hx hp => by have := HR0.out.lt x hx hp; have := HO1.out.D; omega)).mono ?_
    rintro e w2 ⟨rfl, ho2, hb2'⟩
    have HO2 := hide ho2
    have HB2 := hide (HB1.out.trans hb2')
    clear ho2 hb2' HO1 HB1
    go_wp2_with fail
    refine (own_write HO2.out 2 (by omega) (show (2 : Int) < (((clamp 4 1024).toNat : Nat) : Int) by decide) a0 len0 cap0 f0 hl0 rfl (show 1 < 1000000 by omega) (HR0.out.below HB2.out) (fun x hx hp => by have := HR0.out.lt x hx hp; have := HO2.out.D; omega)).mono ?_
    rintro e w3 ⟨rfl, ho3, hb3'⟩
    have HO3 := hide ho3
    have HB3 := hide (HB2.out.trans hb3')
    clear ho3 hb3' HO2 HB2
    go_wp2_with fail
    refine (own_flush HO3.out rfl).mono ?_
    rintro e w4 ⟨rfl, ho4, hb4'⟩
    have HO4 := hide ho4
    have HB4 := hide (HB3.out.trans hb4')
    clear ho4 hb4' HO3 HB3
    go_wp2_with fail
    refine (own_write HO4.out 2 (by omega) (show (2 : Int) < (((clamp 4 1024).toNat : Nat) : Int) by decide) a1 len1 cap1 f1 hl1 rfl (show 0 < 1000000 by omega) (HR1.out.below HB4.out) (fun x hx hp => by have := HR1.out.lt x hx hp; have := HO4.out.D; omega)).mono ?_
    rintro e w5 ⟨rfl, ho5, hb5'⟩
    have HO5 := hide ho5
    have HB5 := hide (HB4.out.trans hb5')
    clear ho5 hb5' HO4 HB4
    go_wp2_with fail
    refine (own_write HO5.out 3 (by omega) (show (3 : Int) < (((clamp 4 1024).toNat : Nat) : Int) by decide) a1 len1 cap1 f1 hl1 rfl (show 1 < 1000000 by omega) (HR1.out.below HB5.out) (fun x hx hp => by have := HR1.out.lt x hx hp; have := HO5.out.D; omega)).mono ?_
    rintro e w6 ⟨rfl, ho6, hb6'⟩
    have HO6 := hide ho6
    have HB6 := hide (HB5.out.trans hb6')
    clear ho6 hb6' HO5 HB5
    go_wp2_with fail
    refine (own_crash HO6.out a2 a3 a4 (by omega) (by omega) (by omega)).mono ?_
    rintro e w7 ⟨rfl, ho7, hb7'⟩
    have HO7 := hide ho7
    have HB7 := hide (HB6.out.trans hb7')
    clear ho7 hb7' HO6 HB6
    go_wp2_with fail
    refine (own_read HO7.out 0 (by omega) (show (0 : Int) < (((clamp 4 1024).toNat : Nat) : Int) by decide)).mono ?_
    rintro e w8 ⟨bx, rfl, hx, hlx, ho8, hb8'⟩
    have HO8 := hide ho8
    have HB8 := hide (HB7.out.trans (below_le hb8' HO7.out.1))
    have HX := hide hx
    clear ho8 hb8' HB7 hx
    go_wp2_with fail
    refine (own_read HO8.out 1 (by omega) (show (1 : Int) < (((clamp 4 1024).toNat : Nat) : Int) by decide)).mono ?_
    rintro e w9 ⟨b_y, rfl, hy, hly, ho9, hb9'⟩
    have HO9 := hide ho9
    have HB9 := hide (HB8.out.trans (below_le hb9' HO8.out.1))
    have HX9 := hide (HX.out.below hb9')
    have HY := hide hy
    clear ho9 hb9' HB8 hy HX HO7 HO8
    go_wp2_with fail
    refine (answers_any _).mono ?_
    rintro e w10 ⟨rfl, hb10⟩
    have HB10 := hide (HB9.out.trans (below_le hb10 HO9.out.1))
    have HO10 := hide (HO9.out.later hb10)
    have HX10 := hide (HX9.out.below hb10)
    have HY10 := hide (HY.out.below hb10)
    clear hb10 HB9 HO9 HX9 HY
    go_wp2_with fail
    refine (fill_any a0 len0 cap0 f0 _ hl0 (HR0.out.below HB10.out)).mono ?_
    rintro e w11 ⟨b11, rfl, hf11, hl11, hb11⟩
    have HB11 := hide (HB10.out.trans (below_le hb11 HO10.out.1))
    have HO11 := hide (HO10.out.later hb11)
    have HX11 := hide (HX10.out.below hb11)
    have HY11 := hide (HY10.out.below hb11)
    have HF11 := hide hf11
    clear hb11 HB10 HO10 HX10 HY10 hf11
    go_wp2_with fail
    refine (same_any _ _ 64 64 64 _ _ _ HX11.out HF11.out (fun i hi => ?eq1)).mono ?_
    case eq1 => exact flush_zero f0 len0 f1 len1 a2.toNat a3 a4 i hi
    rintro e w12 ⟨rfl, hb12⟩
    have HB12 := hide (HB11.out.trans (below_le hb12 HO11.out.1))
    have HO12 := hide (HO11.out.later hb12)
    have HY12 := hide (HY11.out.below hb12)
    clear hb12 HB11 HO11 HX11 HY11 HF11
    go_wp2_with fail
    refine (fill_any none 0 0 (fun _ => 0) _ (by omega) (Rw.nil _ _ _)).mono ?_
    rintro e w13 ⟨b13, rfl, hf13, hl13, hb13⟩
    have HB13 := hide (HB12.out.trans (below_le hb13 HO12.out.1))
    have HO13 := hide (HO12.out.later hb13)
    have HY13 := hide (HY12.out.below hb13)
    have HF13 := hide hf13
    clear hb13 HB12 HO12 HY12 hf13
    go_wp2_with fail
    refine (same_any _ _ 64 64 64 _ _ _ HY13.out HF13.out (fun i hi => ?eq2)).mono ?_
    case eq2 => exact flush_one f0 len0 f1 len1 a2.toNat a3 a4 i hi
    rintro e w14 ⟨rfl, hb14⟩
    have HB14 := hide (HB13.out.trans (below_le hb14 HO13.out.1))
    have HO14 := hide (HO13.out.later hb14)
    clear hb14 HB13 HO13 HY13 HF13
    go_wp2_with fail
    refine (own_loose HO14.out).mono ?_
    rintro e w15 ⟨rfl, rfl⟩
    go_wp2
    go_ret
    exact ⟨rfl, HB14.out⟩
end Go.Proofs.Ytcpedecigmmbiaa
