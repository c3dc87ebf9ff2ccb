/- SectorTorn's walk. -/
import Derived.Test.YtcpedecigmmbiaaRef
import Derived.Deep.RegionHeld3
namespace Go.Proofs.Ytcpedecigmmbiaa
open Go.RowKit
set_option linter.unusedVariables false

/-- The disk of this law. -/
def tornDisk (f0 : Nat → Nat) (len0 : Nat) (f1 : Nat → Nat) (len1 keep : Nat) (k : Int) : St :=
  ((((St.made (clamp 1 1024).toNat).spent.write (Int.toNat 0) (fill f0 len0)).spent.flush).spent.write (Int.toNat 0) (fill f1 len1)).crash keep 0 k
theorem torn_low (f0 : Nat → Nat) (len0 : Nat) (f1 : Nat → Nat) (len1 keep k : Nat) (hk : k ≤ 64) (i : Nat) (hi : i < k) : (tornDisk f0 len0 f1 len1 keep (k : Int)).lasts 0 i = fill f1 len1 i := by
  have e : (clamp (k : Int) 64).toNat = k := by unfold clamp; omega
  simp [tornDisk, St.crash, St.landed, St.write, St.flush, St.spent, St.power, St.made, lay, putPage, lands, e, hi]
theorem torn_high (f0 : Nat → Nat) (len0 : Nat) (f1 : Nat → Nat) (len1 keep k : Nat) (hk : k ≤ 64) (i : Nat) (hi : k ≤ i) (h64 : i < 64) : (tornDisk f0 len0 f1 len1 keep (k : Int)).lasts 0 i = fill f0 len0 i := by
  have e : (clamp (k : Int) 64).toNat = k := by unfold clamp; omega
  simp [tornDisk, St.crash, St.landed, St.write, St.flush, St.spent, St.power, St.made, lay, putPage, lands, e, h64, Nat.not_lt.2 hi]
theorem Rw.low {w : World} {b n : Nat} {f : Nat → Nat} (h : Rw w (some ⟨b, 0, none⟩) n f) (k : Nat) (hk : k ≤ n) : Rw w (some ⟨b, 0, none⟩) k f := by
  refine ⟨Nat.le_trans hk h.1, fun hp => ?_⟩
  obtain ⟨b', off', e, hc⟩ := h.2 (by omega)
  exact ⟨b', off', e, fun i hi => hc i (by omega)⟩
theorem Rw.high {w : World} {b n : Nat} {f : Nat → Nat} (h : Rw w (some ⟨b, 0, none⟩) n f) (k : Nat) (hk : k ≤ n) : Rw w (some ⟨b, k, none⟩) (n - k) (fun i => f (k + i)) := by
  refine ⟨Nat.le_trans (Nat.sub_le _ _) h.1, fun hp => ?_⟩
  obtain ⟨b', off', e, hc⟩ := h.2 (by omega)
  injection e with e
  injection e with e1 e2 _
  subst e1 e2
  refine ⟨b, k, rfl, fun i hi => ?_⟩
  have := hc (k + i) (by omega)
  rwa [Nat.zero_add] at this
theorem below_step {u w w' : World} (h : Below u.heap.size u w) (h2 : Below w.heap.size w w') : Below u.heap.size u w' := h.trans (below_le h2 h.size)
theorem below_drew (w : World) : Below w.heap.size w w.drew := ⟨rfl, rfl, rfl, Nat.le_refl _, fun _ _ => rfl⟩

set_option maxRecDepth 100000 in
set_option maxHeartbeats 1600000 in
theorem sectorTorn_some (a0 : Option Addr) (len0 cap0 : Nat) (f0 : Nat → Nat) (a1 : Option Addr) (len1 cap1 : Nat) (f1 : Nat → Nat) (n k : Nat) (a3 : Int) (w : World) (hr0 : Rw w a0 len0 f0) (hr1 : Rw w a1 len1 f1)
    (hn : n < 256) (hk : (n : Int) % 65 = (k : Int)) (hk1 : (k : Int) < 64) (hb3 : 0 ≤ a3 ∧ a3 ≤ 18446744073709551615) (hl0 : len0 ≤ 64) (hl1 : len1 ≤ 64) :
    Calls Try.prog 5 #[.slice a0 len0 cap0, .slice a1 len1 cap1, .int .u8 (n : Int), .int .u64 a3] w fun e w' => e = .returned (.bool true) ∧ Below w.heap.size w w' := by
  have HR0 := hide hr0
  have HR1 := hide hr1
  have hk0 : (0 : Int) ≤ (k : Int) := Int.natCast_nonneg _
  clear hr0 hr1
  go_enter Try.func5, Try.ntmps5
  go_wp2_with fail
  refine (own_new 1 _ (by omega)).mono ?_
  rintro e w1 ⟨D, rfl, ho1, hb1⟩
  have HO1 := hide ho1
  have HB1 := hide hb1
  clear ho1 hb1
  go_wp2_with fail
  refine (own_write HO1.out 0 (by omega) (show (0 : Int) < (((clamp 1 1024).toNat : Nat) : Int) by decide) a0 len0 cap0 f0 hl0 rfl (show 0 < 1000000 by omega) (HR0.out.below HB1.out) (fun x hx hp => by have := HR0.out.lt x hx hp; have := HO1.out.D; omega)).mono ?_
  rintro e w2 ⟨rfl, ho2, hb2'⟩
  have HO2 := hide ho2
  have HB2 := hide (HB1.out.trans hb2')
  clear ho2 hb2' HO1 HB1
  go_wp2_with fail
  refine (own_flush HO2.out rfl).mono ?_
  rintro e w4 ⟨rfl, ho4, hb4'⟩
  have HO4 := hide ho4
  have HB4 := hide (HB2.out.trans hb4')
  clear ho4 hb4' HO2 HB2
  go_wp2_with fail
  refine (own_write HO4.out 0 (by omega) (show (0 : Int) < (((clamp 1 1024).toNat : Nat) : Int) by decide) a1 len1 cap1 f1 hl1 rfl (show 0 < 1000000 by omega) (HR1.out.below HB4.out) (fun x hx hp => by have := HR1.out.lt x hx hp; have := HO4.out.D; omega)).mono ?_
  rintro e w5 ⟨rfl, ho5, hb5'⟩
  have HO5 := hide ho5
  have HB5 := hide (HB4.out.trans hb5')
  clear ho5 hb5' HO4 HB4
  go_wp2_with fail
  refine (own_crash HO5.out a3 0 (k : Int) (by omega) (by omega) (by omega)).mono ?_
  rintro e w7 ⟨rfl, ho7, hb7'⟩
  have HO7 := hide ho7
  have HB7 := hide (HB5.out.trans hb7')
  clear ho7 hb7' HO5 HB5
  go_wp2_with fail
  refine (own_lasts HO7.out 0 (by omega) (show (0 : Int) < (((clamp 1 1024).toNat : Nat) : Int) by decide)).mono ?_
  rintro e w8 ⟨bx, rfl, hx, hlx, ho8, hb8'⟩
  have HB8 := hide (HB7.out.trans (below_le hb8' HO7.out.1))
  have HS := hide ho8.1
  have HX := hide hx
  clear ho8 hb8' HB7 hx HO7
  go_wp2_with fail
  have HR0w := hide (HR0.out.below HB8.out)
  have HR1w := hide (HR1.out.below HB8.out)
  clear HR0 HR1
  generalize hT : ((((St.made (clamp 1 1024).toNat).spent.write (Int.toNat 0) (fill f0 len0)).spent.flush.spent.write (Int.toNat 0) (fill f1 len1)).crash a3.toNat 0 (k : Int)).lasts (Int.toNat 0) = T at HX
  have hlow : Hid (∀ i, i < k → T i = fill f1 len1 i) := fun i hi => by rw [← hT]; exact torn_low f0 len0 f1 len1 a3.toNat k (by omega) i hi
  have hhigh : Hid (∀ i, k ≤ i → i < 64 → T i = fill f0 len0 i) := fun i hi h64 => by rw [← hT]; exact torn_high f0 len0 f1 len1 a3.toNat k (by omega) i hi h64
  clear hT
  have hk2 : k ≤ 64 := by omega
  have hk3 : (k : Int) ≤ 64 := by omega
  go_region_held3 (fun w' => Below w8.heap.size w8 w')
    (first | exact below_drew _ | assumption | exact below_step (by assumption) (by assumption))
    (first
      | (go_at_call 10; refine (answers_any _).mono ?_; rintro e wA ⟨rfl, hbA⟩)
      | (go_at_call_of 18 (Value.slice a1 len1 cap1); refine (fill_any a1 len1 cap1 f1 _ hl1 (HR1w.out.below (by assumption))).mono ?_; rintro e wB ⟨b1, rfl, hf1, hle1, hbB⟩)
      | (go_at_call_of 17 (Value.slice (some ⟨bx, 0, none⟩) k 64); refine (same_any _ _ k 64 64 _ _ _ ((HX.out.below (by assumption)).low k hk2) (hf1.low k hk2) hlow.out).mono ?_; rintro e wC ⟨rfl, hbC⟩)
      | (go_at_call_of 18 (Value.slice a0 len0 cap0); refine (fill_any a0 len0 cap0 f0 _ hl0 (HR0w.out.below (by assumption))).mono ?_; rintro e wE ⟨b0, rfl, hf0, hle0, hbE⟩)
      | (go_at_call 17; refine (same_any _ _ (64 - k) (64 - k) (64 - k) _ _ _ ((HX.out.below (by assumption)).high k hk2) (hf0.high k hk2) (fun i hi => hhigh.out (k + i) (by omega) (by omega))).mono ?_; rintro e wG ⟨rfl, hbG⟩))
  go_wp2
  go_ret
  exact ⟨rfl, HB8.out.trans (below_le (below_step ‹Below w8.heap.size w8 _› (Below.refl _ _)) HS.out)⟩
set_option maxRecDepth 100000 in
set_option maxHeartbeats 1600000 in
theorem sectorTorn_full (a0 : Option Addr) (len0 cap0 : Nat) (f0 : Nat → Nat) (a1 : Option Addr) (len1 cap1 : Nat) (f1 : Nat → Nat) (n : Nat) (a3 : Int) (w : World) (hr0 : Rw w a0 len0 f0) (hr1 : Rw w a1 len1 f1)
    (hn : n < 256) (hk : (n : Int) % 65 = 64) (hb3 : 0 ≤ a3 ∧ a3 ≤ 18446744073709551615) (hl0 : len0 ≤ 64) (hl1 : len1 ≤ 64) :
    Calls Try.prog 5 #[.slice a0 len0 cap0, .slice a1 len1 cap1, .int .u8 (n : Int), .int .u64 a3] w fun e w' => e = .returned (.bool true) ∧ Below w.heap.size w w' := by
  have HR0 := hide hr0
  have HR1 := hide hr1
  clear hr0 hr1
  go_enter Try.func5, Try.ntmps5
  go_wp2_with fail
  refine (own_new 1 _ (by omega)).mono ?_
  rintro e w1 ⟨D, rfl, ho1, hb1⟩
  have HO1 := hide ho1
  have HB1 := hide hb1
  clear ho1 hb1
  go_wp2_with fail
  refine (own_write HO1.out 0 (by omega) (show (0 : Int) < (((clamp 1 1024).toNat : Nat) : Int) by decide) a0 len0 cap0 f0 hl0 rfl (show 0 < 1000000 by omega) (HR0.out.below HB1.out) (fun x hx hp => by have := HR0.out.lt x hx hp; have := HO1.out.D; omega)).mono ?_
  rintro e w2 ⟨rfl, ho2, hb2'⟩
  have HO2 := hide ho2
  have HB2 := hide (HB1.out.trans hb2')
  clear ho2 hb2' HO1 HB1
  go_wp2_with fail
  refine (own_flush HO2.out rfl).mono ?_
  rintro e w4 ⟨rfl, ho4, hb4'⟩
  have HO4 := hide ho4
  have HB4 := hide (HB2.out.trans hb4')
  clear ho4 hb4' HO2 HB2
  go_wp2_with fail
  refine (own_write HO4.out 0 (by omega) (show (0 : Int) < (((clamp 1 1024).toNat : Nat) : Int) by decide) a1 len1 cap1 f1 hl1 rfl (show 0 < 1000000 by omega) (HR1.out.below HB4.out) (fun x hx hp => by have := HR1.out.lt x hx hp; have := HO4.out.D; omega)).mono ?_
  rintro e w5 ⟨rfl, ho5, hb5'⟩
  have HO5 := hide ho5
  have HB5 := hide (HB4.out.trans hb5')
  clear ho5 hb5' HO4 HB4
  go_wp2_with fail
  refine (own_crash HO5.out a3 0 64 (by omega) (by omega) (by omega)).mono ?_
  rintro e w7 ⟨rfl, ho7, hb7'⟩
  have HO7 := hide ho7
  have HB7 := hide (HB5.out.trans hb7')
  clear ho7 hb7' HO5 HB5
  go_wp2_with fail
  refine (own_lasts HO7.out 0 (by omega) (show (0 : Int) < (((clamp 1 1024).toNat : Nat) : Int) by decide)).mono ?_
  rintro e w8 ⟨bx, rfl, hx, hlx, ho8, hb8'⟩
  have HB8 := hide (HB7.out.trans (below_le hb8' HO7.out.1))
  have HS := hide ho8.1
  have HX := hide hx
  clear ho8 hb8' HB7 hx HO7
  go_wp2_with fail
  have HR0w := hide (HR0.out.below HB8.out)
  have HR1w := hide (HR1.out.below HB8.out)
  clear HR0 HR1
  generalize hT : ((((St.made (clamp 1 1024).toNat).spent.write (Int.toNat 0) (fill f0 len0)).spent.flush.spent.write (Int.toNat 0) (fill f1 len1)).crash a3.toNat 0 64).lasts (Int.toNat 0) = T at HX
  have hlow : Hid (∀ i, i < 64 → T i = fill f1 len1 i) := fun i hi => by rw [← hT]; exact torn_low f0 len0 f1 len1 a3.toNat 64 (by omega) i hi
  clear hT
  go_region_held3 (fun w' => Below w8.heap.size w8 w')
    (first | exact below_drew _ | assumption | exact below_step (by assumption) (by assumption))
    (first
      | (go_at_call 10; refine (answers_any _).mono ?_; rintro e wA ⟨rfl, hbA⟩)
      | (go_at_call_of 18 (Value.slice a1 len1 cap1); refine (fill_any a1 len1 cap1 f1 _ hl1 (HR1w.out.below (by assumption))).mono ?_; rintro e wB ⟨b1, rfl, hf1, hle1, hbB⟩)
      | (go_at_call_of 17 (Value.slice (some ⟨bx, 0, none⟩) 64 64); refine (same_any _ _ 64 64 64 _ _ _ (HX.out.below (by assumption)) hf1 hlow.out).mono ?_; rintro e wC ⟨rfl, hbC⟩)
      | (go_at_call_of 18 (Value.slice a0 len0 cap0); refine (fill_any a0 len0 cap0 f0 _ hl0 (HR0w.out.below (by assumption))).mono ?_; rintro e wE ⟨b0, rfl, hf0, hle0, hbE⟩)
      | (go_at_call 17; refine (same_any _ _ 0 0 0 (fun _ => 0) (fun _ => 0) _ (Rw.nil _ _ _) (Rw.nil _ _ _) (fun i hi => absurd hi (by omega))).mono ?_; rintro e wG ⟨rfl, hbG⟩))
  go_wp2
  go_ret
  exact ⟨rfl, HB8.out.trans (below_le (below_step ‹Below w8.heap.size w8 _› (Below.refl _ _)) HS.out)⟩
set_option maxRecDepth 100000 in
set_option maxHeartbeats 800000 in
theorem sectorTorn_long (a0 : Option Addr) (len0 cap0 : Nat) (a1 : Option Addr) (len1 cap1 : Nat) (a2 a3 : Int) (w : World) (hl : 64 < len0 ∨ 64 < len1) :
    Calls Try.prog 5 #[.slice a0 len0 cap0, .slice a1 len1 cap1, .int .u8 a2, .int .u64 a3] w fun e w' => e = .returned (.bool true) ∧ Below w.heap.size w w' := by
  by_cases hl0 : 64 < len0
  · go_enter Try.func5, Try.ntmps5
    go_wp2_with fail
    refine (answers_any _).mono ?_
    rintro e w1 ⟨rfl, hb⟩
    go_wp2
    go_ret
    exact ⟨rfl, hb⟩
  · go_enter Try.func5, Try.ntmps5
    go_wp2_with fail
    refine (answers_any _).mono ?_
    rintro e w1 ⟨rfl, hb⟩
    go_wp2
    go_ret
    exact ⟨rfl, hb⟩
theorem sectorTorn_walk (a0 : Option Addr) (len0 cap0 : Nat) (z0 : List Int) (a1 : Option Addr) (len1 cap1 : Nat) (z1 : List Int) (a2 : Int) (a3 : Int) (w : World) (w0 : IsRow .u8 w a0 len0 cap0 z0) (w1 : IsRow .u8 w a1 len1 cap1 z1) (w2 : (Lit.int .u8 a2).wf = true) (w3 : (Lit.int .u64 a3).wf = true) :
    Calls Try.prog 5 #[.slice a0 len0 cap0, .slice a1 len1 cap1, .int .u8 a2, .int .u64 a3] w fun e w' => e = .returned (.bool true) ∧ Below w.heap.size w w' := by
  obtain ⟨hr0, _⟩ := rw_of w0
  obtain ⟨hr1, _⟩ := rw_of w1
  have hb2 := bounds_u8 w2
  have hb3 := bounds_u64 w3
  by_cases hl : 64 < len0 ∨ 64 < len1
  · exact sectorTorn_long a0 len0 cap0 a1 len1 cap1 a2 a3 w hl
  · obtain ⟨n, rfl⟩ := Int.eq_ofNat_of_zero_le hb2.1
    by_cases hk : n % 65 = 64
    · exact sectorTorn_full a0 len0 cap0 _ a1 len1 cap1 _ n a3 w hr0 hr1 (by omega) (by omega) (by omega) (by omega) (by omega)
    · exact sectorTorn_some a0 len0 cap0 _ a1 len1 cap1 _ n (n % 65) a3 w hr0 hr1 (by omega) (by omega) (by omega) (by omega) (by omega) (by omega)
end Go.Proofs.Ytcpedecigmmbiaa
