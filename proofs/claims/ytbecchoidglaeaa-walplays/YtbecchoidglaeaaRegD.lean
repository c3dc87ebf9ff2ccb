/- The program's Clean. -/
import Derived.Test.YtbecchoidglaeaaGRegC
namespace Go.Proofs.Ytbecchoidglaeaa
open Go.RowKit
set_option maxRecDepth 100000

/-- Clean in plain numbers: k sectors from lo on, what is not 0 is written 0, up to the first error; was there one? -/
def cleans (s : St) (lo : Nat) : Nat → (St × Nat) × Bool
  | 0 => ((s, 0), false)
  | k + 1 => if (cleans s lo k).1.2 = 0 then (if allZ ((cleans s lo k).1.1.now (lo + k)) 64 then cleans s lo k else ((cleans s lo k).1.1.wr (lo + k) (fill (fun _ => 0) 0), true)) else cleans s lo k
/-- Clean of m sectors from lo on. -/
def St.clean (s : St) (lo m : Nat) : St × Nat := if (cleans s lo m).1.2 = 0 then (if (cleans s lo m).2 then (cleans s lo m).1.1.fl else (cleans s lo m).1) else (cleans s lo m).1
theorem cleans_n (s : St) (lo : Nat) : ∀ k, (cleans s lo k).1.1.n = s.n
  | 0 => rfl
  | k + 1 => by
    unfold cleans
    split
    · split
      · exact cleans_n s lo k
      · rw [wr_n, cleans_n s lo k]
    · exact cleans_n s lo k
theorem cleans_lo (s : St) (lo : Nat) : ∀ k, (cleans s lo k).1.1.lo.length ≤ s.lo.length + k
  | 0 => Nat.le_refl _
  | k + 1 => by
    have ih := cleans_lo s lo k
    unfold cleans
    split
    · split
      · omega
      · have := wr_lo (cleans s lo k).1.1 (lo + k) (fill (fun _ => 0) 0); show ((cleans s lo k).1.1.wr (lo + k) (fill (fun _ => 0) 0)).1.lo.length ≤ _; omega
    · omega
theorem cleans_stuck (s : St) (lo : Nat) (k : Nat) (h : (cleans s lo k).1.2 ≠ 0) : ∀ n, k ≤ n → cleans s lo n = cleans s lo k
  | 0, hk => by rw [show k = 0 from by omega]
  | n + 1, hk => by
    by_cases e : k = n + 1
    · rw [e]
    · have ih := cleans_stuck s lo k h n (by omega)
      conv => lhs; unfold cleans
      rw [ih, if_neg h]
theorem cleans_zero {s : St} {lo k : Nat} (h0 : (cleans s lo k).1.2 = 0) (hz : allZ ((cleans s lo k).1.1.now (lo + k)) 64 = true) : cleans s lo (k + 1) = cleans s lo k := by
  conv => lhs; unfold cleans
  rw [if_pos h0, if_pos hz]
theorem cleans_wr {s : St} {lo k : Nat} (h0 : (cleans s lo k).1.2 = 0) (hz : allZ ((cleans s lo k).1.1.now (lo + k)) 64 = false) : cleans s lo (k + 1) = ((cleans s lo k).1.1.wr (lo + k) (fill (fun _ => 0) 0), true) := by
  conv => lhs; unfold cleans
  rw [if_pos h0, if_neg (by rw [hz]; decide)]
/-- Clean is under way. -/
def CleanAt (w wq : World) (D : Nat) (s : St) (F : Nat → Prop) (lo k : Nat) (z : Bool) : Prop :=
  (cleans s lo k).1.2 = 0 ∧ (cleans s lo k).2 = z ∧ ∃ F', Disk wq D (cleans s lo k).1.1 F' ∧ Step F F' w wq
theorem CleanAt.skip {w wq wr : World} {D : Nat} {s : St} {F : Nat → Prop} {lo k : Nat} {z : Bool} (h : CleanAt w wq D s F lo k z) (hz : allZ ((cleans s lo k).1.1.now (lo + k)) 64 = true) (hb : Below wq.heap.size wq wr) : CleanAt w wr D s F lo (k + 1) z := by
  unfold CleanAt
  rw [cleans_zero h.1 hz]
  obtain ⟨h1, h2, F', hd, hst⟩ := h
  exact ⟨h1, h2, F', hd.later hb, hst.trans (Step.of_below hb)⟩
theorem CleanAt.wrote {w wq wr wt : World} {D : Nat} {s : St} {F F1 F2 : Nat → Prop} {lo k : Nat} (h0 : (cleans s lo k).1.2 = 0) (hst : Step F F1 w wq) (hz : allZ ((cleans s lo k).1.1.now (lo + k)) 64 = false) (hb : Below wq.heap.size wq wr)
    (hd : Disk wt D ((cleans s lo k).1.1.wr (lo + k) (fill (fun _ => 0) 0)).1 F2) (hs2 : Step F1 F2 wr wt) (h2 : ((cleans s lo k).1.1.wr (lo + k) (fill (fun _ => 0) 0)).2 = 0) : CleanAt w wt D s F lo (k + 1) true := by
  unfold CleanAt
  rw [cleans_wr h0 hz]
  exact ⟨h2, rfl, F2, hd, hst.trans ((Step.of_below hb).trans hs2)⟩
theorem clean_bad {w wq wr wt : World} {D : Nat} {s : St} {F F1 F2 : Nat → Prop} {lo k m : Nat} (hk : k + 1 ≤ m) (h0 : (cleans s lo k).1.2 = 0) (hst : Step F F1 w wq) (hz : allZ ((cleans s lo k).1.1.now (lo + k)) 64 = false) (hb : Below wq.heap.size wq wr)
    (hd : Disk wt D ((cleans s lo k).1.1.wr (lo + k) (fill (fun _ => 0) 0)).1 F2) (hs2 : Step F1 F2 wr wt) (h2 : ((cleans s lo k).1.1.wr (lo + k) (fill (fun _ => 0) 0)).2 = 4) :
    Ending.returned (.int .i64 4) = .returned (.int .i64 ((s.clean lo m).2 : Int)) ∧ ∃ F', Disk wt D (s.clean lo m).1 F' ∧ Step F F' w wt := by
  have e := cleans_wr h0 hz
  have e2 : cleans s lo m = cleans s lo (k + 1) := cleans_stuck s lo (k + 1) (by rw [e]; show ((cleans s lo k).1.1.wr (lo + k) (fill (fun _ => 0) 0)).2 ≠ 0; omega) m hk
  have e3 : s.clean lo m = (cleans s lo k).1.1.wr (lo + k) (fill (fun _ => 0) 0) := by
    unfold St.clean
    rw [e2, e]
    rw [if_neg (by show ((cleans s lo k).1.1.wr (lo + k) (fill (fun _ => 0) 0)).2 ≠ 0; omega)]
  rw [e3]
  exact ⟨by rw [h2]; rfl, F2, hd, hst.trans ((Step.of_below hb).trans hs2)⟩
theorem clean_done0 {s : St} {lo m : Nat} (h0 : (cleans s lo m).1.2 = 0) (hz : (cleans s lo m).2 = false) : s.clean lo m = (cleans s lo m).1 := by unfold St.clean; rw [if_pos h0, hz]; rfl
theorem clean_done1 {s : St} {lo m : Nat} (h0 : (cleans s lo m).1.2 = 0) (hz : (cleans s lo m).2 = true) : s.clean lo m = (cleans s lo m).1.1.fl := by unfold St.clean; rw [if_pos h0, hz]; rfl
set_option maxRecDepth 100000 in
set_option maxHeartbeats 3200000 in
theorem clean_any {w : World} {D : Nat} {s : St} {F : Nat → Prop} (h : Disk w D s F) (at_ e : Int) (lo m : Nat) (hlo : (lo : Int) = max at_ 0) (hm : m = (min e (s.n : Int) - (lo : Int)).toNat) (hs : s.n ≤ 1024) (hll : s.lo.length < 900000) :
    Calls Try.prog 36 #[.pointer (some ⟨D, 0, none⟩), .int .i64 at_, .int .i64 e] w fun r w' => r = .returned (.int .i64 ((s.clean lo m).2 : Int)) ∧ ∃ F', Disk w' D (s.clean lo m).1 F' ∧ Step F F' w w' := by
  have H := hide h
  have HLO := hide hlo
  have HM := hide hm
  have HLL := hide hll
  clear h hll
  by_cases he : e ≤ (s.n : Int)
  · by_cases h0 : at_ < 0
    · have hl0 : lo = 0 := by omega
      have HL0 := hide hl0
      clear hl0
      have HX : Hid (m = (e - (lo : Int)).toNat) := by show m = _; omega
      have hE : e ≤ 1024 := by omega
      clear hlo hm
      go_enter Try.func36, Try.ntmps36
      go_wp2_with fail
      refine (disk_len H.out).mono ?_
      rintro r w1 ⟨rfl, rfl⟩
      go_wp2
      go_loopw [7, 8] (fun zv av wq => ∃ (k x : Nat) (z : Bool), Hid (x = lo + k ∧ k ≤ m) ∧ av = .int .i64 (x : Int) ∧ zv = .bool z ∧ Hid (CleanAt w1 wq D s F lo k z)) (fun _ av _ => lo + m - (intOf av).toNat)
      case atStart => exact ⟨0, 0, false, ⟨by have := HL0.out; omega, by omega⟩, rfl, rfl, rfl, rfl, F, H.out, Step.refl _ _⟩
      case round =>
        obtain ⟨k, x, z, HK, rfl, rfl, hp⟩ := hrel
        obtain ⟨F1, hd, hst⟩ := hp.out.2.2
        have HD := hide hd
        have HST := hide hst
        have HN := hide (cleans_n s lo k)
        have HL := hide (cleans_lo s lo k)
        have HOK := hide hp.out.1
        clear hd hst
        by_cases hlt : (x : Int) < e
        · have hkm : k < m := by have := HK.out; have := HX.out; omega
          have hxn : x < s.n := by omega
          obtain rfl : x = lo + k := HK.out.1
          go_wp2_with fail
          refine (disk_read HD.out ((lo + k : Nat) : Int) (by omega) (by have := HN.out; omega)).mono ?_
          rintro r w2 ⟨b, rfl, hr, hle, hb2⟩
          rw [Int.toNat_natCast] at hr
          have HR := hide hr
          have HB2 := hide hb2
          clear hr hb2
          go_wp2_with fail
          refine (isZero_any _ 64 64 _ _ HR.out).mono ?_
          cases hz : allZ ((cleans s lo k).1.1.now (lo + k)) 64 with
          | true =>
            rintro r w3 ⟨rfl, rfl⟩
            have HZ := hide hz
            clear hz
            go_wp2
            exact ⟨⟨k + 1, lo + k + 1, z, ⟨by omega, by omega⟩, by go_num, rfl, hp.out.skip HZ.out HB2.out⟩, by simp [intOf]; omega⟩
          | false =>
            rintro r w3 ⟨rfl, rfl⟩
            have HZ := hide hz
            clear hz
            go_wp2_with fail
            refine (disk_wr (HD.out.later HB2.out) (lo + k) (by have := HN.out; omega) none 0 0 (fun _ => 0) (by omega) (by have := HL.out; have := HLL.out; omega) (Rw.nil _ _ _) (fun x hx => by cases hx)).mono ?_
            rintro r w4 ⟨rfl, F2, hd2, hst2⟩
            have HD2 := hide hd2
            have HST2 := hide hst2
            clear hd2 hst2
            rcases wr_cases (cleans s lo k).1.1 (lo + k) (fill (fun _ => 0) 0) with hw | hw
            · have HW := hide hw
              rw [hw]
              clear hw
              go_wp2
              exact ⟨⟨k + 1, lo + k + 1, true, ⟨by omega, by omega⟩, by go_num, rfl, CleanAt.wrote HOK.out HST.out HZ.out HB2.out HD2.out HST2.out HW.out⟩, by simp [intOf]; omega⟩
            · have HW := hide hw
              rw [hw]
              clear hw
              go_wp2
              go_ret
              exact clean_bad (by omega) HOK.out HST.out HZ.out HB2.out HD2.out HST2.out HW.out
        · obtain rfl : k = m := by have := HK.out; have := HX.out; omega
          have hzz := hp.out.2.1
          cases z with
          | false =>
            have HZ := hide hzz
            clear hzz
            go_wp2
            go_ret
            rw [clean_done0 HOK.out HZ.out]
            exact ⟨by rw [HOK.out]; rfl, F1, HD.out, HST.out⟩
          | true =>
            have HZ := hide hzz
            clear hzz
            go_wp2_with fail
            refine (disk_fl HD.out).mono ?_
            rintro r w2 ⟨rfl, F2, hd2, hst2⟩
            have HD2 := hide hd2
            have HST2 := hide hst2
            clear hd2 hst2
            go_wp2
            go_ret
            rw [clean_done1 HOK.out HZ.out]
            exact ⟨rfl, F2, HD2.out, HST.out.trans HST2.out⟩
    · obtain ⟨a, rfl⟩ := Int.eq_ofNat_of_zero_le (show 0 ≤ at_ by omega)
      obtain rfl : lo = a := by omega
      have HX : Hid (m = (e - (lo : Int)).toNat) := by show m = _; omega
      have hE : e ≤ 1024 := by omega
      clear hlo hm
      go_enter Try.func36, Try.ntmps36
      go_wp2_with fail
      refine (disk_len H.out).mono ?_
      rintro r w1 ⟨rfl, rfl⟩
      go_wp2
      go_loopw [7, 8] (fun zv av wq => ∃ (k x : Nat) (z : Bool), Hid (x = lo + k ∧ k ≤ m) ∧ av = .int .i64 (x : Int) ∧ zv = .bool z ∧ Hid (CleanAt w1 wq D s F lo k z)) (fun _ av _ => lo + m - (intOf av).toNat)
      case atStart => exact ⟨0, lo, false, ⟨by omega, by omega⟩, rfl, rfl, rfl, rfl, F, H.out, Step.refl _ _⟩
      case round =>
        obtain ⟨k, x, z, HK, rfl, rfl, hp⟩ := hrel
        obtain ⟨F1, hd, hst⟩ := hp.out.2.2
        have HD := hide hd
        have HST := hide hst
        have HN := hide (cleans_n s lo k)
        have HL := hide (cleans_lo s lo k)
        have HOK := hide hp.out.1
        clear hd hst
        by_cases hlt : (x : Int) < e
        · have hkm : k < m := by have := HK.out; have := HX.out; omega
          have hxn : x < s.n := by omega
          obtain rfl : x = lo + k := HK.out.1
          go_wp2_with fail
          refine (disk_read HD.out ((lo + k : Nat) : Int) (by omega) (by have := HN.out; omega)).mono ?_
          rintro r w2 ⟨b, rfl, hr, hle, hb2⟩
          rw [Int.toNat_natCast] at hr
          have HR := hide hr
          have HB2 := hide hb2
          clear hr hb2
          go_wp2_with fail
          refine (isZero_any _ 64 64 _ _ HR.out).mono ?_
          cases hz : allZ ((cleans s lo k).1.1.now (lo + k)) 64 with
          | true =>
            rintro r w3 ⟨rfl, rfl⟩
            have HZ := hide hz
            clear hz
            go_wp2
            exact ⟨⟨k + 1, lo + k + 1, z, ⟨by omega, by omega⟩, by go_num, rfl, hp.out.skip HZ.out HB2.out⟩, by simp [intOf]; omega⟩
          | false =>
            rintro r w3 ⟨rfl, rfl⟩
            have HZ := hide hz
            clear hz
            go_wp2_with fail
            refine (disk_wr (HD.out.later HB2.out) (lo + k) (by have := HN.out; omega) none 0 0 (fun _ => 0) (by omega) (by have := HL.out; have := HLL.out; omega) (Rw.nil _ _ _) (fun x hx => by cases hx)).mono ?_
            rintro r w4 ⟨rfl, F2, hd2, hst2⟩
            have HD2 := hide hd2
            have HST2 := hide hst2
            clear hd2 hst2
            rcases wr_cases (cleans s lo k).1.1 (lo + k) (fill (fun _ => 0) 0) with hw | hw
            · have HW := hide hw
              rw [hw]
              clear hw
              go_wp2
              exact ⟨⟨k + 1, lo + k + 1, true, ⟨by omega, by omega⟩, by go_num, rfl, CleanAt.wrote HOK.out HST.out HZ.out HB2.out HD2.out HST2.out HW.out⟩, by simp [intOf]; omega⟩
            · have HW := hide hw
              rw [hw]
              clear hw
              go_wp2
              go_ret
              exact clean_bad (by omega) HOK.out HST.out HZ.out HB2.out HD2.out HST2.out HW.out
        · obtain rfl : k = m := by have := HK.out; have := HX.out; omega
          have hzz := hp.out.2.1
          cases z with
          | false =>
            have HZ := hide hzz
            clear hzz
            go_wp2
            go_ret
            rw [clean_done0 HOK.out HZ.out]
            exact ⟨by rw [HOK.out]; rfl, F1, HD.out, HST.out⟩
          | true =>
            have HZ := hide hzz
            clear hzz
            go_wp2_with fail
            refine (disk_fl HD.out).mono ?_
            rintro r w2 ⟨rfl, F2, hd2, hst2⟩
            have HD2 := hide hd2
            have HST2 := hide hst2
            clear hd2 hst2
            go_wp2
            go_ret
            rw [clean_done1 HOK.out HZ.out]
            exact ⟨rfl, F2, HD2.out, HST.out.trans HST2.out⟩
  · by_cases h0 : at_ < 0
    · have hl0 : lo = 0 := by omega
      have HL0 := hide hl0
      clear hl0
      have HX : Hid (m = ((s.n : Int) - (lo : Int)).toNat) := by show m = _; omega
      have hE : (s.n : Int) ≤ 1024 := by omega
      clear hlo hm
      go_enter Try.func36, Try.ntmps36
      go_wp2_with fail
      refine (disk_len H.out).mono ?_
      rintro r w1 ⟨rfl, rfl⟩
      go_wp2
      go_loopw [7, 8] (fun zv av wq => ∃ (k x : Nat) (z : Bool), Hid (x = lo + k ∧ k ≤ m) ∧ av = .int .i64 (x : Int) ∧ zv = .bool z ∧ Hid (CleanAt w1 wq D s F lo k z)) (fun _ av _ => lo + m - (intOf av).toNat)
      case atStart => exact ⟨0, 0, false, ⟨by have := HL0.out; omega, by omega⟩, rfl, rfl, rfl, rfl, F, H.out, Step.refl _ _⟩
      case round =>
        obtain ⟨k, x, z, HK, rfl, rfl, hp⟩ := hrel
        obtain ⟨F1, hd, hst⟩ := hp.out.2.2
        have HD := hide hd
        have HST := hide hst
        have HN := hide (cleans_n s lo k)
        have HL := hide (cleans_lo s lo k)
        have HOK := hide hp.out.1
        clear hd hst
        by_cases hlt : (x : Int) < (s.n : Int)
        · have hkm : k < m := by have := HK.out; have := HX.out; omega
          have hxn : x < s.n := by omega
          obtain rfl : x = lo + k := HK.out.1
          go_wp2_with fail
          refine (disk_read HD.out ((lo + k : Nat) : Int) (by omega) (by have := HN.out; omega)).mono ?_
          rintro r w2 ⟨b, rfl, hr, hle, hb2⟩
          rw [Int.toNat_natCast] at hr
          have HR := hide hr
          have HB2 := hide hb2
          clear hr hb2
          go_wp2_with fail
          refine (isZero_any _ 64 64 _ _ HR.out).mono ?_
          cases hz : allZ ((cleans s lo k).1.1.now (lo + k)) 64 with
          | true =>
            rintro r w3 ⟨rfl, rfl⟩
            have HZ := hide hz
            clear hz
            go_wp2
            exact ⟨⟨k + 1, lo + k + 1, z, ⟨by omega, by omega⟩, by go_num, rfl, hp.out.skip HZ.out HB2.out⟩, by simp [intOf]; omega⟩
          | false =>
            rintro r w3 ⟨rfl, rfl⟩
            have HZ := hide hz
            clear hz
            go_wp2_with fail
            refine (disk_wr (HD.out.later HB2.out) (lo + k) (by have := HN.out; omega) none 0 0 (fun _ => 0) (by omega) (by have := HL.out; have := HLL.out; omega) (Rw.nil _ _ _) (fun x hx => by cases hx)).mono ?_
            rintro r w4 ⟨rfl, F2, hd2, hst2⟩
            have HD2 := hide hd2
            have HST2 := hide hst2
            clear hd2 hst2
            rcases wr_cases (cleans s lo k).1.1 (lo + k) (fill (fun _ => 0) 0) with hw | hw
            · have HW := hide hw
              rw [hw]
              clear hw
              go_wp2
              exact ⟨⟨k + 1, lo + k + 1, true, ⟨by omega, by omega⟩, by go_num, rfl, CleanAt.wrote HOK.out HST.out HZ.out HB2.out HD2.out HST2.out HW.out⟩, by simp [intOf]; omega⟩
            · have HW := hide hw
              rw [hw]
              clear hw
              go_wp2
              go_ret
              exact clean_bad (by omega) HOK.out HST.out HZ.out HB2.out HD2.out HST2.out HW.out
        · obtain rfl : k = m := by have := HK.out; have := HX.out; omega
          have hzz := hp.out.2.1
          cases z with
          | false =>
            have HZ := hide hzz
            clear hzz
            go_wp2
            go_ret
            rw [clean_done0 HOK.out HZ.out]
            exact ⟨by rw [HOK.out]; rfl, F1, HD.out, HST.out⟩
          | true =>
            have HZ := hide hzz
            clear hzz
            go_wp2_with fail
            refine (disk_fl HD.out).mono ?_
            rintro r w2 ⟨rfl, F2, hd2, hst2⟩
            have HD2 := hide hd2
            have HST2 := hide hst2
            clear hd2 hst2
            go_wp2
            go_ret
            rw [clean_done1 HOK.out HZ.out]
            exact ⟨rfl, F2, HD2.out, HST.out.trans HST2.out⟩
    · obtain ⟨a, rfl⟩ := Int.eq_ofNat_of_zero_le (show 0 ≤ at_ by omega)
      obtain rfl : lo = a := by omega
      have HX : Hid (m = ((s.n : Int) - (lo : Int)).toNat) := by show m = _; omega
      have hE : (s.n : Int) ≤ 1024 := by omega
      clear hlo hm
      go_enter Try.func36, Try.ntmps36
      go_wp2_with fail
      refine (disk_len H.out).mono ?_
      rintro r w1 ⟨rfl, rfl⟩
      go_wp2
      go_loopw [7, 8] (fun zv av wq => ∃ (k x : Nat) (z : Bool), Hid (x = lo + k ∧ k ≤ m) ∧ av = .int .i64 (x : Int) ∧ zv = .bool z ∧ Hid (CleanAt w1 wq D s F lo k z)) (fun _ av _ => lo + m - (intOf av).toNat)
      case atStart => exact ⟨0, lo, false, ⟨by omega, by omega⟩, rfl, rfl, rfl, rfl, F, H.out, Step.refl _ _⟩
      case round =>
        obtain ⟨k, x, z, HK, rfl, rfl, hp⟩ := hrel
        obtain ⟨F1, hd, hst⟩ := hp.out.2.2
        have HD := hide hd
        have HST := hide hst
        have HN := hide (cleans_n s lo k)
        have HL := hide (cleans_lo s lo k)
        have HOK := hide hp.out.1
        clear hd hst
        by_cases hlt : (x : Int) < (s.n : Int)
        · have hkm : k < m := by have := HK.out; have := HX.out; omega
          have hxn : x < s.n := by omega
          obtain rfl : x = lo + k := HK.out.1
          go_wp2_with fail
          refine (disk_read HD.out ((lo + k : Nat) : Int) (by omega) (by have := HN.out; omega)).mono ?_
          rintro r w2 ⟨b, rfl, hr, hle, hb2⟩
          rw [Int.toNat_natCast] at hr
          have HR := hide hr
          have HB2 := hide hb2
          clear hr hb2
          go_wp2_with fail
          refine (isZero_any _ 64 64 _ _ HR.out).mono ?_
          cases hz : allZ ((cleans s lo k).1.1.now (lo + k)) 64 with
          | true =>
            rintro r w3 ⟨rfl, rfl⟩
            have HZ := hide hz
            clear hz
            go_wp2
            exact ⟨⟨k + 1, lo + k + 1, z, ⟨by omega, by omega⟩, by go_num, rfl, hp.out.skip HZ.out HB2.out⟩, by simp [intOf]; omega⟩
          | false =>
            rintro r w3 ⟨rfl, rfl⟩
            have HZ := hide hz
            clear hz
            go_wp2_with fail
            refine (disk_wr (HD.out.later HB2.out) (lo + k) (by have := HN.out; omega) none 0 0 (fun _ => 0) (by omega) (by have := HL.out; have := HLL.out; omega) (Rw.nil _ _ _) (fun x hx => by cases hx)).mono ?_
            rintro r w4 ⟨rfl, F2, hd2, hst2⟩
            have HD2 := hide hd2
            have HST2 := hide hst2
            clear hd2 hst2
            rcases wr_cases (cleans s lo k).1.1 (lo + k) (fill (fun _ => 0) 0) with hw | hw
            · have HW := hide hw
              rw [hw]
              clear hw
              go_wp2
              exact ⟨⟨k + 1, lo + k + 1, true, ⟨by omega, by omega⟩, by go_num, rfl, CleanAt.wrote HOK.out HST.out HZ.out HB2.out HD2.out HST2.out HW.out⟩, by simp [intOf]; omega⟩
            · have HW := hide hw
              rw [hw]
              clear hw
              go_wp2
              go_ret
              exact clean_bad (by omega) HOK.out HST.out HZ.out HB2.out HD2.out HST2.out HW.out
        · obtain rfl : k = m := by have := HK.out; have := HX.out; omega
          have hzz := hp.out.2.1
          cases z with
          | false =>
            have HZ := hide hzz
            clear hzz
            go_wp2
            go_ret
            rw [clean_done0 HOK.out HZ.out]
            exact ⟨by rw [HOK.out]; rfl, F1, HD.out, HST.out⟩
          | true =>
            have HZ := hide hzz
            clear hzz
            go_wp2_with fail
            refine (disk_fl HD.out).mono ?_
            rintro r w2 ⟨rfl, F2, hd2, hst2⟩
            have HD2 := hide hd2
            have HST2 := hide hst2
            clear hd2 hst2
            go_wp2
            go_ret
            rw [clean_done1 HOK.out HZ.out]
            exact ⟨rfl, F2, HD2.out, HST.out.trans HST2.out⟩
end Go.Proofs.Ytbecchoidglaeaa
