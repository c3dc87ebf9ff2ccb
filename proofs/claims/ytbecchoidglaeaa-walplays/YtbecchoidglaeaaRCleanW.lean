/- The document's Clean. -/
import Derived.Test.YtbecchoidglaeaaGRScan
import Derived.Test.YtbecchoidglaeaaRegD
namespace Go.Proofs.Ytbecchoidglaeaa
open Go.RowKit
set_option maxRecDepth 100000

set_option maxHeartbeats 400000 in
theorem rscan_bad {w : World} {V : Nat} (at_ e g : Int) (h : at_ < 0) :
    Calls Try.prog 45 #[.pointer (some ⟨V, 0, none⟩), .int .i64 at_, .int .i64 e, .int .i64 g] w fun r w' => r = .returned (.tuple #[.slice none 0 0, .int .i64 at_]) ∧ w' = w := by
  go_enter Try.func45, Try.ntmps45
  go_wp2
  go_loopw [1, 10] (fun av vv wq => av = .int .i64 at_ ∧ vv = .slice none 0 0 ∧ wq = w) (fun _ _ _ => 0)
  case atStart => exact ⟨rfl, rfl, rfl⟩
  case round =>
    obtain ⟨rfl, rfl, rfl⟩ := hrel
    go_wp2
    go_ret2
    exact ⟨rfl, rfl⟩
theorem made_cleans {s : St} (h : Made s) (lo : Nat) : ∀ k, Made (cleans s lo k).1.1
  | 0 => h
  | k + 1 => by
    unfold cleans
    split
    · split
      · exact made_cleans h lo k
      · exact made_wr (made_cleans h lo k) _ _
    · exact made_cleans h lo k
/-- Read, the page told by the world w0 of an earlier moment. -/
theorem rdisk_page0 {w0 w : World} {V : Nat} {s : St} {W P : Nat → Prop} (h : RDisk w0 V s W P) (hb : Below w0.heap.size w0 w) (hm : Made s) (i : Nat) (hi : i < s.n) :
    Calls Try.prog 38 #[.pointer (some ⟨V, 0, none⟩), .int .i64 (i : Int)] w fun e w' => ∃ b off cap, e = .returned (.slice (some ⟨b, off, none⟩) 64 cap) ∧ 64 ≤ cap ∧ Rw w0 (some ⟨b, off, none⟩) 64 (s.now i) ∧ w' = w := by
  have hlt := fun b hb => h.lt b hb
  have h2 := h.later hb
  obtain ⟨sv, lv, pgs, lps, h2, rfl⟩ := h2
  refine (rread_in h2 i hi).mono ?_
  rintro e w' ⟨v, rfl, hp, rfl⟩
  obtain ⟨b, off, cap, rfl, hc, hpb, hf⟩ := hp
  refine ⟨b, off, cap, rfl, hc, ⟨by unfold maxLen; omega, fun _ => ⟨b, off, rfl, fun j hj => ?_⟩⟩, rfl⟩
  rw [show s.now = _ from hm, ← (Keeps.of_below hb (fun _ => False)).cell _ (hlt b (.inr hpb)) (fun h => h)]
  exact hf j hj
theorem eqB_zero (f : Nat → Nat) (n : Nat) : eqB f (fun _ => 0) n = allZ f n := rfl
theorem zero_row (w : World) : ∀ j, j < 64 → (w.alloc (.cells (valsOf (fun _ => 0) 64).toArray 5)).cell? ⟨w.heap.size, 0 + j, none⟩ = some (.int .u8 ((0 : Nat) : Int)) := by
  intro j hj
  rw [World.cell?_alloc_mark]
  simp [valsOf, hj]
/-- Clean is under way. -/
def RCleanAt (w wq : World) (V : Nat) (s : St) (W P : Nat → Prop) (lo k : Nat) (z : Bool) : Prop :=
  (cleans s lo k).1.2 = 0 ∧ (cleans s lo k).2 = z ∧ ∃ W' P', RDisk wq V (cleans s lo k).1.1 W' P' ∧ RStep W P W' P' w wq
theorem RCleanAt.skip {w wq wr : World} {V : Nat} {s : St} {W P : Nat → Prop} {lo k : Nat} {z : Bool} (h : RCleanAt w wq V s W P lo k z) (hz : allZ ((cleans s lo k).1.1.now (lo + k)) 64 = true) (hb : Below wq.heap.size wq wr) : RCleanAt w wr V s W P lo (k + 1) z := by
  unfold RCleanAt
  rw [cleans_zero h.1 hz]
  obtain ⟨h1, h2, W', P', hd, hst⟩ := h
  exact ⟨h1, h2, W', P', hd.later hb, hst.trans (RStep.of_below hb)⟩
theorem RCleanAt.wrote {w wq wr wt : World} {V : Nat} {s : St} {W P W1 P1 W2 P2 : Nat → Prop} {lo k : Nat} (h0 : (cleans s lo k).1.2 = 0) (hst : RStep W P W1 P1 w wq) (hz : allZ ((cleans s lo k).1.1.now (lo + k)) 64 = false) (hb : Below wq.heap.size wq wr)
    (hd : RDisk wt V ((cleans s lo k).1.1.wr (lo + k) (fill (fun _ => 0) 0)).1 W2 P2) (hs2 : RStep W1 P1 W2 P2 wr wt) (h2 : ((cleans s lo k).1.1.wr (lo + k) (fill (fun _ => 0) 0)).2 = 0) : RCleanAt w wt V s W P lo (k + 1) true := by
  unfold RCleanAt
  rw [cleans_wr h0 hz]
  exact ⟨h2, rfl, W2, P2, hd, hst.trans ((RStep.of_below hb).trans hs2)⟩
theorem rclean_bad {w wq wr wt : World} {V : Nat} {s : St} {W P W1 P1 W2 P2 : Nat → Prop} {lo k m : Nat} (hk : k + 1 ≤ m) (h0 : (cleans s lo k).1.2 = 0) (hst : RStep W P W1 P1 w wq) (hz : allZ ((cleans s lo k).1.1.now (lo + k)) 64 = false) (hb : Below wq.heap.size wq wr)
    (hd : RDisk wt V ((cleans s lo k).1.1.wr (lo + k) (fill (fun _ => 0) 0)).1 W2 P2) (hs2 : RStep W1 P1 W2 P2 wr wt) (h2 : ((cleans s lo k).1.1.wr (lo + k) (fill (fun _ => 0) 0)).2 = 4) :
    Ending.returned (.int .i64 4) = .returned (.int .i64 ((s.clean lo m).2 : Int)) ∧ ∃ W' P', RDisk wt V (s.clean lo m).1 W' P' ∧ RStep W P W' P' w wt := by
  have e := cleans_wr h0 hz
  have e2 : cleans s lo m = cleans s lo (k + 1) := cleans_stuck s lo (k + 1) (by rw [e]; show ((cleans s lo k).1.1.wr (lo + k) (fill (fun _ => 0) 0)).2 ≠ 0; omega) m hk
  have e3 : s.clean lo m = (cleans s lo k).1.1.wr (lo + k) (fill (fun _ => 0) 0) := by
    unfold St.clean
    rw [e2, e]
    rw [if_neg (by show ((cleans s lo k).1.1.wr (lo + k) (fill (fun _ => 0) 0)).2 ≠ 0; omega)]
  rw [e3]
  exact ⟨by rw [h2]; rfl, W2, P2, hd, hst.trans ((RStep.of_below hb).trans hs2)⟩
set_option maxRecDepth 100000 in
set_option maxHeartbeats 3200000 in
theorem rclean_neg {w : World} {V : Nat} {s : St} {W P : Nat → Prop} (h : RDisk w V s W P) (hmd : Made s) (at_ e : Int) (lo m : Nat) (hlo : (lo : Int) = max at_ 0) (hm : m = (min e (s.n : Int) - (lo : Int)).toNat) (hs : s.n ≤ 1024) (hll : s.lo.length < 900000) (h0 : at_ < 0) :
    Calls Try.prog 42 #[.pointer (some ⟨V, 0, none⟩), .int .i64 at_, .int .i64 e] w fun r w' => r = .returned (.int .i64 ((s.clean lo m).2 : Int)) ∧ ∃ W' P', RDisk w' V (s.clean lo m).1 W' P' ∧ RStep W P W' P' w w' := by
  have H := hide h
  have HMD := hide hmd
  have HX : Hid (m = (min e (s.n : Int) - (lo : Int)).toNat) := hm
  have HLL := hide hll
  have hmk : ∀ w, (Instr.makeSlice 37 (.int .i64 64) (.int .i64 64)).run Try.prog w = .ok (.slice (some ⟨w.heap.size, 0, none⟩) 64 64) (w.alloc (.cells (valsOf (fun _ => 0) 64).toArray 5)) := fun w => run_make_bytes 64 (by omega) w
  have hl0 : lo = 0 := by omega
  have HL0 := hide hl0
  clear hl0
  clear h hmd hm hll hlo
  go_enter Try.func42, Try.ntmps42
  go_wp2
  go_loopw [1, 7] (fun av zv wq => ∃ (k x : Nat) (z : Bool), Hid (x = lo + k ∧ k ≤ m) ∧ av = .int .i64 (x : Int) ∧ zv = .bool z ∧ Hid (RCleanAt w wq V s W P lo k z)) (fun av _ _ => lo + m - (intOf av).toNat)
  case atStart => exact ⟨0, 0, false, ⟨by have := HL0.out; omega, by omega⟩, rfl, rfl, rfl, rfl, W, P, H.out, Keeps.refl _ _, fun _ h => .inl h, fun _ h => .inl h⟩
  case round =>
    obtain ⟨k, x, z, HK, rfl, rfl, hp⟩ := hrel
    obtain ⟨W1, P1, hd, hst⟩ := hp.out.2.2
    have HD := hide hd
    have HST := hide hst
    have HN := hide (cleans_n s lo k)
    have HL := hide (cleans_lo s lo k)
    have HOK := hide hp.out.1
    have HMK := hide (made_cleans HMD.out lo k)
    clear hd hst
    go_wp2_with fail
    refine (rend_any HD.out e).mono ?_
    rintro r w1 ⟨rfl, rfl⟩
    rw [HN.out]
    have hmn : min e (s.n : Int) ≤ 1024 := by omega
    have hmn2 : min e (s.n : Int) ≤ (s.n : Int) := by omega
    generalize min e (s.n : Int) = E at *
    by_cases hlt : (x : Int) < E
    · have hkm : k < m := by have := HK.out; have := HX.out; omega
      have hxn : lo + k < (cleans s lo k).1.1.n := by rw [HN.out]; have := HK.out; omega
      obtain rfl : x = lo + k := HK.out.1
      have HXN := hide hxn
      clear hxn
      go_wp2_with fail
      have hxb : Below w1.heap.size w1 w1 := Below.refl _ _
      go_region_held3 (fun w' => Below w1.heap.size w1 w')
        (first
          | assumption
          | exact below_drew1 (Below.refl _ _)
          | exact (Below.refl _ _).alloc (Nat.le_refl _) _
          | exact below_drew1 ((Below.refl _ _).alloc (Nat.le_refl _) _)
          | exact (below_drew1 (Below.refl _ _)).alloc (Nat.le_refl _) _
          | exact below_drew1 ((below_drew1 (Below.refl _ _)).alloc (Nat.le_refl _) _)
          | exact below_drewN ((Below.refl _ _).alloc (Nat.le_refl _) _) _
          | exact below_drewN (below_drew1 ((Below.refl _ _).alloc (Nat.le_refl _) _)) _
          | exact below_drewN (Below.refl _ _) _)
        (first
          | (go_at_call 38; refine (rdisk_page0 HD.out (by assumption) HMK.out (lo + k) HXN.out).mono ?_; rintro e wA ⟨bp, op, cp, rfl, hcp, hpc, rfl⟩)
          | (go_at_call 39; refine (sameB_some bp op w1.heap.size 0 64 cp 64 ((cleans s lo k).1.1.now (lo + k)) (fun _ => 0) _ (by omega) (rw_cells (hpc.below (by first | assumption | exact below_drew1 ((Below.refl _ _).alloc (Nat.le_refl _) _)))) (fun j hj => by simp only [World.cell?_drew]; exact zero_row w1 j hj)).mono ?_; rintro e wB ⟨rfl, mB, rfl⟩))
      all_goals rw [eqB_zero]
      all_goals
        cases hz : allZ ((cleans s lo k).1.1.now (lo + k)) 64 with
        | true =>
          have HZ := hide hz
          clear hz
          go_wp2
          exact ⟨⟨k + 1, lo + k + 1, z, ⟨by omega, by omega⟩, by go_num, rfl, hp.out.skip HZ.out (by first | assumption | exact below_drewN ((Below.refl _ _).alloc (Nat.le_refl _) _) _ | exact below_drewN (below_drew1 ((Below.refl _ _).alloc (Nat.le_refl _) _)) _)⟩, by simp [intOf]; omega⟩
        | false =>
          have HZ := hide hz
          clear hz
          go_wp2_with fail
          refine (rdisk_wr (HD.out.later (by first | assumption | exact below_drewN ((Below.refl _ _).alloc (Nat.le_refl _) _) _ | exact below_drewN (below_drew1 ((Below.refl _ _).alloc (Nat.le_refl _) _)) _)) ((lo + k : Nat) : Int) (by omega) (by have := HXN.out; omega) none 0 0 (fun _ => 0) (by omega) (by have := HL.out; have := HLL.out; omega) (Rw.nil _ _ _) (fun x hx => by cases hx)).mono ?_
          rw [Int.toNat_natCast]
          rintro r w4 ⟨rfl, W2, P2, hd2, hst2⟩
          have HD2 := hide hd2
          have HST2 := hide hst2
          clear hd2 hst2
          rcases wr_cases (cleans s lo k).1.1 (lo + k) (fill (fun _ => 0) 0) with hw | hw
          · have HW := hide hw
            rw [hw]
            clear hw
            go_wp2
            exact ⟨⟨k + 1, lo + k + 1, true, ⟨by omega, by omega⟩, by go_num, rfl, RCleanAt.wrote HOK.out HST.out HZ.out (by first | assumption | exact below_drewN ((Below.refl _ _).alloc (Nat.le_refl _) _) _ | exact below_drewN (below_drew1 ((Below.refl _ _).alloc (Nat.le_refl _) _)) _) HD2.out HST2.out HW.out⟩, by simp [intOf]; omega⟩
          · have HW := hide hw
            rw [hw]
            clear hw
            go_wp2
            go_ret
            exact rclean_bad (by omega) HOK.out HST.out HZ.out (by first | assumption | exact below_drewN ((Below.refl _ _).alloc (Nat.le_refl _) _) _ | exact below_drewN (below_drew1 ((Below.refl _ _).alloc (Nat.le_refl _) _)) _) HD2.out HST2.out HW.out
    · obtain rfl : k = m := by have := HK.out; have := HX.out; omega
      have hzz := hp.out.2.1
      cases z with
      | false =>
        have HZ := hide hzz
        clear hzz
        go_wp2
        go_ret
        rw [clean_done0 HOK.out HZ.out]
        exact ⟨by rw [HOK.out]; rfl, W1, P1, HD.out, HST.out⟩
      | true =>
        have HZ := hide hzz
        clear hzz
        go_wp2_with fail
        refine (rdisk_fl HD.out).mono ?_
        rintro r w2 ⟨rfl, W2, P2, hd2, hst2⟩
        have HD2 := hide hd2
        have HST2 := hide hst2
        clear hd2 hst2
        go_wp2
        go_ret
        rw [clean_done1 HOK.out HZ.out]
        exact ⟨rfl, W2, P2, HD2.out, HST.out.trans HST2.out⟩
set_option maxRecDepth 100000 in
set_option maxHeartbeats 3200000 in
theorem rclean_pos {w : World} {V : Nat} {s : St} {W P : Nat → Prop} (h : RDisk w V s W P) (hmd : Made s) (at_ e : Int) (lo m : Nat) (hlo : (lo : Int) = max at_ 0) (hm : m = (min e (s.n : Int) - (lo : Int)).toNat) (hs : s.n ≤ 1024) (hll : s.lo.length < 900000) (h0 : 0 ≤ at_) :
    Calls Try.prog 42 #[.pointer (some ⟨V, 0, none⟩), .int .i64 at_, .int .i64 e] w fun r w' => r = .returned (.int .i64 ((s.clean lo m).2 : Int)) ∧ ∃ W' P', RDisk w' V (s.clean lo m).1 W' P' ∧ RStep W P W' P' w w' := by
  have H := hide h
  have HMD := hide hmd
  have HX : Hid (m = (min e (s.n : Int) - (lo : Int)).toNat) := hm
  have HLL := hide hll
  have hmk : ∀ w, (Instr.makeSlice 37 (.int .i64 64) (.int .i64 64)).run Try.prog w = .ok (.slice (some ⟨w.heap.size, 0, none⟩) 64 64) (w.alloc (.cells (valsOf (fun _ => 0) 64).toArray 5)) := fun w => run_make_bytes 64 (by omega) w
  obtain rfl : at_ = (lo : Int) := by omega
  clear h hmd hm hll hlo
  go_enter Try.func42, Try.ntmps42
  go_wp2
  go_loopw [1, 7] (fun av zv wq => ∃ (k x : Nat) (z : Bool), Hid (x = lo + k ∧ k ≤ m) ∧ av = .int .i64 (x : Int) ∧ zv = .bool z ∧ Hid (RCleanAt w wq V s W P lo k z)) (fun av _ _ => lo + m - (intOf av).toNat)
  case atStart => exact ⟨0, lo, false, ⟨by omega, by omega⟩, rfl, rfl, rfl, rfl, W, P, H.out, Keeps.refl _ _, fun _ h => .inl h, fun _ h => .inl h⟩
  case round =>
    obtain ⟨k, x, z, HK, rfl, rfl, hp⟩ := hrel
    obtain ⟨W1, P1, hd, hst⟩ := hp.out.2.2
    have HD := hide hd
    have HST := hide hst
    have HN := hide (cleans_n s lo k)
    have HL := hide (cleans_lo s lo k)
    have HOK := hide hp.out.1
    have HMK := hide (made_cleans HMD.out lo k)
    clear hd hst
    go_wp2_with fail
    refine (rend_any HD.out e).mono ?_
    rintro r w1 ⟨rfl, rfl⟩
    rw [HN.out]
    have hmn : min e (s.n : Int) ≤ 1024 := by omega
    have hmn2 : min e (s.n : Int) ≤ (s.n : Int) := by omega
    generalize min e (s.n : Int) = E at *
    by_cases hlt : (x : Int) < E
    · have hkm : k < m := by have := HK.out; have := HX.out; omega
      have hxn : lo + k < (cleans s lo k).1.1.n := by rw [HN.out]; have := HK.out; omega
      obtain rfl : x = lo + k := HK.out.1
      have HXN := hide hxn
      clear hxn
      go_wp2_with fail
      have hxb : Below w1.heap.size w1 w1 := Below.refl _ _
      go_region_held3 (fun w' => Below w1.heap.size w1 w')
        (first
          | assumption
          | exact below_drew1 (Below.refl _ _)
          | exact (Below.refl _ _).alloc (Nat.le_refl _) _
          | exact below_drew1 ((Below.refl _ _).alloc (Nat.le_refl _) _)
          | exact (below_drew1 (Below.refl _ _)).alloc (Nat.le_refl _) _
          | exact below_drew1 ((below_drew1 (Below.refl _ _)).alloc (Nat.le_refl _) _)
          | exact below_drewN ((Below.refl _ _).alloc (Nat.le_refl _) _) _
          | exact below_drewN (below_drew1 ((Below.refl _ _).alloc (Nat.le_refl _) _)) _
          | exact below_drewN (Below.refl _ _) _)
        (first
          | (go_at_call 38; refine (rdisk_page0 HD.out (by assumption) HMK.out (lo + k) HXN.out).mono ?_; rintro e wA ⟨bp, op, cp, rfl, hcp, hpc, rfl⟩)
          | (go_at_call 39; refine (sameB_some bp op w1.heap.size 0 64 cp 64 ((cleans s lo k).1.1.now (lo + k)) (fun _ => 0) _ (by omega) (rw_cells (hpc.below (by first | assumption | exact below_drew1 ((Below.refl _ _).alloc (Nat.le_refl _) _)))) (fun j hj => by simp only [World.cell?_drew]; exact zero_row w1 j hj)).mono ?_; rintro e wB ⟨rfl, mB, rfl⟩))
      all_goals rw [eqB_zero]
      all_goals
        cases hz : allZ ((cleans s lo k).1.1.now (lo + k)) 64 with
        | true =>
          have HZ := hide hz
          clear hz
          go_wp2
          exact ⟨⟨k + 1, lo + k + 1, z, ⟨by omega, by omega⟩, by go_num, rfl, hp.out.skip HZ.out (by first | assumption | exact below_drewN ((Below.refl _ _).alloc (Nat.le_refl _) _) _ | exact below_drewN (below_drew1 ((Below.refl _ _).alloc (Nat.le_refl _) _)) _)⟩, by simp [intOf]; omega⟩
        | false =>
          have HZ := hide hz
          clear hz
          go_wp2_with fail
          refine (rdisk_wr (HD.out.later (by first | assumption | exact below_drewN ((Below.refl _ _).alloc (Nat.le_refl _) _) _ | exact below_drewN (below_drew1 ((Below.refl _ _).alloc (Nat.le_refl _) _)) _)) ((lo + k : Nat) : Int) (by omega) (by have := HXN.out; omega) none 0 0 (fun _ => 0) (by omega) (by have := HL.out; have := HLL.out; omega) (Rw.nil _ _ _) (fun x hx => by cases hx)).mono ?_
          rw [Int.toNat_natCast]
          rintro r w4 ⟨rfl, W2, P2, hd2, hst2⟩
          have HD2 := hide hd2
          have HST2 := hide hst2
          clear hd2 hst2
          rcases wr_cases (cleans s lo k).1.1 (lo + k) (fill (fun _ => 0) 0) with hw | hw
          · have HW := hide hw
            rw [hw]
            clear hw
            go_wp2
            exact ⟨⟨k + 1, lo + k + 1, true, ⟨by omega, by omega⟩, by go_num, rfl, RCleanAt.wrote HOK.out HST.out HZ.out (by first | assumption | exact below_drewN ((Below.refl _ _).alloc (Nat.le_refl _) _) _ | exact below_drewN (below_drew1 ((Below.refl _ _).alloc (Nat.le_refl _) _)) _) HD2.out HST2.out HW.out⟩, by simp [intOf]; omega⟩
          · have HW := hide hw
            rw [hw]
            clear hw
            go_wp2
            go_ret
            exact rclean_bad (by omega) HOK.out HST.out HZ.out (by first | assumption | exact below_drewN ((Below.refl _ _).alloc (Nat.le_refl _) _) _ | exact below_drewN (below_drew1 ((Below.refl _ _).alloc (Nat.le_refl _) _)) _) HD2.out HST2.out HW.out
    · obtain rfl : k = m := by have := HK.out; have := HX.out; omega
      have hzz := hp.out.2.1
      cases z with
      | false =>
        have HZ := hide hzz
        clear hzz
        go_wp2
        go_ret
        rw [clean_done0 HOK.out HZ.out]
        exact ⟨by rw [HOK.out]; rfl, W1, P1, HD.out, HST.out⟩
      | true =>
        have HZ := hide hzz
        clear hzz
        go_wp2_with fail
        refine (rdisk_fl HD.out).mono ?_
        rintro r w2 ⟨rfl, W2, P2, hd2, hst2⟩
        have HD2 := hide hd2
        have HST2 := hide hst2
        clear hd2 hst2
        go_wp2
        go_ret
        rw [clean_done1 HOK.out HZ.out]
        exact ⟨rfl, W2, P2, HD2.out, HST.out.trans HST2.out⟩
theorem rclean_any {w : World} {V : Nat} {s : St} {W P : Nat → Prop} (h : RDisk w V s W P) (hmd : Made s) (at_ e : Int) (lo m : Nat) (hlo : (lo : Int) = max at_ 0) (hm : m = (min e (s.n : Int) - (lo : Int)).toNat) (hs : s.n ≤ 1024) (hll : s.lo.length < 900000) :
    Calls Try.prog 42 #[.pointer (some ⟨V, 0, none⟩), .int .i64 at_, .int .i64 e] w fun r w' => r = .returned (.int .i64 ((s.clean lo m).2 : Int)) ∧ ∃ W' P', RDisk w' V (s.clean lo m).1 W' P' ∧ RStep W P W' P' w w' := by
  by_cases h0 : at_ < 0
  · exact rclean_neg h hmd at_ e lo m hlo hm hs hll h0
  · exact rclean_pos h hmd at_ e lo m hlo hm hs hll (by omega)
end Go.Proofs.Ytbecchoidglaeaa
