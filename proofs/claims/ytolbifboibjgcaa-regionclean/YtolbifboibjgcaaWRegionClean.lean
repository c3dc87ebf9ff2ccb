/- RegionClean's walk. -/
import Derived.Test.YtolbifboibjgcaaAns03
namespace Go.Proofs.Ytolbifboibjgcaa
open Go.RowKit

/-- What Clean leaves on a disk with power. -/
theorem cleans_live {s : St} (hm : Made s) (hv : Live s) (lo : Nat) : ∀ k, (cleans s lo k).1.2 = 0 ∧ Live (cleans s lo k).1.1 ∧ Made (cleans s lo k).1.1 ∧
    (∀ i j, j < 64 → (cleans s lo k).1.1.now i j = if lo ≤ i ∧ i < lo + k then 0 else s.now i j) ∧ ((cleans s lo k).2 = false → (cleans s lo k).1.1 = s)
  | 0 => ⟨rfl, hv, hm, fun i j _ => by rw [if_neg (by omega)]; rfl, fun _ => rfl⟩
  | k + 1 => by
    obtain ⟨h1, h2, h3, h4, h5⟩ := cleans_live hm hv lo k
    cases hz : allZ ((cleans s lo k).1.1.now (lo + k)) 64 with
    | true =>
      rw [cleans_zero h1 hz]
      refine ⟨h1, h2, h3, fun i j hj => ?_, h5⟩
      rw [h4 i j hj]
      by_cases e : i = lo + k
      · have := (allZ_iff _ _).1 hz j hj
        rw [← e, h4 i j hj, if_neg (by omega)] at this
        rw [if_neg (by omega), if_pos (by omega), this]
      · by_cases e2 : lo ≤ i ∧ i < lo + k
        · rw [if_pos e2, if_pos (by omega)]
        · rw [if_neg e2, if_neg (by omega)]
    | false =>
      rw [cleans_wr h1 hz]
      obtain ⟨w1, w2⟩ := h2.wr (lo + k) (fill (fun _ => 0) 0)
      refine ⟨w1, w2, made_wr h3 _ _, fun i j hj => ?_, fun h => by cases h⟩
      show ((cleans s lo k).1.1.wr (lo + k) (fill (fun _ => 0) 0)).1.now i j = _
      rw [(wr_ok w1).2]
      show putPage (cleans s lo k).1.1.now (lo + k) 64 (fill (fun _ => 0) 0) i j = _
      unfold putPage
      by_cases e : i = lo + k
      · rw [if_pos ⟨e, hj⟩, if_pos (by omega)]
        unfold fill
        rw [if_neg (by omega)]
      · rw [if_neg (fun h => e h.1), h4 i j hj]
        by_cases e2 : lo ≤ i ∧ i < lo + k
        · rw [if_pos e2, if_pos (by omega)]
        · rw [if_neg e2, if_neg (by omega)]
theorem clean_live {s : St} (hs : Still s) (hv : Live s) (lo m : Nat) : (s.clean lo m).2 = 0 ∧ Still (s.clean lo m).1 ∧ ∀ i j, j < 64 → (s.clean lo m).1.now i j = if lo ≤ i ∧ i < lo + m then 0 else s.now i j := by
  obtain ⟨h1, h2, h3, h4, h5⟩ := cleans_live (still_made hs) hv lo m
  cases hz : (cleans s lo m).2 with
  | true =>
    rw [clean_done1 h1 hz]
    refine ⟨h2.fl.1, ?_, ?_⟩
    · rw [fl_ok h2.fl.1]; exact still_flush h3
    · rw [fl_ok h2.fl.1]; exact h4
  | false =>
    rw [clean_done0 h1 hz]
    refine ⟨h1, ?_, h4⟩
    rw [h5 hz]; exact hs
/-- The page that the law writes into sector i. -/
def mark (i : Nat) : Nat → Nat := fill (fun _ => i + 1) 1
/-- k sectors are written. -/
def MarkAt (w wq : World) (D : Nat) (k : Nat) : Prop := ∃ F, Disk wq D (pages (St.made 20) 0 mark k).1 F ∧ (∀ b, F b → w.heap.size ≤ b) ∧ Below w.heap.size w wq
theorem rw_one (w : World) (x : Nat) (t : TypeId) : Rw (w.alloc (.cells #[.int .u8 (x : Int)] t)) (some ⟨w.heap.size, 0, none⟩) 1 (fun _ => x) := by
  refine ⟨by unfold maxLen; omega, fun _ => ⟨w.heap.size, 0, rfl, fun i hi => ?_⟩⟩
  obtain rfl : i = 0 := by omega
  rw [World.cell?_alloc_mark]
  rfl
theorem mark_step {w wq w2 : World} {D k : Nat} {F F2 : Nat → Prop} (hF : ∀ b, F b → w.heap.size ≤ b) (hb : Below w.heap.size w wq) (o : Obj) (hd : Disk w2 D ((pages (St.made 20) 0 mark k).1.wr k (fill (fun _ => k + 1) 1)).1 F2) (hst : Step F F2 (wq.alloc o) w2) : MarkAt w w2 D (k + 1) := by
  have h0 := ((live_new 20).pages 0 mark k).1
  have e : pages (St.made 20) 0 mark (k + 1) = (pages (St.made 20) 0 mark k).1.wr k (fill (fun _ => k + 1) 1) := by
    conv => lhs; unfold pages
    rw [if_pos h0, Nat.zero_add]
    rfl
  have hb1 : Below w.heap.size w (wq.alloc o) := hb.alloc hb.size o
  obtain ⟨h1, h2, h3⟩ := hst.below (B := w.heap.size) hb1.size hF
  exact ⟨F2, by rw [e]; exact hd, h2, hb1.trans h1⟩
/-- The second loop. -/
def LookAt (w wq : World) (D : Nat) (T : St) : Prop := ∃ F, Disk wq D T F ∧ Below w.heap.size w wq
set_option maxRecDepth 100000 in
set_option maxHeartbeats 3200000 in
theorem regionClean_in (a0 : Option Addr) (len0 cap0 : Nat) (n1 n2 f t : Nat) (w : World) (hl : len0 ≤ 300) (hn1 : n1 < 256) (hn2 : n2 < 256) (hf : (n1 : Int) % 24 = (f : Int)) (ht : (n2 : Int) % 24 = (t : Int)) :
    Calls Try.prog 6 #[.slice a0 len0 cap0, .int .u8 (n1 : Int), .int .u8 (n2 : Int)] w fun e w' => e = .returned (.bool true) ∧ Below w.heap.size w w' := by
  have hl' : ¬ (300 : Int) < (len0 : Int) := by omega
  go_enter Try.func6, Try.ntmps6
  go_wp2_with fail
  refine (new_any 20 _ (by omega)).mono ?_
  rintro e w1 ⟨D, F, rfl, hd, hF, hb⟩
  rw [show (clamp 20 1024).toNat = 20 from rfl] at hd
  have HM : Hid (MarkAt w w1 D 0) := ⟨F, hd, hF, hb⟩
  clear hd hF hb
  go_wp2
  go_loopw [8] (fun iv wq => ∃ k : Nat, k ≤ 20 ∧ iv = .int .i64 (k : Int) ∧ Hid (MarkAt w wq D k)) (fun iv _ => 20 - (intOf iv).toNat)
  case atStart => exact ⟨0, by omega, rfl, HM.out⟩
  case round =>
    clear HM
    obtain ⟨k, hk, rfl, hp⟩ := hrel
    by_cases hlt : k < 20
    · have hk1 : (k : Int) < 20 := by omega
      obtain ⟨F1, hd, hF1, hb1⟩ := hp.out
      have HD := hide hd
      have HF1 := hide hF1
      have HB1 := hide hb1
      have HN := hide (pages_n (St.made 20) 0 mark k)
      have HL := hide (pages_lo (St.made 20) 0 mark k)
      clear hd hF1 hb1
      go_wp2_with fail
      refine (disk_wr (HD.out.alloc _) k (by rw [HN.out]; exact hlt) (some ⟨wr.heap.size, 0, none⟩) 1 1 (fun _ => k + 1) (by omega) (by have := HL.out; have e : (St.made 20).lo.length = 0 := rfl; omega) (rw_one wr (k + 1) 5) (fun x hx _ => by injection hx with hx; subst hx; have := HD.out.D; show wr.heap.size ≠ D; omega)).mono ?_
      rintro e w2 ⟨rfl, F2, hd2, hst2⟩
      have HM2 : Hid (MarkAt w w2 D (k + 1)) := mark_step HF1.out HB1.out _ hd2 hst2
      clear hd2 hst2
      go_wp2
      exact ⟨⟨k + 1, by omega, by go_num, HM2⟩, by simp [intOf]; omega⟩
    · obtain rfl : k = 20 := by omega
      obtain ⟨F1, hd, hF1, hb1⟩ := hp.out
      obtain ⟨l1, l2⟩ := (live_new 20).pages 0 mark 20
      obtain ⟨p1, p2, p3⟩ := pages_ok (still_made (still_new 20)) 20 l1
      have HD := hide hd
      have HF1 := hide hF1
      have HB1 := hide hb1
      obtain ⟨S, hS⟩ : ∃ S, S = (pages (St.made 20) 0 mark 20).1.fl.1 := ⟨_, rfl⟩
      have hSn : S.n = 20 := by rw [hS, fl_n, pages_n]; rfl
      have hSs : Still S := by rw [hS, fl_ok l2.fl.1]; exact still_flush p3
      have hSl : Live S := by rw [hS]; exact l2.fl.2
      have hSw : ∀ i j, i < 20 → j < 64 → S.now i j = mark i j := fun i j hi hj => by
        rw [hS, fl_ok l2.fl.1]
        show (pages (St.made 20) 0 mark 20).1.now i j = _
        rw [p1]
        unfold over
        rw [if_pos (by omega), Nat.sub_zero]
      have HS := hide (And.intro hSn (And.intro hSs (And.intro hSl hSw)))
      have HSe := hide hS
      clear hd hF1 hb1 l1 l2 p1 p2 p3 hS hSn hSs hSl hSw hp
      go_wp2_with fail
      refine (disk_fl HD.out).mono ?_
      rintro e w2 ⟨rfl, F2, hd2, hst2⟩
      rw [← HSe.out] at hd2
      obtain ⟨x1, x2, x3⟩ := hst2.below HB1.out.size HF1.out
      have HD2 := hide hd2
      have HF2 := hide x2
      have HB2 := hide (HB1.out.trans x1)
      clear hd2 hst2 x1 x2 x3
      go_wp2_with fail
      refine (clean_any HD2.out (f : Int) (t : Int) f (min (t : Int) 20 - (f : Int)).toNat (by omega) (by rw [HS.out.1]; rfl) (by rw [HS.out.1]; omega) (by rw [HS.out.2.1.1]; show 0 < 900000; omega)).mono ?_
      rintro e w3 ⟨rfl, F3, hd3, hst3⟩
      obtain ⟨q1, q2, q3⟩ := clean_live HS.out.2.1 HS.out.2.2.1 f (min (t : Int) 20 - (f : Int)).toNat
      rw [q1]
      obtain ⟨x1, x2, x3⟩ := hst3.below HB2.out.size HF2.out
      have hTn : (S.clean f (min (t : Int) 20 - (f : Int)).toNat).1.n = 20 := by
        rw [← HS.out.1]
        unfold St.clean
        split
        · split
          · rw [fl_n, cleans_n]
          · rw [cleans_n]
        · rw [cleans_n]
      obtain ⟨T, hT⟩ : ∃ T, T = (S.clean f (min (t : Int) 20 - (f : Int)).toNat).1 := ⟨_, rfl⟩
      rw [← hT] at hd3 q2 q3 hTn
      have HT : Hid (T.n = 20 ∧ T.lo = [] ∧ ∀ i j, i < 20 → j < 64 → T.lasts i j = if f ≤ i ∧ i < t then 0 else mark i j) := ⟨hTn, q2.1, fun i j hi hj => by
        rw [q2.2, q3 i j hj, HS.out.2.2.2 i j hi hj]
        by_cases e : f ≤ i ∧ i < t
        · rw [if_pos e, if_pos (by omega)]
        · rw [if_neg e, if_neg (by omega)]⟩
      have HLK : Hid (LookAt w w3 D T) := ⟨F3, hd3, HB2.out.trans x1⟩
      clear hd3 hst3 q1 q2 q3 x1 x2 x3 hTn hT
      rw [show ((0 : Nat) : Int) = 0 from rfl]
      go_wp2
      go_loopw [12] (fun iv wq => ∃ k : Nat, k ≤ 20 ∧ iv = .int .i64 (k : Int) ∧ Hid (LookAt w wq D T)) (fun iv _ => 20 - (intOf iv).toNat)
      case atStart => exact ⟨0, by omega, rfl, HLK.out⟩
      case round =>
        clear HLK
        obtain ⟨k, hk, rfl, hp⟩ := hrel
        obtain ⟨FF, hd, hb⟩ := hp.out
        have HD4 := hide hd
        have HB4 := hide hb
        clear hd hb hp
        by_cases hlt : k < 20
        · have hk1 : (k : Int) < 20 := by omega
          go_wp2_with fail
          refine (disk_lasts HD4.out (k : Int) (by omega) (by rw [HT.out.1]; omega)).mono ?_
          rintro e w5 ⟨b5, rfl, hr5, hle5, hb5⟩
          rw [Int.toNat_natCast] at hr5
          have HR5 := hide hr5
          have HD5 := hide (HD4.out.later hb5)
          have HB5 := hide (HB4.out.trans (below_le hb5 HB4.out.size))
          clear hr5 hle5 hb5
          go_wp2_with fail
          refine (fill_any (some ⟨w5.heap.size, 0, none⟩) 1 1 (fun _ => k + 1) _ (by omega) (rw_one w5 (k + 1) 5)).mono ?_
          rintro e w6 ⟨b6, rfl, hr6, hle6, hb6⟩
          have hb56 : Below w5.heap.size w5 w6 := ((Below.refl _ _).alloc (Nat.le_refl _) _).trans (below_le hb6 (by simp))
          have HR6 := hide hr6
          have HR56 := hide (HR5.out.below hb56)
          have HD6 := hide (HD5.out.later hb56)
          have HB6 := hide (HB5.out.trans (below_le hb56 HB5.out.size))
          clear hr6 hle6 hb6 hb56
          by_cases hin : f ≤ k ∧ k < t
          · have hi1 : (f : Int) ≤ (k : Int) := by omega
            have hi2 : (k : Int) < (t : Int) := by omega
            go_wp2_with fail
            refine (fill_any none 0 0 (fun _ => 0) _ (by omega) (Rw.nil _ _ _)).mono ?_
            rintro e w7 ⟨b7, rfl, hr7, hle7, hb7⟩
            have HR7 := hide hr7
            have HR57 := hide (HR56.out.below hb7)
            have HD7 := hide (HD6.out.later hb7)
            have HB7 := hide (HB6.out.trans (below_le hb7 HB6.out.size))
            have HIN := hide hin
            clear hr7 hle7 hb7 hin
            go_wp2_with fail
            refine (same_any _ _ 64 64 64 _ _ _ HR57.out HR7.out (fun i hi => by rw [HT.out.2.2 k i hlt hi, if_pos HIN.out]; unfold fill; rw [if_neg (by omega)])).mono ?_
            rintro e w8 ⟨rfl, hb8⟩
            have HLK : Hid (LookAt w w8 D T) := ⟨FF, HD7.out.later hb8, HB7.out.trans (below_le hb8 HB7.out.size)⟩
            clear hb8
            go_wp2
            exact ⟨⟨k + 1, by omega, by go_num, HLK⟩, by simp [intOf]; omega⟩
          · by_cases hfk : (f : Int) ≤ (k : Int)
            · have hi2 : ¬ (k : Int) < (t : Int) := by omega
              have HIN := hide hin
              clear hin
              go_wp2_with fail
              refine (same_any _ _ 64 64 64 _ _ _ HR56.out HR6.out (fun i hi => by rw [HT.out.2.2 k i hlt hi, if_neg HIN.out]; rfl)).mono ?_
              rintro e w8 ⟨rfl, hb8⟩
              have HLK : Hid (LookAt w w8 D T) := ⟨FF, HD6.out.later hb8, HB6.out.trans (below_le hb8 HB6.out.size)⟩
              clear hb8
              go_wp2
              exact ⟨⟨k + 1, by omega, by go_num, HLK⟩, by simp [intOf]; omega⟩
            · have HIN := hide hin
              clear hin
              go_wp2_with fail
              refine (same_any _ _ 64 64 64 _ _ _ HR56.out HR6.out (fun i hi => by rw [HT.out.2.2 k i hlt hi, if_neg HIN.out]; rfl)).mono ?_
              rintro e w8 ⟨rfl, hb8⟩
              have HLK : Hid (LookAt w w8 D T) := ⟨FF, HD6.out.later hb8, HB6.out.trans (below_le hb8 HB6.out.size)⟩
              clear hb8
              go_wp2
              exact ⟨⟨k + 1, by omega, by go_num, HLK⟩, by simp [intOf]; omega⟩
        · have hk1 : ¬ (k : Int) < 20 := by omega
          go_wp2_with fail
          refine (answers_any _).mono ?_
          rintro e w5 ⟨rfl, hb5⟩
          have HD5 := hide (HD4.out.later hb5)
          have HB5 := hide (HB4.out.trans (below_le hb5 HB4.out.size))
          clear hb5
          go_wp2_with fail
          refine (disk_loose HD5.out).mono ?_
          rintro e w6 ⟨rfl, rfl⟩
          rw [HT.out.2.1]
          go_wp2
          go_ret
          exact ⟨rfl, HB5.out⟩
set_option maxHeartbeats 400000 in
theorem regionClean_out (a0 : Option Addr) (len0 cap0 : Nat) (g o : Int) (w : World) (hl : 300 < len0) :
    Calls Try.prog 6 #[.slice a0 len0 cap0, .int .u8 g, .int .u8 o] w fun e w' => e = .returned (.bool true) ∧ Below w.heap.size w w' := by
  have hl' : (300 : Int) < (len0 : Int) := by omega
  go_enter Try.func6, Try.ntmps6
  go_wp2_with fail
  refine (answers_any _).mono ?_
  rintro e w1 ⟨rfl, hb⟩
  go_wp2
  go_ret
  exact ⟨rfl, hb⟩
theorem regionClean_walk (a0 : Option Addr) (len0 cap0 : Nat) (z0 : List Int) (a1 : Int) (a2 : Int) (w : World) (_ : IsRow .u8 w a0 len0 cap0 z0) (w1 : (Lit.int .u8 a1).wf = true) (w2 : (Lit.int .u8 a2).wf = true) :
    Calls Try.prog 6 #[.slice a0 len0 cap0, .int .u8 a1, .int .u8 a2] w fun e w' => e = .returned (.bool true) ∧ Below w.heap.size w w' := by
  have hb1 := bounds_u8 w1
  have hb2 := bounds_u8 w2
  by_cases h : 300 < len0
  · exact regionClean_out a0 len0 cap0 a1 a2 w h
  · obtain ⟨g, rfl⟩ := Int.eq_ofNat_of_zero_le hb1.1
    obtain ⟨o, rfl⟩ := Int.eq_ofNat_of_zero_le hb2.1
    exact regionClean_in a0 len0 cap0 g o (g % 24) (o % 24) w (by omega) (by omega) (by omega) (by omega) (by omega)
end Go.Proofs.Ytolbifboibjgcaa
