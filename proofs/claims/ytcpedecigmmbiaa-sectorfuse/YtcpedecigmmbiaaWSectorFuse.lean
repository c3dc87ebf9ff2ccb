/- SectorFuse's walk. -/
import Derived.Test.YtcpedecigmmbiaaRef
namespace Go.Proofs.Ytcpedecigmmbiaa
open Go.RowKit
set_option linter.unusedVariables false

theorem rw_one (w : World) (b : Nat) : Rw (w.alloc (.cells #[.int .u8 (b : Int)] 5)) (some ⟨w.heap.size, 0, none⟩) 1 (fun _ => b) := by
  refine ⟨by decide, fun _ => ⟨w.heap.size, 0, rfl, fun i hi => ?_⟩⟩
  obtain rfl : i = 0 := by omega
  rw [World.cell?_alloc_mark]
  rfl
theorem below_alloc {B : Nat} {w0 w : World} (h : Below B w0 w) (hs : B ≤ w.heap.size) (o : Obj) : Below B w0 (w.alloc o) := h.trans (below_le ((Below.refl _ _).alloc (Nat.le_refl _) o) hs)

set_option maxRecDepth 100000 in
set_option maxHeartbeats 1600000 in
theorem sectorFuse_nat (n m k t : Nat) (w : World) (hn : n < 256) (hm : m < 256) (hk : (n : Int) % 20 = (k : Int)) (ht : (m : Int) % 30 = (t : Int)) (hk1 : k < 20) (ht1 : t < 30) :
    Calls Try.prog 6 #[.int .u8 (n : Int), .int .u8 (m : Int)] w fun e w' => e = .returned (.bool true) ∧ Below w.heap.size w w' := by
  go_enter Try.func6, Try.ntmps6
  go_wp2_with fail
  refine (own_new 40 _ (by omega)).mono ?_
  rintro e w1 ⟨D, rfl, ho1, hb1⟩
  have HO1 := hide ho1
  have HB1 := hide hb1
  clear ho1 hb1
  go_wp2_with fail
  refine (own_fuse HO1.out (k : Int) (by omega)).mono ?_
  rintro e w2 ⟨rfl, ho2, hb2⟩
  have HO2 := hide ho2
  have HB2 := hide (HB1.out.trans hb2)
  clear ho2 hb2 HO1 HB1
  go_wp2
  go_loopw [8] (fun i wq => ∃ j : Nat, j ≤ t ∧ i = .int .i64 j ∧ ∃ s, Own w.heap.size wq D s ∧ s.n = 40 ∧ s.fused = true ∧ s.left = k - j ∧ (s.down = true → s.left = 0) ∧ s.lo.length ≤ j ∧ Below w.heap.size w wq) (fun i _ => t - (intOf i).toNat)
  case atStart => exact ⟨0, Nat.zero_le _, rfl, _, HO2.out, rfl, rfl, rfl, (fun h => by cases h), Nat.le_refl _, HB2.out⟩
  case round =>
    obtain ⟨j, hj, rfl, s, ho, hs1, hs2, hs3, hsd, hs4, hb⟩ := hrel
    have HO := hide ho
    have HB := hide hb
    have H1 := hide hs1
    have H2 := hide hs2
    have H3 := hide hs3
    have hpw : s.power = decide (j < k) := by
      rw [hs3] at hsd
      cases hq : s.down with
      | true => have := hsd hq; rw [decide_eq_false (by omega)]; simp [St.power, hq]
      | false =>
        by_cases hjk : j < k
        · rw [decide_eq_true hjk]; simp [St.power, hq, hs2, hs3]; omega
        · rw [decide_eq_false hjk]; simp [St.power, hq, hs2, hs3]; omega
    have HPw := hide hpw
    clear ho hb hs1 hs2 hs3 hsd hpw HO2 HB2
    by_cases hlt : j < t
    · by_cases hp : j < k
      · have hd : decide ((j : Int) < (k : Int)) = true := by simp; omega
        go_wp2_with fail
        refine (own_write (HO.out.alloc _) (j : Int) (by omega) (by rw [H1.out]; omega) _ 1 _ (fun _ => 1) (by omega) (by rw [HPw.out]; simpa using hp) (by omega) (rw_one wr 1) (fun x hx _ => by have := HO.out.D; simp at hx; subst hx; simp; omega)).mono ?_
        rintro e w3 ⟨rfl, ho3, hb3⟩
        have HO3 := hide ho3
        have HB3 := hide ((below_alloc HB.out HO.out.1 _).trans hb3)
        clear ho3 hb3
        go_wp2
        refine ⟨⟨j + 1, by omega, by go_num, _, HO3.out, H1.out, H2.out, ?_, ?_, ?_, HB3.out⟩, by simp [intOf]; omega⟩
        · simp [St.write, St.spent, HPw.out, hp, H2.out, H3.out]; omega
        · simp [St.write, St.spent, HPw.out, hp]
        · simp [St.write, St.spent]; omega
      · have hd : decide ((j : Int) < (k : Int)) = false := by simp; omega
        go_wp2_with fail
        refine (own_write_down (HO.out.alloc _) (j : Int) (by omega) (by rw [H1.out]; omega) _ 1 _ (by omega) (by rw [HPw.out]; simpa using hp)).mono ?_
        rintro e w3 ⟨rfl, ho3, hb3⟩
        have HO3 := hide ho3
        have HB3 := hide ((below_alloc HB.out HO.out.1 _).trans hb3)
        clear ho3 hb3
        go_wp2
        refine ⟨⟨j + 1, by omega, by go_num, _, HO3.out, H1.out, H2.out, ?_, ?_, ?_, HB3.out⟩, by simp [intOf]; omega⟩
        · simp [St.spent, HPw.out, hp, H3.out]; omega
        · intro _; simp [St.spent, HPw.out, hp, H3.out]; omega
        · show s.lo.length ≤ j + 1; omega
    · have hjt : j = t := by omega
      have HJ := hide hjt
      clear hjt
      by_cases hp : t < k
      · have hd : decide ((t : Int) < (k : Int)) = true := by simp; omega
        go_wp2_with fail
        refine (own_flush HO.out (by rw [HPw.out, HJ.out]; simpa using hp)).mono ?_
        rintro e w3 ⟨rfl, ho3, hb3⟩
        have HO3 := hide ho3
        have HB3 := hide (HB.out.trans hb3)
        have HN3 : Hid (s.spent.flush.n = 40) := H1.out
        clear ho3 hb3
        generalize s.spent.flush = s3 at *
        go_wp2_with fail
        refine (own_crash HO3.out 0 (-1) 0 (by omega) (by omega) (by omega)).mono ?_
        rintro e w4 ⟨rfl, ho4, hb4⟩
        have HO4 := hide ho4
        have HB4 := hide (HB3.out.trans hb4)
        clear ho4 hb4
        go_wp2_with fail
        refine (answers_any _).mono ?_
        rintro e w5 ⟨rfl, hb5⟩
        have HO5 := hide (HO4.out.later hb5)
        have HB5 := hide (HB4.out.trans (below_le hb5 HO4.out.1))
        clear hb5
        go_wp2_with fail
        refine (own_write HO5.out 0 (by omega) (by show (0 : Int) < (s3.n : Int); rw [HN3.out]; decide) _ 0 0 (fun _ => 0) (by omega) rfl (show 0 < 1000000 by omega) (Rw.nil _ _ _) (fun x hx _ => by cases hx)).mono ?_
        rintro e w6 ⟨rfl, ho6, hb6⟩
        have HB6 := hide (HB5.out.trans hb6)
        clear ho6 hb6
        go_wp2
        go_ret
        exact ⟨rfl, HB6.out⟩
      · have hd : decide ((t : Int) < (k : Int)) = false := by simp; omega
        go_wp2_with fail
        refine (own_flush_down HO.out (by rw [HPw.out, HJ.out]; simpa using hp)).mono ?_
        rintro e w3 ⟨rfl, ho3, hb3⟩
        have HO3 := hide ho3
        have HB3 := hide (HB.out.trans hb3)
        have HN3 : Hid (s.spent.n = 40) := H1.out
        clear ho3 hb3
        generalize s.spent = s3 at *
        go_wp2_with fail
        refine (own_crash HO3.out 0 (-1) 0 (by omega) (by omega) (by omega)).mono ?_
        rintro e w4 ⟨rfl, ho4, hb4⟩
        have HO4 := hide ho4
        have HB4 := hide (HB3.out.trans hb4)
        clear ho4 hb4
        go_wp2_with fail
        refine (answers_any _).mono ?_
        rintro e w5 ⟨rfl, hb5⟩
        have HO5 := hide (HO4.out.later hb5)
        have HB5 := hide (HB4.out.trans (below_le hb5 HO4.out.1))
        clear hb5
        go_wp2_with fail
        refine (own_write HO5.out 0 (by omega) (by show (0 : Int) < (s3.n : Int); rw [HN3.out]; decide) _ 0 0 (fun _ => 0) (by omega) rfl (show 0 < 1000000 by omega) (Rw.nil _ _ _) (fun x hx _ => by cases hx)).mono ?_
        rintro e w6 ⟨rfl, ho6, hb6⟩
        have HB6 := hide (HB5.out.trans hb6)
        clear ho6 hb6
        go_wp2
        go_ret
        exact ⟨rfl, HB6.out⟩
theorem sectorFuse_walk (a0 : Int) (a1 : Int) (w0 : (Lit.int .u8 a0).wf = true) (w1 : (Lit.int .u8 a1).wf = true) (w : World) :
    Calls Try.prog 6 #[.int .u8 a0, .int .u8 a1] w fun e w' => e = .returned (.bool true) ∧ Below w.heap.size w w' := by
  have hb0 := bounds_u8 w0
  have hb1 := bounds_u8 w1
  obtain ⟨n, rfl⟩ := Int.eq_ofNat_of_zero_le hb0.1
  obtain ⟨m, rfl⟩ := Int.eq_ofNat_of_zero_le hb1.1
  exact sectorFuse_nat n m (n % 20) (m % 30) w (by omega) (by omega) (by omega) (by omega) (by omega) (by omega)
end Go.Proofs.Ytcpedecigmmbiaa
