/- The program's log: superblock, regionOf, mark, genAt, counting. -/
import Derived.Test.YtbecchoidglaeaaLogP
import Derived.Test.YtbecchoidglaeaaRegR
import Derived.Laws.BitsAllLaws
namespace Go.Proofs.Ytbecchoidglaeaa
open Go.RowKit
set_option maxRecDepth 100000

set_option maxHeartbeats 800000 in
theorem wappN_any (w : World) (g n : Nat) (p : Nat → Nat) (x : Nat) (hx : x < 4294967296) (hg : Sheet w g p) (hn : n + 4 ≤ 64) :
    Calls Try.prog 77 #[.slice (some ⟨g, 0, none⟩) n 64, .int .u32 (x : Int)] w fun e w' => e = .returned (.slice (some ⟨g, 0, none⟩) (n + 4) 64) ∧ Sheet w' g (put4 p n (four x)) ∧ Keeps (fun b => b = g) w w' := by
  obtain ⟨w1, hr, hs, hk⟩ := run_app4 w g n p (four x) _ (four_vals x hx) hg hn
  have HR := hide hr
  have HS := hide hs
  have HK := hide hk
  clear hr hs hk hg
  go_enter Try.func77, Try.ntmps77
  go_wp2_with ((with_reducible refine wpl_append _ _ 37 _ (.slice (some ⟨w.heap.size, 0, none⟩) 4 4) _ ?_ ?_ HR.out ?_); (· rfl); (· rfl))
  go_ret
  exact ⟨rfl, HS.out, HK.out⟩
theorem supP_low (g i : Nat) (hi : i < 4) : put4 (fun _ => 0) 0 (four g) i = four g i := by
  unfold put4
  rw [if_pos (by omega), Nat.sub_zero]
theorem supP_eq (g c : Nat) (hc : c = crc (four g) 4) : put4 (put4 (fun _ => 0) 0 (four g)) 4 (four c) = sup g := by
  subst hc
  funext j
  unfold sup fill cat
  by_cases h1 : j < 4
  · rw [if_pos (by omega), if_pos h1]
    unfold put4
    rw [if_neg (by omega), if_pos (by omega), Nat.sub_zero]
  · by_cases h2 : j < 8
    · rw [if_pos h2, if_neg h1]
      conv => lhs; unfold put4
      rw [if_pos (by omega)]
    · rw [if_neg h2]
      unfold put4
      rw [if_neg (by omega), if_neg (by omega)]
set_option maxHeartbeats 1600000 in
theorem superb_any (g : Nat) (hg : g < 4294967296) (w : World) :
    Calls Try.prog 72 #[.int .i64 (g : Int)] w fun e w' => e = .returned (.slice (some ⟨w.heap.size, 0, none⟩) 64 64) ∧ Sheet w' w.heap.size (sup g) ∧ Below w.heap.size w w' := by
  have hc := crc_lt (four g) 4 (fun i _ => four_lt _ i)
  have hmk := fun w => run_make_room w
  go_enter Try.func72, Try.ntmps72
  go_wp2_with fail
  have hs0 : Sheet (w.alloc (.cells (valsOf (fun _ => 0) 64).toArray 5)) w.heap.size (fun _ => 0) := heap_alloc_new w _
  refine (wappN_any _ w.heap.size 0 (fun _ => 0) g (by omega) hs0 (by omega)).mono ?_
  rintro e w1 ⟨rfl, hs1, hk1⟩
  have HS1 := hide hs1
  have HK1 := hide (((Keeps.refl (fun b => b = w.heap.size) w).alloc (.cells (valsOf (fun _ => 0) 64).toArray 5)).trans hk1 (fun _ _ h => h))
  clear hs0 hs1 hk1
  go_wp2_with fail
  refine (of_rw _ 4 64 (four g) w1 ((HS1.out.rw 4 (by omega)).congr (supP_low g)) (fun i _ => four_lt _ i)).mono ?_
  rintro e w5 ⟨rfl, rfl⟩
  go_wp2_with fail
  refine (wappN_any _ w.heap.size 4 _ (crc (four g) 4) hc HS1.out (by omega)).mono ?_
  rintro e w6 ⟨rfl, hs6, hk6⟩
  have HS6 := hide hs6
  have HK6 := hide (HK1.out.trans hk6 (fun _ _ h => h))
  clear hs6 hk6
  go_wp2
  go_ret
  refine ⟨rfl, ?_, HK6.out.below _ (Nat.le_refl _) (fun b hb => by omega)⟩
  have hs := HS6.out
  rw [supP_eq g _ rfl] at hs
  exact hs
section
variable {w : World} {D : Nat} {s : St} {F : Nat → Prop}
set_option maxHeartbeats 400000 in
theorem rlen_any (h : Disk w D s F) (hn : 4 ≤ s.n) (hs : s.n ≤ 1024) : Calls Try.prog 51 #[.pointer (some ⟨D, 0, none⟩)] w fun e w' => e = .returned (.int .i64 (half s.n : Int)) ∧ w' = w := by
  have HH : Hid ((half s.n : Int) = ((s.n : Int) - 2) / 2) := by show _ = _; unfold half; omega
  have hn' : (4 : Int) ≤ (s.n : Int) := by omega
  have hs' : (s.n : Int) ≤ 1024 := by omega
  have H := hide h
  clear h hn hs
  go_enter Try.func51, Try.ntmps51
  go_wp2_with fail
  refine (disk_len H.out).mono ?_
  rintro e w1 ⟨rfl, rfl⟩
  go_wp2
  go_ret
  exact ⟨ret_int HH.out.symm, rfl⟩
set_option maxHeartbeats 800000 in
theorem rof_any (h : Disk w D s F) (g : Nat) (hn : 4 ≤ s.n) (hs : s.n ≤ 1024) : Calls Try.prog 34 #[.pointer (some ⟨D, 0, none⟩), .int .i64 (g : Int)] w fun e w' =>
    e = .returned (.tuple #[.int .i64 (fromOf s.n g : Int), .int .i64 (toOf s.n g : Int)]) ∧ w' = w := by
  have hm : (half s.n : Int) ≤ 1024 := by unfold half; omega
  have HN := hide (And.intro hn hs)
  have H := hide h
  have HF : Hid ((fromOf s.n g : Int) = (if g % 2 = 0 then 2 else 2 + (half s.n : Int)) ∧ (toOf s.n g : Int) = (if g % 2 = 0 then 2 + (half s.n : Int) else 2 + (half s.n : Int) + (half s.n : Int))) := by
    show _ ∧ _
    unfold toOf fromOf
    split <;> omega
  clear h hn hs
  by_cases hg : g % 2 = 0
  · have e0 : ((g : Int) % 2) = 0 := by omega
    have HF2 : Hid ((fromOf s.n g : Int) = 2 ∧ (toOf s.n g : Int) = 2 + (half s.n : Int)) := by have := HF.out; rw [if_pos hg, if_pos hg] at this; exact this
    go_enter Try.func34, Try.ntmps34
    go_wp2_with fail
    refine (rlen_any H.out HN.out.1 HN.out.2).mono ?_
    rintro e w1 ⟨rfl, rfl⟩
    go_wp2_with fail
    refine (rlen_any H.out HN.out.1 HN.out.2).mono ?_
    rintro e w1 ⟨rfl, rfl⟩
    go_wp2
    go_ret2
    exact ⟨ret2 HF2.out.1.symm HF2.out.2.symm, rfl⟩
  · have e0 : ((g : Int) % 2) = 1 := by omega
    have HF2 : Hid ((fromOf s.n g : Int) = 2 + (half s.n : Int) ∧ (toOf s.n g : Int) = 2 + (half s.n : Int) + (half s.n : Int)) := by have := HF.out; rw [if_neg hg, if_neg hg] at this; exact this
    go_enter Try.func34, Try.ntmps34
    go_wp2_with fail
    refine (rlen_any H.out HN.out.1 HN.out.2).mono ?_
    rintro e w1 ⟨rfl, rfl⟩
    go_wp2_with fail
    refine (rlen_any H.out HN.out.1 HN.out.2).mono ?_
    rintro e w1 ⟨rfl, rfl⟩
    go_wp2
    go_ret2
    exact ⟨ret2 HF2.out.1.symm HF2.out.2.symm, rfl⟩
end
/-- mark: the superblock is Written, and Flush. -/
def St.mark (s : St) (g : Nat) : St × Nat := andThen (s.wr (g % 2) (fill (sup g) 64)) St.fl
section
variable {w : World} {D : Nat} {s : St} {F : Nat → Prop}
set_option maxHeartbeats 800000 in
theorem mark_any (h : Disk w D s F) (g : Nat) (hg : g ≤ 2147483647) (hn : 4 ≤ s.n) (hlo : s.lo.length < 900000) : Calls Try.prog 63 #[.pointer (some ⟨D, 0, none⟩), .int .i64 (g : Int)] w fun e w' =>
    e = .returned (.int .i64 ((s.mark g).2 : Int)) ∧ ∃ F', Disk w' D (s.mark g).1 F' ∧ Step F F' w w' := by
  have H := hide h
  have HLO := hide hlo
  clear h hlo
  go_enter Try.func63, Try.ntmps63
  go_wp2_with fail
  refine (superb_any g (by omega) _).mono ?_
  rintro e w1 ⟨rfl, hs1, hb1⟩
  have HD1 := hide (H.out.later hb1)
  have HS1 := hide hs1
  have HB1 := hide hb1
  clear hs1 hb1
  go_wp2_with fail
  rw [show ((g : Int) % 2) = ((g % 2 : Nat) : Int) from by omega]
  refine (disk_wr HD1.out (g % 2) (by omega) _ 64 64 (sup g) (by omega) (by have := HLO.out; omega) (HS1.out.rw 64 (by omega)) (fun x hx _ => by injection hx with hx; subst hx; have := H.out.D.2; show w.heap.size ≠ D; omega)).mono ?_
  rintro e w2 ⟨rfl, F2, hd2, hst2⟩
  have HD2 := hide hd2
  have HST2 := hide ((Step.of_below (F := F) HB1.out).trans hst2)
  clear hd2 hst2
  rcases wr_cases s (g % 2) (fill (sup g) 64) with h0 | h0
  · have HM : Hid (s.mark g = (s.wr (g % 2) (fill (sup g) 64)).1.fl) := andThen_ok h0
    rw [h0]
    clear h0
    go_wp2_with fail
    refine (disk_fl HD2.out).mono ?_
    rintro e w3 ⟨rfl, F3, hd3, hst3⟩
    have HD3 := hide hd3
    have HST3 := hide (HST2.out.trans hst3)
    clear hd3 hst3
    go_wp2
    go_ret
    rw [HM.out]
    exact ⟨rfl, F3, HD3.out, HST3.out⟩
  · have HM : Hid (s.mark g = s.wr (g % 2) (fill (sup g) 64)) := andThen_no (by rw [h0]; decide)
    have H0 := hide h0
    rw [h0]
    clear h0
    go_wp2
    go_ret
    rw [HM.out, H0.out]
    exact ⟨rfl, F2, HD2.out, HST2.out⟩
end
end Go.Proofs.Ytbecchoidglaeaa
