/- The program's log: superblock, regionOf, mark, genAt, counting. -/
import Derived.Test.YtbecchoidglaeaaGLogP
import Derived.Test.YtbecchoidglaeaaGRegC
import Derived.Laws.BitsAllLaws
import Derived.Deep.QuietTactic
import Derived.BigQuiet
namespace Go.Proofs.Ytbecchoidglaeaa
open Go.RowKit
set_option maxRecDepth 100000

set_option maxHeartbeats 800000 in
theorem wappN_any (w : World) (g n : Nat) (p : Nat → Nat) (x : Nat) (hx : x < 4294967296) (hg : Sheet w g p) (hn : n + 4 ≤ 64) :
    Calls Try.prog 77 #[.slice (some ⟨g, 0, none⟩) n 64, .int .u32 (x : Int)] w fun e w' => e = .returned (.slice (some ⟨g, 0, none⟩) (n + 4) 64) ∧ Sheet w' g (put4 p n (four x)) ∧ Keeps (fun b => b = g) w w' := by
  obtain ⟨w1, hr, hs, hk⟩ := run_app4 w g n p (four x) _ (four_vals x hx) hg hn
  have HR := hide hr
  have HS := hide hs
  have HK := hide hk
  clear hr hs hk hg
  go_enter Try.func77, Try.ntmps77
  go_wp2_with ((with_reducible refine wpl_append _ _ 37 _ (.slice (some ⟨w.heap.size, 0, none⟩) 4 4) _ ?_ ?_ HR.out ?_); (· rfl); (· rfl))
  go_ret
  exact ⟨rfl, HS.out, HK.out⟩
theorem supP_low (g i : Nat) (hi : i < 4) : put4 (fun _ => 0) 0 (four g) i = four g i := by
  unfold put4
  rw [if_pos (by omega), Nat.sub_zero]
theorem supP_eq (g c : Nat) (hc : c = crc (four g) 4) : put4 (put4 (fun _ => 0) 0 (four g)) 4 (four c) = sup g := by
  subst hc
  funext j
  unfold sup fill cat
  by_cases h1 : j < 4
  · rw [if_pos (by omega), if_pos h1]
    unfold put4
    rw [if_neg (by omega), if_pos (by omega), Nat.sub_zero]
  · by_cases h2 : j < 8
    · rw [if_pos h2, if_neg h1]
      conv => lhs; unfold put4
      rw [if_pos (by omega)]
    · rw [if_neg h2]
      unfold put4
      rw [if_neg (by omega), if_neg (by omega)]
set_option maxHeartbeats 1600000 in
theorem superb_any (g : Nat) (hg : g < 4294967296) (w : World) :
    Calls Try.prog 72 #[.int .i64 (g : Int)] w fun e w' => e = .returned (.slice (some ⟨w.heap.size, 0, none⟩) 64 64) ∧ Sheet w' w.heap.size (sup g) ∧ Below w.heap.size w w' := by
  have hc := crc_lt (four g) 4 (fun i _ => four_lt _ i)
  have hmk := fun w => run_make_room w
  go_enter Try.func72, Try.ntmps72
  go_wp2_with fail
  have hs0 : Sheet (w.alloc (.cells (valsOf (fun _ => 0) 64).toArray 5)) w.heap.size (fun _ => 0) := heap_alloc_new w _
  refine (wappN_any _ w.heap.size 0 (fun _ => 0) g (by omega) hs0 (by omega)).mono ?_
  rintro e w1 ⟨rfl, hs1, hk1⟩
  have HS1 := hide hs1
  have HK1 := hide (((Keeps.refl (fun b => b = w.heap.size) w).alloc (.cells (valsOf (fun _ => 0) 64).toArray 5)).trans hk1 (fun _ _ h => h))
  clear hs0 hs1 hk1
  go_wp2_with fail
  refine (of_rw _ 4 64 (four g) w1 ((HS1.out.rw 4 (by omega)).congr (supP_low g)) (fun i _ => four_lt _ i)).mono ?_
  rintro e w5 ⟨rfl, rfl⟩
  go_wp2_with fail
  refine (wappN_any _ w.heap.size 4 _ (crc (four g) 4) hc HS1.out (by omega)).mono ?_
  rintro e w6 ⟨rfl, hs6, hk6⟩
  have HS6 := hide hs6
  have HK6 := hide (HK1.out.trans hk6 (fun _ _ h => h))
  clear hs6 hk6
  go_wp2
  go_ret
  refine ⟨rfl, ?_, HK6.out.below _ (Nat.le_refl _) (fun b hb => by omega)⟩
  have hs := HS6.out
  rw [supP_eq g _ rfl] at hs
  exact hs
section
variable {w : World} {D : Nat} {s : St} {F : Nat → Prop}
set_option maxHeartbeats 400000 in
theorem rlen_any (h : Disk w D s F) (hn : 4 ≤ s.n) (hs : s.n ≤ 1024) : Calls Try.prog 51 #[.pointer (some ⟨D, 0, none⟩)] w fun e w' => e = .returned (.int .i64 (half s.n : Int)) ∧ w' = w := by
  have HH : Hid ((half s.n : Int) = ((s.n : Int) - 2) / 2) := by show _ = _; unfold half; omega
  have hn' : (4 : Int) ≤ (s.n : Int) := by omega
  have hs' : (s.n : Int) ≤ 1024 := by omega
  have H := hide h
  clear h hn hs
  go_enter Try.func51, Try.ntmps51
  go_wp2_with fail
  refine (disk_len H.out).mono ?_
  rintro e w1 ⟨rfl, rfl⟩
  go_wp2
  go_ret
  exact ⟨ret_int HH.out.symm, rfl⟩
set_option maxHeartbeats 800000 in
theorem rof_any (h : Disk w D s F) (g : Nat) (hn : 4 ≤ s.n) (hs : s.n ≤ 1024) : Calls Try.prog 34 #[.pointer (some ⟨D, 0, none⟩), .int .i64 (g : Int)] w fun e w' =>
    e = .returned (.tuple #[.int .i64 (fromOf s.n g : Int), .int .i64 (toOf s.n g : Int)]) ∧ w' = w := by
  have hm : (half s.n : Int) ≤ 1024 := by unfold half; omega
  have HN := hide (And.intro hn hs)
  have H := hide h
  have HF : Hid ((fromOf s.n g : Int) = (if g % 2 = 0 then 2 else 2 + (half s.n : Int)) ∧ (toOf s.n g : Int) = (if g % 2 = 0 then 2 + (half s.n : Int) else 2 + (half s.n : Int) + (half s.n : Int))) := by
    show _ ∧ _
    unfold toOf fromOf
    split <;> omega
  clear h hn hs
  by_cases hg : g % 2 = 0
  · have e0 : ((g : Int) % 2) = 0 := by omega
    have HF2 : Hid ((fromOf s.n g : Int) = 2 ∧ (toOf s.n g : Int) = 2 + (half s.n : Int)) := by have := HF.out; rw [if_pos hg, if_pos hg] at this; exact this
    go_enter Try.func34, Try.ntmps34
    go_wp2_with fail
    refine (rlen_any H.out HN.out.1 HN.out.2).mono ?_
    rintro e w1 ⟨rfl, rfl⟩
    go_wp2_with fail
    refine (rlen_any H.out HN.out.1 HN.out.2).mono ?_
    rintro e w1 ⟨rfl, rfl⟩
    go_wp2
    go_ret2
    exact ⟨ret2 HF2.out.1.symm HF2.out.2.symm, rfl⟩
  · have e0 : ((g : Int) % 2) = 1 := by omega
    have HF2 : Hid ((fromOf s.n g : Int) = 2 + (half s.n : Int) ∧ (toOf s.n g : Int) = 2 + (half s.n : Int) + (half s.n : Int)) := by have := HF.out; rw [if_neg hg, if_neg hg] at this; exact this
    go_enter Try.func34, Try.ntmps34
    go_wp2_with fail
    refine (rlen_any H.out HN.out.1 HN.out.2).mono ?_
    rintro e w1 ⟨rfl, rfl⟩
    go_wp2_with fail
    refine (rlen_any H.out HN.out.1 HN.out.2).mono ?_
    rintro e w1 ⟨rfl, rfl⟩
    go_wp2
    go_ret2
    exact ⟨ret2 HF2.out.1.symm HF2.out.2.symm, rfl⟩
end
/-- mark: the superblock is Written, and Flush. -/
def St.mark (s : St) (g : Nat) : St × Nat := andThen (s.wr (g % 2) (fill (sup g) 64)) St.fl
section
variable {w : World} {D : Nat} {s : St} {F : Nat → Prop}
set_option maxHeartbeats 800000 in
theorem mark_any (h : Disk w D s F) (g : Nat) (hg : g ≤ 2147483647) (hn : 4 ≤ s.n) (hlo : s.lo.length < 900000) : Calls Try.prog 63 #[.pointer (some ⟨D, 0, none⟩), .int .i64 (g : Int)] w fun e w' =>
    e = .returned (.int .i64 ((s.mark g).2 : Int)) ∧ ∃ F', Disk w' D (s.mark g).1 F' ∧ Step F F' w w' := by
  have H := hide h
  have HLO := hide hlo
  clear h hlo
  go_enter Try.func63, Try.ntmps63
  go_wp2_with fail
  refine (superb_any g (by omega) _).mono ?_
  rintro e w1 ⟨rfl, hs1, hb1⟩
  have HD1 := hide (H.out.later hb1)
  have HS1 := hide hs1
  have HB1 := hide hb1
  clear hs1 hb1
  go_wp2_with fail
  rw [show ((g : Int) % 2) = ((g % 2 : Nat) : Int) from by omega]
  refine (disk_wr HD1.out (g % 2) (by omega) _ 64 64 (sup g) (by omega) (by have := HLO.out; omega) (HS1.out.rw 64 (by omega)) (fun x hx _ => by injection hx with hx; subst hx; have := H.out.D.2; show w.heap.size ≠ D; omega)).mono ?_
  rintro e w2 ⟨rfl, F2, hd2, hst2⟩
  have HD2 := hide hd2
  have HST2 := hide ((Step.of_below (F := F) HB1.out).trans hst2)
  clear hd2 hst2
  rcases wr_cases s (g % 2) (fill (sup g) 64) with h0 | h0
  · have HM : Hid (s.mark g = (s.wr (g % 2) (fill (sup g) 64)).1.fl) := andThen_ok h0
    rw [h0]
    clear h0
    go_wp2_with fail
    refine (disk_fl HD2.out).mono ?_
    rintro e w3 ⟨rfl, F3, hd3, hst3⟩
    have HD3 := hide hd3
    have HST3 := hide (HST2.out.trans hst3)
    clear hd3 hst3
    go_wp2
    go_ret
    rw [HM.out]
    exact ⟨rfl, F3, HD3.out, HST3.out⟩
  · have HM : Hid (s.mark g = s.wr (g % 2) (fill (sup g) 64)) := andThen_no (by rw [h0]; decide)
    have H0 := hide h0
    rw [h0]
    clear h0
    go_wp2
    go_ret
    rw [HM.out, H0.out]
    exact ⟨rfl, F2, HD2.out, HST2.out⟩
end
end Go.Proofs.Ytbecchoidglaeaa
/- The program's log: genAt, counting. -/
namespace Go.Proofs.Ytbecchoidglaeaa
open Go.RowKit
set_option maxRecDepth 100000

theorem or_u32 (x y i : Nat) (hx : x * 2 ^ i < 4294967296) (hy : y < 2 ^ i) (hi : i ≤ 24) : bits .or .u32 ((x : Int) * 2 ^ i) (y : Int) = ((x * 2 ^ i + y : Nat) : Int) := by
  have hp : (2 : Nat) ^ i ≤ 2 ^ 24 := Nat.pow_le_pow_right (by omega) hi
  have h1 : x * 2 ^ i ||| y = x * 2 ^ i + y := by rw [Nat.mul_comm, ← Nat.two_pow_add_eq_or_of_lt hy x]
  have e1 : ((x : Int) * 2 ^ i) = ((x * 2 ^ i : Nat) : Int) := by norm_cast
  rw [e1, u32_or_nat _ _ hx (by omega), h1]
theorem or_four (x0 x1 x2 x3 : Nat) (h0 : x0 < 256) (h1 : x1 < 256) (h2 : x2 < 256) (h3 : x3 < 256) :
    bits .or .u32 (bits .or .u32 (bits .or .u32 ((x0 : Int) * 16777216) ((x1 : Int) * 65536)) ((x2 : Int) * 256)) (x3 : Int) = ((x0 * 16777216 + x1 * 65536 + x2 * 256 + x3 : Nat) : Int) := by
  have o1 : bits .or .u32 ((x0 : Int) * 16777216) ((x1 : Int) * 65536) = (((x0 * 256 + x1) : Nat) : Int) * 65536 := by
    have := or_u32 x0 (x1 * 65536) 24 (by omega) (by omega) (by omega)
    rw [show ((x1 * 65536 : Nat) : Int) = (x1 : Int) * 65536 from by omega, show ((2 : Int) ^ 24) = 16777216 from rfl] at this
    rw [this]; omega
  have o2 : bits .or .u32 ((((x0 * 256 + x1) : Nat) : Int) * 65536) ((x2 : Int) * 256) = (((x0 * 65536 + x1 * 256 + x2) : Nat) : Int) * 256 := by
    have := or_u32 (x0 * 256 + x1) (x2 * 256) 16 (by omega) (by omega) (by omega)
    rw [show ((x2 * 256 : Nat) : Int) = (x2 : Int) * 256 from by omega, show ((2 : Int) ^ 16) = 65536 from rfl] at this
    rw [this]; omega
  have o3 : bits .or .u32 ((((x0 * 65536 + x1 * 256 + x2) : Nat) : Int) * 256) (x3 : Int) = ((x0 * 16777216 + x1 * 65536 + x2 * 256 + x3 : Nat) : Int) := by
    have := or_u32 (x0 * 65536 + x1 * 256 + x2) x3 8 (by omega) (by omega) (by omega)
    rw [show ((2 : Int) ^ 8) = 256 from rfl] at this
    rw [this]; omega
  rw [o1, o2, o3]
theorem supAt_no' {s : St} {i : Nat} (h : ¬ (1 ≤ num (s.now i) ∧ num (s.now i) ≤ 2147483647 ∧ num (s.now i) % 2 = i ∧ eqB (s.now i) (sup (num (s.now i))) 64 = true)) : supAt s i = 0 := if_neg h
section
variable {w : World} {D : Nat} {s : St} {F : Nat → Prop}
set_option maxHeartbeats 1600000 in
theorem genAt_any (h : Disk w D s F) (hby : Byt s) (i : Nat) (hi : i < 2) (hn : 4 ≤ s.n) : Calls Try.prog 62 #[.pointer (some ⟨D, 0, none⟩), .int .i64 (i : Int)] w fun e w' =>
    e = .returned (.int .i64 (supAt s i : Int)) ∧ Below w.heap.size w w' := by
  have H := hide h
  have HBY : Hid (∀ j, j < 64 → s.now i j < 256) := fun j hj => hby i (by omega) j hj
  clear h hby
  go_enter Try.func62, Try.ntmps62
  go_wp2_with fail
  refine (disk_read H.out (i : Int) (by omega) (by omega)).mono ?_
  rintro e w1 ⟨b, rfl, hr, hle, hb1⟩
  rw [Int.toNat_natCast] at hr
  have hb0 := HBY.out 0 (by omega)
  have hb1' := HBY.out 1 (by omega)
  have hb2 := HBY.out 2 (by omega)
  have hb3 := HBY.out 3 (by omega)
  have hc := hr.cells
  have c0 := hc 0 (by omega)
  have c1 := hc 1 (by omega)
  have c2 := hc 2 (by omega)
  have c3 := hc 3 (by omega)
  have HR := hide hr
  have HB := hide hb1
  have HN : Hid (num (s.now i) = s.now i 0 * 16777216 + s.now i 1 * 65536 + s.now i 2 * 256 + s.now i 3) := rfl
  have HO := hide (or_four (s.now i 0) (s.now i 1) (s.now i 2) (s.now i 3) hb0 hb1' hb2 hb3)
  rw [← HN.out] at HO
  obtain ⟨N, hN⟩ : ∃ N, N = num (s.now i) := ⟨_, rfl⟩
  rw [← hN] at HO
  have hN4 : N < 4294967296 := by rw [hN, HN.out]; omega
  have HNN := hide hN
  clear hc hr hb1 hN
  generalize s.now i 0 = x0 at *
  generalize s.now i 1 = x1 at *
  generalize s.now i 2 = x2 at *
  generalize s.now i 3 = x3 at *
  simp only [Nat.zero_add] at c0 c1 c2 c3
  go_wp2_with fail
  go_quiet (fail)
  rw [HO.out]
  have HB2 := hide (below_drewN HB.out nq)
  have HR2 := hide (HR.out.below (below_drewN (Below.refl _ _) nq))
  clear c0 c1 c2 c3 hb0 hb1' hb2 hb3
  generalize w1.drewN nq = w2 at *
  have HN4 := hide hN4
  have hN5 : (N : Int) ≤ 4294967295 := by omega
  have hN6 : (0 : Int) ≤ (N : Int) := by omega
  clear hN4
  by_cases hA : (2147483647 : Int) < (N : Int)
  · have HA := hide hA
    go_wp2
    go_ret
    refine ⟨?_, HB2.out⟩
    rw [supAt_no' (by rw [← HNN.out]; have := HA.out; omega)]
    rfl
  · have HA : Hid (N ≤ 2147483647) := by show _ ≤ _; omega
    have hA' : decide ((2147483647 : Int) < (N : Int)) = false := decide_eq_false hA
    clear hA
    by_cases hP : N % 2 = i
    · have HP := hide hP
      have hP' : (((N : Int) % 2) != (i : Int)) = false := by simp; omega
      clear hP
      go_wp2_with fail
      refine (superb_any N HN4.out _).mono ?_
      rintro e w3 ⟨rfl, hs3, hb3⟩
      have HB3 := hide (HB2.out.trans (below_le hb3 HB2.out.size))
      have HE := hide (equal_some b 0 w2.heap.size 0 64 64 64 (s.now i) (sup N) w3 (fun j hj => HBY.out j hj) (fun j _ => sup_lt N j) (HR2.out.below hb3).cells (hs3.rw 64 (by omega)).cells)
      clear hs3 hb3
      go_wp2_with fail
      refine HE.out.mono ?_
      cases hE : eqB (s.now i) (sup N) 64 with
      | false =>
        rintro e w4 ⟨rfl, rfl⟩
        have HEE := hide hE
        clear hE
        go_wp2
        go_ret
        refine ⟨?_, HB3.out⟩
        rw [supAt_no' (by rw [← HNN.out, HEE.out]; rintro ⟨_, _, _, h⟩; cases h)]
        rfl
      | true =>
        rintro e w4 ⟨rfl, rfl⟩
        have HEE := hide hE
        clear hE
        go_wp2
        go_ret
        refine ⟨ret_int ?_, HB3.out⟩
        by_cases h1 : 1 ≤ N
        · unfold supAt
          rw [← HNN.out, if_pos ⟨h1, HA.out, HP.out, HEE.out⟩]
        · rw [supAt_no' (by rw [← HNN.out]; omega), show N = 0 from by omega]
    · have HP := hide hP
      have hP' : (((N : Int) % 2) != (i : Int)) = true := by simp; omega
      clear hP
      go_wp2
      go_ret
      refine ⟨?_, HB2.out⟩
      rw [supAt_no' (by rw [← HNN.out]; have := HP.out; omega)]
      rfl
/-- The greatest generation of the first i superblocks. -/
def gensUp (s : St) : Nat → Nat
  | 0 => 0
  | i + 1 => max (gensUp s i) (supAt s i)
theorem gensUp_two (s : St) : gensUp s 2 = genAt s := by show max (max 0 (supAt s 0)) (supAt s 1) = _; unfold genAt; omega
theorem gensUp_le (s : St) : ∀ i, gensUp s i ≤ 2147483647
  | 0 => by show 0 ≤ _; omega
  | i + 1 => by have h1 := gensUp_le s i; have h2 := supAt_le s i; show max _ _ ≤ _; omega
set_option maxHeartbeats 800000 in
theorem counting_any (h : Disk w D s F) (hby : Byt s) (hn : 4 ≤ s.n) : Calls Try.prog 32 #[.pointer (some ⟨D, 0, none⟩)] w fun e w' =>
    e = .returned (.int .i64 (genAt s : Int)) ∧ Below w.heap.size w w' := by
  have H := hide h
  have HBY := hide hby
  have HN := hide hn
  clear h hby hn
  go_enter Try.func32, Try.ntmps32
  go_wp2
  go_loopw [3, 5] (fun gv iv wq => ∃ i G : Nat, i ≤ 2 ∧ iv = .int .i64 (i : Int) ∧ gv = .int .i64 (G : Int) ∧ Hid (G = gensUp s i) ∧ Hid (Below w.heap.size w wq)) (fun _ iv _ => 2 - (intOf iv).toNat)
  case atStart => exact ⟨0, 0, by omega, rfl, rfl, rfl, Below.refl _ _⟩
  case round =>
    obtain ⟨i, G, hi, rfl, rfl, HG, HB⟩ := hrel
    by_cases hlt : (i : Int) < 2
    · go_wp2_with fail
      refine (genAt_any (H.out.later HB.out) HBY.out i (by omega) HN.out).mono ?_
      rintro e w1 ⟨rfl, hb1⟩
      have HB1 := hide (HB.out.trans (below_le hb1 HB.out.size))
      clear hb1
      have HM : Hid (max G (supAt s i) = gensUp s (i + 1)) := by show _ = max (gensUp s i) (supAt s i); rw [HG.out]
      generalize supAt s i = X at *
      by_cases hx : (G : Int) ≤ (X : Int)
      · go_wp2
        exact ⟨⟨i + 1, X, by omega, by go_num, by go_num, by show X = _; rw [← HM.out]; omega, HB1.out⟩, by simp [intOf]; omega⟩
      · go_wp2
        exact ⟨⟨i + 1, G, by omega, by go_num, by go_num, by show G = _; rw [← HM.out]; omega, HB1.out⟩, by simp [intOf]; omega⟩
    · have HI : Hid (i = 2) := by show i = 2; omega
      go_wp2
      go_ret
      exact ⟨ret_int (by rw [HG.out, HI.out, gensUp_two]), HB.out⟩
end
end Go.Proofs.Ytbecchoidglaeaa
/- The program's log in memory; isNone, failed, Gen, Used. -/
namespace Go.Proofs.Ytbecchoidglaeaa
open Go.RowKit
set_option maxRecDepth 100000

/-- The program's log at block B is g, over the disk at D. -/
def PLogIn (w : World) (B D : Nat) (g : Lg) : Prop := w.heap[B]? = some (.cells #[.pointer (some ⟨D, 0, none⟩), .int .i64 (g.gen : Int), .int .i64 (g.at_ : Int), .bool g.down] 79 (0, 0))
section
variable {w w' : World} {B D : Nat} {g : Lg}
theorem PLogIn.c0 (h : PLogIn w B D g) : w.cell? ⟨B, 0, none⟩ = some (.pointer (some ⟨D, 0, none⟩)) := by rw [cell_of_row w B 0 _ _ _ h]; rfl
theorem PLogIn.c1 (h : PLogIn w B D g) : w.cell? ⟨B, 1, none⟩ = some (.int .i64 (g.gen : Int)) := by rw [cell_of_row w B 1 _ _ _ h]; rfl
theorem PLogIn.c2 (h : PLogIn w B D g) : w.cell? ⟨B, 2, none⟩ = some (.int .i64 (g.at_ : Int)) := by rw [cell_of_row w B 2 _ _ _ h]; rfl
theorem PLogIn.c3 (h : PLogIn w B D g) : w.cell? ⟨B, 3, none⟩ = some (.bool g.down) := by rw [cell_of_row w B 3 _ _ _ h]; rfl
theorem PLogIn.fz (h : PLogIn w B D g) (i : Nat) : w.frozen? ⟨B, i, none⟩ = false := by
  have h' : w.heap[B]? = some (.cells #[.pointer (some ⟨D, 0, none⟩), .int .i64 (g.gen : Int), .int .i64 (g.at_ : Int), .bool g.down] 79 (0, 0)) := h
  simp [World.frozen?, h']
theorem PLogIn.lt (h : PLogIn w B D g) : B < w.heap.size := World.block_lt_of_cell? w _ h.c0
theorem PLogIn.keeps (h : PLogIn w B D g) {F : Nat → Prop} (hk : Keeps F w w') (hn : ¬ F B) : PLogIn w' B D g := by
  have hb := hk.block B h.lt hn
  unfold PLogIn at *
  rw [hb]
  exact h
theorem PLogIn.setAt (h : PLogIn w B D g) (a : Nat) : PLogIn (w.setCell ⟨B, 2, none⟩ (.int .i64 (a : Int))) B D { g with at_ := a } := heap_set_at w B 2 _ _ _ _ h
theorem PLogIn.setGen (h : PLogIn w B D g) (a : Nat) : PLogIn (w.setCell ⟨B, 1, none⟩ (.int .i64 (a : Int))) B D { g with gen := a } := heap_set_at w B 1 _ _ _ _ h
theorem PLogIn.setDown (h : PLogIn w B D g) (d : Bool) : PLogIn (w.setCell ⟨B, 3, none⟩ (.bool d)) B D { g with down := d } := heap_set_at w B 3 _ _ _ _ h
end
/-- The program's log at B over its disk at D. -/
structure PLog (w : World) (B D : Nat) (g : Lg) (s : St) (F : Nat → Prop) : Prop where
  l : PLogIn w B D g
  d : Disk w D s F
  nf : ¬ F B
theorem PLog.later {w w' : World} {B D : Nat} {g : Lg} {s : St} {F : Nat → Prop} (h : PLog w B D g s F) (hb : Below w.heap.size w w') : PLog w' B D g s F :=
  ⟨h.l.keeps (F := fun _ => False) (Keeps.of_below hb _) (fun h => h), h.d.later hb, h.nf⟩
theorem PLog.step {w w' : World} {B D : Nat} {g : Lg} {s s' : St} {F F' : Nat → Prop} (h : PLog w B D g s F) (hd : Disk w' D s' F') (hst : Step F F' w w') : PLog w' B D g s' F' :=
  ⟨h.l.keeps hst.1 h.nf, hd, fun hb => by rcases hst.2 B hb with h1 | h1; exact h.nf h1; have := h.l.lt; omega⟩
/-- A store into the log's own block. -/
theorem PLog.store {w w' : World} {B D : Nat} {g g' : Lg} {s : St} {F : Nat → Prop} (h : PLog w B D g s F) (hl : PLogIn w' B D g') (hk : Keeps (fun b => b = B) w w') : PLog w' B D g' s F :=
  ⟨hl, h.d.keeps hk (fun _ hb e => h.nf (e ▸ hb)), h.nf⟩
/-- What a call of the log turns: the disk's blocks and the log's. -/
def PStep (B : Nat) (F F' : Nat → Prop) (w w' : World) : Prop := Keeps (fun b => F b ∨ b = B) w w' ∧ ∀ b, F' b → F b ∨ w.heap.size ≤ b
theorem PStep.refl (B : Nat) (F : Nat → Prop) (w : World) : PStep B F F w w := ⟨Keeps.refl _ _, fun _ h => .inl h⟩
theorem Step.log {B : Nat} {F F' : Nat → Prop} {w w' : World} (h : Step F F' w w') : PStep B F F' w w' := ⟨h.1.mono (fun _ _ hb => .inl hb), h.2⟩
theorem PStep.trans {B : Nat} {F F1 F2 : Nat → Prop} {w w1 w2 : World} (h : PStep B F F1 w w1) (k : PStep B F1 F2 w1 w2) : PStep B F F2 w w2 := by
  have hs := h.1.size
  refine ⟨h.1.trans k.1 (fun b hb hw => ?_), fun b hb => ?_⟩
  · rcases hw with hw | hw
    · rcases h.2 b hw with h1 | h1
      · exact .inl h1
      · omega
    · exact .inr hw
  · rcases k.2 b hb with h1 | h1
    · exact h.2 b h1
    · exact .inr (by omega)
theorem PStep.own {B : Nat} {F : Nat → Prop} {w w' : World} (h : Keeps (fun b => b = B) w w') : PStep B F F w w' := ⟨h.mono (fun _ _ hb => .inr hb), fun _ h => .inl h⟩
set_option maxHeartbeats 400000 in
theorem isNone_nil (w : World) : Calls Try.prog 46 #[.pointer none] w fun e w' => e = .returned (.bool true) ∧ w' = w := by
  go_enter Try.func46, Try.ntmps46
  go_wp2
  go_ret
  exact ⟨rfl, rfl⟩
set_option maxHeartbeats 400000 in
theorem isNone_in {w : World} {B D : Nat} {g : Lg} (h : PLogIn w B D g) : Calls Try.prog 46 #[.pointer (some ⟨B, 0, none⟩)] w fun e w' => e = .returned (.bool false) ∧ w' = w := by
  have c0 := h.c0
  clear h
  go_enter Try.func46, Try.ntmps46
  go_wp2
  go_ret
  exact ⟨rfl, rfl⟩
set_option maxHeartbeats 400000 in
theorem failed_in {w : World} {B D : Nat} {g : Lg} (h : PLogIn w B D g) (e : Int) : Calls Try.prog 48 #[.pointer (some ⟨B, 0, none⟩), .int .i64 e] w fun r w' => r = .returned (.int .i64 e) ∧ w' = w.setCell ⟨B, 3, none⟩ (.bool (e == 4)) := by
  have c3 := h.c3
  have f3 := h.fz 3
  clear h
  go_enter Try.func48, Try.ntmps48
  go_wp2
  go_ret
  exact ⟨rfl, rfl⟩
set_option maxHeartbeats 400000 in
theorem gen_nil (w : World) : Calls Try.prog 23 #[.pointer none] w fun e w' => e = .returned (.int .i64 0) ∧ w' = w := by
  go_enter Try.func23, Try.ntmps23
  go_wp2_with fail
  refine (isNone_nil _).mono ?_
  rintro e w1 ⟨rfl, rfl⟩
  go_wp2
  go_ret
  exact ⟨rfl, rfl⟩
set_option maxHeartbeats 400000 in
theorem gen_in {w : World} {B D : Nat} {g : Lg} (h : PLogIn w B D g) : Calls Try.prog 23 #[.pointer (some ⟨B, 0, none⟩)] w fun e w' => e = .returned (.int .i64 (g.gen : Int)) ∧ w' = w := by
  have c1 := h.c1
  have H := hide h
  clear h
  go_enter Try.func23, Try.ntmps23
  go_wp2_with fail
  refine (isNone_in H.out).mono ?_
  rintro e w1 ⟨rfl, rfl⟩
  go_wp2
  go_ret
  exact ⟨rfl, rfl⟩
set_option maxHeartbeats 400000 in
theorem used_nil (w : World) : Calls Try.prog 25 #[.pointer none] w fun e w' => e = .returned (.int .i64 0) ∧ w' = w := by
  go_enter Try.func25, Try.ntmps25
  go_wp2_with fail
  refine (isNone_nil _).mono ?_
  rintro e w1 ⟨rfl, rfl⟩
  go_wp2
  go_ret
  exact ⟨rfl, rfl⟩
set_option maxHeartbeats 800000 in
theorem used_in {w : World} {B D : Nat} {g : Lg} {s : St} {F : Nat → Prop} (h : PLog w B D g s F) (hn : 4 ≤ s.n) (hs : s.n ≤ 1024) (hat : g.at_ ≤ s.n) : Calls Try.prog 25 #[.pointer (some ⟨B, 0, none⟩)] w fun e w' => e = .returned (.int .i64 ((g.at_ : Int) - (fromOf s.n g.gen : Int))) ∧ ∃ k, w' = w.drewN k := by
  have c0 := h.l.c0
  have c1 := h.l.c1
  have c2 := h.l.c2
  have hf := fromOf_le s.n g.gen hn
  have h1 : (fromOf s.n g.gen : Int) ≤ 1024 := by omega
  have h2 : (g.at_ : Int) ≤ 1024 := by omega
  have H := hide h
  have HN := hide (And.intro hn hs)
  clear h hf hn hs hat
  go_enter Try.func25, Try.ntmps25
  go_wp2_with fail
  refine (isNone_in H.out.l).mono ?_
  rintro e w1 ⟨rfl, rfl⟩
  go_wp2_with fail
  go_quiet ((go_at_call 34; refine Calls.quiet_of_same (rof_any (H.out.d.later (below_drewN (Below.refl _ _) _)) g.gen HN.out.1 HN.out.2)))
  have q2 : (w1.drewN nq).cell? ⟨B, 2, none⟩ = some (.int .i64 (g.at_ : Int)) := by rw [cell_drewN]; exact c2
  go_wp2
  go_ret
  exact ⟨rfl, nq, rfl⟩
end Go.Proofs.Ytbecchoidglaeaa
