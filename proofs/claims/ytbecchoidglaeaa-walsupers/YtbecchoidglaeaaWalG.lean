/- The program's log: genAt, counting. -/
import Derived.Test.YtbecchoidglaeaaWalS
namespace Go.Proofs.Ytbecchoidglaeaa
open Go.RowKit
set_option maxRecDepth 100000

theorem or_u32 (x y i : Nat) (hx : x * 2 ^ i < 4294967296) (hy : y < 2 ^ i) (hi : i ≤ 24) : bits .or .u32 ((x : Int) * 2 ^ i) (y : Int) = ((x * 2 ^ i + y : Nat) : Int) := by
  have hp : (2 : Nat) ^ i ≤ 2 ^ 24 := Nat.pow_le_pow_right (by omega) hi
  have h1 : x * 2 ^ i ||| y = x * 2 ^ i + y := by rw [Nat.mul_comm, ← Nat.two_pow_add_eq_or_of_lt hy x]
  have e1 : ((x : Int) * 2 ^ i) = ((x * 2 ^ i : Nat) : Int) := by norm_cast
  rw [e1, u32_or_nat _ _ hx (by omega), h1]
theorem or_four (x0 x1 x2 x3 : Nat) (h0 : x0 < 256) (h1 : x1 < 256) (h2 : x2 < 256) (h3 : x3 < 256) :
    bits .or .u32 (bits .or .u32 (bits .or .u32 ((x0 : Int) * 16777216) ((x1 : Int) * 65536)) ((x2 : Int) * 256)) (x3 : Int) = ((x0 * 16777216 + x1 * 65536 + x2 * 256 + x3 : Nat) : Int) := by
  have o1 : bits .or .u32 ((x0 : Int) * 16777216) ((x1 : Int) * 65536) = (((x0 * 256 + x1) : Nat) : Int) * 65536 := by
    have := or_u32 x0 (x1 * 65536) 24 (by omega) (by omega) (by omega)
    rw [show ((x1 * 65536 : Nat) : Int) = (x1 : Int) * 65536 from by omega, show ((2 : Int) ^ 24) = 16777216 from rfl] at this
    rw [this]; omega
  have o2 : bits .or .u32 ((((x0 * 256 + x1) : Nat) : Int) * 65536) ((x2 : Int) * 256) = (((x0 * 65536 + x1 * 256 + x2) : Nat) : Int) * 256 := by
    have := or_u32 (x0 * 256 + x1) (x2 * 256) 16 (by omega) (by omega) (by omega)
    rw [show ((x2 * 256 : Nat) : Int) = (x2 : Int) * 256 from by omega, show ((2 : Int) ^ 16) = 65536 from rfl] at this
    rw [this]; omega
  have o3 : bits .or .u32 ((((x0 * 65536 + x1 * 256 + x2) : Nat) : Int) * 256) (x3 : Int) = ((x0 * 16777216 + x1 * 65536 + x2 * 256 + x3 : Nat) : Int) := by
    have := or_u32 (x0 * 65536 + x1 * 256 + x2) x3 8 (by omega) (by omega) (by omega)
    rw [show ((2 : Int) ^ 8) = 256 from rfl] at this
    rw [this]; omega
  rw [o1, o2, o3]
theorem supAt_no' {s : St} {i : Nat} (h : ¬ (1 ≤ num (s.now i) ∧ num (s.now i) ≤ 2147483647 ∧ num (s.now i) % 2 = i ∧ eqB (s.now i) (sup (num (s.now i))) 64 = true)) : supAt s i = 0 := if_neg h
section
variable {w : World} {D : Nat} {s : St} {F : Nat → Prop}
set_option maxHeartbeats 1600000 in
theorem genAt_any (h : Disk w D s F) (hby : Byt s) (i : Nat) (hi : i < 2) (hn : 4 ≤ s.n) : Calls Try.prog 62 #[.pointer (some ⟨D, 0, none⟩), .int .i64 (i : Int)] w fun e w' =>
    e = .returned (.int .i64 (supAt s i : Int)) ∧ Below w.heap.size w w' := by
  have H := hide h
  have HBY : Hid (∀ j, j < 64 → s.now i j < 256) := fun j hj => hby i (by omega) j hj
  clear h hby
  go_enter Try.func62, Try.ntmps62
  go_wp2_with fail
  refine (disk_read H.out (i : Int) (by omega) (by omega)).mono ?_
  rintro e w1 ⟨b, rfl, hr, hle, hb1⟩
  rw [Int.toNat_natCast] at hr
  have hb0 := HBY.out 0 (by omega)
  have hb1' := HBY.out 1 (by omega)
  have hb2 := HBY.out 2 (by omega)
  have hb3 := HBY.out 3 (by omega)
  have hc := hr.cells
  have c0 := hc 0 (by omega)
  have c1 := hc 1 (by omega)
  have c2 := hc 2 (by omega)
  have c3 := hc 3 (by omega)
  have HR := hide hr
  have HB := hide hb1
  have HN : Hid (num (s.now i) = s.now i 0 * 16777216 + s.now i 1 * 65536 + s.now i 2 * 256 + s.now i 3) := rfl
  have HO := hide (or_four (s.now i 0) (s.now i 1) (s.now i 2) (s.now i 3) hb0 hb1' hb2 hb3)
  rw [← HN.out] at HO
  obtain ⟨N, hN⟩ : ∃ N, N = num (s.now i) := ⟨_, rfl⟩
  rw [← hN] at HO
  have hN4 : N < 4294967296 := by rw [hN, HN.out]; omega
  have HNN := hide hN
  clear hc hr hb1 hN
  generalize s.now i 0 = x0 at *
  generalize s.now i 1 = x1 at *
  generalize s.now i 2 = x2 at *
  generalize s.now i 3 = x3 at *
  simp only [Nat.zero_add] at c0 c1 c2 c3
  go_wp2_with fail
  go_quiet (fail)
  rw [HO.out]
  have HB2 := hide (below_drewN HB.out nq)
  have HR2 := hide (HR.out.below (below_drewN (Below.refl _ _) nq))
  clear c0 c1 c2 c3 hb0 hb1' hb2 hb3
  generalize w1.drewN nq = w2 at *
  have HN4 := hide hN4
  have hN5 : (N : Int) ≤ 4294967295 := by omega
  have hN6 : (0 : Int) ≤ (N : Int) := by omega
  clear hN4
  by_cases hA : (2147483647 : Int) < (N : Int)
  · have HA := hide hA
    go_wp2
    go_ret
    refine ⟨?_, HB2.out⟩
    rw [supAt_no' (by rw [← HNN.out]; have := HA.out; omega)]
    rfl
  · have HA : Hid (N ≤ 2147483647) := by show _ ≤ _; omega
    have hA' : decide ((2147483647 : Int) < (N : Int)) = false := decide_eq_false hA
    clear hA
    by_cases hP : N % 2 = i
    · have HP := hide hP
      have hP' : (((N : Int) % 2) != (i : Int)) = false := by simp; omega
      clear hP
      go_wp2_with fail
      refine (superb_any N HN4.out _).mono ?_
      rintro e w3 ⟨rfl, hs3, hb3⟩
      have HB3 := hide (HB2.out.trans (below_le hb3 HB2.out.size))
      have HE := hide (equal_some b 0 w2.heap.size 0 64 64 64 (s.now i) (sup N) w3 (fun j hj => HBY.out j hj) (fun j _ => sup_lt N j) (HR2.out.below hb3).cells (hs3.rw 64 (by omega)).cells)
      clear hs3 hb3
      go_wp2_with fail
      refine HE.out.mono ?_
      cases hE : eqB (s.now i) (sup N) 64 with
      | false =>
        rintro e w4 ⟨rfl, rfl⟩
        have HEE := hide hE
        clear hE
        go_wp2
        go_ret
        refine ⟨?_, HB3.out⟩
        rw [supAt_no' (by rw [← HNN.out, HEE.out]; rintro ⟨_, _, _, h⟩; cases h)]
        rfl
      | true =>
        rintro e w4 ⟨rfl, rfl⟩
        have HEE := hide hE
        clear hE
        go_wp2
        go_ret
        refine ⟨ret_int ?_, HB3.out⟩
        by_cases h1 : 1 ≤ N
        · unfold supAt
          rw [← HNN.out, if_pos ⟨h1, HA.out, HP.out, HEE.out⟩]
        · rw [supAt_no' (by rw [← HNN.out]; omega), show N = 0 from by omega]
    · have HP := hide hP
      have hP' : (((N : Int) % 2) != (i : Int)) = true := by simp; omega
      clear hP
      go_wp2
      go_ret
      refine ⟨?_, HB2.out⟩
      rw [supAt_no' (by rw [← HNN.out]; have := HP.out; omega)]
      rfl
/-- The greatest generation of the first i superblocks. -/
def gensUp (s : St) : Nat → Nat
  | 0 => 0
  | i + 1 => max (gensUp s i) (supAt s i)
theorem gensUp_two (s : St) : gensUp s 2 = genAt s := by show max (max 0 (supAt s 0)) (supAt s 1) = _; unfold genAt; omega
theorem gensUp_le (s : St) : ∀ i, gensUp s i ≤ 2147483647
  | 0 => by show 0 ≤ _; omega
  | i + 1 => by have h1 := gensUp_le s i; have h2 := supAt_le s i; show max _ _ ≤ _; omega
set_option maxHeartbeats 800000 in
theorem counting_any (h : Disk w D s F) (hby : Byt s) (hn : 4 ≤ s.n) : Calls Try.prog 32 #[.pointer (some ⟨D, 0, none⟩)] w fun e w' =>
    e = .returned (.int .i64 (genAt s : Int)) ∧ Below w.heap.size w w' := by
  have H := hide h
  have HBY := hide hby
  have HN := hide hn
  clear h hby hn
  go_enter Try.func32, Try.ntmps32
  go_wp2
  go_loopw [3, 5] (fun gv iv wq => ∃ i G : Nat, i ≤ 2 ∧ iv = .int .i64 (i : Int) ∧ gv = .int .i64 (G : Int) ∧ Hid (G = gensUp s i) ∧ Hid (Below w.heap.size w wq)) (fun _ iv _ => 2 - (intOf iv).toNat)
  case atStart => exact ⟨0, 0, by omega, rfl, rfl, rfl, Below.refl _ _⟩
  case round =>
    obtain ⟨i, G, hi, rfl, rfl, HG, HB⟩ := hrel
    by_cases hlt : (i : Int) < 2
    · go_wp2_with fail
      refine (genAt_any (H.out.later HB.out) HBY.out i (by omega) HN.out).mono ?_
      rintro e w1 ⟨rfl, hb1⟩
      have HB1 := hide (HB.out.trans (below_le hb1 HB.out.size))
      clear hb1
      have HM : Hid (max G (supAt s i) = gensUp s (i + 1)) := by show _ = max (gensUp s i) (supAt s i); rw [HG.out]
      generalize supAt s i = X at *
      by_cases hx : (G : Int) ≤ (X : Int)
      · go_wp2
        exact ⟨⟨i + 1, X, by omega, by go_num, by go_num, by show X = _; rw [← HM.out]; omega, HB1.out⟩, by simp [intOf]; omega⟩
      · go_wp2
        exact ⟨⟨i + 1, G, by omega, by go_num, by go_num, by show G = _; rw [← HM.out]; omega, HB1.out⟩, by simp [intOf]; omega⟩
    · have HI : Hid (i = 2) := by show i = 2; omega
      go_wp2
      go_ret
      exact ⟨ret_int (by rw [HG.out, HI.out, gensUp_two]), HB.out⟩
end
end Go.Proofs.Ytbecchoidglaeaa
