/- PrefixMake's walk. -/
import Derived.Test.YtdaagjlijhmghaaPfxAn
import Derived.Test.YtdaagjlijhmghaaPfxRf
namespace Go.Proofs.Ytdaagjlijhmghaa
open Go.RowKit
set_option maxRecDepth 100000

set_option maxHeartbeats 1600000 in
theorem pmake_out (A L : Int) (w : World) (h : L < 0 ∨ 32 < L) : Calls Try.prog 3 #[.int .u32 A, .int .i64 L] w fun e w' => e = .returned (.bool true) ∧ Below w.heap.size w w' := by
  go_enter Try.func3, Try.ntmps3
  go_wp2_with fail
  refine (make_out A L _ h).mono ?_
  rintro e w1 ⟨rfl, hb1⟩
  have HB1 := hide hb1
  clear hb1
  unfold pfx
  go_wp2_with fail
  refine (rmake_out A L _ h).mono ?_
  rintro e w2 ⟨rfl, hb2⟩
  have c0 : w2.cell? ⟨w1.heap.size, 0, none⟩ = some (.int .u32 0) := by rw [hb2.cell (p := ⟨w1.heap.size, 0, none⟩) (by simp <;> omega)]; simp [go_sem]
  have c1 : w2.cell? ⟨w1.heap.size, 1, none⟩ = some (.int .i64 0) := by rw [hb2.cell (p := ⟨w1.heap.size, 1, none⟩) (by simp <;> omega)]; simp [go_sem]
  have HB2 : Hid (Below w.heap.size w w2) := (HB1.out.alloc HB1.out.size _).trans (hb2.mono (by have := HB1.out.size; simp; omega))
  have hz : w1.heap.size < w2.heap.size := by have := hb2.size; simp at this; omega
  clear hb2
  unfold pfx
  go_wp2_with fail
  refine (answers_any _).mono ?_
  rintro e w3 ⟨rfl, hb3⟩
  have d0 : w3.cell? ⟨w1.heap.size, 0, none⟩ = some (.int .u32 0) := by rw [hb3.cell (p := ⟨w1.heap.size, 0, none⟩) (by simp <;> omega), World.cell?_alloc_lt _ _ _ (by exact hz)]; exact c0
  have d1 : w3.cell? ⟨w1.heap.size, 1, none⟩ = some (.int .i64 0) := by rw [hb3.cell (p := ⟨w1.heap.size, 1, none⟩) (by simp <;> omega), World.cell?_alloc_lt _ _ _ (by exact hz)]; exact c1
  have e0 : w3.cell? ⟨w2.heap.size, 0, none⟩ = some (.int .u32 0) := by rw [hb3.cell (p := ⟨w2.heap.size, 0, none⟩) (by simp <;> omega)]; simp [go_sem]
  have e1 : w3.cell? ⟨w2.heap.size, 1, none⟩ = some (.int .i64 0) := by rw [hb3.cell (p := ⟨w2.heap.size, 1, none⟩) (by simp <;> omega)]; simp [go_sem]
  have HB3 : Hid (Below w.heap.size w w3) := (HB2.out.alloc HB2.out.size _).trans (hb3.mono (by have := HB2.out.size; simp; omega))
  clear hb3
  go_wp2
  go_ret
  exact ⟨rfl, HB3.out⟩
set_option maxHeartbeats 1600000 in
theorem pmake_in (A n : Nat) (w : World) (hA : A < 4294967296) (hn : n ≤ 32) : Calls Try.prog 3 #[.int .u32 (A : Int), .int .i64 (n : Int)] w fun e w' => e = .returned (.bool true) ∧ Below w.heap.size w w' := by
  go_enter Try.func3, Try.ntmps3
  go_wp2_with fail
  refine (make_in A n _ hA hn).mono ?_
  rintro e w1 ⟨rfl, hb1⟩
  have HB1 := hide hb1
  clear hb1
  unfold pfx
  go_wp2_with fail
  refine (rmake_in A n _ hA hn).mono ?_
  have HC := hide (rightB_cut A n hn)
  generalize cutTo A n = X at *
  rintro e w2 ⟨rfl, hb2⟩
  have c0 : w2.cell? ⟨w1.heap.size, 0, none⟩ = some (.int .u32 (X : Int)) := by rw [hb2.cell (p := ⟨w1.heap.size, 0, none⟩) (by simp <;> omega)]; simp [go_sem]
  have c1 : w2.cell? ⟨w1.heap.size, 1, none⟩ = some (.int .i64 (n : Int)) := by rw [hb2.cell (p := ⟨w1.heap.size, 1, none⟩) (by simp <;> omega)]; simp [go_sem]
  have HB2 : Hid (Below w.heap.size w w2) := (HB1.out.alloc HB1.out.size _).trans (hb2.mono (by have := HB1.out.size; simp; omega))
  have hz : w1.heap.size < w2.heap.size := by have := hb2.size; simp at this; omega
  clear hb2
  unfold pfx
  go_wp2_with fail
  refine (answers_any _).mono ?_
  rintro e w3 ⟨rfl, hb3⟩
  have d0 : w3.cell? ⟨w1.heap.size, 0, none⟩ = some (.int .u32 (X : Int)) := by rw [hb3.cell (p := ⟨w1.heap.size, 0, none⟩) (by simp <;> omega), World.cell?_alloc_lt _ _ _ (by exact hz)]; exact c0
  have d1 : w3.cell? ⟨w1.heap.size, 1, none⟩ = some (.int .i64 (n : Int)) := by rw [hb3.cell (p := ⟨w1.heap.size, 1, none⟩) (by simp <;> omega), World.cell?_alloc_lt _ _ _ (by exact hz)]; exact c1
  have e0 : w3.cell? ⟨w2.heap.size, 0, none⟩ = some (.int .u32 (X : Int)) := by rw [hb3.cell (p := ⟨w2.heap.size, 0, none⟩) (by simp <;> omega)]; simp [go_sem]
  have e1 : w3.cell? ⟨w2.heap.size, 1, none⟩ = some (.int .i64 (n : Int)) := by rw [hb3.cell (p := ⟨w2.heap.size, 1, none⟩) (by simp <;> omega)]; simp [go_sem]
  have HB3 : Hid (Below w.heap.size w w3) := (HB2.out.alloc HB2.out.size _).trans (hb3.mono (by have := HB2.out.size; simp; omega))
  clear hb3 c0 c1
  go_wp2_with fail
  refine (right_any X n _).mono ?_
  rw [HC.out]
  rintro e w4 ⟨rfl, hb4⟩
  have HB4 : Hid (Below w.heap.size w w4) := HB3.out.trans (hb4.mono HB3.out.size)
  clear hb4
  go_wp2
  go_ret
  exact ⟨rfl, HB4.out⟩
theorem prefixMake_walk (a n : Int) (ha : (Lit.int .u32 a).wf = true) (_hn : (Lit.int .i64 n).wf = true) (w : World) : Calls Try.prog 3 #[.int .u32 a, .int .i64 n] w fun e w' => e = .returned (.bool true) ∧ Below w.heap.size w w' := by
  by_cases h : n < 0 ∨ 32 < n
  · exact pmake_out a n w h
  · have hb := bounds_u32 ha
    obtain ⟨A, rfl⟩ := Int.eq_ofNat_of_zero_le hb.1
    obtain ⟨N, rfl⟩ := Int.eq_ofNat_of_zero_le (show 0 ≤ n by omega)
    exact pmake_in A N w (by omega) (by omega)
end Go.Proofs.Ytdaagjlijhmghaa
