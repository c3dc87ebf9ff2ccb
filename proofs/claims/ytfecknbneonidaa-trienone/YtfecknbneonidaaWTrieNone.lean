/- TrieNone's walk. -/
import Derived.Test.YtfecknbneonidaaTrAn
namespace Go.Proofs.Ytfecknbneonidaa
open Go.RowKit
set_option maxRecDepth 100000

set_option maxHeartbeats 1600000 in
theorem trieNone_in (A L D : Int) (w : World) : Calls Try.prog 5 #[.agg #[.int .u32 A, .int .i64 L], .int .u32 D] w fun e w' => e = .returned (.bool true) ∧ Below w.heap.size w w' := by
  go_enter Try.func5, Try.ntmps5
  have HB0 : Hid (Below w.heap.size w (w.alloc (.cells #[.int .u32 A, .int .i64 L] 31))) := (Below.refl _ _).alloc (Nat.le_refl _) _
  have c0 : (w.alloc (.cells #[.int .u32 A, .int .i64 L] 31)).cell? ⟨w.heap.size, 0, none⟩ = some (.int .u32 A) := by simp [go_sem]
  have c1 : (w.alloc (.cells #[.int .u32 A, .int .i64 L] 31)).cell? ⟨w.heap.size, 1, none⟩ = some (.int .i64 L) := by simp [go_sem]
  have hz : w.heap.size < (w.alloc (.cells #[.int .u32 A, .int .i64 L] 31)).heap.size := by simp
  go_wp2_with fail
  generalize (w.alloc (.cells #[.int .u32 A, .int .i64 L] 31)) = w1 at *
  refine (get_nil A L _).mono ?_
  rintro e w2 ⟨rfl, hb2⟩
  rw [← hb2.cell (p := ⟨w.heap.size, 0, none⟩) hz] at c0
  rw [← hb2.cell (p := ⟨w.heap.size, 1, none⟩) hz] at c1
  have HB2 : Hid (Below w.heap.size w w2) := HB0.out.trans (hb2.mono HB0.out.size)
  have hz2 := Nat.lt_of_lt_of_le hz hb2.size
  clear hb2 hz
  go_wp2_with fail
  refine (find_nil D _).mono ?_
  rintro e w3 ⟨rfl, hb3⟩
  rw [← hb3.cell (p := ⟨w.heap.size, 0, none⟩) hz2] at c0
  rw [← hb3.cell (p := ⟨w.heap.size, 1, none⟩) hz2] at c1
  have HB3 : Hid (Below w.heap.size w w3) := HB2.out.trans (hb3.mono HB2.out.size)
  have hz3 := Nat.lt_of_lt_of_le hz2 hb3.size
  clear hb3 hz2
  unfold pfx
  rw [← World.cell?_alloc_lt w3 (.cells #[.int .u32 ((0 : Nat) : Int), .int .i64 0] 31) _ (by exact hz3)] at c0 c1
  have HB4 : Hid (Below w.heap.size w (w3.alloc (.cells #[.int .u32 ((0 : Nat) : Int), .int .i64 0] 31))) := HB3.out.alloc HB3.out.size _
  have hz4 : w.heap.size < (w3.alloc (.cells #[.int .u32 ((0 : Nat) : Int), .int .i64 0] 31)).heap.size := by simp; omega
  go_wp2_with fail
  generalize (w3.alloc (.cells #[.int .u32 ((0 : Nat) : Int), .int .i64 0] 31)) = w4 at *
  refine (answers_any _).mono ?_
  rintro e w5 ⟨rfl, hb5⟩
  rw [← hb5.cell (p := ⟨w.heap.size, 0, none⟩) hz4] at c0
  rw [← hb5.cell (p := ⟨w.heap.size, 1, none⟩) hz4] at c1
  have HB5 : Hid (Below w.heap.size w w5) := HB4.out.trans (hb5.mono HB4.out.size)
  have hz5 := Nat.lt_of_lt_of_le hz4 hb5.size
  clear hb5 hz4
  go_wp2_with fail
  refine (set_nil A L 1 _).mono ?_
  rintro e w6 ⟨rfl, hb6⟩
  rw [← hb6.cell (p := ⟨w.heap.size, 0, none⟩) hz5] at c0
  rw [← hb6.cell (p := ⟨w.heap.size, 1, none⟩) hz5] at c1
  have HB6 : Hid (Below w.heap.size w w6) := HB5.out.trans (hb6.mono HB5.out.size)
  clear hb6 hz5
  go_wp2_with fail
  refine (drop_nil A L _).mono ?_
  rintro e w7 ⟨rfl, hb7⟩
  have HB7 : Hid (Below w.heap.size w w7) := HB6.out.trans (hb7.mono HB6.out.size)
  clear hb7
  go_wp2_with fail
  refine (all_nil _).mono ?_
  rintro e w8 ⟨rfl, rfl⟩
  go_wp2
  go_ret
  exact ⟨rfl, HB7.out⟩
end Go.Proofs.Ytfecknbneonidaa
