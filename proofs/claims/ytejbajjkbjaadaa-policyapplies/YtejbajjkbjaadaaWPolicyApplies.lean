/- PolicyApplies' walk. -/
import Derived.Test.YtejbajjkbjaadaaPoF
namespace Go.Proofs.Ytejbajjkbjaadaa
open Go.RowKit
set_option maxRecDepth 100000

set_option maxHeartbeats 1600000 in
theorem applies_long (a : Option Addr) (n c A : Nat) (L : Int) (w : World) (hn : 100 < n) :
    Calls Try.prog 3 #[.slice a n c, pfx A L] w fun e w' => e = .returned (.bool true) ∧ Below w.heap.size w w' := by
  have dn : (100 : Int) < (n : Int) := by omega
  unfold pfx
  go_enter Try.func3, Try.ntmps3
  go_wp2_with fail
  refine (answers_any _).mono ?_
  rintro e w2 ⟨rfl, hb2⟩
  have HB : Hid (Below w.heap.size w w2) := ((Below.refl _ _).alloc (Nat.le_refl _) _).trans (hb2.mono (by simp))
  clear hb2
  go_wp2
  go_ret
  exact ⟨rfl, HB.out⟩
set_option maxHeartbeats 1600000 in
theorem applies_in (a : Option Addr) (n c A : Nat) (L : Int) (l : List Rul) (w : World) (hn : n ≤ 100) (hl : l.length = n) (hr : RulesIn w a l) (hA : A < 4294967296) :
    Calls Try.prog 3 #[.slice a n c, pfx A L] w fun e w' => e = .returned (.bool true) ∧ Below w.heap.size w w' := by
  have dn : decide ((100 : Int) < (n : Int)) = false := decide_eq_false (by omega)
  have hn2 : Hid (n ≤ 1000) := Nat.le_trans hn (by omega)
  obtain ⟨x, y, hxy⟩ : ∃ x y, applyR l A L = (x, y) := ⟨_, _, rfl⟩
  obtain ⟨gv, hgv⟩ : ∃ gv, goodL l = gv := ⟨_, rfl⟩
  have HL := hide hl
  have HRI := hide hr
  have HXY := hide hxy
  have HGV := hide hgv
  clear hl hr hxy hgv hn
  unfold pfx
  go_enter Try.func3, Try.ntmps3
  go_wp2_with fail
  have HB0 : Hid (Below w.heap.size w (w.alloc (.cells #[.int .u32 (A : Int), .int .i64 L] 25))) := (Below.refl _ _).alloc (Nat.le_refl _) _
  have p0 : (w.alloc (.cells #[.int .u32 (A : Int), .int .i64 L] 25)).cell? ⟨w.heap.size, 0, none⟩ = some (.int .u32 (A : Int)) := by simp [go_sem]
  have p1 : (w.alloc (.cells #[.int .u32 (A : Int), .int .i64 L] 25)).cell? ⟨w.heap.size, 1, none⟩ = some (.int .i64 L) := by simp [go_sem]
  generalize w.alloc (.cells #[.int .u32 (A : Int), .int .i64 L] 25) = w0 at *
  refine (apply_is w0 hn2.out HL.out (HRI.out.below HB0.out (Nat.le_refl _)) hA HXY.out).mono ?_
  rintro e w1 ⟨rfl, hb1⟩
  have HB1 : Hid (Below w.heap.size w w1) := HB0.out.trans (hb1.mono HB0.out.size)
  have q0 : w1.cell? ⟨w.heap.size, 0, none⟩ = some (.int .u32 (A : Int)) := by rw [hb1.cell (p := ⟨w.heap.size, 0, none⟩) (World.block_lt_of_cell? w0 _ p0)]; exact p0
  have q1 : w1.cell? ⟨w.heap.size, 1, none⟩ = some (.int .i64 L) := by rw [hb1.cell (p := ⟨w.heap.size, 1, none⟩) (World.block_lt_of_cell? w0 _ p1)]; exact p1
  clear hb1 p0 p1
  go_wp2_with fail
  refine (rapply_is w1 hn2.out HL.out (HRI.out.below HB1.out (Nat.le_refl _)) hA HXY.out).mono ?_
  rintro e w2 ⟨rfl, hb2⟩
  have HB2 : Hid (Below w.heap.size w w2) := HB1.out.trans (hb2.mono HB1.out.size)
  clear hb2 q0 q1
  go_wp2_with fail
  refine (answers_any w2).mono ?_
  rintro e w3 ⟨rfl, hb3⟩
  have HB3 : Hid (Below w.heap.size w w3) := HB2.out.trans (hb3.mono HB2.out.size)
  clear hb3
  go_wp2_with fail
  refine (good_is w3 hn2.out HL.out (HRI.out.below HB3.out (Nat.le_refl _)) HGV.out).mono ?_
  rintro e w4 ⟨rfl, hb4⟩
  have HB4 : Hid (Below w.heap.size w w4) := HB3.out.trans (hb4.mono HB3.out.size)
  clear hb4
  go_wp2_with fail
  refine (rgood_is w4 hn2.out HL.out (HRI.out.below HB4.out (Nat.le_refl _)) HGV.out).mono ?_
  rintro e w5 ⟨rfl, hb5⟩
  have HB5 : Hid (Below w.heap.size w w5) := HB4.out.trans (hb5.mono HB4.out.size)
  clear hb5
  go_wp2
  go_ret
  exact ⟨rfl, HB5.out⟩
theorem policyApplies_walk (a : Option Addr) (c A : Nat) (L : Int) (l : List Rul) (w : World) (hr : RulesIn w a l) (hA : A < 4294967296) :
    Calls Try.prog 3 #[.slice a l.length c, pfx A L] w fun e w' => e = .returned (.bool true) ∧ Below w.heap.size w w' := by
  by_cases hn : 100 < l.length
  · exact applies_long a _ c A L w hn
  · exact applies_in a _ c A L l w (by omega) rfl hr hA
end Go.Proofs.Ytejbajjkbjaadaa
