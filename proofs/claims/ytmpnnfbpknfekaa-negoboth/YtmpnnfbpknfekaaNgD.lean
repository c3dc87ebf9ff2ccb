/- The sample of the document. -/
import Derived.Test.YtmpnnfbpknfekaaNgC
namespace Go.Proofs.Ytmpnnfbpknfekaa
open Go.RowKit
set_option maxRecDepth 100000

/-- A Config's box. -/
def CfgAt (w' : World) (b : Nat) (a i n h g l s d : Int) : Prop := w'.cell? ⟨b, 0, none⟩ = some (.int .i64 a) ∧ w'.cell? ⟨b, 1, none⟩ = some (.int .u32 i) ∧ w'.cell? ⟨b, 2, none⟩ = some (.int .u32 n) ∧ w'.cell? ⟨b, 3, none⟩ = some (.int .i64 h) ∧ w'.cell? ⟨b, 4, none⟩ = some (.int .i64 g) ∧ w'.cell? ⟨b, 5, none⟩ = some (.int .i64 l) ∧ w'.cell? ⟨b, 6, none⟩ = some (.int .i64 s) ∧ w'.cell? ⟨b, 7, none⟩ = some (.int .i64 d) ∧ b < w'.heap.size
theorem CfgAt.below {w w' : World} {b : Nat} {a i n h g l s d : Int} (x : CfgAt w b a i n h g l s d) (hb : Below w.heap.size w w') : CfgAt w' b a i n h g l s d := by
  obtain ⟨h0, h1, h2, h3, h4, h5, h6, h7, hz⟩ := x
  have hq := hb.size
  exact ⟨by rw [hb.cell (p := ⟨b, 0, none⟩) hz]; exact h0, by rw [hb.cell (p := ⟨b, 1, none⟩) hz]; exact h1, by rw [hb.cell (p := ⟨b, 2, none⟩) hz]; exact h2, by rw [hb.cell (p := ⟨b, 3, none⟩) hz]; exact h3, by rw [hb.cell (p := ⟨b, 4, none⟩) hz]; exact h4, by rw [hb.cell (p := ⟨b, 5, none⟩) hz]; exact h5, by rw [hb.cell (p := ⟨b, 6, none⟩) hz]; exact h6, by rw [hb.cell (p := ⟨b, 7, none⟩) hz]; exact h7, by omega⟩
/-- A Config's box stays as it is. -/
theorem cfg_box {w w' : World} {a h g l s d i n : Int} (hb : Below (w.alloc (.cells #[.int .i64 a, .int .u32 i, .int .u32 n, .int .i64 h, .int .i64 g, .int .i64 l, .int .i64 s, .int .i64 d] 24)).heap.size (w.alloc (.cells #[.int .i64 a, .int .u32 i, .int .u32 n, .int .i64 h, .int .i64 g, .int .i64 l, .int .i64 s, .int .i64 d] 24)) w') :
    w'.cell? ⟨w.heap.size, 0, none⟩ = some (.int .i64 a) ∧ w'.cell? ⟨w.heap.size, 1, none⟩ = some (.int .u32 i) ∧ w'.cell? ⟨w.heap.size, 2, none⟩ = some (.int .u32 n) ∧ w'.cell? ⟨w.heap.size, 3, none⟩ = some (.int .i64 h) ∧ w'.cell? ⟨w.heap.size, 4, none⟩ = some (.int .i64 g) ∧ w'.cell? ⟨w.heap.size, 5, none⟩ = some (.int .i64 l) ∧ w'.cell? ⟨w.heap.size, 6, none⟩ = some (.int .i64 s) ∧ w'.cell? ⟨w.heap.size, 7, none⟩ = some (.int .i64 d) ∧ w.heap.size < w'.heap.size := by
  have hz := hb.size
  simp only [World.size_alloc] at hz
  refine ⟨?_, ?_, ?_, ?_, ?_, ?_, ?_, ?_, by omega⟩
  · rw [hb.cell (p := ⟨w.heap.size, 0, none⟩) (by simp)]; simp [go_sem]
  · rw [hb.cell (p := ⟨w.heap.size, 1, none⟩) (by simp)]; simp [go_sem]
  · rw [hb.cell (p := ⟨w.heap.size, 2, none⟩) (by simp)]; simp [go_sem]
  · rw [hb.cell (p := ⟨w.heap.size, 3, none⟩) (by simp)]; simp [go_sem]
  · rw [hb.cell (p := ⟨w.heap.size, 4, none⟩) (by simp)]; simp [go_sem]
  · rw [hb.cell (p := ⟨w.heap.size, 5, none⟩) (by simp)]; simp [go_sem]
  · rw [hb.cell (p := ⟨w.heap.size, 6, none⟩) (by simp)]; simp [go_sem]
  · rw [hb.cell (p := ⟨w.heap.size, 7, none⟩) (by simp)]; simp [go_sem]
theorem run_sub (x y z : Value) (w : World) : (Instr.field 38 (.agg #[x, y, z]) 1).run Try.prog w = .ok y w := by kernel_rfl
section
attribute [local go_sem] run_sub
set_option maxHeartbeats 3200000 in
theorem answers_any (w : World) : Calls Try.prog 7 #[] w fun e w' => e = .returned (.bool true) ∧ Below w.heap.size w w' := by
  go_enter Try.func7, Try.ntmps7
  go_wp2_with fail
  refine (pours_any ⟨70000, 1, 0, 90, 5000, 0, 0, 0⟩ true false _).mono ?_
  rintro e w1 ⟨rfl, hb1⟩
  have HB1 := hide hb1
  obtain ⟨r0, r1, r2, r3, r4, r5, r6, r7, hz⟩ := cfg_box hb1
  clear hb1
  have ho : opV (oursO ⟨70000, 1, 0, 90, 5000, 0, 0, 0⟩ true false) = .agg #[.int .i64 70000, .int .i64 90, .int .u32 1, .bool true, .int .i64 70000, .bool true, .bool true, .int .i64 4095, .bool true, .bool false, .bool true, .int .i64 0] := rfl
  rw [ho]
  clear ho
  go_wp2_with fail
  refine (phold_any ⟨70000, 1, 0, 90, 5000, 0, 0, 0⟩ ⟨0, 30, 0, false, 0, false, false, 0, false, false, false, 0⟩ _).mono ?_
  rintro e w2 ⟨rfl, hb2⟩
  have hb2' : Below w1.heap.size w1 w2 := Below.trans ((Below.refl _ _).alloc (Nat.le_refl _) _) (hb2.mono (by simp))
  have hq := HB1.out.trans (hb2'.mono HB1.out.size)
  have HB2 := hide hq
  clear r0 r1 r2 r3 r4 r5 r6 r7 hz hb2 hb2' HB1
  obtain ⟨r0, r1, r2, r3, r4, r5, r6, r7, hz⟩ := cfg_box hq
  clear hq
  have ho : lessH ⟨70000, 1, 0, 90, 5000, 0, 0, 0⟩ ⟨0, 30, 0, false, 0, false, false, 0, false, false, false, 0⟩ = 30 := by decide
  rw [ho]
  clear ho
  go_wp2_with fail
  refine (pcheck_any ⟨70000, 1, 0, 90, 5000, 0, 0, 0⟩ 0 0 none 0 0 none 0 0 ⟨0, 0, 0, false, 0, false, false, 0, false, false, false, 0⟩ _).mono ?_
  rintro e w3 ⟨⟨a9, c9, rfl, _⟩, hb3⟩
  have ho : chkN ⟨70000, 1, 0, 90, 5000, 0, 0, 0⟩ 0 ⟨0, 0, 0, false, 0, false, false, 0, false, false, false, 0⟩ = 7 := by decide
  rw [ho]
  clear ho
  generalize (chkD _ _).length = ln
  go_wp2
  go_ret
  exact ⟨rfl, Below.trans ((Below.refl _ _).alloc (Nat.le_refl _) _) ((HB2.out.trans (hb3.mono HB2.out.size)).mono (by simp))⟩
end
end Go.Proofs.Ytmpnnfbpknfekaa
