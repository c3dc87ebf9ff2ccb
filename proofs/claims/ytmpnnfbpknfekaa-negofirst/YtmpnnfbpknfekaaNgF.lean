/- What NegoFirst wants. -/
import Derived.Test.YtmpnnfbpknfekaaNgD
namespace Go.Proofs.Ytmpnnfbpknfekaa
open Go.RowKit
set_option maxRecDepth 100000

/-- A Note's box, just made, stays as it is. -/
theorem note_box {w w' : World} {c s : Int} {v : Value} (hb : Below (w.alloc (.cells #[.int .i64 c, .int .i64 s, v] 38)).heap.size (w.alloc (.cells #[.int .i64 c, .int .i64 s, v] 38)) w') :
    w'.cell? ⟨w.heap.size, 0, none⟩ = some (.int .i64 c) ∧ w'.cell? ⟨w.heap.size, 1, none⟩ = some (.int .i64 s) ∧ w.heap.size < w'.heap.size := by
  have hz := hb.size
  simp only [World.size_alloc] at hz
  refine ⟨?_, ?_, by omega⟩
  · rw [hb.cell (p := ⟨w.heap.size, 0, none⟩) (by simp)]; simp [go_sem]
  · rw [hb.cell (p := ⟨w.heap.size, 1, none⟩) (by simp)]; simp [go_sem]
/-- What is wanted. -/
def wantN (bf ba bi bh : Bool) : Int := if bf then 7 else if ba then 2 else if bi then 3 else if bh then 6 else 0
theorem chk_want (c : Cf) (pa q : Int) (m : Nat) (bf ba bi bh : Bool) (hq : ba = true → q ≠ pa) (hq0 : ba = false → q = pa) (hm : bi = true → m = c.id) (hm0 : bi = false → m ≠ 0 ∧ m ≠ c.id) :
    chkN c pa ⟨q, if bh then 1 else 90, m, !bf, 0, false, false, 0, false, false, false, 0⟩ = wantN bf ba bi bh := by
  unfold chkN wantN
  cases bf <;> cases ba <;> cases bi <;> cases bh <;> simp_all
theorem wrap64_ne (a : Int) (h : I64 a) : wrap64 (a + 1) ≠ a := by
  obtain ⟨_, _⟩ := h
  unfold wrap64
  omega
end Go.Proofs.Ytmpnnfbpknfekaa
