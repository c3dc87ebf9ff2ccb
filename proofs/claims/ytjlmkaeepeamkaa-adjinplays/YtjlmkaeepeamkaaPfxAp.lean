/- append onto a row of the call's own: prefixes. -/
import Derived.Test.YtjlmkaeepeamkaaApE
namespace Go.Proofs.Ytjlmkaeepeamkaa
open Go.RowKit
set_option maxRecDepth 100000

theorem Try.infoPfx : (Try.prog.info? 29).map (fun i => (i.zero, i.size, i.bytes)) = some (some (.agg #[.int .u32 0, .int .i64 0]), 2, 16) := by kernel_rfl
theorem elemPfx : Elem 44 29 2 16 := by
  obtain ⟨i, h1, h2, h3, h4⟩ := info_parts Try.infoPfx
  exact ⟨Try.underlying44, ⟨i, _, h1, h2, h3, h4, rfl⟩, by omega, by omega⟩
/-- The cells of prefixes. -/
def pcells : List (Nat × Nat) → List Value
  | [] => []
  | p :: r => .int .u32 (p.1 : Int) :: .int .i64 (p.2 : Int) :: pcells r
theorem pcells_snoc (l : List (Nat × Nat)) (p : Nat × Nat) : pcells (l ++ [p]) = pcells l ++ [.int .u32 (p.1 : Int), .int .i64 (p.2 : Int)] := by
  induction l with
  | nil => rfl
  | cons a l ih => simp only [List.cons_append, pcells, ih]
end Go.Proofs.Ytjlmkaeepeamkaa
