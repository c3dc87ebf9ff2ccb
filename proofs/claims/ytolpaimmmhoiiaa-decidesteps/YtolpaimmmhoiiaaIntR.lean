/- Rows of numbers. -/
import Derived.Test.YtolpaimmmhoiiaaApE
namespace Go.Proofs.Ytolpaimmmhoiiaa
open Go.RowKit
set_option maxRecDepth 100000

theorem Try.infoInt : (Try.prog.info? 3).map (fun i => (i.zero, i.size, i.bytes)) = some (some (.int .i64 0), 1, 8) := by kernel_rfl
theorem elemInt : Elem 45 3 1 8 := by
  obtain ⟨i, h1, h2, h3, h4⟩ := info_parts Try.infoInt
  exact ⟨Try.underlying45, ⟨i, _, h1, h2, h3, h4, rfl⟩, by omega, by omega⟩
/-- The cells of numbers. -/
def icells (l : List Int) : List Value := l.map fun z => Value.int .i64 z
theorem icells_app (l r : List Int) : icells (l ++ r) = icells l ++ icells r := by simp [icells]
theorem icells_one (l : List Int) : ∀ u ∈ icells l, u.oneCell' = true := by
  intro u hu
  obtain ⟨i, _, rfl⟩ := List.mem_map.1 hu
  rfl
theorem icells_length (l : List Int) : (icells l).length = l.length := by simp [icells]
theorem icells_get (l : List Int) (j : Nat) (z : Int) (h : l[j]? = some z) : (icells l)[j]? = some (.int .i64 z) := by simp [icells, h]
end Go.Proofs.Ytolpaimmmhoiiaa
