/- Routes, in plain numbers, and as they are read. Nothing of the program is named here. -/
import Derived.Test.YthigjonagbfbbaaDoorKAh
import Derived.Test.YthigjonagbfbbaaDoorKAb
namespace Go.Proofs.YthigjonagbfbbaaDoor
open Go.RowKit
set_option maxRecDepth 100000

/-- A route. -/
structure Rt where
  A : Nat
  L : Int
  peer : Int
  att : At
  stale : Int
/-- The value itself. -/
def rtV (pa : Option Addr) (pc : Nat) (ca : Option Addr) (cc : Nat) (ra : Option Addr) (rc : Nat) (r : Rt) : Value :=
  .agg #[.int .u32 (r.A : Int), .int .i64 r.L, .int .i64 r.peer, .int .i64 r.att.origin, .slice pa r.att.path.length pc, .int .u32 (r.att.next : Int), .int .i64 r.att.med, .int .i64 r.att.pref, .slice ca r.att.comms.length cc, .slice ra r.att.raws.length rc, .int .i64 r.stale]
/-- The same routes? -/
def eqRt (a b : Rt) : Bool := decide (a.A = b.A) && decide (a.L = b.L) && decide (a.peer = b.peer) && decide (a.stale = b.stale) && eqA a.att b.att
/-- Is it one of its communities? -/
def hasC (cs : List Nat) (x : Nat) : Bool := cs.any fun z => z == x
/-- Not too great to be played. -/
def smallR (r : Rt) : Bool := decide (sizeA r.att < 3000)
/-- A route's cells. -/
def rtC (pa : Option Addr) (pc : Nat) (ca : Option Addr) (cc : Nat) (ra : Option Addr) (rc : Nat) (r : Rt) : Array Value := #[.int .u32 (r.A : Int), .int .i64 r.L, .int .i64 r.peer, .int .i64 r.att.origin, .slice pa r.att.path.length pc, .int .u32 (r.att.next : Int), .int .i64 r.att.med, .int .i64 r.att.pref, .slice ca r.att.comms.length cc, .slice ra r.att.raws.length rc, .int .i64 r.stale]
theorem eqA_self (a : At) : eqA a a = true := by simp [eqA, eqHead, eqP]
theorem eqRt_self (r : Rt) : eqRt r r = true := by simp [eqRt, eqA_self]
end Go.Proofs.YthigjonagbfbbaaDoor
/- Rows of numbers. -/
namespace Go.Proofs.YthigjonagbfbbaaDoor
open Go.RowKit
set_option maxRecDepth 100000

theorem Tryd.infoInt : (Tryd.prog.info? 3).map (fun i => (i.zero, i.size, i.bytes)) = some (some (.int .i64 0), 1, 8) := by kernel_rfl
theorem elemInt : Elem 67 3 1 8 := by
  obtain ⟨i, h1, h2, h3, h4⟩ := info_parts Tryd.infoInt
  exact ⟨Tryd.underlying67, ⟨i, _, h1, h2, h3, h4, rfl⟩, by omega, by omega⟩
/-- The cells of numbers. -/
def icells (l : List Int) : List Value := l.map fun z => Value.int .i64 z
theorem icells_app (l r : List Int) : icells (l ++ r) = icells l ++ icells r := by simp [icells]
theorem icells_one (l : List Int) : ∀ u ∈ icells l, u.oneCell' = true := by
  intro u hu
  obtain ⟨i, _, rfl⟩ := List.mem_map.1 hu
  rfl
theorem icells_length (l : List Int) : (icells l).length = l.length := by simp [icells]
theorem icells_get (l : List Int) (j : Nat) (z : Int) (h : l[j]? = some z) : (icells l)[j]? = some (.int .i64 z) := by simp [icells, h]
end Go.Proofs.YthigjonagbfbbaaDoor
