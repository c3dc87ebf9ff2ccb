/- Routes, in plain numbers, and as they are read. Nothing of the program is named here. -/
import Derived.Test.YtolpaimmmhoiiaaAtSm
namespace Go.Proofs.Ytolpaimmmhoiiaa
open Go.RowKit
set_option maxRecDepth 100000

/-- A route. -/
structure Rt where
  A : Nat
  L : Int
  peer : Int
  att : At
  stale : Int
/-- The value itself. -/
def rtV (pa : Option Addr) (pc : Nat) (ca : Option Addr) (cc : Nat) (ra : Option Addr) (rc : Nat) (r : Rt) : Value :=
  .agg #[.int .u32 (r.A : Int), .int .i64 r.L, .int .i64 r.peer, .int .i64 r.att.origin, .slice pa r.att.path.length pc, .int .u32 (r.att.next : Int), .int .i64 r.att.med, .int .i64 r.att.pref, .slice ca r.att.comms.length cc, .slice ra r.att.raws.length rc, .int .i64 r.stale]
/-- The same routes? -/
def eqRt (a b : Rt) : Bool := decide (a.A = b.A) && decide (a.L = b.L) && decide (a.peer = b.peer) && decide (a.stale = b.stale) && eqA a.att b.att
/-- Is it one of its communities? -/
def hasC (cs : List Nat) (x : Nat) : Bool := cs.any fun z => z == x
/-- Not too great to be played. -/
def smallR (r : Rt) : Bool := decide (sizeA r.att < 3000)
/-- A route's cells. -/
def rtC (pa : Option Addr) (pc : Nat) (ca : Option Addr) (cc : Nat) (ra : Option Addr) (rc : Nat) (r : Rt) : Array Value := #[.int .u32 (r.A : Int), .int .i64 r.L, .int .i64 r.peer, .int .i64 r.att.origin, .slice pa r.att.path.length pc, .int .u32 (r.att.next : Int), .int .i64 r.att.med, .int .i64 r.att.pref, .slice ca r.att.comms.length cc, .slice ra r.att.raws.length rc, .int .i64 r.stale]
theorem eqA_self (a : At) : eqA a a = true := by simp [eqA, eqHead, eqP]
theorem eqRt_self (r : Rt) : eqRt r r = true := by simp [eqRt, eqA_self]
end Go.Proofs.Ytolpaimmmhoiiaa
/- A route of a size that there may be. Nothing of the program is named here. -/
namespace Go.Proofs.Ytolpaimmmhoiiaa
open Go.RowKit
set_option maxRecDepth 100000

/-- Routes of a size that there may be. -/
structure BigR (r : Rt) : Prop where
  path : r.att.path.length ≤ 1152921504606846976
  segs : ∀ s ∈ r.att.path, s.2.length ≤ 1152921504606846976
  comms : r.att.comms.length ≤ 1152921504606846976
  raws : r.att.raws.length ≤ 1152921504606846976
  datas : ∀ q ∈ r.att.raws, q.2.2.length ≤ 1152921504606846976
end Go.Proofs.Ytolpaimmmhoiiaa
