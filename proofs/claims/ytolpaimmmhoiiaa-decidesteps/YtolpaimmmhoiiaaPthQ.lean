/- The program's rules, one by one; meets. -/
import Derived.Test.YtolpaimmmhoiiaaPthPl
namespace Go.Proofs.Ytolpaimmmhoiiaa
open Go.RowKit
set_option maxRecDepth 100000

/-- A segment as a value. -/
def segV (b : Bool) (a : Option Addr) (n c : Nat) : Value := .agg #[.bool b, .slice a n c]
end Go.Proofs.Ytolpaimmmhoiiaa
