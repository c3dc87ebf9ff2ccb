/- The document's SamePath. -/
import Derived.Test.YtolpaimmmhoiiaaPthPl
import Derived.Deep.QuietTactic
import Derived.BigQuiet
namespace Go.Proofs.Ytolpaimmmhoiiaa
open Go.RowKit
set_option maxRecDepth 100000

/-- Are they the same? -/
def eqP (p q : List (Bool × List Int)) : Bool := decide (p = q)
theorem eqP_no {p q : List (Bool × List Int)} (h : p ≠ q) : eqP p q = false := decide_eq_false h
end Go.Proofs.Ytolpaimmmhoiiaa
