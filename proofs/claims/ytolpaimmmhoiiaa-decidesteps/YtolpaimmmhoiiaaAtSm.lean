/- The document's SameAttrs. -/
import Derived.Test.YtolpaimmmhoiiaaHAt
import Derived.Test.YtolpaimmmhoiiaaPthSm
import Derived.Deep.QuietTactic
import Derived.BigQuiet
namespace Go.Proofs.Ytolpaimmmhoiiaa
open Go.RowKit
set_option maxRecDepth 100000

/-- The same but for communities and Raws, of which there are as many. -/
def eqHead (a b : At) : Bool := decide (a.origin = b.origin) && eqP a.path b.path && decide (a.next = b.next) && decide (a.med = b.med) && decide (a.pref = b.pref) && decide (a.comms.length = b.comms.length) && decide (a.raws.length = b.raws.length)
/-- The same attributes? -/
def eqA (a b : At) : Bool := eqHead a b && decide (a.comms = b.comms) && decide (a.raws = b.raws)
end Go.Proofs.Ytolpaimmmhoiiaa
