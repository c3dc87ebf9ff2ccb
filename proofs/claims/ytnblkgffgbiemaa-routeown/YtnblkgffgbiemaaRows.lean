/-
  No cell of these rows narrows 'for every input' (looked for: loops, veiled, ifaces, maps, wideKeys, modest, calm, conditions, laid).
  DERIVED. THE GIVEN ROWS OF THIS SEAT. 4 by the template 'for every input the law returns true; each argument reads behind the call as it read before'; 0 by the template 'total and deterministic' (their statements: YtnblkgffgbiemaaTotals.lean).
  GIVEN WITH THE SEED: the statements are not yours to turn. If you find one false, say at which input.
  Laid BY PROGRAM, IN A SANDBOX (cutbox-rows.mjs): the forced cells as the released guide's own fill.sh prints them over the translation a9feeb96f1a000b5… (all of the seat's roots in one cut). By AI agents, Wed Nov 11 2026. No macro, syntax, notation, axiom, sorry.
-/
import Derived.Test.YtnblkgffgbiemaaChecked
import GoSem.Claim
import GoSem.ClaimJoined
import GoSem.ClaimMapViews
import Derived.JoinedTies
import Derived.KernelRfl
namespace Go.Proofs.Ytnblkgffgbiemaa
/- THE CELL 'sum', in the pinned program and in every row, IS THE sha256 OF THE DUMP (.gsa) THAT YtnblkgffgbiemaaProg.lean LOADS. Nothing in Lean hashes anything: it is a label: what it is worth is what the hold of that sum in a sandbox is worth. -/
noncomputable def Try.pinned : Pinned := { name := "ytnblkgffgbiemaa", sum := "a9feeb96f1a000b56ffbe91f04a98b6281edb73f49648062321f0514847ee0b1", checked := Try.checked }
namespace Rows
def none {H : Type} : Left H := { results := [], args := [] }

/-- 'interregnumlaw13.RouteMarks': WHATEVER THE INPUT: true; the input reads as it did. -/
def routeMarksSpec : ChangeSpec := { name := "routeMarks", fn := fun _ => fun
  | [d1, d2] => { results := [.lit (.bool true)], args := [d1, d2] }
  | _ => none }
def routeMarksRow : OpenClaim := { program := "ytnblkgffgbiemaa", sum := "a9feeb96f1a000b56ffbe91f04a98b6281edb73f49648062321f0514847ee0b1", func := "interregnum/interregnumlaw13.RouteMarks", spec := "routeMarks", unfollowed := true, recurses := true, apart := false }
def RouteMarksSaid : Prop := routeMarksRow.holds Try.pinned (OpenSpec.ofChange routeMarksSpec)

/-- ITS FALSE NEIGHBOUR: 'it returns false'. Refute it at one input. -/
def routeMarksWrong : ChangeSpec := { name := "routeMarks", fn := fun _ => fun
  | [d1, d2] => { results := [.lit (.bool false)], args := [d1, d2] }
  | _ => none }
def RouteMarksWrongFalsely : Prop := routeMarksRow.holds Try.pinned (OpenSpec.ofChange routeMarksWrong)

/-- 'interregnumlaw13.RouteSame': WHATEVER THE INPUT: true; the input reads as it did. -/
def routeSameSpec : ChangeSpec := { name := "routeSame", fn := fun _ => fun
  | [d1, d2, d3, d4] => { results := [.lit (.bool true)], args := [d1, d2, d3, d4] }
  | _ => none }
def routeSameRow : OpenClaim := { program := "ytnblkgffgbiemaa", sum := "a9feeb96f1a000b56ffbe91f04a98b6281edb73f49648062321f0514847ee0b1", func := "interregnum/interregnumlaw13.RouteSame", spec := "routeSame", unfollowed := true, recurses := true, apart := false }
def RouteSameSaid : Prop := routeSameRow.holds Try.pinned (OpenSpec.ofChange routeSameSpec)

/-- ITS FALSE NEIGHBOUR: 'it returns false'. Refute it at one input. -/
def routeSameWrong : ChangeSpec := { name := "routeSame", fn := fun _ => fun
  | [d1, d2, d3, d4] => { results := [.lit (.bool false)], args := [d1, d2, d3, d4] }
  | _ => none }
def RouteSameWrongFalsely : Prop := routeSameRow.holds Try.pinned (OpenSpec.ofChange routeSameWrong)

/-- 'interregnumlaw13.RouteOwn': WHATEVER THE INPUT: true; the input reads as it did. -/
def routeOwnSpec : ChangeSpec := { name := "routeOwn", fn := fun _ => fun
  | [d] => { results := [.lit (.bool true)], args := [d] }
  | _ => none }
def routeOwnRow : OpenClaim := { program := "ytnblkgffgbiemaa", sum := "a9feeb96f1a000b56ffbe91f04a98b6281edb73f49648062321f0514847ee0b1", func := "interregnum/interregnumlaw13.RouteOwn", spec := "routeOwn", unfollowed := true, recurses := true, apart := false }
def RouteOwnSaid : Prop := routeOwnRow.holds Try.pinned (OpenSpec.ofChange routeOwnSpec)

/-- ITS FALSE NEIGHBOUR: 'it returns false'. Refute it at one input. -/
def routeOwnWrong : ChangeSpec := { name := "routeOwn", fn := fun _ => fun
  | [d] => { results := [.lit (.bool false)], args := [d] }
  | _ => none }
def RouteOwnWrongFalsely : Prop := routeOwnRow.holds Try.pinned (OpenSpec.ofChange routeOwnWrong)

/-- 'interregnumlaw13.RouteStatic': WHATEVER THE INPUT: true; the input reads as it did. -/
def routeStaticSpec : ChangeSpec := { name := "routeStatic", fn := fun _ => fun
  | [d1, d2] => { results := [.lit (.bool true)], args := [d1, d2] }
  | _ => none }
def routeStaticRow : OpenClaim := { program := "ytnblkgffgbiemaa", sum := "a9feeb96f1a000b56ffbe91f04a98b6281edb73f49648062321f0514847ee0b1", func := "interregnum/interregnumlaw13.RouteStatic", spec := "routeStatic", unfollowed := true, recurses := true, apart := false }
def RouteStaticSaid : Prop := routeStaticRow.holds Try.pinned (OpenSpec.ofChange routeStaticSpec)

/-- ITS FALSE NEIGHBOUR: 'it returns false'. Refute it at one input. -/
def routeStaticWrong : ChangeSpec := { name := "routeStatic", fn := fun _ => fun
  | [d1, d2] => { results := [.lit (.bool false)], args := [d1, d2] }
  | _ => none }
def RouteStaticWrongFalsely : Prop := routeStaticRow.holds Try.pinned (OpenSpec.ofChange routeStaticWrong)

/- THE SECOND FORM. 'bulk': how many values and letters a reading holds, each counted each time it is reached (what is shared counts as often as it is met; a slice's spare places count too). A statement '..UptoSaid' is the law's where the arguments, and the package variables that the reading takes, are together of bulk at most 1048576: NARROWER than '..Said'. Prove '..Said' where nothing that the law and all that it calls make is longer than what came in: it says more and counts as full. Else prove '..UptoSaid'. A law counts once. -/
mutual
def uptoBulk {H : Type} : DataW H → Nat
  | .lit (.string bytes) => bytes.length + 1
  | .lit _ => 1
  | .nil => 1
  | .ptr d => uptoBulk d + 1
  | .slice elems spare => uptoBulkAll elems + uptoBulkAll spare + 1
  | .agg parts => uptoBulkAll parts + 1
  | .iface _ d => uptoBulk d + 1
  | .map entries => uptoBulkEntries entries + 1
  | .held _ => 1
def uptoBulkAll {H : Type} : List (DataW H) → Nat
  | [] => 0
  | d :: r => uptoBulk d + uptoBulkAll r
def uptoBulkEntries {H : Type} : List (Lit × DataW H) → Nat
  | [] => 0
  | x :: r => uptoBulkEntry x + uptoBulkEntries r
def uptoBulkEntry {H : Type} : Lit × DataW H → Nat
  | (.string bytes, d) => bytes.length + uptoBulk d + 1
  | (_, d) => uptoBulk d + 1
 end
def uptoSmall : (H : Type) → List (DataW H) → Bool := fun _ ds => decide (uptoBulkAll ds ≤ 1048576)
def OpenSpec.upto (s : _root_.Go.ChangeSpec) : _root_.Go.OpenSpec := { _root_.Go.OpenSpec.ofChange s with cond := some uptoSmall }

/-- 'interregnumlaw13.RouteMarks', WHERE WHAT IT READS IS OF BULK AT MOST 1048576: true; the input reads as it did. -/
def routeMarksUptoRow : OpenClaim := { program := "ytnblkgffgbiemaa", sum := "a9feeb96f1a000b56ffbe91f04a98b6281edb73f49648062321f0514847ee0b1", func := "interregnum/interregnumlaw13.RouteMarks", spec := "routeMarks", unfollowed := true, recurses := true, apart := false, narrowed := true }
def RouteMarksUptoSaid : Prop := routeMarksUptoRow.holds Try.pinned (OpenSpec.upto routeMarksSpec)

/-- 'interregnumlaw13.RouteSame', WHERE WHAT IT READS IS OF BULK AT MOST 1048576: true; the input reads as it did. -/
def routeSameUptoRow : OpenClaim := { program := "ytnblkgffgbiemaa", sum := "a9feeb96f1a000b56ffbe91f04a98b6281edb73f49648062321f0514847ee0b1", func := "interregnum/interregnumlaw13.RouteSame", spec := "routeSame", unfollowed := true, recurses := true, apart := false, narrowed := true }
def RouteSameUptoSaid : Prop := routeSameUptoRow.holds Try.pinned (OpenSpec.upto routeSameSpec)

/-- 'interregnumlaw13.RouteOwn', WHERE WHAT IT READS IS OF BULK AT MOST 1048576: true; the input reads as it did. -/
def routeOwnUptoRow : OpenClaim := { program := "ytnblkgffgbiemaa", sum := "a9feeb96f1a000b56ffbe91f04a98b6281edb73f49648062321f0514847ee0b1", func := "interregnum/interregnumlaw13.RouteOwn", spec := "routeOwn", unfollowed := true, recurses := true, apart := false, narrowed := true }
def RouteOwnUptoSaid : Prop := routeOwnUptoRow.holds Try.pinned (OpenSpec.upto routeOwnSpec)

/-- 'interregnumlaw13.RouteStatic', WHERE WHAT IT READS IS OF BULK AT MOST 1048576: true; the input reads as it did. -/
def routeStaticUptoRow : OpenClaim := { program := "ytnblkgffgbiemaa", sum := "a9feeb96f1a000b56ffbe91f04a98b6281edb73f49648062321f0514847ee0b1", func := "interregnum/interregnumlaw13.RouteStatic", spec := "routeStatic", unfollowed := true, recurses := true, apart := false, narrowed := true }
def RouteStaticUptoSaid : Prop := routeStaticUptoRow.holds Try.pinned (OpenSpec.upto routeStaticSpec)

end Rows
end Go.Proofs.Ytnblkgffgbiemaa
