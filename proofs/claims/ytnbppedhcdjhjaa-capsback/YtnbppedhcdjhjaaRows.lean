/-
  No cell of these rows narrows 'for every input' (looked for: loops, veiled, ifaces, maps, wideKeys, modest, calm, conditions, laid).
  DERIVED. THE GIVEN ROWS OF THIS SEAT. 4 by the template 'for every input the law returns true; each argument reads behind the call as it read before'; 0 by the template 'total and deterministic' (their statements: YtnbppedhcdjhjaaTotals.lean).
  GIVEN WITH THE SEED: the statements are not yours to turn. If you find one false, say at which input.
  Laid BY PROGRAM, IN A SANDBOX (cutbox-rows.mjs): the forced cells as the released guide's own fill.sh prints them over the translation 037f55dca8b3bdea… (all of the seat's roots in one cut). By AI agents, Wed Nov 11 2026. No macro, syntax, notation, axiom, sorry.
-/
import Derived.Test.YtnbppedhcdjhjaaChecked
import GoSem.Claim
import GoSem.ClaimJoined
import GoSem.ClaimMapViews
import Derived.JoinedTies
import Derived.KernelRfl
namespace Go.Proofs.Ytnbppedhcdjhjaa
/- THE CELL 'sum', in the pinned program and in every row, IS THE sha256 OF THE DUMP (.gsa) THAT YtnbppedhcdjhjaaProg.lean LOADS. Nothing in Lean hashes anything: it is a label: what it is worth is what the hold of that sum in a sandbox is worth. -/
noncomputable def Try.pinned : Pinned := { name := "ytnbppedhcdjhjaa", sum := "037f55dca8b3bdea06f6ee079a597b37c58733731d9bc414944cb436144fa7b9", checked := Try.checked }
namespace Rows
def none {H : Type} : Left H := { results := [], args := [] }

/-- 'interregnumlaw08.CapsBack': WHATEVER THE INPUT: true; the input reads as it did. -/
def capsBackSpec : ChangeSpec := { name := "capsBack", fn := fun _ => fun
  | [d] => { results := [.lit (.bool true)], args := [d] }
  | _ => none }
def capsBackRow : OpenClaim := { program := "ytnbppedhcdjhjaa", sum := "037f55dca8b3bdea06f6ee079a597b37c58733731d9bc414944cb436144fa7b9", func := "interregnum/interregnumlaw08.CapsBack", spec := "capsBack", unfollowed := true, recurses := true, apart := false }
def CapsBackSaid : Prop := capsBackRow.holds Try.pinned (OpenSpec.ofChange capsBackSpec)

/-- ITS FALSE NEIGHBOUR: 'it returns false'. Refute it at one input. -/
def capsBackWrong : ChangeSpec := { name := "capsBack", fn := fun _ => fun
  | [d] => { results := [.lit (.bool false)], args := [d] }
  | _ => none }
def CapsBackWrongFalsely : Prop := capsBackRow.holds Try.pinned (OpenSpec.ofChange capsBackWrong)

/-- 'interregnumlaw08.CapsReads': WHATEVER THE INPUT: true; the input reads as it did. -/
def capsReadsSpec : ChangeSpec := { name := "capsReads", fn := fun _ => fun
  | [d] => { results := [.lit (.bool true)], args := [d] }
  | _ => none }
def capsReadsRow : OpenClaim := { program := "ytnbppedhcdjhjaa", sum := "037f55dca8b3bdea06f6ee079a597b37c58733731d9bc414944cb436144fa7b9", func := "interregnum/interregnumlaw08.CapsReads", spec := "capsReads", unfollowed := true, recurses := true, apart := false }
def CapsReadsSaid : Prop := capsReadsRow.holds Try.pinned (OpenSpec.ofChange capsReadsSpec)

/-- ITS FALSE NEIGHBOUR: 'it returns false'. Refute it at one input. -/
def capsReadsWrong : ChangeSpec := { name := "capsReads", fn := fun _ => fun
  | [d] => { results := [.lit (.bool false)], args := [d] }
  | _ => none }
def CapsReadsWrongFalsely : Prop := capsReadsRow.holds Try.pinned (OpenSpec.ofChange capsReadsWrong)

/-- 'interregnumlaw08.CapsParts': WHATEVER THE INPUT: true; the input reads as it did. -/
def capsPartsSpec : ChangeSpec := { name := "capsParts", fn := fun _ => fun
  | [d1, d2, d3] => { results := [.lit (.bool true)], args := [d1, d2, d3] }
  | _ => none }
def capsPartsRow : OpenClaim := { program := "ytnbppedhcdjhjaa", sum := "037f55dca8b3bdea06f6ee079a597b37c58733731d9bc414944cb436144fa7b9", func := "interregnum/interregnumlaw08.CapsParts", spec := "capsParts", unfollowed := true, recurses := true, apart := false }
def CapsPartsSaid : Prop := capsPartsRow.holds Try.pinned (OpenSpec.ofChange capsPartsSpec)

/-- ITS FALSE NEIGHBOUR: 'it returns false'. Refute it at one input. -/
def capsPartsWrong : ChangeSpec := { name := "capsParts", fn := fun _ => fun
  | [d1, d2, d3] => { results := [.lit (.bool false)], args := [d1, d2, d3] }
  | _ => none }
def CapsPartsWrongFalsely : Prop := capsPartsRow.holds Try.pinned (OpenSpec.ofChange capsPartsWrong)

/-- 'interregnumlaw08.CapsCut': WHATEVER THE INPUT: true; the input reads as it did. -/
def capsCutSpec : ChangeSpec := { name := "capsCut", fn := fun _ => fun
  | [d1, d2, d3] => { results := [.lit (.bool true)], args := [d1, d2, d3] }
  | _ => none }
def capsCutRow : OpenClaim := { program := "ytnbppedhcdjhjaa", sum := "037f55dca8b3bdea06f6ee079a597b37c58733731d9bc414944cb436144fa7b9", func := "interregnum/interregnumlaw08.CapsCut", spec := "capsCut", unfollowed := true, recurses := true, apart := false }
def CapsCutSaid : Prop := capsCutRow.holds Try.pinned (OpenSpec.ofChange capsCutSpec)

/-- ITS FALSE NEIGHBOUR: 'it returns false'. Refute it at one input. -/
def capsCutWrong : ChangeSpec := { name := "capsCut", fn := fun _ => fun
  | [d1, d2, d3] => { results := [.lit (.bool false)], args := [d1, d2, d3] }
  | _ => none }
def CapsCutWrongFalsely : Prop := capsCutRow.holds Try.pinned (OpenSpec.ofChange capsCutWrong)

/- THE SECOND FORM. 'bulk': how many values and letters a reading holds, each counted each time it is reached (what is shared counts as often as it is met; a slice's spare places count too). A statement '..UptoSaid' is the law's where the arguments, and the package variables that the reading takes, are together of bulk at most 1048576: NARROWER than '..Said'. Prove '..Said' where nothing that the law and all that it calls make is longer than what came in: it says more and counts as full. Else prove '..UptoSaid'. A law counts once. -/
mutual
def uptoBulk {H : Type} : DataW H → Nat
  | .lit (.string bytes) => bytes.length + 1
  | .lit _ => 1
  | .nil => 1
  | .ptr d => uptoBulk d + 1
  | .slice elems spare => uptoBulkAll elems + uptoBulkAll spare + 1
  | .agg parts => uptoBulkAll parts + 1
  | .iface _ d => uptoBulk d + 1
  | .map entries => uptoBulkEntries entries + 1
  | .held _ => 1
def uptoBulkAll {H : Type} : List (DataW H) → Nat
  | [] => 0
  | d :: r => uptoBulk d + uptoBulkAll r
def uptoBulkEntries {H : Type} : List (Lit × DataW H) → Nat
  | [] => 0
  | x :: r => uptoBulkEntry x + uptoBulkEntries r
def uptoBulkEntry {H : Type} : Lit × DataW H → Nat
  | (.string bytes, d) => bytes.length + uptoBulk d + 1
  | (_, d) => uptoBulk d + 1
 end
def uptoSmall : (H : Type) → List (DataW H) → Bool := fun _ ds => decide (uptoBulkAll ds ≤ 1048576)
def OpenSpec.upto (s : _root_.Go.ChangeSpec) : _root_.Go.OpenSpec := { _root_.Go.OpenSpec.ofChange s with cond := some uptoSmall }

/-- 'interregnumlaw08.CapsBack', WHERE WHAT IT READS IS OF BULK AT MOST 1048576: true; the input reads as it did. -/
def capsBackUptoRow : OpenClaim := { program := "ytnbppedhcdjhjaa", sum := "037f55dca8b3bdea06f6ee079a597b37c58733731d9bc414944cb436144fa7b9", func := "interregnum/interregnumlaw08.CapsBack", spec := "capsBack", unfollowed := true, recurses := true, apart := false, narrowed := true }
def CapsBackUptoSaid : Prop := capsBackUptoRow.holds Try.pinned (OpenSpec.upto capsBackSpec)

/-- 'interregnumlaw08.CapsReads', WHERE WHAT IT READS IS OF BULK AT MOST 1048576: true; the input reads as it did. -/
def capsReadsUptoRow : OpenClaim := { program := "ytnbppedhcdjhjaa", sum := "037f55dca8b3bdea06f6ee079a597b37c58733731d9bc414944cb436144fa7b9", func := "interregnum/interregnumlaw08.CapsReads", spec := "capsReads", unfollowed := true, recurses := true, apart := false, narrowed := true }
def CapsReadsUptoSaid : Prop := capsReadsUptoRow.holds Try.pinned (OpenSpec.upto capsReadsSpec)

/-- 'interregnumlaw08.CapsParts', WHERE WHAT IT READS IS OF BULK AT MOST 1048576: true; the input reads as it did. -/
def capsPartsUptoRow : OpenClaim := { program := "ytnbppedhcdjhjaa", sum := "037f55dca8b3bdea06f6ee079a597b37c58733731d9bc414944cb436144fa7b9", func := "interregnum/interregnumlaw08.CapsParts", spec := "capsParts", unfollowed := true, recurses := true, apart := false, narrowed := true }
def CapsPartsUptoSaid : Prop := capsPartsUptoRow.holds Try.pinned (OpenSpec.upto capsPartsSpec)

/-- 'interregnumlaw08.CapsCut', WHERE WHAT IT READS IS OF BULK AT MOST 1048576: true; the input reads as it did. -/
def capsCutUptoRow : OpenClaim := { program := "ytnbppedhcdjhjaa", sum := "037f55dca8b3bdea06f6ee079a597b37c58733731d9bc414944cb436144fa7b9", func := "interregnum/interregnumlaw08.CapsCut", spec := "capsCut", unfollowed := true, recurses := true, apart := false, narrowed := true }
def CapsCutUptoSaid : Prop := capsCutUptoRow.holds Try.pinned (OpenSpec.upto capsCutSpec)

end Rows
end Go.Proofs.Ytnbppedhcdjhjaa
