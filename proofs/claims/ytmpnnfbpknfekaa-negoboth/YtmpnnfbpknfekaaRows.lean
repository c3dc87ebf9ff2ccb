/-
  No cell of these rows narrows 'for every input' (looked for: loops, veiled, ifaces, maps, wideKeys, modest, calm, conditions, laid).
  DERIVED. THE GIVEN ROWS OF THIS SEAT. 4 by the template 'for every input the law returns true; each argument reads behind the call as it read before'; 0 by the template 'total and deterministic' (their statements: YtmpnnfbpknfekaaTotals.lean).
  GIVEN WITH THE SEED: the statements are not yours to turn. If you find one false, say at which input.
  Laid BY PROGRAM, IN A SANDBOX (cutbox-rows.mjs): the forced cells as the released guide's own fill.sh prints them over the translation e7d1f957d39e9d5e… (all of the seat's roots in one cut). By AI agents, Wed Nov 11 2026. No macro, syntax, notation, axiom, sorry.
-/
import Derived.Test.YtmpnnfbpknfekaaChecked
import GoSem.Claim
import GoSem.ClaimJoined
import GoSem.ClaimMapViews
import Derived.JoinedTies
import Derived.KernelRfl
namespace Go.Proofs.Ytmpnnfbpknfekaa
/- THE CELL 'sum', in the pinned program and in every row, IS THE sha256 OF THE DUMP (.gsa) THAT YtmpnnfbpknfekaaProg.lean LOADS. Nothing in Lean hashes anything: it is a label: what it is worth is what the hold of that sum in a sandbox is worth. -/
noncomputable def Try.pinned : Pinned := { name := "ytmpnnfbpknfekaa", sum := "e7d1f957d39e9d5eeed624c4f5d139f1b5fdb1145395157841b003d804d7524b", checked := Try.checked }
namespace Rows
def none {H : Type} : Left H := { results := [], args := [] }

/-- 'interregnumlaw18.NegoOurs': WHATEVER THE INPUT: true; the input reads as it did. -/
def negoOursSpec : ChangeSpec := { name := "negoOurs", fn := fun _ => fun
  | [d1, d2, d3] => { results := [.lit (.bool true)], args := [d1, d2, d3] }
  | _ => none }
def negoOursRow : OpenClaim := { program := "ytmpnnfbpknfekaa", sum := "e7d1f957d39e9d5eeed624c4f5d139f1b5fdb1145395157841b003d804d7524b", func := "interregnum/interregnumlaw18.NegoOurs", spec := "negoOurs", apart := false }
def NegoOursSaid : Prop := negoOursRow.holds Try.pinned (OpenSpec.ofChange negoOursSpec)

/-- ITS FALSE NEIGHBOUR: 'it returns false'. Refute it at one input. -/
def negoOursWrong : ChangeSpec := { name := "negoOurs", fn := fun _ => fun
  | [d1, d2, d3] => { results := [.lit (.bool false)], args := [d1, d2, d3] }
  | _ => none }
def NegoOursWrongFalsely : Prop := negoOursRow.holds Try.pinned (OpenSpec.ofChange negoOursWrong)

/-- 'interregnumlaw18.NegoChecks': WHATEVER THE INPUT: true; the input reads as it did. -/
def negoChecksSpec : ChangeSpec := { name := "negoChecks", fn := fun _ => fun
  | [d1, d2, d3] => { results := [.lit (.bool true)], args := [d1, d2, d3] }
  | _ => none }
def negoChecksRow : OpenClaim := { program := "ytmpnnfbpknfekaa", sum := "e7d1f957d39e9d5eeed624c4f5d139f1b5fdb1145395157841b003d804d7524b", func := "interregnum/interregnumlaw18.NegoChecks", spec := "negoChecks", apart := false }
def NegoChecksSaid : Prop := negoChecksRow.holds Try.pinned (OpenSpec.ofChange negoChecksSpec)

/-- ITS FALSE NEIGHBOUR: 'it returns false'. Refute it at one input. -/
def negoChecksWrong : ChangeSpec := { name := "negoChecks", fn := fun _ => fun
  | [d1, d2, d3] => { results := [.lit (.bool false)], args := [d1, d2, d3] }
  | _ => none }
def NegoChecksWrongFalsely : Prop := negoChecksRow.holds Try.pinned (OpenSpec.ofChange negoChecksWrong)

/-- 'interregnumlaw18.NegoBoth': WHATEVER THE INPUT: true; the input reads as it did. -/
def negoBothSpec : ChangeSpec := { name := "negoBoth", fn := fun _ => fun
  | [d1, d2, d3, d4] => { results := [.lit (.bool true)], args := [d1, d2, d3, d4] }
  | _ => none }
def negoBothRow : OpenClaim := { program := "ytmpnnfbpknfekaa", sum := "e7d1f957d39e9d5eeed624c4f5d139f1b5fdb1145395157841b003d804d7524b", func := "interregnum/interregnumlaw18.NegoBoth", spec := "negoBoth", apart := false }
def NegoBothSaid : Prop := negoBothRow.holds Try.pinned (OpenSpec.ofChange negoBothSpec)

/-- ITS FALSE NEIGHBOUR: 'it returns false'. Refute it at one input. -/
def negoBothWrong : ChangeSpec := { name := "negoBoth", fn := fun _ => fun
  | [d1, d2, d3, d4] => { results := [.lit (.bool false)], args := [d1, d2, d3, d4] }
  | _ => none }
def NegoBothWrongFalsely : Prop := negoBothRow.holds Try.pinned (OpenSpec.ofChange negoBothWrong)

/-- 'interregnumlaw18.NegoFirst': WHATEVER THE INPUT: true; the input reads as it did. -/
def negoFirstSpec : ChangeSpec := { name := "negoFirst", fn := fun _ => fun
  | [d1, d2, d3, d4, d5, d6] => { results := [.lit (.bool true)], args := [d1, d2, d3, d4, d5, d6] }
  | _ => none }
def negoFirstRow : OpenClaim := { program := "ytmpnnfbpknfekaa", sum := "e7d1f957d39e9d5eeed624c4f5d139f1b5fdb1145395157841b003d804d7524b", func := "interregnum/interregnumlaw18.NegoFirst", spec := "negoFirst", apart := false }
def NegoFirstSaid : Prop := negoFirstRow.holds Try.pinned (OpenSpec.ofChange negoFirstSpec)

/-- ITS FALSE NEIGHBOUR: 'it returns false'. Refute it at one input. -/
def negoFirstWrong : ChangeSpec := { name := "negoFirst", fn := fun _ => fun
  | [d1, d2, d3, d4, d5, d6] => { results := [.lit (.bool false)], args := [d1, d2, d3, d4, d5, d6] }
  | _ => none }
def NegoFirstWrongFalsely : Prop := negoFirstRow.holds Try.pinned (OpenSpec.ofChange negoFirstWrong)

/- THE SECOND FORM. 'bulk': how many values and letters a reading holds, each counted each time it is reached (what is shared counts as often as it is met; a slice's spare places count too). A statement '..UptoSaid' is the law's where the arguments, and the package variables that the reading takes, are together of bulk at most 1048576: NARROWER than '..Said'. Prove '..Said' where nothing that the law and all that it calls make is longer than what came in: it says more and counts as full. Else prove '..UptoSaid'. A law counts once. -/
mutual
def uptoBulk {H : Type} : DataW H → Nat
  | .lit (.string bytes) => bytes.length + 1
  | .lit _ => 1
  | .nil => 1
  | .ptr d => uptoBulk d + 1
  | .slice elems spare => uptoBulkAll elems + uptoBulkAll spare + 1
  | .agg parts => uptoBulkAll parts + 1
  | .iface _ d => uptoBulk d + 1
  | .map entries => uptoBulkEntries entries + 1
  | .held _ => 1
def uptoBulkAll {H : Type} : List (DataW H) → Nat
  | [] => 0
  | d :: r => uptoBulk d + uptoBulkAll r
def uptoBulkEntries {H : Type} : List (Lit × DataW H) → Nat
  | [] => 0
  | x :: r => uptoBulkEntry x + uptoBulkEntries r
def uptoBulkEntry {H : Type} : Lit × DataW H → Nat
  | (.string bytes, d) => bytes.length + uptoBulk d + 1
  | (_, d) => uptoBulk d + 1
 end
def uptoSmall : (H : Type) → List (DataW H) → Bool := fun _ ds => decide (uptoBulkAll ds ≤ 1048576)
def OpenSpec.upto (s : _root_.Go.ChangeSpec) : _root_.Go.OpenSpec := { _root_.Go.OpenSpec.ofChange s with cond := some uptoSmall }

/-- 'interregnumlaw18.NegoOurs', WHERE WHAT IT READS IS OF BULK AT MOST 1048576: true; the input reads as it did. -/
def negoOursUptoRow : OpenClaim := { program := "ytmpnnfbpknfekaa", sum := "e7d1f957d39e9d5eeed624c4f5d139f1b5fdb1145395157841b003d804d7524b", func := "interregnum/interregnumlaw18.NegoOurs", spec := "negoOurs", apart := false, narrowed := true }
def NegoOursUptoSaid : Prop := negoOursUptoRow.holds Try.pinned (OpenSpec.upto negoOursSpec)

/-- 'interregnumlaw18.NegoChecks', WHERE WHAT IT READS IS OF BULK AT MOST 1048576: true; the input reads as it did. -/
def negoChecksUptoRow : OpenClaim := { program := "ytmpnnfbpknfekaa", sum := "e7d1f957d39e9d5eeed624c4f5d139f1b5fdb1145395157841b003d804d7524b", func := "interregnum/interregnumlaw18.NegoChecks", spec := "negoChecks", apart := false, narrowed := true }
def NegoChecksUptoSaid : Prop := negoChecksUptoRow.holds Try.pinned (OpenSpec.upto negoChecksSpec)

/-- 'interregnumlaw18.NegoBoth', WHERE WHAT IT READS IS OF BULK AT MOST 1048576: true; the input reads as it did. -/
def negoBothUptoRow : OpenClaim := { program := "ytmpnnfbpknfekaa", sum := "e7d1f957d39e9d5eeed624c4f5d139f1b5fdb1145395157841b003d804d7524b", func := "interregnum/interregnumlaw18.NegoBoth", spec := "negoBoth", apart := false, narrowed := true }
def NegoBothUptoSaid : Prop := negoBothUptoRow.holds Try.pinned (OpenSpec.upto negoBothSpec)

/-- 'interregnumlaw18.NegoFirst', WHERE WHAT IT READS IS OF BULK AT MOST 1048576: true; the input reads as it did. -/
def negoFirstUptoRow : OpenClaim := { program := "ytmpnnfbpknfekaa", sum := "e7d1f957d39e9d5eeed624c4f5d139f1b5fdb1145395157841b003d804d7524b", func := "interregnum/interregnumlaw18.NegoFirst", spec := "negoFirst", apart := false, narrowed := true }
def NegoFirstUptoSaid : Prop := negoFirstUptoRow.holds Try.pinned (OpenSpec.upto negoFirstSpec)

end Rows
end Go.Proofs.Ytmpnnfbpknfekaa
