/-
  No cell of these rows narrows 'for every input' (looked for: loops, veiled, ifaces, maps, wideKeys, modest, calm, conditions, laid).
  DERIVED. THE GIVEN ROWS OF THIS SEAT. 5 by the template 'for every input the law returns true; each argument reads behind the call as it read before'; 0 by the template 'total and deterministic' (their statements: YtdaagjlijhmghaaTotals.lean).
  GIVEN WITH THE SEED: the statements are not yours to turn. If you find one false, say at which input.
  Laid BY PROGRAM, IN A SANDBOX (cutbox-rows.mjs): the forced cells as the released guide's own fill.sh prints them over the translation 3de040e574b30bce… (all of the seat's roots in one cut). By AI agents, Wed Nov 11 2026. No macro, syntax, notation, axiom, sorry.
-/
import Derived.Test.YtdaagjlijhmghaaChecked
import GoSem.Claim
import GoSem.ClaimJoined
import GoSem.ClaimMapViews
import Derived.JoinedTies
import Derived.KernelRfl
namespace Go.Proofs.Ytdaagjlijhmghaa
/- THE CELL 'sum', in the pinned program and in every row, IS THE sha256 OF THE DUMP (.gsa) THAT YtdaagjlijhmghaaProg.lean LOADS. Nothing in Lean hashes anything: it is a label: what it is worth is what the hold of that sum in a sandbox is worth. -/
noncomputable def Try.pinned : Pinned := { name := "ytdaagjlijhmghaa", sum := "3de040e574b30bce84ab4d4deba04e7c50bf9a5a59aabe64be8db4dcb68bd088", checked := Try.checked }
namespace Rows
def none {H : Type} : Left H := { results := [], args := [] }

/-- 'interregnumlaw05.PrefixMake': WHATEVER THE INPUT: true; the input reads as it did. -/
def prefixMakeSpec : ChangeSpec := { name := "prefixMake", fn := fun _ => fun
  | [d1, d2] => { results := [.lit (.bool true)], args := [d1, d2] }
  | _ => none }
def prefixMakeRow : OpenClaim := { program := "ytdaagjlijhmghaa", sum := "3de040e574b30bce84ab4d4deba04e7c50bf9a5a59aabe64be8db4dcb68bd088", func := "interregnum/interregnumlaw05.PrefixMake", spec := "prefixMake", unfollowed := true, recurses := true, apart := false }
def PrefixMakeSaid : Prop := prefixMakeRow.holds Try.pinned (OpenSpec.ofChange prefixMakeSpec)

/-- ITS FALSE NEIGHBOUR: 'it returns false'. Refute it at one input. -/
def prefixMakeWrong : ChangeSpec := { name := "prefixMake", fn := fun _ => fun
  | [d1, d2] => { results := [.lit (.bool false)], args := [d1, d2] }
  | _ => none }
def PrefixMakeWrongFalsely : Prop := prefixMakeRow.holds Try.pinned (OpenSpec.ofChange prefixMakeWrong)

/-- 'interregnumlaw05.PrefixCovers': WHATEVER THE INPUT: true; the input reads as it did. -/
def prefixCoversSpec : ChangeSpec := { name := "prefixCovers", fn := fun _ => fun
  | [d1, d2, d3] => { results := [.lit (.bool true)], args := [d1, d2, d3] }
  | _ => none }
def prefixCoversRow : OpenClaim := { program := "ytdaagjlijhmghaa", sum := "3de040e574b30bce84ab4d4deba04e7c50bf9a5a59aabe64be8db4dcb68bd088", func := "interregnum/interregnumlaw05.PrefixCovers", spec := "prefixCovers", unfollowed := true, recurses := true, apart := false }
def PrefixCoversSaid : Prop := prefixCoversRow.holds Try.pinned (OpenSpec.ofChange prefixCoversSpec)

/-- ITS FALSE NEIGHBOUR: 'it returns false'. Refute it at one input. -/
def prefixCoversWrong : ChangeSpec := { name := "prefixCovers", fn := fun _ => fun
  | [d1, d2, d3] => { results := [.lit (.bool false)], args := [d1, d2, d3] }
  | _ => none }
def PrefixCoversWrongFalsely : Prop := prefixCoversRow.holds Try.pinned (OpenSpec.ofChange prefixCoversWrong)

/-- 'interregnumlaw05.PrefixBack': WHATEVER THE INPUT: true; the input reads as it did. -/
def prefixBackSpec : ChangeSpec := { name := "prefixBack", fn := fun _ => fun
  | [d] => { results := [.lit (.bool true)], args := [d] }
  | _ => none }
def prefixBackRow : OpenClaim := { program := "ytdaagjlijhmghaa", sum := "3de040e574b30bce84ab4d4deba04e7c50bf9a5a59aabe64be8db4dcb68bd088", func := "interregnum/interregnumlaw05.PrefixBack", spec := "prefixBack", unfollowed := true, recurses := true, apart := false }
def PrefixBackSaid : Prop := prefixBackRow.holds Try.pinned (OpenSpec.ofChange prefixBackSpec)

/-- ITS FALSE NEIGHBOUR: 'it returns false'. Refute it at one input. -/
def prefixBackWrong : ChangeSpec := { name := "prefixBack", fn := fun _ => fun
  | [d] => { results := [.lit (.bool false)], args := [d] }
  | _ => none }
def PrefixBackWrongFalsely : Prop := prefixBackRow.holds Try.pinned (OpenSpec.ofChange prefixBackWrong)

/-- 'interregnumlaw05.PrefixReads': WHATEVER THE INPUT: true; the input reads as it did. -/
def prefixReadsSpec : ChangeSpec := { name := "prefixReads", fn := fun _ => fun
  | [d] => { results := [.lit (.bool true)], args := [d] }
  | _ => none }
def prefixReadsRow : OpenClaim := { program := "ytdaagjlijhmghaa", sum := "3de040e574b30bce84ab4d4deba04e7c50bf9a5a59aabe64be8db4dcb68bd088", func := "interregnum/interregnumlaw05.PrefixReads", spec := "prefixReads", unfollowed := true, recurses := true, apart := false }
def PrefixReadsSaid : Prop := prefixReadsRow.holds Try.pinned (OpenSpec.ofChange prefixReadsSpec)

/-- ITS FALSE NEIGHBOUR: 'it returns false'. Refute it at one input. -/
def prefixReadsWrong : ChangeSpec := { name := "prefixReads", fn := fun _ => fun
  | [d] => { results := [.lit (.bool false)], args := [d] }
  | _ => none }
def PrefixReadsWrongFalsely : Prop := prefixReadsRow.holds Try.pinned (OpenSpec.ofChange prefixReadsWrong)

/-- 'interregnumlaw05.PrefixHost': WHATEVER THE INPUT: true; the input reads as it did. -/
def prefixHostSpec : ChangeSpec := { name := "prefixHost", fn := fun _ => fun
  | [d1, d2, d3, d4] => { results := [.lit (.bool true)], args := [d1, d2, d3, d4] }
  | _ => none }
def prefixHostRow : OpenClaim := { program := "ytdaagjlijhmghaa", sum := "3de040e574b30bce84ab4d4deba04e7c50bf9a5a59aabe64be8db4dcb68bd088", func := "interregnum/interregnumlaw05.PrefixHost", spec := "prefixHost", unfollowed := true, recurses := true, apart := false }
def PrefixHostSaid : Prop := prefixHostRow.holds Try.pinned (OpenSpec.ofChange prefixHostSpec)

/-- ITS FALSE NEIGHBOUR: 'it returns false'. Refute it at one input. -/
def prefixHostWrong : ChangeSpec := { name := "prefixHost", fn := fun _ => fun
  | [d1, d2, d3, d4] => { results := [.lit (.bool false)], args := [d1, d2, d3, d4] }
  | _ => none }
def PrefixHostWrongFalsely : Prop := prefixHostRow.holds Try.pinned (OpenSpec.ofChange prefixHostWrong)

/- THE SECOND FORM. 'bulk': how many values and letters a reading holds, each counted each time it is reached (what is shared counts as often as it is met; a slice's spare places count too). A statement '..UptoSaid' is the law's where the arguments, and the package variables that the reading takes, are together of bulk at most 1048576: NARROWER than '..Said'. Prove '..Said' where nothing that the law and all that it calls make is longer than what came in: it says more and counts as full. Else prove '..UptoSaid'. A law counts once. -/
mutual
def uptoBulk {H : Type} : DataW H → Nat
  | .lit (.string bytes) => bytes.length + 1
  | .lit _ => 1
  | .nil => 1
  | .ptr d => uptoBulk d + 1
  | .slice elems spare => uptoBulkAll elems + uptoBulkAll spare + 1
  | .agg parts => uptoBulkAll parts + 1
  | .iface _ d => uptoBulk d + 1
  | .map entries => uptoBulkEntries entries + 1
  | .held _ => 1
def uptoBulkAll {H : Type} : List (DataW H) → Nat
  | [] => 0
  | d :: r => uptoBulk d + uptoBulkAll r
def uptoBulkEntries {H : Type} : List (Lit × DataW H) → Nat
  | [] => 0
  | x :: r => uptoBulkEntry x + uptoBulkEntries r
def uptoBulkEntry {H : Type} : Lit × DataW H → Nat
  | (.string bytes, d) => bytes.length + uptoBulk d + 1
  | (_, d) => uptoBulk d + 1
 end
def uptoSmall : (H : Type) → List (DataW H) → Bool := fun _ ds => decide (uptoBulkAll ds ≤ 1048576)
def OpenSpec.upto (s : _root_.Go.ChangeSpec) : _root_.Go.OpenSpec := { _root_.Go.OpenSpec.ofChange s with cond := some uptoSmall }

/-- 'interregnumlaw05.PrefixMake', WHERE WHAT IT READS IS OF BULK AT MOST 1048576: true; the input reads as it did. -/
def prefixMakeUptoRow : OpenClaim := { program := "ytdaagjlijhmghaa", sum := "3de040e574b30bce84ab4d4deba04e7c50bf9a5a59aabe64be8db4dcb68bd088", func := "interregnum/interregnumlaw05.PrefixMake", spec := "prefixMake", unfollowed := true, recurses := true, apart := false, narrowed := true }
def PrefixMakeUptoSaid : Prop := prefixMakeUptoRow.holds Try.pinned (OpenSpec.upto prefixMakeSpec)

/-- 'interregnumlaw05.PrefixCovers', WHERE WHAT IT READS IS OF BULK AT MOST 1048576: true; the input reads as it did. -/
def prefixCoversUptoRow : OpenClaim := { program := "ytdaagjlijhmghaa", sum := "3de040e574b30bce84ab4d4deba04e7c50bf9a5a59aabe64be8db4dcb68bd088", func := "interregnum/interregnumlaw05.PrefixCovers", spec := "prefixCovers", unfollowed := true, recurses := true, apart := false, narrowed := true }
def PrefixCoversUptoSaid : Prop := prefixCoversUptoRow.holds Try.pinned (OpenSpec.upto prefixCoversSpec)

/-- 'interregnumlaw05.PrefixBack', WHERE WHAT IT READS IS OF BULK AT MOST 1048576: true; the input reads as it did. -/
def prefixBackUptoRow : OpenClaim := { program := "ytdaagjlijhmghaa", sum := "3de040e574b30bce84ab4d4deba04e7c50bf9a5a59aabe64be8db4dcb68bd088", func := "interregnum/interregnumlaw05.PrefixBack", spec := "prefixBack", unfollowed := true, recurses := true, apart := false, narrowed := true }
def PrefixBackUptoSaid : Prop := prefixBackUptoRow.holds Try.pinned (OpenSpec.upto prefixBackSpec)

/-- 'interregnumlaw05.PrefixReads', WHERE WHAT IT READS IS OF BULK AT MOST 1048576: true; the input reads as it did. -/
def prefixReadsUptoRow : OpenClaim := { program := "ytdaagjlijhmghaa", sum := "3de040e574b30bce84ab4d4deba04e7c50bf9a5a59aabe64be8db4dcb68bd088", func := "interregnum/interregnumlaw05.PrefixReads", spec := "prefixReads", unfollowed := true, recurses := true, apart := false, narrowed := true }
def PrefixReadsUptoSaid : Prop := prefixReadsUptoRow.holds Try.pinned (OpenSpec.upto prefixReadsSpec)

/-- 'interregnumlaw05.PrefixHost', WHERE WHAT IT READS IS OF BULK AT MOST 1048576: true; the input reads as it did. -/
def prefixHostUptoRow : OpenClaim := { program := "ytdaagjlijhmghaa", sum := "3de040e574b30bce84ab4d4deba04e7c50bf9a5a59aabe64be8db4dcb68bd088", func := "interregnum/interregnumlaw05.PrefixHost", spec := "prefixHost", unfollowed := true, recurses := true, apart := false, narrowed := true }
def PrefixHostUptoSaid : Prop := prefixHostUptoRow.holds Try.pinned (OpenSpec.upto prefixHostSpec)

end Rows
end Go.Proofs.Ytdaagjlijhmghaa
