/-
  No cell of these rows narrows 'for every input' (looked for: loops, veiled, ifaces, maps, wideKeys, modest, calm, conditions, laid).
  DERIVED. THE GIVEN ROWS OF THIS SEAT. 4 by the template 'for every input the law returns true; each argument reads behind the call as it read before'; 0 by the template 'total and deterministic' (their statements: YtjlmkaeepeamkaaTotals.lean).
  GIVEN WITH THE SEED: the statements are not yours to turn. If you find one false, say at which input.
  Laid BY PROGRAM, IN A SANDBOX (cutbox-rows.mjs): the forced cells as the released guide's own fill.sh prints them over the translation 25f274f50153576c… (all of the seat's roots in one cut). By AI agents, Wed Nov 11 2026. No macro, syntax, notation, axiom, sorry.
-/
import Derived.Test.YtjlmkaeepeamkaaChecked
import GoSem.Claim
import GoSem.ClaimJoined
import GoSem.ClaimMapViews
import Derived.JoinedTies
import Derived.KernelRfl
namespace Go.Proofs.Ytjlmkaeepeamkaa
/- THE CELL 'sum', in the pinned program and in every row, IS THE sha256 OF THE DUMP (.gsa) THAT YtjlmkaeepeamkaaProg.lean LOADS. Nothing in Lean hashes anything: it is a label: what it is worth is what the hold of that sum in a sandbox is worth. -/
noncomputable def Try.pinned : Pinned := { name := "ytjlmkaeepeamkaa", sum := "25f274f50153576c7b0ebba00bb4ebac6ca3060cf355b6c5eb02c0f75421f542", checked := Try.checked }
namespace Rows
def none {H : Type} : Left H := { results := [], args := [] }

/-- 'interregnumlaw14.AdjinPlays': WHATEVER THE INPUT: true; the input reads as it did. -/
def adjinPlaysSpec : ChangeSpec := { name := "adjinPlays", fn := fun _ => fun
  | [d] => { results := [.lit (.bool true)], args := [d] }
  | _ => none }
def adjinPlaysRow : OpenClaim := { program := "ytjlmkaeepeamkaa", sum := "25f274f50153576c7b0ebba00bb4ebac6ca3060cf355b6c5eb02c0f75421f542", func := "interregnum/interregnumlaw14.AdjinPlays", spec := "adjinPlays", unfollowed := true, recurses := true, plainKeys := false, apart := false }
def AdjinPlaysSaid : Prop := adjinPlaysRow.holds Try.pinned (OpenSpec.ofChange adjinPlaysSpec)

/-- ITS FALSE NEIGHBOUR: 'it returns false'. Refute it at one input. -/
def adjinPlaysWrong : ChangeSpec := { name := "adjinPlays", fn := fun _ => fun
  | [d] => { results := [.lit (.bool false)], args := [d] }
  | _ => none }
def AdjinPlaysWrongFalsely : Prop := adjinPlaysRow.holds Try.pinned (OpenSpec.ofChange adjinPlaysWrong)

/-- 'interregnumlaw14.AdjinOwn': WHATEVER THE INPUT: true; the input reads as it did. -/
def adjinOwnSpec : ChangeSpec := { name := "adjinOwn", fn := fun _ => fun
  | [d] => { results := [.lit (.bool true)], args := [d] }
  | _ => none }
def adjinOwnRow : OpenClaim := { program := "ytjlmkaeepeamkaa", sum := "25f274f50153576c7b0ebba00bb4ebac6ca3060cf355b6c5eb02c0f75421f542", func := "interregnum/interregnumlaw14.AdjinOwn", spec := "adjinOwn", unfollowed := true, recurses := true, plainKeys := false, apart := false }
def AdjinOwnSaid : Prop := adjinOwnRow.holds Try.pinned (OpenSpec.ofChange adjinOwnSpec)

/-- ITS FALSE NEIGHBOUR: 'it returns false'. Refute it at one input. -/
def adjinOwnWrong : ChangeSpec := { name := "adjinOwn", fn := fun _ => fun
  | [d] => { results := [.lit (.bool false)], args := [d] }
  | _ => none }
def AdjinOwnWrongFalsely : Prop := adjinOwnRow.holds Try.pinned (OpenSpec.ofChange adjinOwnWrong)

/-- 'interregnumlaw14.AdjinNone': WHATEVER THE INPUT: true; the input reads as it did. -/
def adjinNoneSpec : ChangeSpec := { name := "adjinNone", fn := fun _ => fun
  | [d] => { results := [.lit (.bool true)], args := [d] }
  | _ => none }
def adjinNoneRow : OpenClaim := { program := "ytjlmkaeepeamkaa", sum := "25f274f50153576c7b0ebba00bb4ebac6ca3060cf355b6c5eb02c0f75421f542", func := "interregnum/interregnumlaw14.AdjinNone", spec := "adjinNone", unfollowed := true, recurses := true, plainKeys := false, apart := false }
def AdjinNoneSaid : Prop := adjinNoneRow.holds Try.pinned (OpenSpec.ofChange adjinNoneSpec)

/-- ITS FALSE NEIGHBOUR: 'it returns false'. Refute it at one input. -/
def adjinNoneWrong : ChangeSpec := { name := "adjinNone", fn := fun _ => fun
  | [d] => { results := [.lit (.bool false)], args := [d] }
  | _ => none }
def AdjinNoneWrongFalsely : Prop := adjinNoneRow.holds Try.pinned (OpenSpec.ofChange adjinNoneWrong)

/-- 'interregnumlaw14.AdjinPeers': WHATEVER THE INPUT: true; the input reads as it did. -/
def adjinPeersSpec : ChangeSpec := { name := "adjinPeers", fn := fun _ => fun
  | [d1, d2] => { results := [.lit (.bool true)], args := [d1, d2] }
  | _ => none }
def adjinPeersRow : OpenClaim := { program := "ytjlmkaeepeamkaa", sum := "25f274f50153576c7b0ebba00bb4ebac6ca3060cf355b6c5eb02c0f75421f542", func := "interregnum/interregnumlaw14.AdjinPeers", spec := "adjinPeers", unfollowed := true, recurses := true, plainKeys := false, apart := false }
def AdjinPeersSaid : Prop := adjinPeersRow.holds Try.pinned (OpenSpec.ofChange adjinPeersSpec)

/-- ITS FALSE NEIGHBOUR: 'it returns false'. Refute it at one input. -/
def adjinPeersWrong : ChangeSpec := { name := "adjinPeers", fn := fun _ => fun
  | [d1, d2] => { results := [.lit (.bool false)], args := [d1, d2] }
  | _ => none }
def AdjinPeersWrongFalsely : Prop := adjinPeersRow.holds Try.pinned (OpenSpec.ofChange adjinPeersWrong)

/- THE SECOND FORM. 'bulk': how many values and letters a reading holds, each counted each time it is reached (what is shared counts as often as it is met; a slice's spare places count too). A statement '..UptoSaid' is the law's where the arguments, and the package variables that the reading takes, are together of bulk at most 1048576: NARROWER than '..Said'. Prove '..Said' where nothing that the law and all that it calls make is longer than what came in: it says more and counts as full. Else prove '..UptoSaid'. A law counts once. -/
mutual
def uptoBulk {H : Type} : DataW H → Nat
  | .lit (.string bytes) => bytes.length + 1
  | .lit _ => 1
  | .nil => 1
  | .ptr d => uptoBulk d + 1
  | .slice elems spare => uptoBulkAll elems + uptoBulkAll spare + 1
  | .agg parts => uptoBulkAll parts + 1
  | .iface _ d => uptoBulk d + 1
  | .map entries => uptoBulkEntries entries + 1
  | .held _ => 1
def uptoBulkAll {H : Type} : List (DataW H) → Nat
  | [] => 0
  | d :: r => uptoBulk d + uptoBulkAll r
def uptoBulkEntries {H : Type} : List (Lit × DataW H) → Nat
  | [] => 0
  | x :: r => uptoBulkEntry x + uptoBulkEntries r
def uptoBulkEntry {H : Type} : Lit × DataW H → Nat
  | (.string bytes, d) => bytes.length + uptoBulk d + 1
  | (_, d) => uptoBulk d + 1
 end
def uptoSmall : (H : Type) → List (DataW H) → Bool := fun _ ds => decide (uptoBulkAll ds ≤ 1048576)
def OpenSpec.upto (s : _root_.Go.ChangeSpec) : _root_.Go.OpenSpec := { _root_.Go.OpenSpec.ofChange s with cond := some uptoSmall }

/-- 'interregnumlaw14.AdjinPlays', WHERE WHAT IT READS IS OF BULK AT MOST 1048576: true; the input reads as it did. -/
def adjinPlaysUptoRow : OpenClaim := { program := "ytjlmkaeepeamkaa", sum := "25f274f50153576c7b0ebba00bb4ebac6ca3060cf355b6c5eb02c0f75421f542", func := "interregnum/interregnumlaw14.AdjinPlays", spec := "adjinPlays", unfollowed := true, recurses := true, plainKeys := false, apart := false, narrowed := true }
def AdjinPlaysUptoSaid : Prop := adjinPlaysUptoRow.holds Try.pinned (OpenSpec.upto adjinPlaysSpec)

/-- 'interregnumlaw14.AdjinOwn', WHERE WHAT IT READS IS OF BULK AT MOST 1048576: true; the input reads as it did. -/
def adjinOwnUptoRow : OpenClaim := { program := "ytjlmkaeepeamkaa", sum := "25f274f50153576c7b0ebba00bb4ebac6ca3060cf355b6c5eb02c0f75421f542", func := "interregnum/interregnumlaw14.AdjinOwn", spec := "adjinOwn", unfollowed := true, recurses := true, plainKeys := false, apart := false, narrowed := true }
def AdjinOwnUptoSaid : Prop := adjinOwnUptoRow.holds Try.pinned (OpenSpec.upto adjinOwnSpec)

/-- 'interregnumlaw14.AdjinNone', WHERE WHAT IT READS IS OF BULK AT MOST 1048576: true; the input reads as it did. -/
def adjinNoneUptoRow : OpenClaim := { program := "ytjlmkaeepeamkaa", sum := "25f274f50153576c7b0ebba00bb4ebac6ca3060cf355b6c5eb02c0f75421f542", func := "interregnum/interregnumlaw14.AdjinNone", spec := "adjinNone", unfollowed := true, recurses := true, plainKeys := false, apart := false, narrowed := true }
def AdjinNoneUptoSaid : Prop := adjinNoneUptoRow.holds Try.pinned (OpenSpec.upto adjinNoneSpec)

/-- 'interregnumlaw14.AdjinPeers', WHERE WHAT IT READS IS OF BULK AT MOST 1048576: true; the input reads as it did. -/
def adjinPeersUptoRow : OpenClaim := { program := "ytjlmkaeepeamkaa", sum := "25f274f50153576c7b0ebba00bb4ebac6ca3060cf355b6c5eb02c0f75421f542", func := "interregnum/interregnumlaw14.AdjinPeers", spec := "adjinPeers", unfollowed := true, recurses := true, plainKeys := false, apart := false, narrowed := true }
def AdjinPeersUptoSaid : Prop := adjinPeersUptoRow.holds Try.pinned (OpenSpec.upto adjinPeersSpec)

end Rows
end Go.Proofs.Ytjlmkaeepeamkaa
