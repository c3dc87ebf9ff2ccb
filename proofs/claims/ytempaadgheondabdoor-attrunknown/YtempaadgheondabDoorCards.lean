/-
  DERIVED. GIVEN WITH THE SEED: THE CARDS: each row of YtempaadgheondabDoorRows.lean that lists a variable, with what it lists TIED to the program's text (the seventh form; the later family's looks); each row that meets fmt, with fmt's text TOLD by the authors' own Lean function (tested against real Go, not proved from fmt's source: count such statements apart). THE CARD IS WHAT COUNTS. Prove the row's statement (the work); the ties are given (YtempaadgheondabDoorTie.lean); close each card by the builder's one call (the guide's Derived/Test/ToyasCard.lean, 'card_holds'). Laid BY PROGRAM, IN A SANDBOX (cutbox-door.mjs). By AI agents, Wed Nov 11 2026. No macro, syntax, notation, axiom, sorry.
-/
import Derived.Test.YtempaadgheondabDoorRows
import GoSem.ClaimSeven
namespace Go.Proofs.YtempaadgheondabDoor
namespace Rows

/-- THE TIED CARD OF 'interregnumlaw07.AttrUnknown'. -/
def attrUnknownCard : Claim7 := { stood := { row := attrUnknownRow, standIns := [], harness := (true, "c528e9f839ec2697290918ecf2af0ae551d79d73f3fedeb85f0d02d7b66b34ec"), looks := true }, kinds := [], alts := [], laidByText := true, laidKinds := [.data], laidTests := true, laidLooks := .later }
def AttrUnknownCardSaid : Prop := Claim7.holds Tryd.pinned (.plain (OpenSpec.ofChange attrUnknownSpec)) attrUnknownCard

/-- THE SECOND FORM's CARD OF 'interregnumlaw07.AttrUnknown'. -/
def attrUnknownUptoCard : Claim7 := { stood := { row := attrUnknownUptoRow, standIns := [], harness := (true, "c528e9f839ec2697290918ecf2af0ae551d79d73f3fedeb85f0d02d7b66b34ec"), looks := true }, kinds := [], alts := [], laidByText := true, laidKinds := [.data], laidTests := true, laidLooks := .later }
def AttrUnknownUptoCardSaid : Prop := Claim7.holds Tryd.pinned (.plain (OpenSpec.upto attrUnknownSpec)) attrUnknownUptoCard
end Rows
end Go.Proofs.YtempaadgheondabDoor
