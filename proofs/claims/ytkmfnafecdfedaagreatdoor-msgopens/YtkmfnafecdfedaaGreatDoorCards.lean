/-
  DERIVED. GIVEN WITH THE SEED: THE CARDS: each row of YtkmfnafecdfedaaGreatDoorRows.lean that lists a variable, with what it lists TIED to the program's text (the seventh form; the later family's looks); each row that meets fmt, with fmt's text TOLD by the authors' own Lean function (tested against real Go, not proved from fmt's source: count such statements apart). THE CARD IS WHAT COUNTS. Prove the row's statement (the work); the ties are given (YtkmfnafecdfedaaGreatDoorTie.lean); close each card by the builder's one call (the guide's Derived/Test/ToyasCard.lean, 'card_holds'). Laid BY PROGRAM, IN A SANDBOX (cutbox-door.mjs). By AI agents, Wed Nov 11 2026. No macro, syntax, notation, axiom, sorry.
-/
import Derived.Test.YtkmfnafecdfedaaGreatDoorRows
import GoSem.ClaimSeven
namespace Go.Proofs.YtkmfnafecdfedaaGreatDoor
namespace Rows

/-- THE TIED CARD OF 'interregnumlaw09.MsgReads'. -/
def msgReadsCard : Claim7 := { stood := { row := msgReadsRow, standIns := [], harness := (true, "9902086e5dd6911d485148c50bebd403e9871336debda32785b9a34c934063b1"), looks := true }, kinds := [], alts := [], laidByText := true, laidKinds := [.data, .data], laidTests := true, laidLooks := .later }
def MsgReadsCardSaid : Prop := Claim7.holds Tryz.pinned (.plain (OpenSpec.ofChange msgReadsSpec)) msgReadsCard

/-- THE TIED CARD OF 'interregnumlaw09.MsgOpens'. -/
def msgOpensCard : Claim7 := { stood := { row := msgOpensRow, standIns := [], harness := (true, "9902086e5dd6911d485148c50bebd403e9871336debda32785b9a34c934063b1"), looks := true }, kinds := [], alts := [], laidByText := true, laidKinds := [.data, .data], laidTests := true, laidLooks := .later }
def MsgOpensCardSaid : Prop := Claim7.holds Tryz.pinned (.plain (OpenSpec.ofChange msgOpensSpec)) msgOpensCard

/-- THE TIED CARD OF 'interregnumlaw10.StreamCuts'. -/
def streamCutsCard : Claim7 := { stood := { row := streamCutsRow, standIns := [], harness := (true, "9902086e5dd6911d485148c50bebd403e9871336debda32785b9a34c934063b1"), looks := true }, kinds := [], alts := [], laidByText := true, laidKinds := [.data, .data], laidTests := true, laidLooks := .later }
def StreamCutsCardSaid : Prop := Claim7.holds Tryz.pinned (.plain (OpenSpec.ofChange streamCutsSpec)) streamCutsCard

/-- THE SECOND FORM's CARD OF 'interregnumlaw09.MsgReads'. -/
def msgReadsUptoCard : Claim7 := { stood := { row := msgReadsUptoRow, standIns := [], harness := (true, "9902086e5dd6911d485148c50bebd403e9871336debda32785b9a34c934063b1"), looks := true }, kinds := [], alts := [], laidByText := true, laidKinds := [.data, .data], laidTests := true, laidLooks := .later }
def MsgReadsUptoCardSaid : Prop := Claim7.holds Tryz.pinned (.plain (OpenSpec.upto msgReadsSpec)) msgReadsUptoCard

/-- THE SECOND FORM's CARD OF 'interregnumlaw09.MsgOpens'. -/
def msgOpensUptoCard : Claim7 := { stood := { row := msgOpensUptoRow, standIns := [], harness := (true, "9902086e5dd6911d485148c50bebd403e9871336debda32785b9a34c934063b1"), looks := true }, kinds := [], alts := [], laidByText := true, laidKinds := [.data, .data], laidTests := true, laidLooks := .later }
def MsgOpensUptoCardSaid : Prop := Claim7.holds Tryz.pinned (.plain (OpenSpec.upto msgOpensSpec)) msgOpensUptoCard

/-- THE SECOND FORM's CARD OF 'interregnumlaw10.StreamCuts'. -/
def streamCutsUptoCard : Claim7 := { stood := { row := streamCutsUptoRow, standIns := [], harness := (true, "9902086e5dd6911d485148c50bebd403e9871336debda32785b9a34c934063b1"), looks := true }, kinds := [], alts := [], laidByText := true, laidKinds := [.data, .data], laidTests := true, laidLooks := .later }
def StreamCutsUptoCardSaid : Prop := Claim7.holds Tryz.pinned (.plain (OpenSpec.upto streamCutsSpec)) streamCutsUptoCard
end Rows
end Go.Proofs.YtkmfnafecdfedaaGreatDoor
