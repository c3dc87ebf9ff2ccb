/-
  DERIVED. GIVEN WITH THE SEED: THE CARDS: each row of YtdojlejehjbliaaGreatDoorRows.lean that lists a variable, with what it lists TIED to the program's text (the seventh form; the later family's looks); each row that meets fmt, with fmt's text TOLD by the authors' own Lean function (tested against real Go, not proved from fmt's source: count such statements apart). THE CARD IS WHAT COUNTS. Prove the row's statement (the work); the ties are given (YtdojlejehjbliaaGreatDoorTie.lean); close each card by the builder's one call (the guide's Derived/Test/ToyasCard.lean, 'card_holds'). Laid BY PROGRAM, IN A SANDBOX (cutbox-door.mjs). By AI agents, Wed Nov 11 2026. No macro, syntax, notation, axiom, sorry.
-/
import Derived.Test.YtdojlejehjbliaaGreatDoorRows
import GoSem.ClaimSeven
namespace Go.Proofs.YtdojlejehjbliaaGreatDoor
namespace Rows

/-- THE TIED CARD OF 'interregnumlaw09.MsgReads'. -/
def msgReadsCard : Claim7 := { stood := { row := msgReadsRow, standIns := [], harness := (true, "c08dc74fa24b496753687fd2aeaf91ee2a0dc1ac67e0d1f136eaa1fa0c875925"), looks := true }, kinds := [], alts := [], laidByText := true, laidKinds := [.data, .data], laidTests := true, laidLooks := .later }
def MsgReadsCardSaid : Prop := Claim7.holds Tryz.pinned (.plain (OpenSpec.ofChange msgReadsSpec)) msgReadsCard

/-- THE TIED CARD OF 'interregnumlaw10.StreamCuts'. -/
def streamCutsCard : Claim7 := { stood := { row := streamCutsRow, standIns := [], harness := (true, "c08dc74fa24b496753687fd2aeaf91ee2a0dc1ac67e0d1f136eaa1fa0c875925"), looks := true }, kinds := [], alts := [], laidByText := true, laidKinds := [.data, .data], laidTests := true, laidLooks := .later }
def StreamCutsCardSaid : Prop := Claim7.holds Tryz.pinned (.plain (OpenSpec.ofChange streamCutsSpec)) streamCutsCard

/-- THE TIED CARD OF 'interregnumlaw10.StreamMany'. -/
def streamManyCard : Claim7 := { stood := { row := streamManyRow, standIns := [], harness := (true, "c08dc74fa24b496753687fd2aeaf91ee2a0dc1ac67e0d1f136eaa1fa0c875925"), looks := true }, kinds := [], alts := [], laidByText := true, laidKinds := [.data, .data], laidTests := true, laidLooks := .later }
def StreamManyCardSaid : Prop := Claim7.holds Tryz.pinned (.plain (OpenSpec.ofChange streamManySpec)) streamManyCard

/-- THE SECOND FORM's CARD OF 'interregnumlaw09.MsgReads'. -/
def msgReadsUptoCard : Claim7 := { stood := { row := msgReadsUptoRow, standIns := [], harness := (true, "c08dc74fa24b496753687fd2aeaf91ee2a0dc1ac67e0d1f136eaa1fa0c875925"), looks := true }, kinds := [], alts := [], laidByText := true, laidKinds := [.data, .data], laidTests := true, laidLooks := .later }
def MsgReadsUptoCardSaid : Prop := Claim7.holds Tryz.pinned (.plain (OpenSpec.upto msgReadsSpec)) msgReadsUptoCard

/-- THE SECOND FORM's CARD OF 'interregnumlaw10.StreamCuts'. -/
def streamCutsUptoCard : Claim7 := { stood := { row := streamCutsUptoRow, standIns := [], harness := (true, "c08dc74fa24b496753687fd2aeaf91ee2a0dc1ac67e0d1f136eaa1fa0c875925"), looks := true }, kinds := [], alts := [], laidByText := true, laidKinds := [.data, .data], laidTests := true, laidLooks := .later }
def StreamCutsUptoCardSaid : Prop := Claim7.holds Tryz.pinned (.plain (OpenSpec.upto streamCutsSpec)) streamCutsUptoCard

/-- THE SECOND FORM's CARD OF 'interregnumlaw10.StreamMany'. -/
def streamManyUptoCard : Claim7 := { stood := { row := streamManyUptoRow, standIns := [], harness := (true, "c08dc74fa24b496753687fd2aeaf91ee2a0dc1ac67e0d1f136eaa1fa0c875925"), looks := true }, kinds := [], alts := [], laidByText := true, laidKinds := [.data, .data], laidTests := true, laidLooks := .later }
def StreamManyUptoCardSaid : Prop := Claim7.holds Tryz.pinned (.plain (OpenSpec.upto streamManySpec)) streamManyUptoCard
end Rows
end Go.Proofs.YtdojlejehjbliaaGreatDoor
