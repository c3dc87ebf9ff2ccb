/-
  DERIVED. GIVEN WITH THE SEED: THE CARDS: each row of YtcbonpofbmogjaaGreatDoorRows.lean that lists a variable, with what it lists TIED to the program's text (the seventh form; the later family's looks); each row that meets fmt, with fmt's text TOLD by the authors' own Lean function (tested against real Go, not proved from fmt's source: count such statements apart). THE CARD IS WHAT COUNTS. Prove the row's statement (the work); the ties are given (YtcbonpofbmogjaaGreatDoorTie.lean); close each card by the builder's one call (the guide's Derived/Test/ToyasCard.lean, 'card_holds'). Laid BY PROGRAM, IN A SANDBOX (cutbox-door.mjs). By AI agents, Wed Nov 11 2026. No macro, syntax, notation, axiom, sorry.
-/
import Derived.Test.YtcbonpofbmogjaaGreatDoorRows
import GoSem.ClaimSeven
namespace Go.Proofs.YtcbonpofbmogjaaGreatDoor
namespace Rows

/-- THE TIED CARD OF 'interregnumlaw09.MsgReads'. -/
def msgReadsCard : Claim7 := { stood := { row := msgReadsRow, standIns := [], harness := (true, "3a32fad3d2d048852dedd7169eaa01f7281179eae946b7251ec1a308f8c7efb8"), looks := true }, kinds := [], alts := [], laidByText := true, laidKinds := [.data, .data], laidTests := true, laidLooks := .later }
def MsgReadsCardSaid : Prop := Claim7.holds Tryz.pinned (.plain (OpenSpec.ofChange msgReadsSpec)) msgReadsCard

/-- THE TIED CARD OF 'interregnumlaw09.MsgHead'. -/
def msgHeadCard : Claim7 := { stood := { row := msgHeadRow, standIns := [], harness := (true, "3a32fad3d2d048852dedd7169eaa01f7281179eae946b7251ec1a308f8c7efb8"), looks := true }, kinds := [], alts := [], laidByText := true, laidKinds := [.data, .data], laidTests := true, laidLooks := .later }
def MsgHeadCardSaid : Prop := Claim7.holds Tryz.pinned (.plain (OpenSpec.ofChange msgHeadSpec)) msgHeadCard

/-- THE TIED CARD OF 'interregnumlaw09.MsgMarker'. -/
def msgMarkerCard : Claim7 := { stood := { row := msgMarkerRow, standIns := [], harness := (true, "3a32fad3d2d048852dedd7169eaa01f7281179eae946b7251ec1a308f8c7efb8"), looks := true }, kinds := [], alts := [], laidByText := true, laidKinds := [.data, .data], laidTests := true, laidLooks := .later }
def MsgMarkerCardSaid : Prop := Claim7.holds Tryz.pinned (.plain (OpenSpec.ofChange msgMarkerSpec)) msgMarkerCard

/-- THE TIED CARD OF 'interregnumlaw09.MsgOpens'. -/
def msgOpensCard : Claim7 := { stood := { row := msgOpensRow, standIns := [], harness := (true, "3a32fad3d2d048852dedd7169eaa01f7281179eae946b7251ec1a308f8c7efb8"), looks := true }, kinds := [], alts := [], laidByText := true, laidKinds := [.data, .data], laidTests := true, laidLooks := .later }
def MsgOpensCardSaid : Prop := Claim7.holds Tryz.pinned (.plain (OpenSpec.ofChange msgOpensSpec)) msgOpensCard

/-- THE TIED CARD OF 'interregnumlaw09.MsgLimits'. -/
def msgLimitsCard : Claim7 := { stood := { row := msgLimitsRow, standIns := [], harness := (true, "3a32fad3d2d048852dedd7169eaa01f7281179eae946b7251ec1a308f8c7efb8"), looks := true }, kinds := [], alts := [], laidByText := true, laidKinds := [.data, .data], laidTests := true, laidLooks := .later }
def MsgLimitsCardSaid : Prop := Claim7.holds Tryz.pinned (.plain (OpenSpec.ofChange msgLimitsSpec)) msgLimitsCard

/-- THE SECOND FORM's CARD OF 'interregnumlaw09.MsgReads'. -/
def msgReadsUptoCard : Claim7 := { stood := { row := msgReadsUptoRow, standIns := [], harness := (true, "3a32fad3d2d048852dedd7169eaa01f7281179eae946b7251ec1a308f8c7efb8"), looks := true }, kinds := [], alts := [], laidByText := true, laidKinds := [.data, .data], laidTests := true, laidLooks := .later }
def MsgReadsUptoCardSaid : Prop := Claim7.holds Tryz.pinned (.plain (OpenSpec.upto msgReadsSpec)) msgReadsUptoCard

/-- THE SECOND FORM's CARD OF 'interregnumlaw09.MsgHead'. -/
def msgHeadUptoCard : Claim7 := { stood := { row := msgHeadUptoRow, standIns := [], harness := (true, "3a32fad3d2d048852dedd7169eaa01f7281179eae946b7251ec1a308f8c7efb8"), looks := true }, kinds := [], alts := [], laidByText := true, laidKinds := [.data, .data], laidTests := true, laidLooks := .later }
def MsgHeadUptoCardSaid : Prop := Claim7.holds Tryz.pinned (.plain (OpenSpec.upto msgHeadSpec)) msgHeadUptoCard

/-- THE SECOND FORM's CARD OF 'interregnumlaw09.MsgMarker'. -/
def msgMarkerUptoCard : Claim7 := { stood := { row := msgMarkerUptoRow, standIns := [], harness := (true, "3a32fad3d2d048852dedd7169eaa01f7281179eae946b7251ec1a308f8c7efb8"), looks := true }, kinds := [], alts := [], laidByText := true, laidKinds := [.data, .data], laidTests := true, laidLooks := .later }
def MsgMarkerUptoCardSaid : Prop := Claim7.holds Tryz.pinned (.plain (OpenSpec.upto msgMarkerSpec)) msgMarkerUptoCard

/-- THE SECOND FORM's CARD OF 'interregnumlaw09.MsgOpens'. -/
def msgOpensUptoCard : Claim7 := { stood := { row := msgOpensUptoRow, standIns := [], harness := (true, "3a32fad3d2d048852dedd7169eaa01f7281179eae946b7251ec1a308f8c7efb8"), looks := true }, kinds := [], alts := [], laidByText := true, laidKinds := [.data, .data], laidTests := true, laidLooks := .later }
def MsgOpensUptoCardSaid : Prop := Claim7.holds Tryz.pinned (.plain (OpenSpec.upto msgOpensSpec)) msgOpensUptoCard

/-- THE SECOND FORM's CARD OF 'interregnumlaw09.MsgLimits'. -/
def msgLimitsUptoCard : Claim7 := { stood := { row := msgLimitsUptoRow, standIns := [], harness := (true, "3a32fad3d2d048852dedd7169eaa01f7281179eae946b7251ec1a308f8c7efb8"), looks := true }, kinds := [], alts := [], laidByText := true, laidKinds := [.data, .data], laidTests := true, laidLooks := .later }
def MsgLimitsUptoCardSaid : Prop := Claim7.holds Tryz.pinned (.plain (OpenSpec.upto msgLimitsSpec)) msgLimitsUptoCard
end Rows
end Go.Proofs.YtcbonpofbmogjaaGreatDoor
