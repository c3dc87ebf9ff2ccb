/-
  DERIVED. GIVEN WITH THE SEED: THE CARDS: each row of YthigjonagbfbbaaDoorRows.lean that lists a variable, with what it lists TIED to the program's text (the seventh form; the later family's looks); each row that meets fmt, with fmt's text TOLD by the authors' own Lean function (tested against real Go, not proved from fmt's source: count such statements apart). THE CARD IS WHAT COUNTS. Prove the row's statement (the work); the ties are given (YthigjonagbfbbaaDoorTie.lean); close each card by the builder's one call (the guide's Derived/Test/ToyasCard.lean, 'card_holds'). Laid BY PROGRAM, IN A SANDBOX (cutbox-door.mjs). By AI agents, Wed Nov 11 2026. No macro, syntax, notation, axiom, sorry.
-/
import Derived.Test.YthigjonagbfbbaaDoorRows
import GoSem.ClaimSeven
namespace Go.Proofs.YthigjonagbfbbaaDoor
namespace Rows

/-- THE TIED CARD OF 'interregnumlaw16.ExportTells'. -/
def exportTellsCard : Claim7 := { stood := { row := exportTellsRow, standIns := [], harness := (true, "64efd74b7d2bec3fefed9c07d92f594f4a232ef33caaa1d87251af9ffba4fef3"), looks := false }, kinds := [], alts := [], laidByText := true, laidKinds := [.data], laidTests := true, laidLooks := .later }
def ExportTellsCardSaid : Prop := Claim7.holds Tryd.pinned (.plain (OpenSpec.ofChange exportTellsSpec)) exportTellsCard

/-- THE TIED CARD OF 'interregnumlaw16.ExportLoops'. -/
def exportLoopsCard : Claim7 := { stood := { row := exportLoopsRow, standIns := [], harness := (true, "64efd74b7d2bec3fefed9c07d92f594f4a232ef33caaa1d87251af9ffba4fef3"), looks := false }, kinds := [], alts := [], laidByText := true, laidKinds := [.data], laidTests := true, laidLooks := .later }
def ExportLoopsCardSaid : Prop := Claim7.holds Tryd.pinned (.plain (OpenSpec.ofChange exportLoopsSpec)) exportLoopsCard

/-- THE TIED CARD OF 'interregnumlaw16.ExportDelta'. -/
def exportDeltaCard : Claim7 := { stood := { row := exportDeltaRow, standIns := [], harness := (true, "64efd74b7d2bec3fefed9c07d92f594f4a232ef33caaa1d87251af9ffba4fef3"), looks := false }, kinds := [], alts := [], laidByText := true, laidKinds := [.data], laidTests := true, laidLooks := .later }
def ExportDeltaCardSaid : Prop := Claim7.holds Tryd.pinned (.plain (OpenSpec.ofChange exportDeltaSpec)) exportDeltaCard

/-- THE TIED CARD OF 'interregnumlaw16.ExportGone'. -/
def exportGoneCard : Claim7 := { stood := { row := exportGoneRow, standIns := [], harness := (true, "64efd74b7d2bec3fefed9c07d92f594f4a232ef33caaa1d87251af9ffba4fef3"), looks := false }, kinds := [], alts := [], laidByText := true, laidKinds := [.data], laidTests := true, laidLooks := .later }
def ExportGoneCardSaid : Prop := Claim7.holds Tryd.pinned (.plain (OpenSpec.ofChange exportGoneSpec)) exportGoneCard

/-- THE TIED CARD OF 'interregnumlaw16.ExportStatic'. -/
def exportStaticCard : Claim7 := { stood := { row := exportStaticRow, standIns := [], harness := (true, "64efd74b7d2bec3fefed9c07d92f594f4a232ef33caaa1d87251af9ffba4fef3"), looks := false }, kinds := [], alts := [], laidByText := true, laidKinds := [.data], laidTests := true, laidLooks := .later }
def ExportStaticCardSaid : Prop := Claim7.holds Tryd.pinned (.plain (OpenSpec.ofChange exportStaticSpec)) exportStaticCard

/-- THE SECOND FORM's CARD OF 'interregnumlaw16.ExportTells'. -/
def exportTellsUptoCard : Claim7 := { stood := { row := exportTellsUptoRow, standIns := [], harness := (true, "64efd74b7d2bec3fefed9c07d92f594f4a232ef33caaa1d87251af9ffba4fef3"), looks := false }, kinds := [], alts := [], laidByText := true, laidKinds := [.data], laidTests := true, laidLooks := .later }
def ExportTellsUptoCardSaid : Prop := Claim7.holds Tryd.pinned (.plain (OpenSpec.upto exportTellsSpec)) exportTellsUptoCard

/-- THE SECOND FORM's CARD OF 'interregnumlaw16.ExportLoops'. -/
def exportLoopsUptoCard : Claim7 := { stood := { row := exportLoopsUptoRow, standIns := [], harness := (true, "64efd74b7d2bec3fefed9c07d92f594f4a232ef33caaa1d87251af9ffba4fef3"), looks := false }, kinds := [], alts := [], laidByText := true, laidKinds := [.data], laidTests := true, laidLooks := .later }
def ExportLoopsUptoCardSaid : Prop := Claim7.holds Tryd.pinned (.plain (OpenSpec.upto exportLoopsSpec)) exportLoopsUptoCard

/-- THE SECOND FORM's CARD OF 'interregnumlaw16.ExportDelta'. -/
def exportDeltaUptoCard : Claim7 := { stood := { row := exportDeltaUptoRow, standIns := [], harness := (true, "64efd74b7d2bec3fefed9c07d92f594f4a232ef33caaa1d87251af9ffba4fef3"), looks := false }, kinds := [], alts := [], laidByText := true, laidKinds := [.data], laidTests := true, laidLooks := .later }
def ExportDeltaUptoCardSaid : Prop := Claim7.holds Tryd.pinned (.plain (OpenSpec.upto exportDeltaSpec)) exportDeltaUptoCard

/-- THE SECOND FORM's CARD OF 'interregnumlaw16.ExportGone'. -/
def exportGoneUptoCard : Claim7 := { stood := { row := exportGoneUptoRow, standIns := [], harness := (true, "64efd74b7d2bec3fefed9c07d92f594f4a232ef33caaa1d87251af9ffba4fef3"), looks := false }, kinds := [], alts := [], laidByText := true, laidKinds := [.data], laidTests := true, laidLooks := .later }
def ExportGoneUptoCardSaid : Prop := Claim7.holds Tryd.pinned (.plain (OpenSpec.upto exportGoneSpec)) exportGoneUptoCard

/-- THE SECOND FORM's CARD OF 'interregnumlaw16.ExportStatic'. -/
def exportStaticUptoCard : Claim7 := { stood := { row := exportStaticUptoRow, standIns := [], harness := (true, "64efd74b7d2bec3fefed9c07d92f594f4a232ef33caaa1d87251af9ffba4fef3"), looks := false }, kinds := [], alts := [], laidByText := true, laidKinds := [.data], laidTests := true, laidLooks := .later }
def ExportStaticUptoCardSaid : Prop := Claim7.holds Tryd.pinned (.plain (OpenSpec.upto exportStaticSpec)) exportStaticUptoCard
end Rows
end Go.Proofs.YthigjonagbfbbaaDoor
