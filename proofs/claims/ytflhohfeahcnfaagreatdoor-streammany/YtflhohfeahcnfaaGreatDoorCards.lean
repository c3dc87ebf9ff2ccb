/-
  DERIVED. GIVEN WITH THE SEED: THE CARDS: each row of YtflhohfeahcnfaaGreatDoorRows.lean that lists a variable, with what it lists TIED to the program's text (the seventh form; the later family's looks); each row that meets fmt, with fmt's text TOLD by the authors' own Lean function (tested against real Go, not proved from fmt's source: count such statements apart). THE CARD IS WHAT COUNTS. Prove the row's statement (the work); the ties are given (YtflhohfeahcnfaaGreatDoorTie.lean); close each card by the builder's one call (the guide's Derived/Test/ToyasCard.lean, 'card_holds'). Laid BY PROGRAM, IN A SANDBOX (cutbox-door.mjs). By AI agents, Wed Nov 11 2026. No macro, syntax, notation, axiom, sorry.
-/
import Derived.Test.YtflhohfeahcnfaaGreatDoorRows
import GoSem.ClaimSeven
namespace Go.Proofs.YtflhohfeahcnfaaGreatDoor
namespace Rows

/-- THE TIED CARD OF 'interregnumlaw09.MsgReads'. -/
def msgReadsCard : Claim7 := { stood := { row := msgReadsRow, standIns := [], harness := (true, "d2777c2a65178c02844015e25ad7c676dd6a345462c965c0ec6191958c7e8571"), looks := true }, kinds := [], alts := [], laidByText := true, laidKinds := [.data, .data], laidTests := true, laidLooks := .later }
def MsgReadsCardSaid : Prop := Claim7.holds Tryz.pinned (.plain (OpenSpec.ofChange msgReadsSpec)) msgReadsCard

/-- THE TIED CARD OF 'interregnumlaw09.MsgOpens'. -/
def msgOpensCard : Claim7 := { stood := { row := msgOpensRow, standIns := [], harness := (true, "d2777c2a65178c02844015e25ad7c676dd6a345462c965c0ec6191958c7e8571"), looks := true }, kinds := [], alts := [], laidByText := true, laidKinds := [.data, .data], laidTests := true, laidLooks := .later }
def MsgOpensCardSaid : Prop := Claim7.holds Tryz.pinned (.plain (OpenSpec.ofChange msgOpensSpec)) msgOpensCard

/-- THE TIED CARD OF 'interregnumlaw10.StreamCuts'. -/
def streamCutsCard : Claim7 := { stood := { row := streamCutsRow, standIns := [], harness := (true, "d2777c2a65178c02844015e25ad7c676dd6a345462c965c0ec6191958c7e8571"), looks := true }, kinds := [], alts := [], laidByText := true, laidKinds := [.data, .data], laidTests := true, laidLooks := .later }
def StreamCutsCardSaid : Prop := Claim7.holds Tryz.pinned (.plain (OpenSpec.ofChange streamCutsSpec)) streamCutsCard

/-- THE TIED CARD OF 'interregnumlaw10.StreamMany'. -/
def streamManyCard : Claim7 := { stood := { row := streamManyRow, standIns := [], harness := (true, "d2777c2a65178c02844015e25ad7c676dd6a345462c965c0ec6191958c7e8571"), looks := true }, kinds := [], alts := [], laidByText := true, laidKinds := [.data, .data], laidTests := true, laidLooks := .later }
def StreamManyCardSaid : Prop := Claim7.holds Tryz.pinned (.plain (OpenSpec.ofChange streamManySpec)) streamManyCard

/-- THE TIED CARD OF 'interregnumlaw10.StreamOwn'. -/
def streamOwnCard : Claim7 := { stood := { row := streamOwnRow, standIns := [], harness := (true, "d2777c2a65178c02844015e25ad7c676dd6a345462c965c0ec6191958c7e8571"), looks := true }, kinds := [], alts := [], laidByText := true, laidKinds := [.data, .data], laidTests := true, laidLooks := .later }
def StreamOwnCardSaid : Prop := Claim7.holds Tryz.pinned (.plain (OpenSpec.ofChange streamOwnSpec)) streamOwnCard

/-- THE TIED CARD OF 'interregnumlaw10.StreamJunk'. -/
def streamJunkCard : Claim7 := { stood := { row := streamJunkRow, standIns := [], harness := (true, "d2777c2a65178c02844015e25ad7c676dd6a345462c965c0ec6191958c7e8571"), looks := true }, kinds := [], alts := [], laidByText := true, laidKinds := [.data, .data], laidTests := true, laidLooks := .later }
def StreamJunkCardSaid : Prop := Claim7.holds Tryz.pinned (.plain (OpenSpec.ofChange streamJunkSpec)) streamJunkCard

/-- THE SECOND FORM's CARD OF 'interregnumlaw09.MsgReads'. -/
def msgReadsUptoCard : Claim7 := { stood := { row := msgReadsUptoRow, standIns := [], harness := (true, "d2777c2a65178c02844015e25ad7c676dd6a345462c965c0ec6191958c7e8571"), looks := true }, kinds := [], alts := [], laidByText := true, laidKinds := [.data, .data], laidTests := true, laidLooks := .later }
def MsgReadsUptoCardSaid : Prop := Claim7.holds Tryz.pinned (.plain (OpenSpec.upto msgReadsSpec)) msgReadsUptoCard

/-- THE SECOND FORM's CARD OF 'interregnumlaw09.MsgOpens'. -/
def msgOpensUptoCard : Claim7 := { stood := { row := msgOpensUptoRow, standIns := [], harness := (true, "d2777c2a65178c02844015e25ad7c676dd6a345462c965c0ec6191958c7e8571"), looks := true }, kinds := [], alts := [], laidByText := true, laidKinds := [.data, .data], laidTests := true, laidLooks := .later }
def MsgOpensUptoCardSaid : Prop := Claim7.holds Tryz.pinned (.plain (OpenSpec.upto msgOpensSpec)) msgOpensUptoCard

/-- THE SECOND FORM's CARD OF 'interregnumlaw10.StreamCuts'. -/
def streamCutsUptoCard : Claim7 := { stood := { row := streamCutsUptoRow, standIns := [], harness := (true, "d2777c2a65178c02844015e25ad7c676dd6a345462c965c0ec6191958c7e8571"), looks := true }, kinds := [], alts := [], laidByText := true, laidKinds := [.data, .data], laidTests := true, laidLooks := .later }
def StreamCutsUptoCardSaid : Prop := Claim7.holds Tryz.pinned (.plain (OpenSpec.upto streamCutsSpec)) streamCutsUptoCard

/-- THE SECOND FORM's CARD OF 'interregnumlaw10.StreamMany'. -/
def streamManyUptoCard : Claim7 := { stood := { row := streamManyUptoRow, standIns := [], harness := (true, "d2777c2a65178c02844015e25ad7c676dd6a345462c965c0ec6191958c7e8571"), looks := true }, kinds := [], alts := [], laidByText := true, laidKinds := [.data, .data], laidTests := true, laidLooks := .later }
def StreamManyUptoCardSaid : Prop := Claim7.holds Tryz.pinned (.plain (OpenSpec.upto streamManySpec)) streamManyUptoCard

/-- THE SECOND FORM's CARD OF 'interregnumlaw10.StreamOwn'. -/
def streamOwnUptoCard : Claim7 := { stood := { row := streamOwnUptoRow, standIns := [], harness := (true, "d2777c2a65178c02844015e25ad7c676dd6a345462c965c0ec6191958c7e8571"), looks := true }, kinds := [], alts := [], laidByText := true, laidKinds := [.data, .data], laidTests := true, laidLooks := .later }
def StreamOwnUptoCardSaid : Prop := Claim7.holds Tryz.pinned (.plain (OpenSpec.upto streamOwnSpec)) streamOwnUptoCard

/-- THE SECOND FORM's CARD OF 'interregnumlaw10.StreamJunk'. -/
def streamJunkUptoCard : Claim7 := { stood := { row := streamJunkUptoRow, standIns := [], harness := (true, "d2777c2a65178c02844015e25ad7c676dd6a345462c965c0ec6191958c7e8571"), looks := true }, kinds := [], alts := [], laidByText := true, laidKinds := [.data, .data], laidTests := true, laidLooks := .later }
def StreamJunkUptoCardSaid : Prop := Claim7.holds Tryz.pinned (.plain (OpenSpec.upto streamJunkSpec)) streamJunkUptoCard
end Rows
end Go.Proofs.YtflhohfeahcnfaaGreatDoor
