/-
  DERIVED. GIVEN WITH THE SEED: THE CARDS: each row of YtdgjkohkmdpcdaaGreatDoorRows.lean that lists a variable, with what it lists TIED to the program's text (the seventh form; the later family's looks); each row that meets fmt, with fmt's text TOLD by the authors' own Lean function (tested against real Go, not proved from fmt's source: count such statements apart). THE CARD IS WHAT COUNTS. Prove the row's statement (the work); the ties are given (YtdgjkohkmdpcdaaGreatDoorTie.lean); close each card by the builder's one call (the guide's Derived/Test/ToyasCard.lean, 'card_holds'). Laid BY PROGRAM, IN A SANDBOX (cutbox-door.mjs). By AI agents, Wed Nov 11 2026. No macro, syntax, notation, axiom, sorry.
-/
import Derived.Test.YtdgjkohkmdpcdaaGreatDoorRows
import GoSem.ClaimSeven
namespace Go.Proofs.YtdgjkohkmdpcdaaGreatDoor
namespace Rows

/-- THE TIED CARD OF 'brepkernellaw05.BernsteinEvals'. -/
def bernsteinEvalsCard : Claim7 := { stood := { row := bernsteinEvalsRow, standIns := [], harness := (true, "29920928d15e2b1c096a21d5d9a9e53d0f50af51cf6285a2571896dd6caaee38"), looks := false }, kinds := [], alts := [], laidByText := true, laidKinds := [.data, .data], laidTests := true, laidLooks := .later }
def BernsteinEvalsCardSaid : Prop := Claim7.holds Tryz.pinned (.plain (OpenSpec.ofChange bernsteinEvalsSpec)) bernsteinEvalsCard

/-- THE TIED CARD OF 'brepkernellaw05.BernsteinSums'. -/
def bernsteinSumsCard : Claim7 := { stood := { row := bernsteinSumsRow, standIns := [], harness := (true, "29920928d15e2b1c096a21d5d9a9e53d0f50af51cf6285a2571896dd6caaee38"), looks := false }, kinds := [], alts := [], laidByText := true, laidKinds := [.data, .data], laidTests := true, laidLooks := .later }
def BernsteinSumsCardSaid : Prop := Claim7.holds Tryz.pinned (.plain (OpenSpec.ofChange bernsteinSumsSpec)) bernsteinSumsCard

/-- THE TIED CARD OF 'brepkernellaw05.BernsteinReads'. -/
def bernsteinReadsCard : Claim7 := { stood := { row := bernsteinReadsRow, standIns := [], harness := (true, "29920928d15e2b1c096a21d5d9a9e53d0f50af51cf6285a2571896dd6caaee38"), looks := false }, kinds := [], alts := [], laidByText := true, laidKinds := [.data, .data], laidTests := true, laidLooks := .later }
def BernsteinReadsCardSaid : Prop := Claim7.holds Tryz.pinned (.plain (OpenSpec.ofChange bernsteinReadsSpec)) bernsteinReadsCard

/-- THE TIED CARD OF 'brepkernellaw05.BernsteinLong'. -/
def bernsteinLongCard : Claim7 := { stood := { row := bernsteinLongRow, standIns := [], harness := (true, "29920928d15e2b1c096a21d5d9a9e53d0f50af51cf6285a2571896dd6caaee38"), looks := false }, kinds := [], alts := [], laidByText := true, laidKinds := [.data, .data], laidTests := true, laidLooks := .later }
def BernsteinLongCardSaid : Prop := Claim7.holds Tryz.pinned (.plain (OpenSpec.ofChange bernsteinLongSpec)) bernsteinLongCard

/-- THE TIED CARD OF 'brepkernellaw05.BernsteinValues'. -/
def bernsteinValuesCard : Claim7 := { stood := { row := bernsteinValuesRow, standIns := [], harness := (true, "29920928d15e2b1c096a21d5d9a9e53d0f50af51cf6285a2571896dd6caaee38"), looks := false }, kinds := [], alts := [], laidByText := true, laidKinds := [.data, .data], laidTests := true, laidLooks := .later }
def BernsteinValuesCardSaid : Prop := Claim7.holds Tryz.pinned (.plain (OpenSpec.ofChange bernsteinValuesSpec)) bernsteinValuesCard

/-- THE TIED CARD OF 'brepkernellaw05.BernsteinHull'. -/
def bernsteinHullCard : Claim7 := { stood := { row := bernsteinHullRow, standIns := [], harness := (true, "29920928d15e2b1c096a21d5d9a9e53d0f50af51cf6285a2571896dd6caaee38"), looks := false }, kinds := [], alts := [], laidByText := true, laidKinds := [.data, .data], laidTests := true, laidLooks := .later }
def BernsteinHullCardSaid : Prop := Claim7.holds Tryz.pinned (.plain (OpenSpec.ofChange bernsteinHullSpec)) bernsteinHullCard

/-- THE TIED CARD OF 'brepkernellaw05.BernsteinSigns'. -/
def bernsteinSignsCard : Claim7 := { stood := { row := bernsteinSignsRow, standIns := [], harness := (true, "29920928d15e2b1c096a21d5d9a9e53d0f50af51cf6285a2571896dd6caaee38"), looks := false }, kinds := [], alts := [], laidByText := true, laidKinds := [.data, .data], laidTests := true, laidLooks := .later }
def BernsteinSignsCardSaid : Prop := Claim7.holds Tryz.pinned (.plain (OpenSpec.ofChange bernsteinSignsSpec)) bernsteinSignsCard

/-- THE TIED CARD OF 'brepkernellaw04.VectorBoxes'. -/
def vectorBoxesCard : Claim7 := { stood := { row := vectorBoxesRow, standIns := [], harness := (true, "29920928d15e2b1c096a21d5d9a9e53d0f50af51cf6285a2571896dd6caaee38"), looks := false }, kinds := [], alts := [], laidByText := true, laidKinds := [.data, .data], laidTests := true, laidLooks := .later }
def VectorBoxesCardSaid : Prop := Claim7.holds Tryz.pinned (.plain (OpenSpec.ofChange vectorBoxesSpec)) vectorBoxesCard

/-- THE SECOND FORM's CARD OF 'brepkernellaw05.BernsteinEvals'. -/
def bernsteinEvalsUptoCard : Claim7 := { stood := { row := bernsteinEvalsUptoRow, standIns := [], harness := (true, "29920928d15e2b1c096a21d5d9a9e53d0f50af51cf6285a2571896dd6caaee38"), looks := false }, kinds := [], alts := [], laidByText := true, laidKinds := [.data, .data], laidTests := true, laidLooks := .later }
def BernsteinEvalsUptoCardSaid : Prop := Claim7.holds Tryz.pinned (.plain (OpenSpec.upto bernsteinEvalsSpec)) bernsteinEvalsUptoCard

/-- THE SECOND FORM's CARD OF 'brepkernellaw05.BernsteinSums'. -/
def bernsteinSumsUptoCard : Claim7 := { stood := { row := bernsteinSumsUptoRow, standIns := [], harness := (true, "29920928d15e2b1c096a21d5d9a9e53d0f50af51cf6285a2571896dd6caaee38"), looks := false }, kinds := [], alts := [], laidByText := true, laidKinds := [.data, .data], laidTests := true, laidLooks := .later }
def BernsteinSumsUptoCardSaid : Prop := Claim7.holds Tryz.pinned (.plain (OpenSpec.upto bernsteinSumsSpec)) bernsteinSumsUptoCard

/-- THE SECOND FORM's CARD OF 'brepkernellaw05.BernsteinReads'. -/
def bernsteinReadsUptoCard : Claim7 := { stood := { row := bernsteinReadsUptoRow, standIns := [], harness := (true, "29920928d15e2b1c096a21d5d9a9e53d0f50af51cf6285a2571896dd6caaee38"), looks := false }, kinds := [], alts := [], laidByText := true, laidKinds := [.data, .data], laidTests := true, laidLooks := .later }
def BernsteinReadsUptoCardSaid : Prop := Claim7.holds Tryz.pinned (.plain (OpenSpec.upto bernsteinReadsSpec)) bernsteinReadsUptoCard

/-- THE SECOND FORM's CARD OF 'brepkernellaw05.BernsteinLong'. -/
def bernsteinLongUptoCard : Claim7 := { stood := { row := bernsteinLongUptoRow, standIns := [], harness := (true, "29920928d15e2b1c096a21d5d9a9e53d0f50af51cf6285a2571896dd6caaee38"), looks := false }, kinds := [], alts := [], laidByText := true, laidKinds := [.data, .data], laidTests := true, laidLooks := .later }
def BernsteinLongUptoCardSaid : Prop := Claim7.holds Tryz.pinned (.plain (OpenSpec.upto bernsteinLongSpec)) bernsteinLongUptoCard

/-- THE SECOND FORM's CARD OF 'brepkernellaw05.BernsteinValues'. -/
def bernsteinValuesUptoCard : Claim7 := { stood := { row := bernsteinValuesUptoRow, standIns := [], harness := (true, "29920928d15e2b1c096a21d5d9a9e53d0f50af51cf6285a2571896dd6caaee38"), looks := false }, kinds := [], alts := [], laidByText := true, laidKinds := [.data, .data], laidTests := true, laidLooks := .later }
def BernsteinValuesUptoCardSaid : Prop := Claim7.holds Tryz.pinned (.plain (OpenSpec.upto bernsteinValuesSpec)) bernsteinValuesUptoCard

/-- THE SECOND FORM's CARD OF 'brepkernellaw05.BernsteinHull'. -/
def bernsteinHullUptoCard : Claim7 := { stood := { row := bernsteinHullUptoRow, standIns := [], harness := (true, "29920928d15e2b1c096a21d5d9a9e53d0f50af51cf6285a2571896dd6caaee38"), looks := false }, kinds := [], alts := [], laidByText := true, laidKinds := [.data, .data], laidTests := true, laidLooks := .later }
def BernsteinHullUptoCardSaid : Prop := Claim7.holds Tryz.pinned (.plain (OpenSpec.upto bernsteinHullSpec)) bernsteinHullUptoCard

/-- THE SECOND FORM's CARD OF 'brepkernellaw05.BernsteinSigns'. -/
def bernsteinSignsUptoCard : Claim7 := { stood := { row := bernsteinSignsUptoRow, standIns := [], harness := (true, "29920928d15e2b1c096a21d5d9a9e53d0f50af51cf6285a2571896dd6caaee38"), looks := false }, kinds := [], alts := [], laidByText := true, laidKinds := [.data, .data], laidTests := true, laidLooks := .later }
def BernsteinSignsUptoCardSaid : Prop := Claim7.holds Tryz.pinned (.plain (OpenSpec.upto bernsteinSignsSpec)) bernsteinSignsUptoCard

/-- THE SECOND FORM's CARD OF 'brepkernellaw04.VectorBoxes'. -/
def vectorBoxesUptoCard : Claim7 := { stood := { row := vectorBoxesUptoRow, standIns := [], harness := (true, "29920928d15e2b1c096a21d5d9a9e53d0f50af51cf6285a2571896dd6caaee38"), looks := false }, kinds := [], alts := [], laidByText := true, laidKinds := [.data, .data], laidTests := true, laidLooks := .later }
def VectorBoxesUptoCardSaid : Prop := Claim7.holds Tryz.pinned (.plain (OpenSpec.upto vectorBoxesSpec)) vectorBoxesUptoCard
end Rows
end Go.Proofs.YtdgjkohkmdpcdaaGreatDoor
