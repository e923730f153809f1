/-
  DERIVED. GIVEN WITH THE SEED: THE CARDS: each row of YtnkobfcnflphkaaGreatDoorRows.lean that lists a variable, with what it lists TIED to the program's text (the seventh form; the later family's looks); each row that meets fmt, with fmt's text TOLD by the authors' own Lean function (tested against real Go, not proved from fmt's source: count such statements apart). THE CARD IS WHAT COUNTS. Prove the row's statement (the work); the ties are given (YtnkobfcnflphkaaGreatDoorTie.lean); close each card by the builder's one call (the guide's Derived/Test/ToyasCard.lean, 'card_holds'). Laid BY PROGRAM, IN A SANDBOX (cutbox-door.mjs). By AI agents, Wed Nov 11 2026. No macro, syntax, notation, axiom, sorry.
-/
import Derived.Test.YtnkobfcnflphkaaGreatDoorRows
import GoSem.ClaimSeven
namespace Go.Proofs.YtnkobfcnflphkaaGreatDoor
namespace Rows

/-- THE TIED CARD OF 'brepkernellaw04.VectorBoxes'. -/
def vectorBoxesCard : Claim7 := { stood := { row := vectorBoxesRow, standIns := [], harness := (true, "2d38f4b5d1e3c1a08cacaf96a8aec6974ee0373d10929e60d17086f9c3388664"), looks := false }, kinds := [], alts := [], laidByText := true, laidKinds := [.data, .data], laidTests := true, laidLooks := .later }
def VectorBoxesCardSaid : Prop := Claim7.holds Tryz.pinned (.plain (OpenSpec.ofChange vectorBoxesSpec)) vectorBoxesCard

/-- THE TIED CARD OF 'brepkernellaw05.BernsteinReads'. -/
def bernsteinReadsCard : Claim7 := { stood := { row := bernsteinReadsRow, standIns := [], harness := (true, "2d38f4b5d1e3c1a08cacaf96a8aec6974ee0373d10929e60d17086f9c3388664"), looks := false }, kinds := [], alts := [], laidByText := true, laidKinds := [.data, .data], laidTests := true, laidLooks := .later }
def BernsteinReadsCardSaid : Prop := Claim7.holds Tryz.pinned (.plain (OpenSpec.ofChange bernsteinReadsSpec)) bernsteinReadsCard

/-- THE TIED CARD OF 'brepkernellaw05.BernsteinLong'. -/
def bernsteinLongCard : Claim7 := { stood := { row := bernsteinLongRow, standIns := [], harness := (true, "2d38f4b5d1e3c1a08cacaf96a8aec6974ee0373d10929e60d17086f9c3388664"), looks := false }, kinds := [], alts := [], laidByText := true, laidKinds := [.data, .data], laidTests := true, laidLooks := .later }
def BernsteinLongCardSaid : Prop := Claim7.holds Tryz.pinned (.plain (OpenSpec.ofChange bernsteinLongSpec)) bernsteinLongCard

/-- THE TIED CARD OF 'brepkernellaw05.BernsteinValues'. -/
def bernsteinValuesCard : Claim7 := { stood := { row := bernsteinValuesRow, standIns := [], harness := (true, "2d38f4b5d1e3c1a08cacaf96a8aec6974ee0373d10929e60d17086f9c3388664"), looks := false }, kinds := [], alts := [], laidByText := true, laidKinds := [.data, .data], laidTests := true, laidLooks := .later }
def BernsteinValuesCardSaid : Prop := Claim7.holds Tryz.pinned (.plain (OpenSpec.ofChange bernsteinValuesSpec)) bernsteinValuesCard

/-- THE TIED CARD OF 'brepkernellaw05.BernsteinHull'. -/
def bernsteinHullCard : Claim7 := { stood := { row := bernsteinHullRow, standIns := [], harness := (true, "2d38f4b5d1e3c1a08cacaf96a8aec6974ee0373d10929e60d17086f9c3388664"), looks := false }, kinds := [], alts := [], laidByText := true, laidKinds := [.data, .data], laidTests := true, laidLooks := .later }
def BernsteinHullCardSaid : Prop := Claim7.holds Tryz.pinned (.plain (OpenSpec.ofChange bernsteinHullSpec)) bernsteinHullCard

/-- THE TIED CARD OF 'brepkernellaw05.BernsteinSigns'. -/
def bernsteinSignsCard : Claim7 := { stood := { row := bernsteinSignsRow, standIns := [], harness := (true, "2d38f4b5d1e3c1a08cacaf96a8aec6974ee0373d10929e60d17086f9c3388664"), looks := false }, kinds := [], alts := [], laidByText := true, laidKinds := [.data, .data], laidTests := true, laidLooks := .later }
def BernsteinSignsCardSaid : Prop := Claim7.holds Tryz.pinned (.plain (OpenSpec.ofChange bernsteinSignsSpec)) bernsteinSignsCard

/-- THE SECOND FORM's CARD OF 'brepkernellaw04.VectorBoxes'. -/
def vectorBoxesUptoCard : Claim7 := { stood := { row := vectorBoxesUptoRow, standIns := [], harness := (true, "2d38f4b5d1e3c1a08cacaf96a8aec6974ee0373d10929e60d17086f9c3388664"), looks := false }, kinds := [], alts := [], laidByText := true, laidKinds := [.data, .data], laidTests := true, laidLooks := .later }
def VectorBoxesUptoCardSaid : Prop := Claim7.holds Tryz.pinned (.plain (OpenSpec.upto vectorBoxesSpec)) vectorBoxesUptoCard

/-- THE SECOND FORM's CARD OF 'brepkernellaw05.BernsteinReads'. -/
def bernsteinReadsUptoCard : Claim7 := { stood := { row := bernsteinReadsUptoRow, standIns := [], harness := (true, "2d38f4b5d1e3c1a08cacaf96a8aec6974ee0373d10929e60d17086f9c3388664"), looks := false }, kinds := [], alts := [], laidByText := true, laidKinds := [.data, .data], laidTests := true, laidLooks := .later }
def BernsteinReadsUptoCardSaid : Prop := Claim7.holds Tryz.pinned (.plain (OpenSpec.upto bernsteinReadsSpec)) bernsteinReadsUptoCard

/-- THE SECOND FORM's CARD OF 'brepkernellaw05.BernsteinLong'. -/
def bernsteinLongUptoCard : Claim7 := { stood := { row := bernsteinLongUptoRow, standIns := [], harness := (true, "2d38f4b5d1e3c1a08cacaf96a8aec6974ee0373d10929e60d17086f9c3388664"), looks := false }, kinds := [], alts := [], laidByText := true, laidKinds := [.data, .data], laidTests := true, laidLooks := .later }
def BernsteinLongUptoCardSaid : Prop := Claim7.holds Tryz.pinned (.plain (OpenSpec.upto bernsteinLongSpec)) bernsteinLongUptoCard

/-- THE SECOND FORM's CARD OF 'brepkernellaw05.BernsteinValues'. -/
def bernsteinValuesUptoCard : Claim7 := { stood := { row := bernsteinValuesUptoRow, standIns := [], harness := (true, "2d38f4b5d1e3c1a08cacaf96a8aec6974ee0373d10929e60d17086f9c3388664"), looks := false }, kinds := [], alts := [], laidByText := true, laidKinds := [.data, .data], laidTests := true, laidLooks := .later }
def BernsteinValuesUptoCardSaid : Prop := Claim7.holds Tryz.pinned (.plain (OpenSpec.upto bernsteinValuesSpec)) bernsteinValuesUptoCard

/-- THE SECOND FORM's CARD OF 'brepkernellaw05.BernsteinHull'. -/
def bernsteinHullUptoCard : Claim7 := { stood := { row := bernsteinHullUptoRow, standIns := [], harness := (true, "2d38f4b5d1e3c1a08cacaf96a8aec6974ee0373d10929e60d17086f9c3388664"), looks := false }, kinds := [], alts := [], laidByText := true, laidKinds := [.data, .data], laidTests := true, laidLooks := .later }
def BernsteinHullUptoCardSaid : Prop := Claim7.holds Tryz.pinned (.plain (OpenSpec.upto bernsteinHullSpec)) bernsteinHullUptoCard

/-- THE SECOND FORM's CARD OF 'brepkernellaw05.BernsteinSigns'. -/
def bernsteinSignsUptoCard : Claim7 := { stood := { row := bernsteinSignsUptoRow, standIns := [], harness := (true, "2d38f4b5d1e3c1a08cacaf96a8aec6974ee0373d10929e60d17086f9c3388664"), looks := false }, kinds := [], alts := [], laidByText := true, laidKinds := [.data, .data], laidTests := true, laidLooks := .later }
def BernsteinSignsUptoCardSaid : Prop := Claim7.holds Tryz.pinned (.plain (OpenSpec.upto bernsteinSignsSpec)) bernsteinSignsUptoCard
end Rows
end Go.Proofs.YtnkobfcnflphkaaGreatDoor
