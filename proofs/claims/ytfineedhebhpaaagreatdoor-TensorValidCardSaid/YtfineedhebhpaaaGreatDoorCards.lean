/-
  DERIVED. GIVEN WITH THE SEED: THE CARDS: each row of YtfineedhebhpaaaGreatDoorRows.lean that lists a variable, with what it lists TIED to the program's text (the seventh form; the later family's looks); each row that meets fmt, with fmt's text TOLD by the authors' own Lean function (tested against real Go, not proved from fmt's source: count such statements apart). THE CARD IS WHAT COUNTS. Prove the row's statement (the work); the ties are given (YtfineedhebhpaaaGreatDoorTie.lean); close each card by the builder's one call (the guide's Derived/Test/ToyasCard.lean, 'card_holds'). Laid BY PROGRAM, IN A SANDBOX (cutbox-door.mjs). By AI agents, Wed Nov 11 2026. No macro, syntax, notation, axiom, sorry.
-/
import Derived.Test.YtfineedhebhpaaaGreatDoorRows
import GoSem.ClaimSeven
namespace Go.Proofs.YtfineedhebhpaaaGreatDoor
namespace Rows

/-- THE TIED CARD OF 'brepkernellaw07.TensorValid'. -/
def tensorValidCard : Claim7 := { stood := { row := tensorValidRow, standIns := [], harness := (true, "77278bf88db863be465f3d2554422ede8c1b1db44a9b83ecdf70177d48b71bc8"), looks := false }, kinds := [], alts := [], laidByText := true, laidKinds := [.data, .data], laidTests := true, laidLooks := .later }
def TensorValidCardSaid : Prop := Claim7.holds Tryz.pinned (.plain (OpenSpec.ofChange tensorValidSpec)) tensorValidCard

/-- THE TIED CARD OF 'brepkernellaw07.TensorParts'. -/
def tensorPartsCard : Claim7 := { stood := { row := tensorPartsRow, standIns := [], harness := (true, "77278bf88db863be465f3d2554422ede8c1b1db44a9b83ecdf70177d48b71bc8"), looks := false }, kinds := [], alts := [], laidByText := true, laidKinds := [.data, .data], laidTests := true, laidLooks := .later }
def TensorPartsCardSaid : Prop := Claim7.holds Tryz.pinned (.plain (OpenSpec.ofChange tensorPartsSpec)) tensorPartsCard

/-- THE TIED CARD OF 'brepkernellaw07.TensorSums'. -/
def tensorSumsCard : Claim7 := { stood := { row := tensorSumsRow, standIns := [], harness := (true, "77278bf88db863be465f3d2554422ede8c1b1db44a9b83ecdf70177d48b71bc8"), looks := false }, kinds := [], alts := [], laidByText := true, laidKinds := [.data, .data], laidTests := true, laidLooks := .later }
def TensorSumsCardSaid : Prop := Claim7.holds Tryz.pinned (.plain (OpenSpec.ofChange tensorSumsSpec)) tensorSumsCard

/-- THE TIED CARD OF 'brepkernellaw07.TensorLong'. -/
def tensorLongCard : Claim7 := { stood := { row := tensorLongRow, standIns := [], harness := (true, "77278bf88db863be465f3d2554422ede8c1b1db44a9b83ecdf70177d48b71bc8"), looks := false }, kinds := [], alts := [], laidByText := true, laidKinds := [.data, .data], laidTests := true, laidLooks := .later }
def TensorLongCardSaid : Prop := Claim7.holds Tryz.pinned (.plain (OpenSpec.ofChange tensorLongSpec)) tensorLongCard

/-- THE TIED CARD OF 'brepkernellaw07.TensorValues'. -/
def tensorValuesCard : Claim7 := { stood := { row := tensorValuesRow, standIns := [], harness := (true, "77278bf88db863be465f3d2554422ede8c1b1db44a9b83ecdf70177d48b71bc8"), looks := false }, kinds := [], alts := [], laidByText := true, laidKinds := [.data, .data], laidTests := true, laidLooks := .later }
def TensorValuesCardSaid : Prop := Claim7.holds Tryz.pinned (.plain (OpenSpec.ofChange tensorValuesSpec)) tensorValuesCard

/-- THE TIED CARD OF 'brepkernellaw07.TensorHull'. -/
def tensorHullCard : Claim7 := { stood := { row := tensorHullRow, standIns := [], harness := (true, "77278bf88db863be465f3d2554422ede8c1b1db44a9b83ecdf70177d48b71bc8"), looks := false }, kinds := [], alts := [], laidByText := true, laidKinds := [.data, .data], laidTests := true, laidLooks := .later }
def TensorHullCardSaid : Prop := Claim7.holds Tryz.pinned (.plain (OpenSpec.ofChange tensorHullSpec)) tensorHullCard

/-- THE TIED CARD OF 'brepkernellaw08.KnotsReads'. -/
def knotsReadsCard : Claim7 := { stood := { row := knotsReadsRow, standIns := [], harness := (true, "77278bf88db863be465f3d2554422ede8c1b1db44a9b83ecdf70177d48b71bc8"), looks := false }, kinds := [], alts := [], laidByText := true, laidKinds := [.data, .data], laidTests := true, laidLooks := .later }
def KnotsReadsCardSaid : Prop := Claim7.holds Tryz.pinned (.plain (OpenSpec.ofChange knotsReadsSpec)) knotsReadsCard

/-- THE TIED CARD OF 'brepkernellaw08.KnotsStay'. -/
def knotsStayCard : Claim7 := { stood := { row := knotsStayRow, standIns := [], harness := (true, "77278bf88db863be465f3d2554422ede8c1b1db44a9b83ecdf70177d48b71bc8"), looks := false }, kinds := [], alts := [], laidByText := true, laidKinds := [.data, .data], laidTests := true, laidLooks := .later }
def KnotsStayCardSaid : Prop := Claim7.holds Tryz.pinned (.plain (OpenSpec.ofChange knotsStaySpec)) knotsStayCard

/-- THE SECOND FORM's CARD OF 'brepkernellaw07.TensorValid'. -/
def tensorValidUptoCard : Claim7 := { stood := { row := tensorValidUptoRow, standIns := [], harness := (true, "77278bf88db863be465f3d2554422ede8c1b1db44a9b83ecdf70177d48b71bc8"), looks := false }, kinds := [], alts := [], laidByText := true, laidKinds := [.data, .data], laidTests := true, laidLooks := .later }
def TensorValidUptoCardSaid : Prop := Claim7.holds Tryz.pinned (.plain (OpenSpec.upto tensorValidSpec)) tensorValidUptoCard

/-- THE SECOND FORM's CARD OF 'brepkernellaw07.TensorParts'. -/
def tensorPartsUptoCard : Claim7 := { stood := { row := tensorPartsUptoRow, standIns := [], harness := (true, "77278bf88db863be465f3d2554422ede8c1b1db44a9b83ecdf70177d48b71bc8"), looks := false }, kinds := [], alts := [], laidByText := true, laidKinds := [.data, .data], laidTests := true, laidLooks := .later }
def TensorPartsUptoCardSaid : Prop := Claim7.holds Tryz.pinned (.plain (OpenSpec.upto tensorPartsSpec)) tensorPartsUptoCard

/-- THE SECOND FORM's CARD OF 'brepkernellaw07.TensorSums'. -/
def tensorSumsUptoCard : Claim7 := { stood := { row := tensorSumsUptoRow, standIns := [], harness := (true, "77278bf88db863be465f3d2554422ede8c1b1db44a9b83ecdf70177d48b71bc8"), looks := false }, kinds := [], alts := [], laidByText := true, laidKinds := [.data, .data], laidTests := true, laidLooks := .later }
def TensorSumsUptoCardSaid : Prop := Claim7.holds Tryz.pinned (.plain (OpenSpec.upto tensorSumsSpec)) tensorSumsUptoCard

/-- THE SECOND FORM's CARD OF 'brepkernellaw07.TensorLong'. -/
def tensorLongUptoCard : Claim7 := { stood := { row := tensorLongUptoRow, standIns := [], harness := (true, "77278bf88db863be465f3d2554422ede8c1b1db44a9b83ecdf70177d48b71bc8"), looks := false }, kinds := [], alts := [], laidByText := true, laidKinds := [.data, .data], laidTests := true, laidLooks := .later }
def TensorLongUptoCardSaid : Prop := Claim7.holds Tryz.pinned (.plain (OpenSpec.upto tensorLongSpec)) tensorLongUptoCard

/-- THE SECOND FORM's CARD OF 'brepkernellaw07.TensorValues'. -/
def tensorValuesUptoCard : Claim7 := { stood := { row := tensorValuesUptoRow, standIns := [], harness := (true, "77278bf88db863be465f3d2554422ede8c1b1db44a9b83ecdf70177d48b71bc8"), looks := false }, kinds := [], alts := [], laidByText := true, laidKinds := [.data, .data], laidTests := true, laidLooks := .later }
def TensorValuesUptoCardSaid : Prop := Claim7.holds Tryz.pinned (.plain (OpenSpec.upto tensorValuesSpec)) tensorValuesUptoCard

/-- THE SECOND FORM's CARD OF 'brepkernellaw07.TensorHull'. -/
def tensorHullUptoCard : Claim7 := { stood := { row := tensorHullUptoRow, standIns := [], harness := (true, "77278bf88db863be465f3d2554422ede8c1b1db44a9b83ecdf70177d48b71bc8"), looks := false }, kinds := [], alts := [], laidByText := true, laidKinds := [.data, .data], laidTests := true, laidLooks := .later }
def TensorHullUptoCardSaid : Prop := Claim7.holds Tryz.pinned (.plain (OpenSpec.upto tensorHullSpec)) tensorHullUptoCard

/-- THE SECOND FORM's CARD OF 'brepkernellaw08.KnotsReads'. -/
def knotsReadsUptoCard : Claim7 := { stood := { row := knotsReadsUptoRow, standIns := [], harness := (true, "77278bf88db863be465f3d2554422ede8c1b1db44a9b83ecdf70177d48b71bc8"), looks := false }, kinds := [], alts := [], laidByText := true, laidKinds := [.data, .data], laidTests := true, laidLooks := .later }
def KnotsReadsUptoCardSaid : Prop := Claim7.holds Tryz.pinned (.plain (OpenSpec.upto knotsReadsSpec)) knotsReadsUptoCard

/-- THE SECOND FORM's CARD OF 'brepkernellaw08.KnotsStay'. -/
def knotsStayUptoCard : Claim7 := { stood := { row := knotsStayUptoRow, standIns := [], harness := (true, "77278bf88db863be465f3d2554422ede8c1b1db44a9b83ecdf70177d48b71bc8"), looks := false }, kinds := [], alts := [], laidByText := true, laidKinds := [.data, .data], laidTests := true, laidLooks := .later }
def KnotsStayUptoCardSaid : Prop := Claim7.holds Tryz.pinned (.plain (OpenSpec.upto knotsStaySpec)) knotsStayUptoCard
end Rows
end Go.Proofs.YtfineedhebhpaaaGreatDoor
