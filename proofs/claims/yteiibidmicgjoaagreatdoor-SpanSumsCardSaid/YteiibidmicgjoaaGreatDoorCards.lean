/-
  DERIVED. GIVEN WITH THE SEED: THE CARDS: each row of YteiibidmicgjoaaGreatDoorRows.lean that lists a variable, with what it lists TIED to the program's text (the seventh form; the later family's looks); each row that meets fmt, with fmt's text TOLD by the authors' own Lean function (tested against real Go, not proved from fmt's source: count such statements apart). THE CARD IS WHAT COUNTS. Prove the row's statement (the work); the ties are given (YteiibidmicgjoaaGreatDoorTie.lean); close each card by the builder's one call (the guide's Derived/Test/ToyasCard.lean, 'card_holds'). Laid BY PROGRAM, IN A SANDBOX (cutbox-door.mjs). By AI agents, Wed Nov 11 2026. No macro, syntax, notation, axiom, sorry.
-/
import Derived.Test.YteiibidmicgjoaaGreatDoorRows
import GoSem.ClaimSeven
namespace Go.Proofs.YteiibidmicgjoaaGreatDoor
namespace Rows

/-- THE TIED CARD OF 'brepkernellaw03.SpanSums'. -/
def spanSumsCard : Claim7 := { stood := { row := spanSumsRow, standIns := [], harness := (true, "b46a8153db78618bc051d426a6e700cf88acdc9bfaf0fe7c476f082108514fa7"), looks := false }, kinds := [], alts := [], laidByText := true, laidKinds := [.data, .data], laidTests := true, laidLooks := .later }
def SpanSumsCardSaid : Prop := Claim7.holds Tryz.pinned (.plain (OpenSpec.ofChange spanSumsSpec)) spanSumsCard

/-- THE TIED CARD OF 'brepkernellaw04.VectorBoxes'. -/
def vectorBoxesCard : Claim7 := { stood := { row := vectorBoxesRow, standIns := [], harness := (true, "b46a8153db78618bc051d426a6e700cf88acdc9bfaf0fe7c476f082108514fa7"), looks := false }, kinds := [], alts := [], laidByText := true, laidKinds := [.data, .data], laidTests := true, laidLooks := .later }
def VectorBoxesCardSaid : Prop := Claim7.holds Tryz.pinned (.plain (OpenSpec.ofChange vectorBoxesSpec)) vectorBoxesCard

/-- THE TIED CARD OF 'brepkernellaw08.KnotsCheck'. -/
def knotsCheckCard : Claim7 := { stood := { row := knotsCheckRow, standIns := [], harness := (true, "b46a8153db78618bc051d426a6e700cf88acdc9bfaf0fe7c476f082108514fa7"), looks := false }, kinds := [], alts := [], laidByText := true, laidKinds := [.data, .data], laidTests := true, laidLooks := .later }
def KnotsCheckCardSaid : Prop := Claim7.holds Tryz.pinned (.plain (OpenSpec.ofChange knotsCheckSpec)) knotsCheckCard

/-- THE TIED CARD OF 'brepkernellaw08.KnotsReads'. -/
def knotsReadsCard : Claim7 := { stood := { row := knotsReadsRow, standIns := [], harness := (true, "b46a8153db78618bc051d426a6e700cf88acdc9bfaf0fe7c476f082108514fa7"), looks := false }, kinds := [], alts := [], laidByText := true, laidKinds := [.data, .data], laidTests := true, laidLooks := .later }
def KnotsReadsCardSaid : Prop := Claim7.holds Tryz.pinned (.plain (OpenSpec.ofChange knotsReadsSpec)) knotsReadsCard

/-- THE TIED CARD OF 'brepkernellaw08.KnotsChanges'. -/
def knotsChangesCard : Claim7 := { stood := { row := knotsChangesRow, standIns := [], harness := (true, "b46a8153db78618bc051d426a6e700cf88acdc9bfaf0fe7c476f082108514fa7"), looks := false }, kinds := [], alts := [], laidByText := true, laidKinds := [.data, .data], laidTests := true, laidLooks := .later }
def KnotsChangesCardSaid : Prop := Claim7.holds Tryz.pinned (.plain (OpenSpec.ofChange knotsChangesSpec)) knotsChangesCard

/-- THE TIED CARD OF 'brepkernellaw08.KnotsStay'. -/
def knotsStayCard : Claim7 := { stood := { row := knotsStayRow, standIns := [], harness := (true, "b46a8153db78618bc051d426a6e700cf88acdc9bfaf0fe7c476f082108514fa7"), looks := false }, kinds := [], alts := [], laidByText := true, laidKinds := [.data, .data], laidTests := true, laidLooks := .later }
def KnotsStayCardSaid : Prop := Claim7.holds Tryz.pinned (.plain (OpenSpec.ofChange knotsStaySpec)) knotsStayCard

/-- THE SECOND FORM's CARD OF 'brepkernellaw03.SpanSums'. -/
def spanSumsUptoCard : Claim7 := { stood := { row := spanSumsUptoRow, standIns := [], harness := (true, "b46a8153db78618bc051d426a6e700cf88acdc9bfaf0fe7c476f082108514fa7"), looks := false }, kinds := [], alts := [], laidByText := true, laidKinds := [.data, .data], laidTests := true, laidLooks := .later }
def SpanSumsUptoCardSaid : Prop := Claim7.holds Tryz.pinned (.plain (OpenSpec.upto spanSumsSpec)) spanSumsUptoCard

/-- THE SECOND FORM's CARD OF 'brepkernellaw04.VectorBoxes'. -/
def vectorBoxesUptoCard : Claim7 := { stood := { row := vectorBoxesUptoRow, standIns := [], harness := (true, "b46a8153db78618bc051d426a6e700cf88acdc9bfaf0fe7c476f082108514fa7"), looks := false }, kinds := [], alts := [], laidByText := true, laidKinds := [.data, .data], laidTests := true, laidLooks := .later }
def VectorBoxesUptoCardSaid : Prop := Claim7.holds Tryz.pinned (.plain (OpenSpec.upto vectorBoxesSpec)) vectorBoxesUptoCard

/-- THE SECOND FORM's CARD OF 'brepkernellaw08.KnotsCheck'. -/
def knotsCheckUptoCard : Claim7 := { stood := { row := knotsCheckUptoRow, standIns := [], harness := (true, "b46a8153db78618bc051d426a6e700cf88acdc9bfaf0fe7c476f082108514fa7"), looks := false }, kinds := [], alts := [], laidByText := true, laidKinds := [.data, .data], laidTests := true, laidLooks := .later }
def KnotsCheckUptoCardSaid : Prop := Claim7.holds Tryz.pinned (.plain (OpenSpec.upto knotsCheckSpec)) knotsCheckUptoCard

/-- THE SECOND FORM's CARD OF 'brepkernellaw08.KnotsReads'. -/
def knotsReadsUptoCard : Claim7 := { stood := { row := knotsReadsUptoRow, standIns := [], harness := (true, "b46a8153db78618bc051d426a6e700cf88acdc9bfaf0fe7c476f082108514fa7"), looks := false }, kinds := [], alts := [], laidByText := true, laidKinds := [.data, .data], laidTests := true, laidLooks := .later }
def KnotsReadsUptoCardSaid : Prop := Claim7.holds Tryz.pinned (.plain (OpenSpec.upto knotsReadsSpec)) knotsReadsUptoCard

/-- THE SECOND FORM's CARD OF 'brepkernellaw08.KnotsChanges'. -/
def knotsChangesUptoCard : Claim7 := { stood := { row := knotsChangesUptoRow, standIns := [], harness := (true, "b46a8153db78618bc051d426a6e700cf88acdc9bfaf0fe7c476f082108514fa7"), looks := false }, kinds := [], alts := [], laidByText := true, laidKinds := [.data, .data], laidTests := true, laidLooks := .later }
def KnotsChangesUptoCardSaid : Prop := Claim7.holds Tryz.pinned (.plain (OpenSpec.upto knotsChangesSpec)) knotsChangesUptoCard

/-- THE SECOND FORM's CARD OF 'brepkernellaw08.KnotsStay'. -/
def knotsStayUptoCard : Claim7 := { stood := { row := knotsStayUptoRow, standIns := [], harness := (true, "b46a8153db78618bc051d426a6e700cf88acdc9bfaf0fe7c476f082108514fa7"), looks := false }, kinds := [], alts := [], laidByText := true, laidKinds := [.data, .data], laidTests := true, laidLooks := .later }
def KnotsStayUptoCardSaid : Prop := Claim7.holds Tryz.pinned (.plain (OpenSpec.upto knotsStaySpec)) knotsStayUptoCard
end Rows
end Go.Proofs.YteiibidmicgjoaaGreatDoor
