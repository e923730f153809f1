/-
  DERIVED. GIVEN WITH THE SEED: THE CARDS: each row of YtgdlialkjiblpaaGreatDoorRows.lean that lists a variable, with what it lists TIED to the program's text (the seventh form; the later family's looks); each row that meets fmt, with fmt's text TOLD by the authors' own Lean function (tested against real Go, not proved from fmt's source: count such statements apart). THE CARD IS WHAT COUNTS. Prove the row's statement (the work); the ties are given (YtgdlialkjiblpaaGreatDoorTie.lean); close each card by the builder's one call (the guide's Derived/Test/ToyasCard.lean, 'card_holds'). Laid BY PROGRAM, IN A SANDBOX (cutbox-door.mjs). By AI agents, Wed Nov 11 2026. No macro, syntax, notation, axiom, sorry.
-/
import Derived.Test.YtgdlialkjiblpaaGreatDoorRows
import GoSem.ClaimSeven
namespace Go.Proofs.YtgdlialkjiblpaaGreatDoor
namespace Rows

/-- THE TIED CARD OF 'brepkernellaw03.SpanDets'. -/
def spanDetsCard : Claim7 := { stood := { row := spanDetsRow, standIns := [], harness := (true, "66f22411839ab7feca4af3f4495c4e2c52ade5660b7210865090c0e16c647a4e"), looks := false }, kinds := [], alts := [], laidByText := true, laidKinds := [.data, .data], laidTests := true, laidLooks := .later }
def SpanDetsCardSaid : Prop := Claim7.holds Tryz.pinned (.plain (OpenSpec.ofChange spanDetsSpec)) spanDetsCard

/-- THE TIED CARD OF 'brepkernellaw03.SpanRegular'. -/
def spanRegularCard : Claim7 := { stood := { row := spanRegularRow, standIns := [], harness := (true, "66f22411839ab7feca4af3f4495c4e2c52ade5660b7210865090c0e16c647a4e"), looks := false }, kinds := [], alts := [], laidByText := true, laidKinds := [.data, .data], laidTests := true, laidLooks := .later }
def SpanRegularCardSaid : Prop := Claim7.holds Tryz.pinned (.plain (OpenSpec.ofChange spanRegularSpec)) spanRegularCard

/-- THE TIED CARD OF 'brepkernellaw08.KnotsCheck'. -/
def knotsCheckCard : Claim7 := { stood := { row := knotsCheckRow, standIns := [], harness := (true, "66f22411839ab7feca4af3f4495c4e2c52ade5660b7210865090c0e16c647a4e"), looks := false }, kinds := [], alts := [], laidByText := true, laidKinds := [.data, .data], laidTests := true, laidLooks := .later }
def KnotsCheckCardSaid : Prop := Claim7.holds Tryz.pinned (.plain (OpenSpec.ofChange knotsCheckSpec)) knotsCheckCard

/-- THE TIED CARD OF 'brepkernellaw08.KnotsReads'. -/
def knotsReadsCard : Claim7 := { stood := { row := knotsReadsRow, standIns := [], harness := (true, "66f22411839ab7feca4af3f4495c4e2c52ade5660b7210865090c0e16c647a4e"), looks := false }, kinds := [], alts := [], laidByText := true, laidKinds := [.data, .data], laidTests := true, laidLooks := .later }
def KnotsReadsCardSaid : Prop := Claim7.holds Tryz.pinned (.plain (OpenSpec.ofChange knotsReadsSpec)) knotsReadsCard

/-- THE TIED CARD OF 'brepkernellaw08.KnotsChanges'. -/
def knotsChangesCard : Claim7 := { stood := { row := knotsChangesRow, standIns := [], harness := (true, "66f22411839ab7feca4af3f4495c4e2c52ade5660b7210865090c0e16c647a4e"), looks := false }, kinds := [], alts := [], laidByText := true, laidKinds := [.data, .data], laidTests := true, laidLooks := .later }
def KnotsChangesCardSaid : Prop := Claim7.holds Tryz.pinned (.plain (OpenSpec.ofChange knotsChangesSpec)) knotsChangesCard

/-- THE TIED CARD OF 'brepkernellaw08.KnotsStay'. -/
def knotsStayCard : Claim7 := { stood := { row := knotsStayRow, standIns := [], harness := (true, "66f22411839ab7feca4af3f4495c4e2c52ade5660b7210865090c0e16c647a4e"), looks := false }, kinds := [], alts := [], laidByText := true, laidKinds := [.data, .data], laidTests := true, laidLooks := .later }
def KnotsStayCardSaid : Prop := Claim7.holds Tryz.pinned (.plain (OpenSpec.ofChange knotsStaySpec)) knotsStayCard

/-- THE SECOND FORM's CARD OF 'brepkernellaw03.SpanDets'. -/
def spanDetsUptoCard : Claim7 := { stood := { row := spanDetsUptoRow, standIns := [], harness := (true, "66f22411839ab7feca4af3f4495c4e2c52ade5660b7210865090c0e16c647a4e"), looks := false }, kinds := [], alts := [], laidByText := true, laidKinds := [.data, .data], laidTests := true, laidLooks := .later }
def SpanDetsUptoCardSaid : Prop := Claim7.holds Tryz.pinned (.plain (OpenSpec.upto spanDetsSpec)) spanDetsUptoCard

/-- THE SECOND FORM's CARD OF 'brepkernellaw03.SpanRegular'. -/
def spanRegularUptoCard : Claim7 := { stood := { row := spanRegularUptoRow, standIns := [], harness := (true, "66f22411839ab7feca4af3f4495c4e2c52ade5660b7210865090c0e16c647a4e"), looks := false }, kinds := [], alts := [], laidByText := true, laidKinds := [.data, .data], laidTests := true, laidLooks := .later }
def SpanRegularUptoCardSaid : Prop := Claim7.holds Tryz.pinned (.plain (OpenSpec.upto spanRegularSpec)) spanRegularUptoCard

/-- THE SECOND FORM's CARD OF 'brepkernellaw08.KnotsCheck'. -/
def knotsCheckUptoCard : Claim7 := { stood := { row := knotsCheckUptoRow, standIns := [], harness := (true, "66f22411839ab7feca4af3f4495c4e2c52ade5660b7210865090c0e16c647a4e"), looks := false }, kinds := [], alts := [], laidByText := true, laidKinds := [.data, .data], laidTests := true, laidLooks := .later }
def KnotsCheckUptoCardSaid : Prop := Claim7.holds Tryz.pinned (.plain (OpenSpec.upto knotsCheckSpec)) knotsCheckUptoCard

/-- THE SECOND FORM's CARD OF 'brepkernellaw08.KnotsReads'. -/
def knotsReadsUptoCard : Claim7 := { stood := { row := knotsReadsUptoRow, standIns := [], harness := (true, "66f22411839ab7feca4af3f4495c4e2c52ade5660b7210865090c0e16c647a4e"), looks := false }, kinds := [], alts := [], laidByText := true, laidKinds := [.data, .data], laidTests := true, laidLooks := .later }
def KnotsReadsUptoCardSaid : Prop := Claim7.holds Tryz.pinned (.plain (OpenSpec.upto knotsReadsSpec)) knotsReadsUptoCard

/-- THE SECOND FORM's CARD OF 'brepkernellaw08.KnotsChanges'. -/
def knotsChangesUptoCard : Claim7 := { stood := { row := knotsChangesUptoRow, standIns := [], harness := (true, "66f22411839ab7feca4af3f4495c4e2c52ade5660b7210865090c0e16c647a4e"), looks := false }, kinds := [], alts := [], laidByText := true, laidKinds := [.data, .data], laidTests := true, laidLooks := .later }
def KnotsChangesUptoCardSaid : Prop := Claim7.holds Tryz.pinned (.plain (OpenSpec.upto knotsChangesSpec)) knotsChangesUptoCard

/-- THE SECOND FORM's CARD OF 'brepkernellaw08.KnotsStay'. -/
def knotsStayUptoCard : Claim7 := { stood := { row := knotsStayUptoRow, standIns := [], harness := (true, "66f22411839ab7feca4af3f4495c4e2c52ade5660b7210865090c0e16c647a4e"), looks := false }, kinds := [], alts := [], laidByText := true, laidKinds := [.data, .data], laidTests := true, laidLooks := .later }
def KnotsStayUptoCardSaid : Prop := Claim7.holds Tryz.pinned (.plain (OpenSpec.upto knotsStaySpec)) knotsStayUptoCard
end Rows
end Go.Proofs.YtgdlialkjiblpaaGreatDoor
