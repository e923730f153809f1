/-
  DERIVED. GIVEN WITH THE SEED: THE CARDS: each row of YtbkkecihjaokpaaGreatDoorRows.lean that lists a variable, with what it lists TIED to the program's text (the seventh form; the later family's looks); each row that meets fmt, with fmt's text TOLD by the authors' own Lean function (tested against real Go, not proved from fmt's source: count such statements apart). THE CARD IS WHAT COUNTS. Prove the row's statement (the work); the ties are given (YtbkkecihjaokpaaGreatDoorTie.lean); close each card by the builder's one call (the guide's Derived/Test/ToyasCard.lean, 'card_holds'). Laid BY PROGRAM, IN A SANDBOX (cutbox-door.mjs). By AI agents, Wed Nov 11 2026. No macro, syntax, notation, axiom, sorry.
-/
import Derived.Test.YtbkkecihjaokpaaGreatDoorRows
import GoSem.ClaimSeven
namespace Go.Proofs.YtbkkecihjaokpaaGreatDoor
namespace Rows

/-- THE TIED CARD OF 'brepkernellaw04.VectorSums'. -/
def vectorSumsCard : Claim7 := { stood := { row := vectorSumsRow, standIns := [], harness := (true, "2acb1662b1e421ca3d6807a2abe119482738f9b5e3268e81f2e49019ef955f15"), looks := false }, kinds := [], alts := [], laidByText := true, laidKinds := [.data, .data], laidTests := true, laidLooks := .later }
def VectorSumsCardSaid : Prop := Claim7.holds Tryz.pinned (.plain (OpenSpec.ofChange vectorSumsSpec)) vectorSumsCard

/-- THE TIED CARD OF 'brepkernellaw04.VectorComposes'. -/
def vectorComposesCard : Claim7 := { stood := { row := vectorComposesRow, standIns := [], harness := (true, "2acb1662b1e421ca3d6807a2abe119482738f9b5e3268e81f2e49019ef955f15"), looks := false }, kinds := [], alts := [], laidByText := true, laidKinds := [.data, .data], laidTests := true, laidLooks := .later }
def VectorComposesCardSaid : Prop := Claim7.holds Tryz.pinned (.plain (OpenSpec.ofChange vectorComposesSpec)) vectorComposesCard

/-- THE TIED CARD OF 'brepkernellaw04.VectorSides'. -/
def vectorSidesCard : Claim7 := { stood := { row := vectorSidesRow, standIns := [], harness := (true, "2acb1662b1e421ca3d6807a2abe119482738f9b5e3268e81f2e49019ef955f15"), looks := false }, kinds := [], alts := [], laidByText := true, laidKinds := [.data, .data], laidTests := true, laidLooks := .later }
def VectorSidesCardSaid : Prop := Claim7.holds Tryz.pinned (.plain (OpenSpec.ofChange vectorSidesSpec)) vectorSidesCard

/-- THE TIED CARD OF 'brepkernellaw04.VectorMaps'. -/
def vectorMapsCard : Claim7 := { stood := { row := vectorMapsRow, standIns := [], harness := (true, "2acb1662b1e421ca3d6807a2abe119482738f9b5e3268e81f2e49019ef955f15"), looks := false }, kinds := [], alts := [], laidByText := true, laidKinds := [.data, .data], laidTests := true, laidLooks := .later }
def VectorMapsCardSaid : Prop := Claim7.holds Tryz.pinned (.plain (OpenSpec.ofChange vectorMapsSpec)) vectorMapsCard

/-- THE TIED CARD OF 'brepkernellaw04.VectorNearest'. -/
def vectorNearestCard : Claim7 := { stood := { row := vectorNearestRow, standIns := [], harness := (true, "2acb1662b1e421ca3d6807a2abe119482738f9b5e3268e81f2e49019ef955f15"), looks := false }, kinds := [], alts := [], laidByText := true, laidKinds := [.data, .data], laidTests := true, laidLooks := .later }
def VectorNearestCardSaid : Prop := Claim7.holds Tryz.pinned (.plain (OpenSpec.ofChange vectorNearestSpec)) vectorNearestCard

/-- THE TIED CARD OF 'brepkernellaw04.VectorBoxes'. -/
def vectorBoxesCard : Claim7 := { stood := { row := vectorBoxesRow, standIns := [], harness := (true, "2acb1662b1e421ca3d6807a2abe119482738f9b5e3268e81f2e49019ef955f15"), looks := false }, kinds := [], alts := [], laidByText := true, laidKinds := [.data, .data], laidTests := true, laidLooks := .later }
def VectorBoxesCardSaid : Prop := Claim7.holds Tryz.pinned (.plain (OpenSpec.ofChange vectorBoxesSpec)) vectorBoxesCard

/-- THE TIED CARD OF 'brepkernellaw03.SpanReads'. -/
def spanReadsCard : Claim7 := { stood := { row := spanReadsRow, standIns := [], harness := (true, "2acb1662b1e421ca3d6807a2abe119482738f9b5e3268e81f2e49019ef955f15"), looks := false }, kinds := [], alts := [], laidByText := true, laidKinds := [.data, .data], laidTests := true, laidLooks := .later }
def SpanReadsCardSaid : Prop := Claim7.holds Tryz.pinned (.plain (OpenSpec.ofChange spanReadsSpec)) spanReadsCard

/-- THE TIED CARD OF 'brepkernellaw03.SpanSums'. -/
def spanSumsCard : Claim7 := { stood := { row := spanSumsRow, standIns := [], harness := (true, "2acb1662b1e421ca3d6807a2abe119482738f9b5e3268e81f2e49019ef955f15"), looks := false }, kinds := [], alts := [], laidByText := true, laidKinds := [.data, .data], laidTests := true, laidLooks := .later }
def SpanSumsCardSaid : Prop := Claim7.holds Tryz.pinned (.plain (OpenSpec.ofChange spanSumsSpec)) spanSumsCard

/-- THE TIED CARD OF 'brepkernellaw03.SpanDets'. -/
def spanDetsCard : Claim7 := { stood := { row := spanDetsRow, standIns := [], harness := (true, "2acb1662b1e421ca3d6807a2abe119482738f9b5e3268e81f2e49019ef955f15"), looks := false }, kinds := [], alts := [], laidByText := true, laidKinds := [.data, .data], laidTests := true, laidLooks := .later }
def SpanDetsCardSaid : Prop := Claim7.holds Tryz.pinned (.plain (OpenSpec.ofChange spanDetsSpec)) spanDetsCard

/-- THE TIED CARD OF 'brepkernellaw03.SpanContains'. -/
def spanContainsCard : Claim7 := { stood := { row := spanContainsRow, standIns := [], harness := (true, "2acb1662b1e421ca3d6807a2abe119482738f9b5e3268e81f2e49019ef955f15"), looks := false }, kinds := [], alts := [], laidByText := true, laidKinds := [.data, .data], laidTests := true, laidLooks := .later }
def SpanContainsCardSaid : Prop := Claim7.holds Tryz.pinned (.plain (OpenSpec.ofChange spanContainsSpec)) spanContainsCard

/-- THE TIED CARD OF 'brepkernellaw03.SpanNarrow'. -/
def spanNarrowCard : Claim7 := { stood := { row := spanNarrowRow, standIns := [], harness := (true, "2acb1662b1e421ca3d6807a2abe119482738f9b5e3268e81f2e49019ef955f15"), looks := false }, kinds := [], alts := [], laidByText := true, laidKinds := [.data, .data], laidTests := true, laidLooks := .later }
def SpanNarrowCardSaid : Prop := Claim7.holds Tryz.pinned (.plain (OpenSpec.ofChange spanNarrowSpec)) spanNarrowCard

/-- THE TIED CARD OF 'brepkernellaw03.SpanRegular'. -/
def spanRegularCard : Claim7 := { stood := { row := spanRegularRow, standIns := [], harness := (true, "2acb1662b1e421ca3d6807a2abe119482738f9b5e3268e81f2e49019ef955f15"), looks := false }, kinds := [], alts := [], laidByText := true, laidKinds := [.data, .data], laidTests := true, laidLooks := .later }
def SpanRegularCardSaid : Prop := Claim7.holds Tryz.pinned (.plain (OpenSpec.ofChange spanRegularSpec)) spanRegularCard

/-- THE SECOND FORM's CARD OF 'brepkernellaw04.VectorSums'. -/
def vectorSumsUptoCard : Claim7 := { stood := { row := vectorSumsUptoRow, standIns := [], harness := (true, "2acb1662b1e421ca3d6807a2abe119482738f9b5e3268e81f2e49019ef955f15"), looks := false }, kinds := [], alts := [], laidByText := true, laidKinds := [.data, .data], laidTests := true, laidLooks := .later }
def VectorSumsUptoCardSaid : Prop := Claim7.holds Tryz.pinned (.plain (OpenSpec.upto vectorSumsSpec)) vectorSumsUptoCard

/-- THE SECOND FORM's CARD OF 'brepkernellaw04.VectorComposes'. -/
def vectorComposesUptoCard : Claim7 := { stood := { row := vectorComposesUptoRow, standIns := [], harness := (true, "2acb1662b1e421ca3d6807a2abe119482738f9b5e3268e81f2e49019ef955f15"), looks := false }, kinds := [], alts := [], laidByText := true, laidKinds := [.data, .data], laidTests := true, laidLooks := .later }
def VectorComposesUptoCardSaid : Prop := Claim7.holds Tryz.pinned (.plain (OpenSpec.upto vectorComposesSpec)) vectorComposesUptoCard

/-- THE SECOND FORM's CARD OF 'brepkernellaw04.VectorSides'. -/
def vectorSidesUptoCard : Claim7 := { stood := { row := vectorSidesUptoRow, standIns := [], harness := (true, "2acb1662b1e421ca3d6807a2abe119482738f9b5e3268e81f2e49019ef955f15"), looks := false }, kinds := [], alts := [], laidByText := true, laidKinds := [.data, .data], laidTests := true, laidLooks := .later }
def VectorSidesUptoCardSaid : Prop := Claim7.holds Tryz.pinned (.plain (OpenSpec.upto vectorSidesSpec)) vectorSidesUptoCard

/-- THE SECOND FORM's CARD OF 'brepkernellaw04.VectorMaps'. -/
def vectorMapsUptoCard : Claim7 := { stood := { row := vectorMapsUptoRow, standIns := [], harness := (true, "2acb1662b1e421ca3d6807a2abe119482738f9b5e3268e81f2e49019ef955f15"), looks := false }, kinds := [], alts := [], laidByText := true, laidKinds := [.data, .data], laidTests := true, laidLooks := .later }
def VectorMapsUptoCardSaid : Prop := Claim7.holds Tryz.pinned (.plain (OpenSpec.upto vectorMapsSpec)) vectorMapsUptoCard

/-- THE SECOND FORM's CARD OF 'brepkernellaw04.VectorNearest'. -/
def vectorNearestUptoCard : Claim7 := { stood := { row := vectorNearestUptoRow, standIns := [], harness := (true, "2acb1662b1e421ca3d6807a2abe119482738f9b5e3268e81f2e49019ef955f15"), looks := false }, kinds := [], alts := [], laidByText := true, laidKinds := [.data, .data], laidTests := true, laidLooks := .later }
def VectorNearestUptoCardSaid : Prop := Claim7.holds Tryz.pinned (.plain (OpenSpec.upto vectorNearestSpec)) vectorNearestUptoCard

/-- THE SECOND FORM's CARD OF 'brepkernellaw04.VectorBoxes'. -/
def vectorBoxesUptoCard : Claim7 := { stood := { row := vectorBoxesUptoRow, standIns := [], harness := (true, "2acb1662b1e421ca3d6807a2abe119482738f9b5e3268e81f2e49019ef955f15"), looks := false }, kinds := [], alts := [], laidByText := true, laidKinds := [.data, .data], laidTests := true, laidLooks := .later }
def VectorBoxesUptoCardSaid : Prop := Claim7.holds Tryz.pinned (.plain (OpenSpec.upto vectorBoxesSpec)) vectorBoxesUptoCard

/-- THE SECOND FORM's CARD OF 'brepkernellaw03.SpanReads'. -/
def spanReadsUptoCard : Claim7 := { stood := { row := spanReadsUptoRow, standIns := [], harness := (true, "2acb1662b1e421ca3d6807a2abe119482738f9b5e3268e81f2e49019ef955f15"), looks := false }, kinds := [], alts := [], laidByText := true, laidKinds := [.data, .data], laidTests := true, laidLooks := .later }
def SpanReadsUptoCardSaid : Prop := Claim7.holds Tryz.pinned (.plain (OpenSpec.upto spanReadsSpec)) spanReadsUptoCard

/-- THE SECOND FORM's CARD OF 'brepkernellaw03.SpanSums'. -/
def spanSumsUptoCard : Claim7 := { stood := { row := spanSumsUptoRow, standIns := [], harness := (true, "2acb1662b1e421ca3d6807a2abe119482738f9b5e3268e81f2e49019ef955f15"), looks := false }, kinds := [], alts := [], laidByText := true, laidKinds := [.data, .data], laidTests := true, laidLooks := .later }
def SpanSumsUptoCardSaid : Prop := Claim7.holds Tryz.pinned (.plain (OpenSpec.upto spanSumsSpec)) spanSumsUptoCard

/-- THE SECOND FORM's CARD OF 'brepkernellaw03.SpanDets'. -/
def spanDetsUptoCard : Claim7 := { stood := { row := spanDetsUptoRow, standIns := [], harness := (true, "2acb1662b1e421ca3d6807a2abe119482738f9b5e3268e81f2e49019ef955f15"), looks := false }, kinds := [], alts := [], laidByText := true, laidKinds := [.data, .data], laidTests := true, laidLooks := .later }
def SpanDetsUptoCardSaid : Prop := Claim7.holds Tryz.pinned (.plain (OpenSpec.upto spanDetsSpec)) spanDetsUptoCard

/-- THE SECOND FORM's CARD OF 'brepkernellaw03.SpanContains'. -/
def spanContainsUptoCard : Claim7 := { stood := { row := spanContainsUptoRow, standIns := [], harness := (true, "2acb1662b1e421ca3d6807a2abe119482738f9b5e3268e81f2e49019ef955f15"), looks := false }, kinds := [], alts := [], laidByText := true, laidKinds := [.data, .data], laidTests := true, laidLooks := .later }
def SpanContainsUptoCardSaid : Prop := Claim7.holds Tryz.pinned (.plain (OpenSpec.upto spanContainsSpec)) spanContainsUptoCard

/-- THE SECOND FORM's CARD OF 'brepkernellaw03.SpanNarrow'. -/
def spanNarrowUptoCard : Claim7 := { stood := { row := spanNarrowUptoRow, standIns := [], harness := (true, "2acb1662b1e421ca3d6807a2abe119482738f9b5e3268e81f2e49019ef955f15"), looks := false }, kinds := [], alts := [], laidByText := true, laidKinds := [.data, .data], laidTests := true, laidLooks := .later }
def SpanNarrowUptoCardSaid : Prop := Claim7.holds Tryz.pinned (.plain (OpenSpec.upto spanNarrowSpec)) spanNarrowUptoCard

/-- THE SECOND FORM's CARD OF 'brepkernellaw03.SpanRegular'. -/
def spanRegularUptoCard : Claim7 := { stood := { row := spanRegularUptoRow, standIns := [], harness := (true, "2acb1662b1e421ca3d6807a2abe119482738f9b5e3268e81f2e49019ef955f15"), looks := false }, kinds := [], alts := [], laidByText := true, laidKinds := [.data, .data], laidTests := true, laidLooks := .later }
def SpanRegularUptoCardSaid : Prop := Claim7.holds Tryz.pinned (.plain (OpenSpec.upto spanRegularSpec)) spanRegularUptoCard
end Rows
end Go.Proofs.YtbkkecihjaokpaaGreatDoor
