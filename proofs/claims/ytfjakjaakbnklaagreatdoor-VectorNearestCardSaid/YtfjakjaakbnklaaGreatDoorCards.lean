/-
  DERIVED. GIVEN WITH THE SEED: THE CARDS: each row of YtfjakjaakbnklaaGreatDoorRows.lean that lists a variable, with what it lists TIED to the program's text (the seventh form; the later family's looks); each row that meets fmt, with fmt's text TOLD by the authors' own Lean function (tested against real Go, not proved from fmt's source: count such statements apart). THE CARD IS WHAT COUNTS. Prove the row's statement (the work); the ties are given (YtfjakjaakbnklaaGreatDoorTie.lean); close each card by the builder's one call (the guide's Derived/Test/ToyasCard.lean, 'card_holds'). Laid BY PROGRAM, IN A SANDBOX (cutbox-door.mjs). By AI agents, Wed Nov 11 2026. No macro, syntax, notation, axiom, sorry.
-/
import Derived.Test.YtfjakjaakbnklaaGreatDoorRows
import GoSem.ClaimSeven
namespace Go.Proofs.YtfjakjaakbnklaaGreatDoor
namespace Rows

/-- THE TIED CARD OF 'brepkernellaw03.SpanReads'. -/
def spanReadsCard : Claim7 := { stood := { row := spanReadsRow, standIns := [], harness := (true, "bf289b0c2bf81fb62ac1d1feb9bf07af710ab00a0e01015aa508d30b40807b2a"), looks := false }, kinds := [], alts := [], laidByText := true, laidKinds := [.data, .data], laidTests := true, laidLooks := .later }
def SpanReadsCardSaid : Prop := Claim7.holds Tryz.pinned (.plain (OpenSpec.ofChange spanReadsSpec)) spanReadsCard

/-- THE TIED CARD OF 'brepkernellaw03.SpanSums'. -/
def spanSumsCard : Claim7 := { stood := { row := spanSumsRow, standIns := [], harness := (true, "bf289b0c2bf81fb62ac1d1feb9bf07af710ab00a0e01015aa508d30b40807b2a"), looks := false }, kinds := [], alts := [], laidByText := true, laidKinds := [.data, .data], laidTests := true, laidLooks := .later }
def SpanSumsCardSaid : Prop := Claim7.holds Tryz.pinned (.plain (OpenSpec.ofChange spanSumsSpec)) spanSumsCard

/-- THE TIED CARD OF 'brepkernellaw03.SpanRoots'. -/
def spanRootsCard : Claim7 := { stood := { row := spanRootsRow, standIns := [], harness := (true, "bf289b0c2bf81fb62ac1d1feb9bf07af710ab00a0e01015aa508d30b40807b2a"), looks := false }, kinds := [], alts := [], laidByText := true, laidKinds := [.data, .data], laidTests := true, laidLooks := .later }
def SpanRootsCardSaid : Prop := Claim7.holds Tryz.pinned (.plain (OpenSpec.ofChange spanRootsSpec)) spanRootsCard

/-- THE TIED CARD OF 'brepkernellaw03.SpanDets'. -/
def spanDetsCard : Claim7 := { stood := { row := spanDetsRow, standIns := [], harness := (true, "bf289b0c2bf81fb62ac1d1feb9bf07af710ab00a0e01015aa508d30b40807b2a"), looks := false }, kinds := [], alts := [], laidByText := true, laidKinds := [.data, .data], laidTests := true, laidLooks := .later }
def SpanDetsCardSaid : Prop := Claim7.holds Tryz.pinned (.plain (OpenSpec.ofChange spanDetsSpec)) spanDetsCard

/-- THE TIED CARD OF 'brepkernellaw03.SpanContains'. -/
def spanContainsCard : Claim7 := { stood := { row := spanContainsRow, standIns := [], harness := (true, "bf289b0c2bf81fb62ac1d1feb9bf07af710ab00a0e01015aa508d30b40807b2a"), looks := false }, kinds := [], alts := [], laidByText := true, laidKinds := [.data, .data], laidTests := true, laidLooks := .later }
def SpanContainsCardSaid : Prop := Claim7.holds Tryz.pinned (.plain (OpenSpec.ofChange spanContainsSpec)) spanContainsCard

/-- THE TIED CARD OF 'brepkernellaw03.SpanNarrow'. -/
def spanNarrowCard : Claim7 := { stood := { row := spanNarrowRow, standIns := [], harness := (true, "bf289b0c2bf81fb62ac1d1feb9bf07af710ab00a0e01015aa508d30b40807b2a"), looks := false }, kinds := [], alts := [], laidByText := true, laidKinds := [.data, .data], laidTests := true, laidLooks := .later }
def SpanNarrowCardSaid : Prop := Claim7.holds Tryz.pinned (.plain (OpenSpec.ofChange spanNarrowSpec)) spanNarrowCard

/-- THE TIED CARD OF 'brepkernellaw03.SpanRegular'. -/
def spanRegularCard : Claim7 := { stood := { row := spanRegularRow, standIns := [], harness := (true, "bf289b0c2bf81fb62ac1d1feb9bf07af710ab00a0e01015aa508d30b40807b2a"), looks := false }, kinds := [], alts := [], laidByText := true, laidKinds := [.data, .data], laidTests := true, laidLooks := .later }
def SpanRegularCardSaid : Prop := Claim7.holds Tryz.pinned (.plain (OpenSpec.ofChange spanRegularSpec)) spanRegularCard

/-- THE TIED CARD OF 'brepkernellaw04.VectorSides'. -/
def vectorSidesCard : Claim7 := { stood := { row := vectorSidesRow, standIns := [], harness := (true, "bf289b0c2bf81fb62ac1d1feb9bf07af710ab00a0e01015aa508d30b40807b2a"), looks := false }, kinds := [], alts := [], laidByText := true, laidKinds := [.data, .data], laidTests := true, laidLooks := .later }
def VectorSidesCardSaid : Prop := Claim7.holds Tryz.pinned (.plain (OpenSpec.ofChange vectorSidesSpec)) vectorSidesCard

/-- THE TIED CARD OF 'brepkernellaw04.VectorBoxes'. -/
def vectorBoxesCard : Claim7 := { stood := { row := vectorBoxesRow, standIns := [], harness := (true, "bf289b0c2bf81fb62ac1d1feb9bf07af710ab00a0e01015aa508d30b40807b2a"), looks := false }, kinds := [], alts := [], laidByText := true, laidKinds := [.data, .data], laidTests := true, laidLooks := .later }
def VectorBoxesCardSaid : Prop := Claim7.holds Tryz.pinned (.plain (OpenSpec.ofChange vectorBoxesSpec)) vectorBoxesCard

/-- THE TIED CARD OF 'brepkernellaw04.VectorNearest'. -/
def vectorNearestCard : Claim7 := { stood := { row := vectorNearestRow, standIns := [], harness := (true, "bf289b0c2bf81fb62ac1d1feb9bf07af710ab00a0e01015aa508d30b40807b2a"), looks := false }, kinds := [], alts := [], laidByText := true, laidKinds := [.data, .data], laidTests := true, laidLooks := .later }
def VectorNearestCardSaid : Prop := Claim7.holds Tryz.pinned (.plain (OpenSpec.ofChange vectorNearestSpec)) vectorNearestCard

/-- THE SECOND FORM's CARD OF 'brepkernellaw03.SpanReads'. -/
def spanReadsUptoCard : Claim7 := { stood := { row := spanReadsUptoRow, standIns := [], harness := (true, "bf289b0c2bf81fb62ac1d1feb9bf07af710ab00a0e01015aa508d30b40807b2a"), looks := false }, kinds := [], alts := [], laidByText := true, laidKinds := [.data, .data], laidTests := true, laidLooks := .later }
def SpanReadsUptoCardSaid : Prop := Claim7.holds Tryz.pinned (.plain (OpenSpec.upto spanReadsSpec)) spanReadsUptoCard

/-- THE SECOND FORM's CARD OF 'brepkernellaw03.SpanSums'. -/
def spanSumsUptoCard : Claim7 := { stood := { row := spanSumsUptoRow, standIns := [], harness := (true, "bf289b0c2bf81fb62ac1d1feb9bf07af710ab00a0e01015aa508d30b40807b2a"), looks := false }, kinds := [], alts := [], laidByText := true, laidKinds := [.data, .data], laidTests := true, laidLooks := .later }
def SpanSumsUptoCardSaid : Prop := Claim7.holds Tryz.pinned (.plain (OpenSpec.upto spanSumsSpec)) spanSumsUptoCard

/-- THE SECOND FORM's CARD OF 'brepkernellaw03.SpanRoots'. -/
def spanRootsUptoCard : Claim7 := { stood := { row := spanRootsUptoRow, standIns := [], harness := (true, "bf289b0c2bf81fb62ac1d1feb9bf07af710ab00a0e01015aa508d30b40807b2a"), looks := false }, kinds := [], alts := [], laidByText := true, laidKinds := [.data, .data], laidTests := true, laidLooks := .later }
def SpanRootsUptoCardSaid : Prop := Claim7.holds Tryz.pinned (.plain (OpenSpec.upto spanRootsSpec)) spanRootsUptoCard

/-- THE SECOND FORM's CARD OF 'brepkernellaw03.SpanDets'. -/
def spanDetsUptoCard : Claim7 := { stood := { row := spanDetsUptoRow, standIns := [], harness := (true, "bf289b0c2bf81fb62ac1d1feb9bf07af710ab00a0e01015aa508d30b40807b2a"), looks := false }, kinds := [], alts := [], laidByText := true, laidKinds := [.data, .data], laidTests := true, laidLooks := .later }
def SpanDetsUptoCardSaid : Prop := Claim7.holds Tryz.pinned (.plain (OpenSpec.upto spanDetsSpec)) spanDetsUptoCard

/-- THE SECOND FORM's CARD OF 'brepkernellaw03.SpanContains'. -/
def spanContainsUptoCard : Claim7 := { stood := { row := spanContainsUptoRow, standIns := [], harness := (true, "bf289b0c2bf81fb62ac1d1feb9bf07af710ab00a0e01015aa508d30b40807b2a"), looks := false }, kinds := [], alts := [], laidByText := true, laidKinds := [.data, .data], laidTests := true, laidLooks := .later }
def SpanContainsUptoCardSaid : Prop := Claim7.holds Tryz.pinned (.plain (OpenSpec.upto spanContainsSpec)) spanContainsUptoCard

/-- THE SECOND FORM's CARD OF 'brepkernellaw03.SpanNarrow'. -/
def spanNarrowUptoCard : Claim7 := { stood := { row := spanNarrowUptoRow, standIns := [], harness := (true, "bf289b0c2bf81fb62ac1d1feb9bf07af710ab00a0e01015aa508d30b40807b2a"), looks := false }, kinds := [], alts := [], laidByText := true, laidKinds := [.data, .data], laidTests := true, laidLooks := .later }
def SpanNarrowUptoCardSaid : Prop := Claim7.holds Tryz.pinned (.plain (OpenSpec.upto spanNarrowSpec)) spanNarrowUptoCard

/-- THE SECOND FORM's CARD OF 'brepkernellaw03.SpanRegular'. -/
def spanRegularUptoCard : Claim7 := { stood := { row := spanRegularUptoRow, standIns := [], harness := (true, "bf289b0c2bf81fb62ac1d1feb9bf07af710ab00a0e01015aa508d30b40807b2a"), looks := false }, kinds := [], alts := [], laidByText := true, laidKinds := [.data, .data], laidTests := true, laidLooks := .later }
def SpanRegularUptoCardSaid : Prop := Claim7.holds Tryz.pinned (.plain (OpenSpec.upto spanRegularSpec)) spanRegularUptoCard

/-- THE SECOND FORM's CARD OF 'brepkernellaw04.VectorSides'. -/
def vectorSidesUptoCard : Claim7 := { stood := { row := vectorSidesUptoRow, standIns := [], harness := (true, "bf289b0c2bf81fb62ac1d1feb9bf07af710ab00a0e01015aa508d30b40807b2a"), looks := false }, kinds := [], alts := [], laidByText := true, laidKinds := [.data, .data], laidTests := true, laidLooks := .later }
def VectorSidesUptoCardSaid : Prop := Claim7.holds Tryz.pinned (.plain (OpenSpec.upto vectorSidesSpec)) vectorSidesUptoCard

/-- THE SECOND FORM's CARD OF 'brepkernellaw04.VectorBoxes'. -/
def vectorBoxesUptoCard : Claim7 := { stood := { row := vectorBoxesUptoRow, standIns := [], harness := (true, "bf289b0c2bf81fb62ac1d1feb9bf07af710ab00a0e01015aa508d30b40807b2a"), looks := false }, kinds := [], alts := [], laidByText := true, laidKinds := [.data, .data], laidTests := true, laidLooks := .later }
def VectorBoxesUptoCardSaid : Prop := Claim7.holds Tryz.pinned (.plain (OpenSpec.upto vectorBoxesSpec)) vectorBoxesUptoCard

/-- THE SECOND FORM's CARD OF 'brepkernellaw04.VectorNearest'. -/
def vectorNearestUptoCard : Claim7 := { stood := { row := vectorNearestUptoRow, standIns := [], harness := (true, "bf289b0c2bf81fb62ac1d1feb9bf07af710ab00a0e01015aa508d30b40807b2a"), looks := false }, kinds := [], alts := [], laidByText := true, laidKinds := [.data, .data], laidTests := true, laidLooks := .later }
def VectorNearestUptoCardSaid : Prop := Claim7.holds Tryz.pinned (.plain (OpenSpec.upto vectorNearestSpec)) vectorNearestUptoCard
end Rows
end Go.Proofs.YtfjakjaakbnklaaGreatDoor
