/-
  DERIVED. GIVEN WITH THE SEED: THE CARDS: each row of YtcmbbmfdmohedaaGreatDoorRows.lean that lists a variable, with what it lists TIED to the program's text (the seventh form; the later family's looks); each row that meets fmt, with fmt's text TOLD by the authors' own Lean function (tested against real Go, not proved from fmt's source: count such statements apart). THE CARD IS WHAT COUNTS. Prove the row's statement (the work); the ties are given (YtcmbbmfdmohedaaGreatDoorTie.lean); close each card by the builder's one call (the guide's Derived/Test/ToyasCard.lean, 'card_holds'). Laid BY PROGRAM, IN A SANDBOX (cutbox-door.mjs). By AI agents, Wed Nov 11 2026. No macro, syntax, notation, axiom, sorry.
-/
import Derived.Test.YtcmbbmfdmohedaaGreatDoorRows
import GoSem.ClaimSeven
namespace Go.Proofs.YtcmbbmfdmohedaaGreatDoor
namespace Rows

/-- THE TIED CARD OF 'brepkernellaw04.VectorSums'. -/
def vectorSumsCard : Claim7 := { stood := { row := vectorSumsRow, standIns := [], harness := (true, "d60dd9f4ba84bea9f2f8762630962a973e54d11d9d5727b53473eaa558470ac3"), looks := false }, kinds := [], alts := [], laidByText := true, laidKinds := [.data, .data], laidTests := true, laidLooks := .later }
def VectorSumsCardSaid : Prop := Claim7.holds Tryz.pinned (.plain (OpenSpec.ofChange vectorSumsSpec)) vectorSumsCard

/-- THE TIED CARD OF 'brepkernellaw04.VectorSides'. -/
def vectorSidesCard : Claim7 := { stood := { row := vectorSidesRow, standIns := [], harness := (true, "d60dd9f4ba84bea9f2f8762630962a973e54d11d9d5727b53473eaa558470ac3"), looks := false }, kinds := [], alts := [], laidByText := true, laidKinds := [.data, .data], laidTests := true, laidLooks := .later }
def VectorSidesCardSaid : Prop := Claim7.holds Tryz.pinned (.plain (OpenSpec.ofChange vectorSidesSpec)) vectorSidesCard

/-- THE TIED CARD OF 'brepkernellaw04.VectorMaps'. -/
def vectorMapsCard : Claim7 := { stood := { row := vectorMapsRow, standIns := [], harness := (true, "d60dd9f4ba84bea9f2f8762630962a973e54d11d9d5727b53473eaa558470ac3"), looks := false }, kinds := [], alts := [], laidByText := true, laidKinds := [.data, .data], laidTests := true, laidLooks := .later }
def VectorMapsCardSaid : Prop := Claim7.holds Tryz.pinned (.plain (OpenSpec.ofChange vectorMapsSpec)) vectorMapsCard

/-- THE TIED CARD OF 'brepkernellaw04.VectorBoxes'. -/
def vectorBoxesCard : Claim7 := { stood := { row := vectorBoxesRow, standIns := [], harness := (true, "d60dd9f4ba84bea9f2f8762630962a973e54d11d9d5727b53473eaa558470ac3"), looks := false }, kinds := [], alts := [], laidByText := true, laidKinds := [.data, .data], laidTests := true, laidLooks := .later }
def VectorBoxesCardSaid : Prop := Claim7.holds Tryz.pinned (.plain (OpenSpec.ofChange vectorBoxesSpec)) vectorBoxesCard

/-- THE TIED CARD OF 'brepkernellaw04.VectorSigns'. -/
def vectorSignsCard : Claim7 := { stood := { row := vectorSignsRow, standIns := [], harness := (true, "d60dd9f4ba84bea9f2f8762630962a973e54d11d9d5727b53473eaa558470ac3"), looks := false }, kinds := [], alts := [], laidByText := true, laidKinds := [.data, .data], laidTests := true, laidLooks := .later }
def VectorSignsCardSaid : Prop := Claim7.holds Tryz.pinned (.plain (OpenSpec.ofChange vectorSignsSpec)) vectorSignsCard

/-- THE TIED CARD OF 'brepkernellaw04.VectorProducts'. -/
def vectorProductsCard : Claim7 := { stood := { row := vectorProductsRow, standIns := [], harness := (true, "d60dd9f4ba84bea9f2f8762630962a973e54d11d9d5727b53473eaa558470ac3"), looks := false }, kinds := [], alts := [], laidByText := true, laidKinds := [.data, .data], laidTests := true, laidLooks := .later }
def VectorProductsCardSaid : Prop := Claim7.holds Tryz.pinned (.plain (OpenSpec.ofChange vectorProductsSpec)) vectorProductsCard

/-- THE TIED CARD OF 'brepkernellaw04.VectorComposes'. -/
def vectorComposesCard : Claim7 := { stood := { row := vectorComposesRow, standIns := [], harness := (true, "d60dd9f4ba84bea9f2f8762630962a973e54d11d9d5727b53473eaa558470ac3"), looks := false }, kinds := [], alts := [], laidByText := true, laidKinds := [.data, .data], laidTests := true, laidLooks := .later }
def VectorComposesCardSaid : Prop := Claim7.holds Tryz.pinned (.plain (OpenSpec.ofChange vectorComposesSpec)) vectorComposesCard

/-- THE TIED CARD OF 'brepkernellaw04.VectorNearest'. -/
def vectorNearestCard : Claim7 := { stood := { row := vectorNearestRow, standIns := [], harness := (true, "d60dd9f4ba84bea9f2f8762630962a973e54d11d9d5727b53473eaa558470ac3"), looks := false }, kinds := [], alts := [], laidByText := true, laidKinds := [.data, .data], laidTests := true, laidLooks := .later }
def VectorNearestCardSaid : Prop := Claim7.holds Tryz.pinned (.plain (OpenSpec.ofChange vectorNearestSpec)) vectorNearestCard

/-- THE SECOND FORM's CARD OF 'brepkernellaw04.VectorSums'. -/
def vectorSumsUptoCard : Claim7 := { stood := { row := vectorSumsUptoRow, standIns := [], harness := (true, "d60dd9f4ba84bea9f2f8762630962a973e54d11d9d5727b53473eaa558470ac3"), looks := false }, kinds := [], alts := [], laidByText := true, laidKinds := [.data, .data], laidTests := true, laidLooks := .later }
def VectorSumsUptoCardSaid : Prop := Claim7.holds Tryz.pinned (.plain (OpenSpec.upto vectorSumsSpec)) vectorSumsUptoCard

/-- THE SECOND FORM's CARD OF 'brepkernellaw04.VectorSides'. -/
def vectorSidesUptoCard : Claim7 := { stood := { row := vectorSidesUptoRow, standIns := [], harness := (true, "d60dd9f4ba84bea9f2f8762630962a973e54d11d9d5727b53473eaa558470ac3"), looks := false }, kinds := [], alts := [], laidByText := true, laidKinds := [.data, .data], laidTests := true, laidLooks := .later }
def VectorSidesUptoCardSaid : Prop := Claim7.holds Tryz.pinned (.plain (OpenSpec.upto vectorSidesSpec)) vectorSidesUptoCard

/-- THE SECOND FORM's CARD OF 'brepkernellaw04.VectorMaps'. -/
def vectorMapsUptoCard : Claim7 := { stood := { row := vectorMapsUptoRow, standIns := [], harness := (true, "d60dd9f4ba84bea9f2f8762630962a973e54d11d9d5727b53473eaa558470ac3"), looks := false }, kinds := [], alts := [], laidByText := true, laidKinds := [.data, .data], laidTests := true, laidLooks := .later }
def VectorMapsUptoCardSaid : Prop := Claim7.holds Tryz.pinned (.plain (OpenSpec.upto vectorMapsSpec)) vectorMapsUptoCard

/-- THE SECOND FORM's CARD OF 'brepkernellaw04.VectorBoxes'. -/
def vectorBoxesUptoCard : Claim7 := { stood := { row := vectorBoxesUptoRow, standIns := [], harness := (true, "d60dd9f4ba84bea9f2f8762630962a973e54d11d9d5727b53473eaa558470ac3"), looks := false }, kinds := [], alts := [], laidByText := true, laidKinds := [.data, .data], laidTests := true, laidLooks := .later }
def VectorBoxesUptoCardSaid : Prop := Claim7.holds Tryz.pinned (.plain (OpenSpec.upto vectorBoxesSpec)) vectorBoxesUptoCard

/-- THE SECOND FORM's CARD OF 'brepkernellaw04.VectorSigns'. -/
def vectorSignsUptoCard : Claim7 := { stood := { row := vectorSignsUptoRow, standIns := [], harness := (true, "d60dd9f4ba84bea9f2f8762630962a973e54d11d9d5727b53473eaa558470ac3"), looks := false }, kinds := [], alts := [], laidByText := true, laidKinds := [.data, .data], laidTests := true, laidLooks := .later }
def VectorSignsUptoCardSaid : Prop := Claim7.holds Tryz.pinned (.plain (OpenSpec.upto vectorSignsSpec)) vectorSignsUptoCard

/-- THE SECOND FORM's CARD OF 'brepkernellaw04.VectorProducts'. -/
def vectorProductsUptoCard : Claim7 := { stood := { row := vectorProductsUptoRow, standIns := [], harness := (true, "d60dd9f4ba84bea9f2f8762630962a973e54d11d9d5727b53473eaa558470ac3"), looks := false }, kinds := [], alts := [], laidByText := true, laidKinds := [.data, .data], laidTests := true, laidLooks := .later }
def VectorProductsUptoCardSaid : Prop := Claim7.holds Tryz.pinned (.plain (OpenSpec.upto vectorProductsSpec)) vectorProductsUptoCard

/-- THE SECOND FORM's CARD OF 'brepkernellaw04.VectorComposes'. -/
def vectorComposesUptoCard : Claim7 := { stood := { row := vectorComposesUptoRow, standIns := [], harness := (true, "d60dd9f4ba84bea9f2f8762630962a973e54d11d9d5727b53473eaa558470ac3"), looks := false }, kinds := [], alts := [], laidByText := true, laidKinds := [.data, .data], laidTests := true, laidLooks := .later }
def VectorComposesUptoCardSaid : Prop := Claim7.holds Tryz.pinned (.plain (OpenSpec.upto vectorComposesSpec)) vectorComposesUptoCard

/-- THE SECOND FORM's CARD OF 'brepkernellaw04.VectorNearest'. -/
def vectorNearestUptoCard : Claim7 := { stood := { row := vectorNearestUptoRow, standIns := [], harness := (true, "d60dd9f4ba84bea9f2f8762630962a973e54d11d9d5727b53473eaa558470ac3"), looks := false }, kinds := [], alts := [], laidByText := true, laidKinds := [.data, .data], laidTests := true, laidLooks := .later }
def VectorNearestUptoCardSaid : Prop := Claim7.holds Tryz.pinned (.plain (OpenSpec.upto vectorNearestSpec)) vectorNearestUptoCard
end Rows
end Go.Proofs.YtcmbbmfdmohedaaGreatDoor
