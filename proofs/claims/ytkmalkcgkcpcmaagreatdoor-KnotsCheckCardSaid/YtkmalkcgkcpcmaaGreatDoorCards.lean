/-
  DERIVED. GIVEN WITH THE SEED: THE CARDS: each row of YtkmalkcgkcpcmaaGreatDoorRows.lean that lists a variable, with what it lists TIED to the program's text (the seventh form; the later family's looks); each row that meets fmt, with fmt's text TOLD by the authors' own Lean function (tested against real Go, not proved from fmt's source: count such statements apart). THE CARD IS WHAT COUNTS. Prove the row's statement (the work); the ties are given (YtkmalkcgkcpcmaaGreatDoorTie.lean); close each card by the builder's one call (the guide's Derived/Test/ToyasCard.lean, 'card_holds'). Laid BY PROGRAM, IN A SANDBOX (cutbox-door.mjs). By AI agents, Wed Nov 11 2026. No macro, syntax, notation, axiom, sorry.
-/
import Derived.Test.YtkmalkcgkcpcmaaGreatDoorRows
import GoSem.ClaimSeven
namespace Go.Proofs.YtkmalkcgkcpcmaaGreatDoor
namespace Rows

/-- THE TIED CARD OF 'brepkernellaw08.KnotsCheck'. -/
def knotsCheckCard : Claim7 := { stood := { row := knotsCheckRow, standIns := [], harness := (true, "d7d008253f8a5f45bc2841dcc51ae0b896025c7627ed3ef697aa5606bd4460f0"), looks := false }, kinds := [], alts := [], laidByText := true, laidKinds := [.data, .data], laidTests := true, laidLooks := .later }
def KnotsCheckCardSaid : Prop := Claim7.holds Tryz.pinned (.plain (OpenSpec.ofChange knotsCheckSpec)) knotsCheckCard

/-- THE TIED CARD OF 'brepkernellaw08.KnotsReads'. -/
def knotsReadsCard : Claim7 := { stood := { row := knotsReadsRow, standIns := [], harness := (true, "d7d008253f8a5f45bc2841dcc51ae0b896025c7627ed3ef697aa5606bd4460f0"), looks := false }, kinds := [], alts := [], laidByText := true, laidKinds := [.data, .data], laidTests := true, laidLooks := .later }
def KnotsReadsCardSaid : Prop := Claim7.holds Tryz.pinned (.plain (OpenSpec.ofChange knotsReadsSpec)) knotsReadsCard

/-- THE TIED CARD OF 'brepkernellaw08.KnotsStay'. -/
def knotsStayCard : Claim7 := { stood := { row := knotsStayRow, standIns := [], harness := (true, "d7d008253f8a5f45bc2841dcc51ae0b896025c7627ed3ef697aa5606bd4460f0"), looks := false }, kinds := [], alts := [], laidByText := true, laidKinds := [.data, .data], laidTests := true, laidLooks := .later }
def KnotsStayCardSaid : Prop := Claim7.holds Tryz.pinned (.plain (OpenSpec.ofChange knotsStaySpec)) knotsStayCard

/-- THE TIED CARD OF 'brepkernellaw09.BasisValues'. -/
def basisValuesCard : Claim7 := { stood := { row := basisValuesRow, standIns := [], harness := (true, "d7d008253f8a5f45bc2841dcc51ae0b896025c7627ed3ef697aa5606bd4460f0"), looks := false }, kinds := [], alts := [], laidByText := true, laidKinds := [.data, .data], laidTests := true, laidLooks := .later }
def BasisValuesCardSaid : Prop := Claim7.holds Tryz.pinned (.plain (OpenSpec.ofChange basisValuesSpec)) basisValuesCard

/-- THE TIED CARD OF 'brepkernellaw09.BasisBlossoms'. -/
def basisBlossomsCard : Claim7 := { stood := { row := basisBlossomsRow, standIns := [], harness := (true, "d7d008253f8a5f45bc2841dcc51ae0b896025c7627ed3ef697aa5606bd4460f0"), looks := false }, kinds := [], alts := [], laidByText := true, laidKinds := [.data, .data], laidTests := true, laidLooks := .later }
def BasisBlossomsCardSaid : Prop := Claim7.holds Tryz.pinned (.plain (OpenSpec.ofChange basisBlossomsSpec)) basisBlossomsCard

/-- THE TIED CARD OF 'brepkernellaw09.BasisUnity'. -/
def basisUnityCard : Claim7 := { stood := { row := basisUnityRow, standIns := [], harness := (true, "d7d008253f8a5f45bc2841dcc51ae0b896025c7627ed3ef697aa5606bd4460f0"), looks := false }, kinds := [], alts := [], laidByText := true, laidKinds := [.data, .data], laidTests := true, laidLooks := .later }
def BasisUnityCardSaid : Prop := Claim7.holds Tryz.pinned (.plain (OpenSpec.ofChange basisUnitySpec)) basisUnityCard

/-- THE TIED CARD OF 'brepkernellaw09.BasisDual'. -/
def basisDualCard : Claim7 := { stood := { row := basisDualRow, standIns := [], harness := (true, "d7d008253f8a5f45bc2841dcc51ae0b896025c7627ed3ef697aa5606bd4460f0"), looks := false }, kinds := [], alts := [], laidByText := true, laidKinds := [.data, .data], laidTests := true, laidLooks := .later }
def BasisDualCardSaid : Prop := Claim7.holds Tryz.pinned (.plain (OpenSpec.ofChange basisDualSpec)) basisDualCard

/-- THE SECOND FORM's CARD OF 'brepkernellaw08.KnotsCheck'. -/
def knotsCheckUptoCard : Claim7 := { stood := { row := knotsCheckUptoRow, standIns := [], harness := (true, "d7d008253f8a5f45bc2841dcc51ae0b896025c7627ed3ef697aa5606bd4460f0"), looks := false }, kinds := [], alts := [], laidByText := true, laidKinds := [.data, .data], laidTests := true, laidLooks := .later }
def KnotsCheckUptoCardSaid : Prop := Claim7.holds Tryz.pinned (.plain (OpenSpec.upto knotsCheckSpec)) knotsCheckUptoCard

/-- THE SECOND FORM's CARD OF 'brepkernellaw08.KnotsReads'. -/
def knotsReadsUptoCard : Claim7 := { stood := { row := knotsReadsUptoRow, standIns := [], harness := (true, "d7d008253f8a5f45bc2841dcc51ae0b896025c7627ed3ef697aa5606bd4460f0"), looks := false }, kinds := [], alts := [], laidByText := true, laidKinds := [.data, .data], laidTests := true, laidLooks := .later }
def KnotsReadsUptoCardSaid : Prop := Claim7.holds Tryz.pinned (.plain (OpenSpec.upto knotsReadsSpec)) knotsReadsUptoCard

/-- THE SECOND FORM's CARD OF 'brepkernellaw08.KnotsStay'. -/
def knotsStayUptoCard : Claim7 := { stood := { row := knotsStayUptoRow, standIns := [], harness := (true, "d7d008253f8a5f45bc2841dcc51ae0b896025c7627ed3ef697aa5606bd4460f0"), looks := false }, kinds := [], alts := [], laidByText := true, laidKinds := [.data, .data], laidTests := true, laidLooks := .later }
def KnotsStayUptoCardSaid : Prop := Claim7.holds Tryz.pinned (.plain (OpenSpec.upto knotsStaySpec)) knotsStayUptoCard

/-- THE SECOND FORM's CARD OF 'brepkernellaw09.BasisValues'. -/
def basisValuesUptoCard : Claim7 := { stood := { row := basisValuesUptoRow, standIns := [], harness := (true, "d7d008253f8a5f45bc2841dcc51ae0b896025c7627ed3ef697aa5606bd4460f0"), looks := false }, kinds := [], alts := [], laidByText := true, laidKinds := [.data, .data], laidTests := true, laidLooks := .later }
def BasisValuesUptoCardSaid : Prop := Claim7.holds Tryz.pinned (.plain (OpenSpec.upto basisValuesSpec)) basisValuesUptoCard

/-- THE SECOND FORM's CARD OF 'brepkernellaw09.BasisBlossoms'. -/
def basisBlossomsUptoCard : Claim7 := { stood := { row := basisBlossomsUptoRow, standIns := [], harness := (true, "d7d008253f8a5f45bc2841dcc51ae0b896025c7627ed3ef697aa5606bd4460f0"), looks := false }, kinds := [], alts := [], laidByText := true, laidKinds := [.data, .data], laidTests := true, laidLooks := .later }
def BasisBlossomsUptoCardSaid : Prop := Claim7.holds Tryz.pinned (.plain (OpenSpec.upto basisBlossomsSpec)) basisBlossomsUptoCard

/-- THE SECOND FORM's CARD OF 'brepkernellaw09.BasisUnity'. -/
def basisUnityUptoCard : Claim7 := { stood := { row := basisUnityUptoRow, standIns := [], harness := (true, "d7d008253f8a5f45bc2841dcc51ae0b896025c7627ed3ef697aa5606bd4460f0"), looks := false }, kinds := [], alts := [], laidByText := true, laidKinds := [.data, .data], laidTests := true, laidLooks := .later }
def BasisUnityUptoCardSaid : Prop := Claim7.holds Tryz.pinned (.plain (OpenSpec.upto basisUnitySpec)) basisUnityUptoCard

/-- THE SECOND FORM's CARD OF 'brepkernellaw09.BasisDual'. -/
def basisDualUptoCard : Claim7 := { stood := { row := basisDualUptoRow, standIns := [], harness := (true, "d7d008253f8a5f45bc2841dcc51ae0b896025c7627ed3ef697aa5606bd4460f0"), looks := false }, kinds := [], alts := [], laidByText := true, laidKinds := [.data, .data], laidTests := true, laidLooks := .later }
def BasisDualUptoCardSaid : Prop := Claim7.holds Tryz.pinned (.plain (OpenSpec.upto basisDualSpec)) basisDualUptoCard
end Rows
end Go.Proofs.YtkmalkcgkcpcmaaGreatDoor
