/-
  DERIVED. GIVEN WITH THE SEED: THE CARDS: each row of YtijadodleiiomaaDoorRows.lean that lists a variable, with what it lists TIED to the program's text (the seventh form; the later family's looks); each row that meets fmt, with fmt's text TOLD by the authors' own Lean function (tested against real Go, not proved from fmt's source: count such statements apart). THE CARD IS WHAT COUNTS. Prove the row's statement (the work); the ties are given (YtijadodleiiomaaDoorTie.lean); close each card by the builder's one call (the guide's Derived/Test/ToyasCard.lean, 'card_holds'). Laid BY PROGRAM, IN A SANDBOX (cutbox-door.mjs). By AI agents, Wed Nov 11 2026. No macro, syntax, notation, axiom, sorry.
-/
import Derived.Test.YtijadodleiiomaaDoorRows
import GoSem.ClaimSeven
namespace Go.Proofs.YtijadodleiiomaaDoor
namespace Rows

/-- THE TIED CARD OF 'brepkernellaw01.NaturalReads'. -/
def naturalReadsCard : Claim7 := { stood := { row := naturalReadsRow, standIns := [], harness := (true, "8ed9355b1c30d8e0b6d7563bd68a8877908e856c86034ce5a0ea187b50d3e663"), looks := false }, kinds := [], alts := [], laidByText := true, laidKinds := [.data, .data, .data], laidTests := true, laidLooks := .later }
def NaturalReadsCardSaid : Prop := Claim7.holds Tryd.pinned (.plain (OpenSpec.ofChange naturalReadsSpec)) naturalReadsCard

/-- THE TIED CARD OF 'brepkernellaw01.NaturalAdds'. -/
def naturalAddsCard : Claim7 := { stood := { row := naturalAddsRow, standIns := [], harness := (true, "8ed9355b1c30d8e0b6d7563bd68a8877908e856c86034ce5a0ea187b50d3e663"), looks := false }, kinds := [], alts := [], laidByText := true, laidKinds := [.data, .data, .data], laidTests := true, laidLooks := .later }
def NaturalAddsCardSaid : Prop := Claim7.holds Tryd.pinned (.plain (OpenSpec.ofChange naturalAddsSpec)) naturalAddsCard

/-- THE TIED CARD OF 'brepkernellaw01.NaturalDivides'. -/
def naturalDividesCard : Claim7 := { stood := { row := naturalDividesRow, standIns := [], harness := (true, "8ed9355b1c30d8e0b6d7563bd68a8877908e856c86034ce5a0ea187b50d3e663"), looks := false }, kinds := [], alts := [], laidByText := true, laidKinds := [.data, .data, .data], laidTests := true, laidLooks := .later }
def NaturalDividesCardSaid : Prop := Claim7.holds Tryd.pinned (.plain (OpenSpec.ofChange naturalDividesSpec)) naturalDividesCard

/-- THE TIED CARD OF 'brepkernellaw01.NaturalShifts'. -/
def naturalShiftsCard : Claim7 := { stood := { row := naturalShiftsRow, standIns := [], harness := (true, "8ed9355b1c30d8e0b6d7563bd68a8877908e856c86034ce5a0ea187b50d3e663"), looks := false }, kinds := [], alts := [], laidByText := true, laidKinds := [.data, .data, .data], laidTests := true, laidLooks := .later }
def NaturalShiftsCardSaid : Prop := Claim7.holds Tryd.pinned (.plain (OpenSpec.ofChange naturalShiftsSpec)) naturalShiftsCard

/-- THE TIED CARD OF 'brepkernellaw01.NaturalTexts'. -/
def naturalTextsCard : Claim7 := { stood := { row := naturalTextsRow, standIns := [], harness := (true, "8ed9355b1c30d8e0b6d7563bd68a8877908e856c86034ce5a0ea187b50d3e663"), looks := false }, kinds := [], alts := [], laidByText := true, laidKinds := [.data, .data, .data], laidTests := true, laidLooks := .later }
def NaturalTextsCardSaid : Prop := Claim7.holds Tryd.pinned (.plain (OpenSpec.ofChange naturalTextsSpec)) naturalTextsCard

/-- THE TIED CARD OF 'brepkernellaw01.NaturalRing'. -/
def naturalRingCard : Claim7 := { stood := { row := naturalRingRow, standIns := [], harness := (true, "8ed9355b1c30d8e0b6d7563bd68a8877908e856c86034ce5a0ea187b50d3e663"), looks := false }, kinds := [], alts := [], laidByText := true, laidKinds := [.data, .data, .data], laidTests := true, laidLooks := .later }
def NaturalRingCardSaid : Prop := Claim7.holds Tryd.pinned (.plain (OpenSpec.ofChange naturalRingSpec)) naturalRingCard

/-- THE TIED CARD OF 'brepkernellaw01.NaturalQuotient'. -/
def naturalQuotientCard : Claim7 := { stood := { row := naturalQuotientRow, standIns := [], harness := (true, "8ed9355b1c30d8e0b6d7563bd68a8877908e856c86034ce5a0ea187b50d3e663"), looks := false }, kinds := [], alts := [], laidByText := true, laidKinds := [.data, .data, .data], laidTests := true, laidLooks := .later }
def NaturalQuotientCardSaid : Prop := Claim7.holds Tryd.pinned (.plain (OpenSpec.ofChange naturalQuotientSpec)) naturalQuotientCard

/-- THE TIED CARD OF 'brepkernellaw01.NaturalBack'. -/
def naturalBackCard : Claim7 := { stood := { row := naturalBackRow, standIns := [], harness := (true, "8ed9355b1c30d8e0b6d7563bd68a8877908e856c86034ce5a0ea187b50d3e663"), looks := false }, kinds := [], alts := [], laidByText := true, laidKinds := [.data, .data, .data], laidTests := true, laidLooks := .later }
def NaturalBackCardSaid : Prop := Claim7.holds Tryd.pinned (.plain (OpenSpec.ofChange naturalBackSpec)) naturalBackCard

/-- THE SECOND FORM's CARD OF 'brepkernellaw01.NaturalReads'. -/
def naturalReadsUptoCard : Claim7 := { stood := { row := naturalReadsUptoRow, standIns := [], harness := (true, "8ed9355b1c30d8e0b6d7563bd68a8877908e856c86034ce5a0ea187b50d3e663"), looks := false }, kinds := [], alts := [], laidByText := true, laidKinds := [.data, .data, .data], laidTests := true, laidLooks := .later }
def NaturalReadsUptoCardSaid : Prop := Claim7.holds Tryd.pinned (.plain (OpenSpec.upto naturalReadsSpec)) naturalReadsUptoCard

/-- THE SECOND FORM's CARD OF 'brepkernellaw01.NaturalAdds'. -/
def naturalAddsUptoCard : Claim7 := { stood := { row := naturalAddsUptoRow, standIns := [], harness := (true, "8ed9355b1c30d8e0b6d7563bd68a8877908e856c86034ce5a0ea187b50d3e663"), looks := false }, kinds := [], alts := [], laidByText := true, laidKinds := [.data, .data, .data], laidTests := true, laidLooks := .later }
def NaturalAddsUptoCardSaid : Prop := Claim7.holds Tryd.pinned (.plain (OpenSpec.upto naturalAddsSpec)) naturalAddsUptoCard

/-- THE SECOND FORM's CARD OF 'brepkernellaw01.NaturalDivides'. -/
def naturalDividesUptoCard : Claim7 := { stood := { row := naturalDividesUptoRow, standIns := [], harness := (true, "8ed9355b1c30d8e0b6d7563bd68a8877908e856c86034ce5a0ea187b50d3e663"), looks := false }, kinds := [], alts := [], laidByText := true, laidKinds := [.data, .data, .data], laidTests := true, laidLooks := .later }
def NaturalDividesUptoCardSaid : Prop := Claim7.holds Tryd.pinned (.plain (OpenSpec.upto naturalDividesSpec)) naturalDividesUptoCard

/-- THE SECOND FORM's CARD OF 'brepkernellaw01.NaturalShifts'. -/
def naturalShiftsUptoCard : Claim7 := { stood := { row := naturalShiftsUptoRow, standIns := [], harness := (true, "8ed9355b1c30d8e0b6d7563bd68a8877908e856c86034ce5a0ea187b50d3e663"), looks := false }, kinds := [], alts := [], laidByText := true, laidKinds := [.data, .data, .data], laidTests := true, laidLooks := .later }
def NaturalShiftsUptoCardSaid : Prop := Claim7.holds Tryd.pinned (.plain (OpenSpec.upto naturalShiftsSpec)) naturalShiftsUptoCard

/-- THE SECOND FORM's CARD OF 'brepkernellaw01.NaturalTexts'. -/
def naturalTextsUptoCard : Claim7 := { stood := { row := naturalTextsUptoRow, standIns := [], harness := (true, "8ed9355b1c30d8e0b6d7563bd68a8877908e856c86034ce5a0ea187b50d3e663"), looks := false }, kinds := [], alts := [], laidByText := true, laidKinds := [.data, .data, .data], laidTests := true, laidLooks := .later }
def NaturalTextsUptoCardSaid : Prop := Claim7.holds Tryd.pinned (.plain (OpenSpec.upto naturalTextsSpec)) naturalTextsUptoCard

/-- THE SECOND FORM's CARD OF 'brepkernellaw01.NaturalRing'. -/
def naturalRingUptoCard : Claim7 := { stood := { row := naturalRingUptoRow, standIns := [], harness := (true, "8ed9355b1c30d8e0b6d7563bd68a8877908e856c86034ce5a0ea187b50d3e663"), looks := false }, kinds := [], alts := [], laidByText := true, laidKinds := [.data, .data, .data], laidTests := true, laidLooks := .later }
def NaturalRingUptoCardSaid : Prop := Claim7.holds Tryd.pinned (.plain (OpenSpec.upto naturalRingSpec)) naturalRingUptoCard

/-- THE SECOND FORM's CARD OF 'brepkernellaw01.NaturalQuotient'. -/
def naturalQuotientUptoCard : Claim7 := { stood := { row := naturalQuotientUptoRow, standIns := [], harness := (true, "8ed9355b1c30d8e0b6d7563bd68a8877908e856c86034ce5a0ea187b50d3e663"), looks := false }, kinds := [], alts := [], laidByText := true, laidKinds := [.data, .data, .data], laidTests := true, laidLooks := .later }
def NaturalQuotientUptoCardSaid : Prop := Claim7.holds Tryd.pinned (.plain (OpenSpec.upto naturalQuotientSpec)) naturalQuotientUptoCard

/-- THE SECOND FORM's CARD OF 'brepkernellaw01.NaturalBack'. -/
def naturalBackUptoCard : Claim7 := { stood := { row := naturalBackUptoRow, standIns := [], harness := (true, "8ed9355b1c30d8e0b6d7563bd68a8877908e856c86034ce5a0ea187b50d3e663"), looks := false }, kinds := [], alts := [], laidByText := true, laidKinds := [.data, .data, .data], laidTests := true, laidLooks := .later }
def NaturalBackUptoCardSaid : Prop := Claim7.holds Tryd.pinned (.plain (OpenSpec.upto naturalBackSpec)) naturalBackUptoCard
end Rows
end Go.Proofs.YtijadodleiiomaaDoor
