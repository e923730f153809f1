/-
  DERIVED. GIVEN WITH THE SEED: THE CARDS: each row of YtemmbphdcgdboaaGreatDoorRows.lean that lists a variable, with what it lists TIED to the program's text (the seventh form; the later family's looks); each row that meets fmt, with fmt's text TOLD by the authors' own Lean function (tested against real Go, not proved from fmt's source: count such statements apart). THE CARD IS WHAT COUNTS. Prove the row's statement (the work); the ties are given (YtemmbphdcgdboaaGreatDoorTie.lean); close each card by the builder's one call (the guide's Derived/Test/ToyasCard.lean, 'card_holds'). Laid BY PROGRAM, IN A SANDBOX (cutbox-door.mjs). By AI agents, Wed Nov 11 2026. No macro, syntax, notation, axiom, sorry.
-/
import Derived.Test.YtemmbphdcgdboaaGreatDoorRows
import GoSem.ClaimSeven
namespace Go.Proofs.YtemmbphdcgdboaaGreatDoor
namespace Rows

/-- THE TIED CARD OF 'brepkernellaw03.SpanReads'. -/
def spanReadsCard : Claim7 := { stood := { row := spanReadsRow, standIns := [], harness := (true, "b9c9c60134e01e32b7fb25bfe1646a5f93ed0a6053425b93c1cc5846be7df15d"), looks := false }, kinds := [], alts := [], laidByText := true, laidKinds := [.data, .data], laidTests := true, laidLooks := .later }
def SpanReadsCardSaid : Prop := Claim7.holds Tryz.pinned (.plain (OpenSpec.ofChange spanReadsSpec)) spanReadsCard

/-- THE TIED CARD OF 'brepkernellaw03.SpanRoots'. -/
def spanRootsCard : Claim7 := { stood := { row := spanRootsRow, standIns := [], harness := (true, "b9c9c60134e01e32b7fb25bfe1646a5f93ed0a6053425b93c1cc5846be7df15d"), looks := false }, kinds := [], alts := [], laidByText := true, laidKinds := [.data, .data], laidTests := true, laidLooks := .later }
def SpanRootsCardSaid : Prop := Claim7.holds Tryz.pinned (.plain (OpenSpec.ofChange spanRootsSpec)) spanRootsCard

/-- THE TIED CARD OF 'brepkernellaw03.SpanDets'. -/
def spanDetsCard : Claim7 := { stood := { row := spanDetsRow, standIns := [], harness := (true, "b9c9c60134e01e32b7fb25bfe1646a5f93ed0a6053425b93c1cc5846be7df15d"), looks := false }, kinds := [], alts := [], laidByText := true, laidKinds := [.data, .data], laidTests := true, laidLooks := .later }
def SpanDetsCardSaid : Prop := Claim7.holds Tryz.pinned (.plain (OpenSpec.ofChange spanDetsSpec)) spanDetsCard

/-- THE TIED CARD OF 'brepkernellaw03.SpanContains'. -/
def spanContainsCard : Claim7 := { stood := { row := spanContainsRow, standIns := [], harness := (true, "b9c9c60134e01e32b7fb25bfe1646a5f93ed0a6053425b93c1cc5846be7df15d"), looks := false }, kinds := [], alts := [], laidByText := true, laidKinds := [.data, .data], laidTests := true, laidLooks := .later }
def SpanContainsCardSaid : Prop := Claim7.holds Tryz.pinned (.plain (OpenSpec.ofChange spanContainsSpec)) spanContainsCard

/-- THE TIED CARD OF 'brepkernellaw03.SpanNarrow'. -/
def spanNarrowCard : Claim7 := { stood := { row := spanNarrowRow, standIns := [], harness := (true, "b9c9c60134e01e32b7fb25bfe1646a5f93ed0a6053425b93c1cc5846be7df15d"), looks := false }, kinds := [], alts := [], laidByText := true, laidKinds := [.data, .data], laidTests := true, laidLooks := .later }
def SpanNarrowCardSaid : Prop := Claim7.holds Tryz.pinned (.plain (OpenSpec.ofChange spanNarrowSpec)) spanNarrowCard

/-- THE TIED CARD OF 'brepkernellaw03.SpanRegular'. -/
def spanRegularCard : Claim7 := { stood := { row := spanRegularRow, standIns := [], harness := (true, "b9c9c60134e01e32b7fb25bfe1646a5f93ed0a6053425b93c1cc5846be7df15d"), looks := false }, kinds := [], alts := [], laidByText := true, laidKinds := [.data, .data], laidTests := true, laidLooks := .later }
def SpanRegularCardSaid : Prop := Claim7.holds Tryz.pinned (.plain (OpenSpec.ofChange spanRegularSpec)) spanRegularCard

/-- THE SECOND FORM's CARD OF 'brepkernellaw03.SpanReads'. -/
def spanReadsUptoCard : Claim7 := { stood := { row := spanReadsUptoRow, standIns := [], harness := (true, "b9c9c60134e01e32b7fb25bfe1646a5f93ed0a6053425b93c1cc5846be7df15d"), looks := false }, kinds := [], alts := [], laidByText := true, laidKinds := [.data, .data], laidTests := true, laidLooks := .later }
def SpanReadsUptoCardSaid : Prop := Claim7.holds Tryz.pinned (.plain (OpenSpec.upto spanReadsSpec)) spanReadsUptoCard

/-- THE SECOND FORM's CARD OF 'brepkernellaw03.SpanRoots'. -/
def spanRootsUptoCard : Claim7 := { stood := { row := spanRootsUptoRow, standIns := [], harness := (true, "b9c9c60134e01e32b7fb25bfe1646a5f93ed0a6053425b93c1cc5846be7df15d"), looks := false }, kinds := [], alts := [], laidByText := true, laidKinds := [.data, .data], laidTests := true, laidLooks := .later }
def SpanRootsUptoCardSaid : Prop := Claim7.holds Tryz.pinned (.plain (OpenSpec.upto spanRootsSpec)) spanRootsUptoCard

/-- THE SECOND FORM's CARD OF 'brepkernellaw03.SpanDets'. -/
def spanDetsUptoCard : Claim7 := { stood := { row := spanDetsUptoRow, standIns := [], harness := (true, "b9c9c60134e01e32b7fb25bfe1646a5f93ed0a6053425b93c1cc5846be7df15d"), looks := false }, kinds := [], alts := [], laidByText := true, laidKinds := [.data, .data], laidTests := true, laidLooks := .later }
def SpanDetsUptoCardSaid : Prop := Claim7.holds Tryz.pinned (.plain (OpenSpec.upto spanDetsSpec)) spanDetsUptoCard

/-- THE SECOND FORM's CARD OF 'brepkernellaw03.SpanContains'. -/
def spanContainsUptoCard : Claim7 := { stood := { row := spanContainsUptoRow, standIns := [], harness := (true, "b9c9c60134e01e32b7fb25bfe1646a5f93ed0a6053425b93c1cc5846be7df15d"), looks := false }, kinds := [], alts := [], laidByText := true, laidKinds := [.data, .data], laidTests := true, laidLooks := .later }
def SpanContainsUptoCardSaid : Prop := Claim7.holds Tryz.pinned (.plain (OpenSpec.upto spanContainsSpec)) spanContainsUptoCard

/-- THE SECOND FORM's CARD OF 'brepkernellaw03.SpanNarrow'. -/
def spanNarrowUptoCard : Claim7 := { stood := { row := spanNarrowUptoRow, standIns := [], harness := (true, "b9c9c60134e01e32b7fb25bfe1646a5f93ed0a6053425b93c1cc5846be7df15d"), looks := false }, kinds := [], alts := [], laidByText := true, laidKinds := [.data, .data], laidTests := true, laidLooks := .later }
def SpanNarrowUptoCardSaid : Prop := Claim7.holds Tryz.pinned (.plain (OpenSpec.upto spanNarrowSpec)) spanNarrowUptoCard

/-- THE SECOND FORM's CARD OF 'brepkernellaw03.SpanRegular'. -/
def spanRegularUptoCard : Claim7 := { stood := { row := spanRegularUptoRow, standIns := [], harness := (true, "b9c9c60134e01e32b7fb25bfe1646a5f93ed0a6053425b93c1cc5846be7df15d"), looks := false }, kinds := [], alts := [], laidByText := true, laidKinds := [.data, .data], laidTests := true, laidLooks := .later }
def SpanRegularUptoCardSaid : Prop := Claim7.holds Tryz.pinned (.plain (OpenSpec.upto spanRegularSpec)) spanRegularUptoCard
end Rows
end Go.Proofs.YtemmbphdcgdboaaGreatDoor
