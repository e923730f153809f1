/-
  NARROWER THAN 'FOR EVERY INPUT', by the rows' own cells (each row's printed sentence says how): VectorBoxes: laid · BernsteinReads: laid · BernsteinLong: laid · BernsteinValues: laid · BernsteinHull: laid · BernsteinSigns: laid.
  DERIVED. THE GIVEN ROWS OF THIS SEAT. 6 by the template 'for every input the law returns true; each argument reads behind the call as it read before'; 0 by the template 'total and deterministic' (their statements: YtnkobfcnflphkaaGreatDoorTotals.lean).
  GIVEN WITH THE SEED: the statements are not yours to turn. If you find one false, say at which input.
  Laid BY PROGRAM, IN A SANDBOX (cutbox-rows.mjs): the forced cells as the released guide's own fill.sh prints them over the translation 760fa3a637f4d367… (all of the seat's roots in one cut). By AI agents, Wed Nov 11 2026. No macro, syntax, notation, axiom, sorry.
-/
import Derived.Test.YtnkobfcnflphkaaGreatDoorChecked
import GoSem.Claim
import GoSem.ClaimJoined
import GoSem.ClaimMapViews
import Derived.JoinedTies
import Derived.KernelRfl
namespace Go.Proofs.YtnkobfcnflphkaaGreatDoor
/- THE CELL 'sum', in the pinned program and in every row, IS THE sha256 OF THE DUMP (.gsa) THAT YtnkobfcnflphkaaGreatDoorProg.lean LOADS. Nothing in Lean hashes anything: it is a label: what it is worth is what the hold of that sum in a sandbox is worth. -/
noncomputable def Tryz.pinned : Pinned := { name := "ytnkobfcnflphkaagreatdoor", sum := "760fa3a637f4d36794ece5ab3dfadf7e5b7df98d4396cb7f63cd7f95011aef80", checked := Tryz.checked }
namespace Rows
def none {H : Type} : Left H := { results := [], args := [] }

/- WHAT THE LISTED PACKAGE-LEVEL VARIABLES READ AS WHEN THE CALL BEGINS. Each datum BY PROGRAM (the guide's laid-datum.mjs) off the statement by which the dump's own 'gosem.cut.vars' lays the variable. In a bare row this is a premise. The card (YtnkobfcnflphkaaGreatDoorCards.lean) ties it to the program's text. -/
def laid_math_bits_deBruijn32tab {H : Type} : DataW H := .agg [.lit (.int .u8 0), .lit (.int .u8 1), .lit (.int .u8 28), .lit (.int .u8 2), .lit (.int .u8 29), .lit (.int .u8 14), .lit (.int .u8 24), .lit (.int .u8 3), .lit (.int .u8 30), .lit (.int .u8 22), .lit (.int .u8 20), .lit (.int .u8 15), .lit (.int .u8 25), .lit (.int .u8 17), .lit (.int .u8 4), .lit (.int .u8 8), .lit (.int .u8 31), .lit (.int .u8 27), .lit (.int .u8 13), .lit (.int .u8 23), .lit (.int .u8 21), .lit (.int .u8 19), .lit (.int .u8 16), .lit (.int .u8 7), .lit (.int .u8 26), .lit (.int .u8 12), .lit (.int .u8 18), .lit (.int .u8 6), .lit (.int .u8 11), .lit (.int .u8 5), .lit (.int .u8 10), .lit (.int .u8 9)]
def laid_math_bits_deBruijn64tab {H : Type} : DataW H := .agg [.lit (.int .u8 0), .lit (.int .u8 1), .lit (.int .u8 56), .lit (.int .u8 2), .lit (.int .u8 57), .lit (.int .u8 49), .lit (.int .u8 28), .lit (.int .u8 3), .lit (.int .u8 61), .lit (.int .u8 58), .lit (.int .u8 42), .lit (.int .u8 50), .lit (.int .u8 38), .lit (.int .u8 29), .lit (.int .u8 17), .lit (.int .u8 4), .lit (.int .u8 62), .lit (.int .u8 47), .lit (.int .u8 59), .lit (.int .u8 36), .lit (.int .u8 45), .lit (.int .u8 43), .lit (.int .u8 51), .lit (.int .u8 22), .lit (.int .u8 53), .lit (.int .u8 39), .lit (.int .u8 33), .lit (.int .u8 30), .lit (.int .u8 24), .lit (.int .u8 18), .lit (.int .u8 12), .lit (.int .u8 5), .lit (.int .u8 63), .lit (.int .u8 55), .lit (.int .u8 48), .lit (.int .u8 27), .lit (.int .u8 60), .lit (.int .u8 41), .lit (.int .u8 37), .lit (.int .u8 16), .lit (.int .u8 46), .lit (.int .u8 35), .lit (.int .u8 44), .lit (.int .u8 21), .lit (.int .u8 52), .lit (.int .u8 32), .lit (.int .u8 23), .lit (.int .u8 11), .lit (.int .u8 54), .lit (.int .u8 26), .lit (.int .u8 40), .lit (.int .u8 15), .lit (.int .u8 34), .lit (.int .u8 20), .lit (.int .u8 31), .lit (.int .u8 10), .lit (.int .u8 25), .lit (.int .u8 14), .lit (.int .u8 19), .lit (.int .u8 9), .lit (.int .u8 13), .lit (.int .u8 8), .lit (.int .u8 7), .lit (.int .u8 6)]

/-- 'brepkernellaw04.VectorBoxes': WHATEVER THE INPUT: true; the input reads as it did. -/
def vectorBoxesSpec : ChangeSpec := { name := "vectorBoxes", fn := fun _ => fun
  | [d1, d2] => { results := [.lit (.bool true)], args := [d1, d2] }
  | _ => none }
def vectorBoxesRow : OpenClaim := { program := "ytnkobfcnflphkaagreatdoor", sum := "760fa3a637f4d36794ece5ab3dfadf7e5b7df98d4396cb7f63cd7f95011aef80", func := "brepkernel/brepkernellaw04.VectorBoxes", spec := "vectorBoxes", inPlace := ["math/bits.Add64"], unfollowed := true, recurses := true, named := ["math/bits.deBruijn64tab", "math/bits.deBruijn32tab", "math/bits.divideError", "math/bits.overflowError"], apart := false, laid := [("math/bits.deBruijn32tab", laid_math_bits_deBruijn32tab), ("math/bits.deBruijn64tab", laid_math_bits_deBruijn64tab)] }
def VectorBoxesSaid : Prop := vectorBoxesRow.holds Tryz.pinned (OpenSpec.ofChange vectorBoxesSpec)

/-- ITS FALSE NEIGHBOUR: 'it returns false'. Refute it at one input. -/
def vectorBoxesWrong : ChangeSpec := { name := "vectorBoxes", fn := fun _ => fun
  | [d1, d2] => { results := [.lit (.bool false)], args := [d1, d2] }
  | _ => none }
def VectorBoxesWrongFalsely : Prop := vectorBoxesRow.holds Tryz.pinned (OpenSpec.ofChange vectorBoxesWrong)

/-- 'brepkernellaw05.BernsteinReads': WHATEVER THE INPUT: true; the input reads as it did. -/
def bernsteinReadsSpec : ChangeSpec := { name := "bernsteinReads", fn := fun _ => fun
  | [d1, d2] => { results := [.lit (.bool true)], args := [d1, d2] }
  | _ => none }
def bernsteinReadsRow : OpenClaim := { program := "ytnkobfcnflphkaagreatdoor", sum := "760fa3a637f4d36794ece5ab3dfadf7e5b7df98d4396cb7f63cd7f95011aef80", func := "brepkernel/brepkernellaw05.BernsteinReads", spec := "bernsteinReads", inPlace := ["math/bits.Add64"], unfollowed := true, recurses := true, named := ["math/bits.deBruijn64tab", "math/bits.deBruijn32tab", "math/bits.divideError", "math/bits.overflowError"], apart := false, laid := [("math/bits.deBruijn32tab", laid_math_bits_deBruijn32tab), ("math/bits.deBruijn64tab", laid_math_bits_deBruijn64tab)] }
def BernsteinReadsSaid : Prop := bernsteinReadsRow.holds Tryz.pinned (OpenSpec.ofChange bernsteinReadsSpec)

/-- ITS FALSE NEIGHBOUR: 'it returns false'. Refute it at one input. -/
def bernsteinReadsWrong : ChangeSpec := { name := "bernsteinReads", fn := fun _ => fun
  | [d1, d2] => { results := [.lit (.bool false)], args := [d1, d2] }
  | _ => none }
def BernsteinReadsWrongFalsely : Prop := bernsteinReadsRow.holds Tryz.pinned (OpenSpec.ofChange bernsteinReadsWrong)

/-- 'brepkernellaw05.BernsteinLong': WHATEVER THE INPUT: true; the input reads as it did. -/
def bernsteinLongSpec : ChangeSpec := { name := "bernsteinLong", fn := fun _ => fun
  | [d1, d2] => { results := [.lit (.bool true)], args := [d1, d2] }
  | _ => none }
def bernsteinLongRow : OpenClaim := { program := "ytnkobfcnflphkaagreatdoor", sum := "760fa3a637f4d36794ece5ab3dfadf7e5b7df98d4396cb7f63cd7f95011aef80", func := "brepkernel/brepkernellaw05.BernsteinLong", spec := "bernsteinLong", inPlace := ["math/bits.Add64"], unfollowed := true, recurses := true, named := ["math/bits.deBruijn64tab", "math/bits.deBruijn32tab", "math/bits.divideError", "math/bits.overflowError"], apart := false, laid := [("math/bits.deBruijn32tab", laid_math_bits_deBruijn32tab), ("math/bits.deBruijn64tab", laid_math_bits_deBruijn64tab)] }
def BernsteinLongSaid : Prop := bernsteinLongRow.holds Tryz.pinned (OpenSpec.ofChange bernsteinLongSpec)

/-- ITS FALSE NEIGHBOUR: 'it returns false'. Refute it at one input. -/
def bernsteinLongWrong : ChangeSpec := { name := "bernsteinLong", fn := fun _ => fun
  | [d1, d2] => { results := [.lit (.bool false)], args := [d1, d2] }
  | _ => none }
def BernsteinLongWrongFalsely : Prop := bernsteinLongRow.holds Tryz.pinned (OpenSpec.ofChange bernsteinLongWrong)

/-- 'brepkernellaw05.BernsteinValues': WHATEVER THE INPUT: true; the input reads as it did. -/
def bernsteinValuesSpec : ChangeSpec := { name := "bernsteinValues", fn := fun _ => fun
  | [d1, d2, d3] => { results := [.lit (.bool true)], args := [d1, d2, d3] }
  | _ => none }
def bernsteinValuesRow : OpenClaim := { program := "ytnkobfcnflphkaagreatdoor", sum := "760fa3a637f4d36794ece5ab3dfadf7e5b7df98d4396cb7f63cd7f95011aef80", func := "brepkernel/brepkernellaw05.BernsteinValues", spec := "bernsteinValues", inPlace := ["math/bits.Add64"], unfollowed := true, recurses := true, named := ["math/bits.deBruijn64tab", "math/bits.deBruijn32tab", "math/bits.divideError", "math/bits.overflowError"], apart := false, laid := [("math/bits.deBruijn32tab", laid_math_bits_deBruijn32tab), ("math/bits.deBruijn64tab", laid_math_bits_deBruijn64tab)] }
def BernsteinValuesSaid : Prop := bernsteinValuesRow.holds Tryz.pinned (OpenSpec.ofChange bernsteinValuesSpec)

/-- ITS FALSE NEIGHBOUR: 'it returns false'. Refute it at one input. -/
def bernsteinValuesWrong : ChangeSpec := { name := "bernsteinValues", fn := fun _ => fun
  | [d1, d2, d3] => { results := [.lit (.bool false)], args := [d1, d2, d3] }
  | _ => none }
def BernsteinValuesWrongFalsely : Prop := bernsteinValuesRow.holds Tryz.pinned (OpenSpec.ofChange bernsteinValuesWrong)

/-- 'brepkernellaw05.BernsteinHull': WHATEVER THE INPUT: true; the input reads as it did. -/
def bernsteinHullSpec : ChangeSpec := { name := "bernsteinHull", fn := fun _ => fun
  | [d1, d2, d3] => { results := [.lit (.bool true)], args := [d1, d2, d3] }
  | _ => none }
def bernsteinHullRow : OpenClaim := { program := "ytnkobfcnflphkaagreatdoor", sum := "760fa3a637f4d36794ece5ab3dfadf7e5b7df98d4396cb7f63cd7f95011aef80", func := "brepkernel/brepkernellaw05.BernsteinHull", spec := "bernsteinHull", inPlace := ["math/bits.Add64"], unfollowed := true, recurses := true, named := ["math/bits.deBruijn64tab", "math/bits.deBruijn32tab", "math/bits.divideError", "math/bits.overflowError"], apart := false, laid := [("math/bits.deBruijn32tab", laid_math_bits_deBruijn32tab), ("math/bits.deBruijn64tab", laid_math_bits_deBruijn64tab)] }
def BernsteinHullSaid : Prop := bernsteinHullRow.holds Tryz.pinned (OpenSpec.ofChange bernsteinHullSpec)

/-- ITS FALSE NEIGHBOUR: 'it returns false'. Refute it at one input. -/
def bernsteinHullWrong : ChangeSpec := { name := "bernsteinHull", fn := fun _ => fun
  | [d1, d2, d3] => { results := [.lit (.bool false)], args := [d1, d2, d3] }
  | _ => none }
def BernsteinHullWrongFalsely : Prop := bernsteinHullRow.holds Tryz.pinned (OpenSpec.ofChange bernsteinHullWrong)

/-- 'brepkernellaw05.BernsteinSigns': WHATEVER THE INPUT: true; the input reads as it did. -/
def bernsteinSignsSpec : ChangeSpec := { name := "bernsteinSigns", fn := fun _ => fun
  | [d1, d2] => { results := [.lit (.bool true)], args := [d1, d2] }
  | _ => none }
def bernsteinSignsRow : OpenClaim := { program := "ytnkobfcnflphkaagreatdoor", sum := "760fa3a637f4d36794ece5ab3dfadf7e5b7df98d4396cb7f63cd7f95011aef80", func := "brepkernel/brepkernellaw05.BernsteinSigns", spec := "bernsteinSigns", inPlace := ["math/bits.Add64"], unfollowed := true, recurses := true, named := ["math/bits.deBruijn64tab", "math/bits.deBruijn32tab", "math/bits.divideError", "math/bits.overflowError"], apart := false, laid := [("math/bits.deBruijn32tab", laid_math_bits_deBruijn32tab), ("math/bits.deBruijn64tab", laid_math_bits_deBruijn64tab)] }
def BernsteinSignsSaid : Prop := bernsteinSignsRow.holds Tryz.pinned (OpenSpec.ofChange bernsteinSignsSpec)

/-- ITS FALSE NEIGHBOUR: 'it returns false'. Refute it at one input. -/
def bernsteinSignsWrong : ChangeSpec := { name := "bernsteinSigns", fn := fun _ => fun
  | [d1, d2] => { results := [.lit (.bool false)], args := [d1, d2] }
  | _ => none }
def BernsteinSignsWrongFalsely : Prop := bernsteinSignsRow.holds Tryz.pinned (OpenSpec.ofChange bernsteinSignsWrong)

/- THE SECOND FORM. 'bulk': how many values and letters a reading holds, each counted each time it is reached (what is shared counts as often as it is met; a slice's spare places count too). A statement '..UptoSaid' is the law's where the arguments, and the package variables that the reading takes, are together of bulk at most 1048576: NARROWER than '..Said'. Prove '..Said' where nothing that the law and all that it calls make is longer than what came in: it says more and counts as full. Else prove '..UptoSaid'. A law counts once. -/
mutual
def uptoBulk {H : Type} : DataW H → Nat
  | .lit (.string bytes) => bytes.length + 1
  | .lit _ => 1
  | .nil => 1
  | .ptr d => uptoBulk d + 1
  | .slice elems spare => uptoBulkAll elems + uptoBulkAll spare + 1
  | .agg parts => uptoBulkAll parts + 1
  | .iface _ d => uptoBulk d + 1
  | .map entries => uptoBulkEntries entries + 1
  | .held _ => 1
def uptoBulkAll {H : Type} : List (DataW H) → Nat
  | [] => 0
  | d :: r => uptoBulk d + uptoBulkAll r
def uptoBulkEntries {H : Type} : List (Lit × DataW H) → Nat
  | [] => 0
  | x :: r => uptoBulkEntry x + uptoBulkEntries r
def uptoBulkEntry {H : Type} : Lit × DataW H → Nat
  | (.string bytes, d) => bytes.length + uptoBulk d + 1
  | (_, d) => uptoBulk d + 1
 end
def uptoSmall : (H : Type) → List (DataW H) → Bool := fun _ ds => decide (uptoBulkAll ds ≤ 1048576)
def OpenSpec.upto (s : _root_.Go.ChangeSpec) : _root_.Go.OpenSpec := { _root_.Go.OpenSpec.ofChange s with cond := some uptoSmall }

/-- 'brepkernellaw04.VectorBoxes', WHERE WHAT IT READS IS OF BULK AT MOST 1048576: true; the input reads as it did. -/
def vectorBoxesUptoRow : OpenClaim := { program := "ytnkobfcnflphkaagreatdoor", sum := "760fa3a637f4d36794ece5ab3dfadf7e5b7df98d4396cb7f63cd7f95011aef80", func := "brepkernel/brepkernellaw04.VectorBoxes", spec := "vectorBoxes", inPlace := ["math/bits.Add64"], unfollowed := true, recurses := true, named := ["math/bits.deBruijn64tab", "math/bits.deBruijn32tab", "math/bits.divideError", "math/bits.overflowError"], apart := false, laid := [("math/bits.deBruijn32tab", laid_math_bits_deBruijn32tab), ("math/bits.deBruijn64tab", laid_math_bits_deBruijn64tab)], narrowed := true }
def VectorBoxesUptoSaid : Prop := vectorBoxesUptoRow.holds Tryz.pinned (OpenSpec.upto vectorBoxesSpec)

/-- 'brepkernellaw05.BernsteinReads', WHERE WHAT IT READS IS OF BULK AT MOST 1048576: true; the input reads as it did. -/
def bernsteinReadsUptoRow : OpenClaim := { program := "ytnkobfcnflphkaagreatdoor", sum := "760fa3a637f4d36794ece5ab3dfadf7e5b7df98d4396cb7f63cd7f95011aef80", func := "brepkernel/brepkernellaw05.BernsteinReads", spec := "bernsteinReads", inPlace := ["math/bits.Add64"], unfollowed := true, recurses := true, named := ["math/bits.deBruijn64tab", "math/bits.deBruijn32tab", "math/bits.divideError", "math/bits.overflowError"], apart := false, laid := [("math/bits.deBruijn32tab", laid_math_bits_deBruijn32tab), ("math/bits.deBruijn64tab", laid_math_bits_deBruijn64tab)], narrowed := true }
def BernsteinReadsUptoSaid : Prop := bernsteinReadsUptoRow.holds Tryz.pinned (OpenSpec.upto bernsteinReadsSpec)

/-- 'brepkernellaw05.BernsteinLong', WHERE WHAT IT READS IS OF BULK AT MOST 1048576: true; the input reads as it did. -/
def bernsteinLongUptoRow : OpenClaim := { program := "ytnkobfcnflphkaagreatdoor", sum := "760fa3a637f4d36794ece5ab3dfadf7e5b7df98d4396cb7f63cd7f95011aef80", func := "brepkernel/brepkernellaw05.BernsteinLong", spec := "bernsteinLong", inPlace := ["math/bits.Add64"], unfollowed := true, recurses := true, named := ["math/bits.deBruijn64tab", "math/bits.deBruijn32tab", "math/bits.divideError", "math/bits.overflowError"], apart := false, laid := [("math/bits.deBruijn32tab", laid_math_bits_deBruijn32tab), ("math/bits.deBruijn64tab", laid_math_bits_deBruijn64tab)], narrowed := true }
def BernsteinLongUptoSaid : Prop := bernsteinLongUptoRow.holds Tryz.pinned (OpenSpec.upto bernsteinLongSpec)

/-- 'brepkernellaw05.BernsteinValues', WHERE WHAT IT READS IS OF BULK AT MOST 1048576: true; the input reads as it did. -/
def bernsteinValuesUptoRow : OpenClaim := { program := "ytnkobfcnflphkaagreatdoor", sum := "760fa3a637f4d36794ece5ab3dfadf7e5b7df98d4396cb7f63cd7f95011aef80", func := "brepkernel/brepkernellaw05.BernsteinValues", spec := "bernsteinValues", inPlace := ["math/bits.Add64"], unfollowed := true, recurses := true, named := ["math/bits.deBruijn64tab", "math/bits.deBruijn32tab", "math/bits.divideError", "math/bits.overflowError"], apart := false, laid := [("math/bits.deBruijn32tab", laid_math_bits_deBruijn32tab), ("math/bits.deBruijn64tab", laid_math_bits_deBruijn64tab)], narrowed := true }
def BernsteinValuesUptoSaid : Prop := bernsteinValuesUptoRow.holds Tryz.pinned (OpenSpec.upto bernsteinValuesSpec)

/-- 'brepkernellaw05.BernsteinHull', WHERE WHAT IT READS IS OF BULK AT MOST 1048576: true; the input reads as it did. -/
def bernsteinHullUptoRow : OpenClaim := { program := "ytnkobfcnflphkaagreatdoor", sum := "760fa3a637f4d36794ece5ab3dfadf7e5b7df98d4396cb7f63cd7f95011aef80", func := "brepkernel/brepkernellaw05.BernsteinHull", spec := "bernsteinHull", inPlace := ["math/bits.Add64"], unfollowed := true, recurses := true, named := ["math/bits.deBruijn64tab", "math/bits.deBruijn32tab", "math/bits.divideError", "math/bits.overflowError"], apart := false, laid := [("math/bits.deBruijn32tab", laid_math_bits_deBruijn32tab), ("math/bits.deBruijn64tab", laid_math_bits_deBruijn64tab)], narrowed := true }
def BernsteinHullUptoSaid : Prop := bernsteinHullUptoRow.holds Tryz.pinned (OpenSpec.upto bernsteinHullSpec)

/-- 'brepkernellaw05.BernsteinSigns', WHERE WHAT IT READS IS OF BULK AT MOST 1048576: true; the input reads as it did. -/
def bernsteinSignsUptoRow : OpenClaim := { program := "ytnkobfcnflphkaagreatdoor", sum := "760fa3a637f4d36794ece5ab3dfadf7e5b7df98d4396cb7f63cd7f95011aef80", func := "brepkernel/brepkernellaw05.BernsteinSigns", spec := "bernsteinSigns", inPlace := ["math/bits.Add64"], unfollowed := true, recurses := true, named := ["math/bits.deBruijn64tab", "math/bits.deBruijn32tab", "math/bits.divideError", "math/bits.overflowError"], apart := false, laid := [("math/bits.deBruijn32tab", laid_math_bits_deBruijn32tab), ("math/bits.deBruijn64tab", laid_math_bits_deBruijn64tab)], narrowed := true }
def BernsteinSignsUptoSaid : Prop := bernsteinSignsUptoRow.holds Tryz.pinned (OpenSpec.upto bernsteinSignsSpec)

end Rows
end Go.Proofs.YtnkobfcnflphkaaGreatDoor
