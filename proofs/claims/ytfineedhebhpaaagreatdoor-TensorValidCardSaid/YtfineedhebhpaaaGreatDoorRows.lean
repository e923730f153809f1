/-
  NARROWER THAN 'FOR EVERY INPUT', by the rows' own cells (each row's printed sentence says how): TensorValid: laid · TensorParts: laid · TensorSums: laid · TensorLong: laid · TensorValues: laid · TensorHull: laid · KnotsReads: laid · KnotsStay: laid.
  DERIVED. THE GIVEN ROWS OF THIS SEAT. 8 by the template 'for every input the law returns true; each argument reads behind the call as it read before'; 0 by the template 'total and deterministic' (their statements: YtfineedhebhpaaaGreatDoorTotals.lean).
  GIVEN WITH THE SEED: the statements are not yours to turn. If you find one false, say at which input.
  Laid BY PROGRAM, IN A SANDBOX (cutbox-rows.mjs): the forced cells as the released guide's own fill.sh prints them over the translation d92e48ad73c37076… (all of the seat's roots in one cut). By AI agents, Wed Nov 11 2026. No macro, syntax, notation, axiom, sorry.
-/
import Derived.Test.YtfineedhebhpaaaGreatDoorChecked
import GoSem.Claim
import GoSem.ClaimJoined
import GoSem.ClaimMapViews
import Derived.JoinedTies
import Derived.KernelRfl
namespace Go.Proofs.YtfineedhebhpaaaGreatDoor
/- THE CELL 'sum', in the pinned program and in every row, IS THE sha256 OF THE DUMP (.gsa) THAT YtfineedhebhpaaaGreatDoorProg.lean LOADS. Nothing in Lean hashes anything: it is a label: what it is worth is what the hold of that sum in a sandbox is worth. -/
noncomputable def Tryz.pinned : Pinned := { name := "ytfineedhebhpaaagreatdoor", sum := "d92e48ad73c37076f3f1fe3bc155cfc304fa3a7488801a395a7e66fbb43b1a09", checked := Tryz.checked }
namespace Rows
def none {H : Type} : Left H := { results := [], args := [] }

/- WHAT THE LISTED PACKAGE-LEVEL VARIABLES READ AS WHEN THE CALL BEGINS. Each datum BY PROGRAM (the guide's laid-datum.mjs) off the statement by which the dump's own 'gosem.cut.vars' lays the variable. In a bare row this is a premise. The card (YtfineedhebhpaaaGreatDoorCards.lean) ties it to the program's text. -/
def laid_math_bits_deBruijn32tab {H : Type} : DataW H := .agg [.lit (.int .u8 0), .lit (.int .u8 1), .lit (.int .u8 28), .lit (.int .u8 2), .lit (.int .u8 29), .lit (.int .u8 14), .lit (.int .u8 24), .lit (.int .u8 3), .lit (.int .u8 30), .lit (.int .u8 22), .lit (.int .u8 20), .lit (.int .u8 15), .lit (.int .u8 25), .lit (.int .u8 17), .lit (.int .u8 4), .lit (.int .u8 8), .lit (.int .u8 31), .lit (.int .u8 27), .lit (.int .u8 13), .lit (.int .u8 23), .lit (.int .u8 21), .lit (.int .u8 19), .lit (.int .u8 16), .lit (.int .u8 7), .lit (.int .u8 26), .lit (.int .u8 12), .lit (.int .u8 18), .lit (.int .u8 6), .lit (.int .u8 11), .lit (.int .u8 5), .lit (.int .u8 10), .lit (.int .u8 9)]
def laid_math_bits_deBruijn64tab {H : Type} : DataW H := .agg [.lit (.int .u8 0), .lit (.int .u8 1), .lit (.int .u8 56), .lit (.int .u8 2), .lit (.int .u8 57), .lit (.int .u8 49), .lit (.int .u8 28), .lit (.int .u8 3), .lit (.int .u8 61), .lit (.int .u8 58), .lit (.int .u8 42), .lit (.int .u8 50), .lit (.int .u8 38), .lit (.int .u8 29), .lit (.int .u8 17), .lit (.int .u8 4), .lit (.int .u8 62), .lit (.int .u8 47), .lit (.int .u8 59), .lit (.int .u8 36), .lit (.int .u8 45), .lit (.int .u8 43), .lit (.int .u8 51), .lit (.int .u8 22), .lit (.int .u8 53), .lit (.int .u8 39), .lit (.int .u8 33), .lit (.int .u8 30), .lit (.int .u8 24), .lit (.int .u8 18), .lit (.int .u8 12), .lit (.int .u8 5), .lit (.int .u8 63), .lit (.int .u8 55), .lit (.int .u8 48), .lit (.int .u8 27), .lit (.int .u8 60), .lit (.int .u8 41), .lit (.int .u8 37), .lit (.int .u8 16), .lit (.int .u8 46), .lit (.int .u8 35), .lit (.int .u8 44), .lit (.int .u8 21), .lit (.int .u8 52), .lit (.int .u8 32), .lit (.int .u8 23), .lit (.int .u8 11), .lit (.int .u8 54), .lit (.int .u8 26), .lit (.int .u8 40), .lit (.int .u8 15), .lit (.int .u8 34), .lit (.int .u8 20), .lit (.int .u8 31), .lit (.int .u8 10), .lit (.int .u8 25), .lit (.int .u8 14), .lit (.int .u8 19), .lit (.int .u8 9), .lit (.int .u8 13), .lit (.int .u8 8), .lit (.int .u8 7), .lit (.int .u8 6)]

/-- 'brepkernellaw07.TensorValid': WHATEVER THE INPUT: true; the input reads as it did. -/
def tensorValidSpec : ChangeSpec := { name := "tensorValid", fn := fun _ => fun
  | [d1, d2, d3] => { results := [.lit (.bool true)], args := [d1, d2, d3] }
  | _ => none }
def tensorValidRow : OpenClaim := { program := "ytfineedhebhpaaagreatdoor", sum := "d92e48ad73c37076f3f1fe3bc155cfc304fa3a7488801a395a7e66fbb43b1a09", func := "brepkernel/brepkernellaw07.TensorValid", spec := "tensorValid", inPlace := ["math/bits.Add64"], unfollowed := true, recurses := true, named := ["math/bits.deBruijn64tab", "math/bits.deBruijn32tab", "math/bits.divideError", "math/bits.overflowError"], apart := false, laid := [("math/bits.deBruijn32tab", laid_math_bits_deBruijn32tab), ("math/bits.deBruijn64tab", laid_math_bits_deBruijn64tab)] }
def TensorValidSaid : Prop := tensorValidRow.holds Tryz.pinned (OpenSpec.ofChange tensorValidSpec)

/-- ITS FALSE NEIGHBOUR: 'it returns false'. Refute it at one input. -/
def tensorValidWrong : ChangeSpec := { name := "tensorValid", fn := fun _ => fun
  | [d1, d2, d3] => { results := [.lit (.bool false)], args := [d1, d2, d3] }
  | _ => none }
def TensorValidWrongFalsely : Prop := tensorValidRow.holds Tryz.pinned (OpenSpec.ofChange tensorValidWrong)

/-- 'brepkernellaw07.TensorParts': WHATEVER THE INPUT: true; the input reads as it did. -/
def tensorPartsSpec : ChangeSpec := { name := "tensorParts", fn := fun _ => fun
  | [d1, d2, d3, d4] => { results := [.lit (.bool true)], args := [d1, d2, d3, d4] }
  | _ => none }
def tensorPartsRow : OpenClaim := { program := "ytfineedhebhpaaagreatdoor", sum := "d92e48ad73c37076f3f1fe3bc155cfc304fa3a7488801a395a7e66fbb43b1a09", func := "brepkernel/brepkernellaw07.TensorParts", spec := "tensorParts", inPlace := ["math/bits.Add64"], unfollowed := true, recurses := true, named := ["math/bits.deBruijn64tab", "math/bits.deBruijn32tab", "math/bits.divideError", "math/bits.overflowError"], apart := false, laid := [("math/bits.deBruijn32tab", laid_math_bits_deBruijn32tab), ("math/bits.deBruijn64tab", laid_math_bits_deBruijn64tab)] }
def TensorPartsSaid : Prop := tensorPartsRow.holds Tryz.pinned (OpenSpec.ofChange tensorPartsSpec)

/-- ITS FALSE NEIGHBOUR: 'it returns false'. Refute it at one input. -/
def tensorPartsWrong : ChangeSpec := { name := "tensorParts", fn := fun _ => fun
  | [d1, d2, d3, d4] => { results := [.lit (.bool false)], args := [d1, d2, d3, d4] }
  | _ => none }
def TensorPartsWrongFalsely : Prop := tensorPartsRow.holds Tryz.pinned (OpenSpec.ofChange tensorPartsWrong)

/-- 'brepkernellaw07.TensorSums': WHATEVER THE INPUT: true; the input reads as it did. -/
def tensorSumsSpec : ChangeSpec := { name := "tensorSums", fn := fun _ => fun
  | [d1, d2, d3, d4] => { results := [.lit (.bool true)], args := [d1, d2, d3, d4] }
  | _ => none }
def tensorSumsRow : OpenClaim := { program := "ytfineedhebhpaaagreatdoor", sum := "d92e48ad73c37076f3f1fe3bc155cfc304fa3a7488801a395a7e66fbb43b1a09", func := "brepkernel/brepkernellaw07.TensorSums", spec := "tensorSums", inPlace := ["math/bits.Add64"], unfollowed := true, recurses := true, named := ["math/bits.deBruijn64tab", "math/bits.deBruijn32tab", "math/bits.divideError", "math/bits.overflowError"], apart := false, laid := [("math/bits.deBruijn32tab", laid_math_bits_deBruijn32tab), ("math/bits.deBruijn64tab", laid_math_bits_deBruijn64tab)] }
def TensorSumsSaid : Prop := tensorSumsRow.holds Tryz.pinned (OpenSpec.ofChange tensorSumsSpec)

/-- ITS FALSE NEIGHBOUR: 'it returns false'. Refute it at one input. -/
def tensorSumsWrong : ChangeSpec := { name := "tensorSums", fn := fun _ => fun
  | [d1, d2, d3, d4] => { results := [.lit (.bool false)], args := [d1, d2, d3, d4] }
  | _ => none }
def TensorSumsWrongFalsely : Prop := tensorSumsRow.holds Tryz.pinned (OpenSpec.ofChange tensorSumsWrong)

/-- 'brepkernellaw07.TensorLong': WHATEVER THE INPUT: true; the input reads as it did. -/
def tensorLongSpec : ChangeSpec := { name := "tensorLong", fn := fun _ => fun
  | [d1, d2] => { results := [.lit (.bool true)], args := [d1, d2] }
  | _ => none }
def tensorLongRow : OpenClaim := { program := "ytfineedhebhpaaagreatdoor", sum := "d92e48ad73c37076f3f1fe3bc155cfc304fa3a7488801a395a7e66fbb43b1a09", func := "brepkernel/brepkernellaw07.TensorLong", spec := "tensorLong", inPlace := ["math/bits.Add64"], unfollowed := true, recurses := true, named := ["math/bits.deBruijn64tab", "math/bits.deBruijn32tab", "math/bits.divideError", "math/bits.overflowError"], apart := false, laid := [("math/bits.deBruijn32tab", laid_math_bits_deBruijn32tab), ("math/bits.deBruijn64tab", laid_math_bits_deBruijn64tab)] }
def TensorLongSaid : Prop := tensorLongRow.holds Tryz.pinned (OpenSpec.ofChange tensorLongSpec)

/-- ITS FALSE NEIGHBOUR: 'it returns false'. Refute it at one input. -/
def tensorLongWrong : ChangeSpec := { name := "tensorLong", fn := fun _ => fun
  | [d1, d2] => { results := [.lit (.bool false)], args := [d1, d2] }
  | _ => none }
def TensorLongWrongFalsely : Prop := tensorLongRow.holds Tryz.pinned (OpenSpec.ofChange tensorLongWrong)

/-- 'brepkernellaw07.TensorValues': WHATEVER THE INPUT: true; the input reads as it did. -/
def tensorValuesSpec : ChangeSpec := { name := "tensorValues", fn := fun _ => fun
  | [d1, d2, d3, d4] => { results := [.lit (.bool true)], args := [d1, d2, d3, d4] }
  | _ => none }
def tensorValuesRow : OpenClaim := { program := "ytfineedhebhpaaagreatdoor", sum := "d92e48ad73c37076f3f1fe3bc155cfc304fa3a7488801a395a7e66fbb43b1a09", func := "brepkernel/brepkernellaw07.TensorValues", spec := "tensorValues", inPlace := ["math/bits.Add64"], unfollowed := true, recurses := true, named := ["math/bits.deBruijn64tab", "math/bits.deBruijn32tab", "math/bits.divideError", "math/bits.overflowError"], apart := false, laid := [("math/bits.deBruijn32tab", laid_math_bits_deBruijn32tab), ("math/bits.deBruijn64tab", laid_math_bits_deBruijn64tab)] }
def TensorValuesSaid : Prop := tensorValuesRow.holds Tryz.pinned (OpenSpec.ofChange tensorValuesSpec)

/-- ITS FALSE NEIGHBOUR: 'it returns false'. Refute it at one input. -/
def tensorValuesWrong : ChangeSpec := { name := "tensorValues", fn := fun _ => fun
  | [d1, d2, d3, d4] => { results := [.lit (.bool false)], args := [d1, d2, d3, d4] }
  | _ => none }
def TensorValuesWrongFalsely : Prop := tensorValuesRow.holds Tryz.pinned (OpenSpec.ofChange tensorValuesWrong)

/-- 'brepkernellaw07.TensorHull': WHATEVER THE INPUT: true; the input reads as it did. -/
def tensorHullSpec : ChangeSpec := { name := "tensorHull", fn := fun _ => fun
  | [d1, d2, d3, d4] => { results := [.lit (.bool true)], args := [d1, d2, d3, d4] }
  | _ => none }
def tensorHullRow : OpenClaim := { program := "ytfineedhebhpaaagreatdoor", sum := "d92e48ad73c37076f3f1fe3bc155cfc304fa3a7488801a395a7e66fbb43b1a09", func := "brepkernel/brepkernellaw07.TensorHull", spec := "tensorHull", inPlace := ["math/bits.Add64"], unfollowed := true, recurses := true, named := ["math/bits.deBruijn64tab", "math/bits.deBruijn32tab", "math/bits.divideError", "math/bits.overflowError"], apart := false, laid := [("math/bits.deBruijn32tab", laid_math_bits_deBruijn32tab), ("math/bits.deBruijn64tab", laid_math_bits_deBruijn64tab)] }
def TensorHullSaid : Prop := tensorHullRow.holds Tryz.pinned (OpenSpec.ofChange tensorHullSpec)

/-- ITS FALSE NEIGHBOUR: 'it returns false'. Refute it at one input. -/
def tensorHullWrong : ChangeSpec := { name := "tensorHull", fn := fun _ => fun
  | [d1, d2, d3, d4] => { results := [.lit (.bool false)], args := [d1, d2, d3, d4] }
  | _ => none }
def TensorHullWrongFalsely : Prop := tensorHullRow.holds Tryz.pinned (OpenSpec.ofChange tensorHullWrong)

/-- 'brepkernellaw08.KnotsReads': WHATEVER THE INPUT: true; the input reads as it did. -/
def knotsReadsSpec : ChangeSpec := { name := "knotsReads", fn := fun _ => fun
  | [d1, d2, d3] => { results := [.lit (.bool true)], args := [d1, d2, d3] }
  | _ => none }
def knotsReadsRow : OpenClaim := { program := "ytfineedhebhpaaagreatdoor", sum := "d92e48ad73c37076f3f1fe3bc155cfc304fa3a7488801a395a7e66fbb43b1a09", func := "brepkernel/brepkernellaw08.KnotsReads", spec := "knotsReads", inPlace := ["math/bits.Add64", "slices.overlaps[brepkernel/api.Rat]"], unfollowed := true, recurses := true, named := ["math/bits.deBruijn64tab", "math/bits.deBruijn32tab", "math/bits.divideError", "math/bits.overflowError"], apart := false, laid := [("math/bits.deBruijn32tab", laid_math_bits_deBruijn32tab), ("math/bits.deBruijn64tab", laid_math_bits_deBruijn64tab)] }
def KnotsReadsSaid : Prop := knotsReadsRow.holds Tryz.pinned (OpenSpec.ofChange knotsReadsSpec)

/-- ITS FALSE NEIGHBOUR: 'it returns false'. Refute it at one input. -/
def knotsReadsWrong : ChangeSpec := { name := "knotsReads", fn := fun _ => fun
  | [d1, d2, d3] => { results := [.lit (.bool false)], args := [d1, d2, d3] }
  | _ => none }
def KnotsReadsWrongFalsely : Prop := knotsReadsRow.holds Tryz.pinned (OpenSpec.ofChange knotsReadsWrong)

/-- 'brepkernellaw08.KnotsStay': WHATEVER THE INPUT: true; the input reads as it did. -/
def knotsStaySpec : ChangeSpec := { name := "knotsStay", fn := fun _ => fun
  | [d1, d2] => { results := [.lit (.bool true)], args := [d1, d2] }
  | _ => none }
def knotsStayRow : OpenClaim := { program := "ytfineedhebhpaaagreatdoor", sum := "d92e48ad73c37076f3f1fe3bc155cfc304fa3a7488801a395a7e66fbb43b1a09", func := "brepkernel/brepkernellaw08.KnotsStay", spec := "knotsStay", inPlace := ["math/bits.Add64", "slices.overlaps[brepkernel/api.Rat]"], unfollowed := true, recurses := true, named := ["math/bits.deBruijn64tab", "math/bits.deBruijn32tab", "math/bits.divideError", "math/bits.overflowError"], apart := false, laid := [("math/bits.deBruijn32tab", laid_math_bits_deBruijn32tab), ("math/bits.deBruijn64tab", laid_math_bits_deBruijn64tab)] }
def KnotsStaySaid : Prop := knotsStayRow.holds Tryz.pinned (OpenSpec.ofChange knotsStaySpec)

/-- ITS FALSE NEIGHBOUR: 'it returns false'. Refute it at one input. -/
def knotsStayWrong : ChangeSpec := { name := "knotsStay", fn := fun _ => fun
  | [d1, d2] => { results := [.lit (.bool false)], args := [d1, d2] }
  | _ => none }
def KnotsStayWrongFalsely : Prop := knotsStayRow.holds Tryz.pinned (OpenSpec.ofChange knotsStayWrong)

/- THE SECOND FORM. 'bulk': how many values and letters a reading holds, each counted each time it is reached (what is shared counts as often as it is met; a slice's spare places count too). A statement '..UptoSaid' is the law's where the arguments, and the package variables that the reading takes, are together of bulk at most 1048576: NARROWER than '..Said'. Prove '..Said' where nothing that the law and all that it calls make is longer than what came in: it says more and counts as full. Else prove '..UptoSaid'. A law counts once. -/
mutual
def uptoBulk {H : Type} : DataW H → Nat
  | .lit (.string bytes) => bytes.length + 1
  | .lit _ => 1
  | .nil => 1
  | .ptr d => uptoBulk d + 1
  | .slice elems spare => uptoBulkAll elems + uptoBulkAll spare + 1
  | .agg parts => uptoBulkAll parts + 1
  | .iface _ d => uptoBulk d + 1
  | .map entries => uptoBulkEntries entries + 1
  | .held _ => 1
def uptoBulkAll {H : Type} : List (DataW H) → Nat
  | [] => 0
  | d :: r => uptoBulk d + uptoBulkAll r
def uptoBulkEntries {H : Type} : List (Lit × DataW H) → Nat
  | [] => 0
  | x :: r => uptoBulkEntry x + uptoBulkEntries r
def uptoBulkEntry {H : Type} : Lit × DataW H → Nat
  | (.string bytes, d) => bytes.length + uptoBulk d + 1
  | (_, d) => uptoBulk d + 1
 end
def uptoSmall : (H : Type) → List (DataW H) → Bool := fun _ ds => decide (uptoBulkAll ds ≤ 1048576)
def OpenSpec.upto (s : _root_.Go.ChangeSpec) : _root_.Go.OpenSpec := { _root_.Go.OpenSpec.ofChange s with cond := some uptoSmall }

/-- 'brepkernellaw07.TensorValid', WHERE WHAT IT READS IS OF BULK AT MOST 1048576: true; the input reads as it did. -/
def tensorValidUptoRow : OpenClaim := { program := "ytfineedhebhpaaagreatdoor", sum := "d92e48ad73c37076f3f1fe3bc155cfc304fa3a7488801a395a7e66fbb43b1a09", func := "brepkernel/brepkernellaw07.TensorValid", spec := "tensorValid", inPlace := ["math/bits.Add64"], unfollowed := true, recurses := true, named := ["math/bits.deBruijn64tab", "math/bits.deBruijn32tab", "math/bits.divideError", "math/bits.overflowError"], apart := false, laid := [("math/bits.deBruijn32tab", laid_math_bits_deBruijn32tab), ("math/bits.deBruijn64tab", laid_math_bits_deBruijn64tab)], narrowed := true }
def TensorValidUptoSaid : Prop := tensorValidUptoRow.holds Tryz.pinned (OpenSpec.upto tensorValidSpec)

/-- 'brepkernellaw07.TensorParts', WHERE WHAT IT READS IS OF BULK AT MOST 1048576: true; the input reads as it did. -/
def tensorPartsUptoRow : OpenClaim := { program := "ytfineedhebhpaaagreatdoor", sum := "d92e48ad73c37076f3f1fe3bc155cfc304fa3a7488801a395a7e66fbb43b1a09", func := "brepkernel/brepkernellaw07.TensorParts", spec := "tensorParts", inPlace := ["math/bits.Add64"], unfollowed := true, recurses := true, named := ["math/bits.deBruijn64tab", "math/bits.deBruijn32tab", "math/bits.divideError", "math/bits.overflowError"], apart := false, laid := [("math/bits.deBruijn32tab", laid_math_bits_deBruijn32tab), ("math/bits.deBruijn64tab", laid_math_bits_deBruijn64tab)], narrowed := true }
def TensorPartsUptoSaid : Prop := tensorPartsUptoRow.holds Tryz.pinned (OpenSpec.upto tensorPartsSpec)

/-- 'brepkernellaw07.TensorSums', WHERE WHAT IT READS IS OF BULK AT MOST 1048576: true; the input reads as it did. -/
def tensorSumsUptoRow : OpenClaim := { program := "ytfineedhebhpaaagreatdoor", sum := "d92e48ad73c37076f3f1fe3bc155cfc304fa3a7488801a395a7e66fbb43b1a09", func := "brepkernel/brepkernellaw07.TensorSums", spec := "tensorSums", inPlace := ["math/bits.Add64"], unfollowed := true, recurses := true, named := ["math/bits.deBruijn64tab", "math/bits.deBruijn32tab", "math/bits.divideError", "math/bits.overflowError"], apart := false, laid := [("math/bits.deBruijn32tab", laid_math_bits_deBruijn32tab), ("math/bits.deBruijn64tab", laid_math_bits_deBruijn64tab)], narrowed := true }
def TensorSumsUptoSaid : Prop := tensorSumsUptoRow.holds Tryz.pinned (OpenSpec.upto tensorSumsSpec)

/-- 'brepkernellaw07.TensorLong', WHERE WHAT IT READS IS OF BULK AT MOST 1048576: true; the input reads as it did. -/
def tensorLongUptoRow : OpenClaim := { program := "ytfineedhebhpaaagreatdoor", sum := "d92e48ad73c37076f3f1fe3bc155cfc304fa3a7488801a395a7e66fbb43b1a09", func := "brepkernel/brepkernellaw07.TensorLong", spec := "tensorLong", inPlace := ["math/bits.Add64"], unfollowed := true, recurses := true, named := ["math/bits.deBruijn64tab", "math/bits.deBruijn32tab", "math/bits.divideError", "math/bits.overflowError"], apart := false, laid := [("math/bits.deBruijn32tab", laid_math_bits_deBruijn32tab), ("math/bits.deBruijn64tab", laid_math_bits_deBruijn64tab)], narrowed := true }
def TensorLongUptoSaid : Prop := tensorLongUptoRow.holds Tryz.pinned (OpenSpec.upto tensorLongSpec)

/-- 'brepkernellaw07.TensorValues', WHERE WHAT IT READS IS OF BULK AT MOST 1048576: true; the input reads as it did. -/
def tensorValuesUptoRow : OpenClaim := { program := "ytfineedhebhpaaagreatdoor", sum := "d92e48ad73c37076f3f1fe3bc155cfc304fa3a7488801a395a7e66fbb43b1a09", func := "brepkernel/brepkernellaw07.TensorValues", spec := "tensorValues", inPlace := ["math/bits.Add64"], unfollowed := true, recurses := true, named := ["math/bits.deBruijn64tab", "math/bits.deBruijn32tab", "math/bits.divideError", "math/bits.overflowError"], apart := false, laid := [("math/bits.deBruijn32tab", laid_math_bits_deBruijn32tab), ("math/bits.deBruijn64tab", laid_math_bits_deBruijn64tab)], narrowed := true }
def TensorValuesUptoSaid : Prop := tensorValuesUptoRow.holds Tryz.pinned (OpenSpec.upto tensorValuesSpec)

/-- 'brepkernellaw07.TensorHull', WHERE WHAT IT READS IS OF BULK AT MOST 1048576: true; the input reads as it did. -/
def tensorHullUptoRow : OpenClaim := { program := "ytfineedhebhpaaagreatdoor", sum := "d92e48ad73c37076f3f1fe3bc155cfc304fa3a7488801a395a7e66fbb43b1a09", func := "brepkernel/brepkernellaw07.TensorHull", spec := "tensorHull", inPlace := ["math/bits.Add64"], unfollowed := true, recurses := true, named := ["math/bits.deBruijn64tab", "math/bits.deBruijn32tab", "math/bits.divideError", "math/bits.overflowError"], apart := false, laid := [("math/bits.deBruijn32tab", laid_math_bits_deBruijn32tab), ("math/bits.deBruijn64tab", laid_math_bits_deBruijn64tab)], narrowed := true }
def TensorHullUptoSaid : Prop := tensorHullUptoRow.holds Tryz.pinned (OpenSpec.upto tensorHullSpec)

/-- 'brepkernellaw08.KnotsReads', WHERE WHAT IT READS IS OF BULK AT MOST 1048576: true; the input reads as it did. -/
def knotsReadsUptoRow : OpenClaim := { program := "ytfineedhebhpaaagreatdoor", sum := "d92e48ad73c37076f3f1fe3bc155cfc304fa3a7488801a395a7e66fbb43b1a09", func := "brepkernel/brepkernellaw08.KnotsReads", spec := "knotsReads", inPlace := ["math/bits.Add64", "slices.overlaps[brepkernel/api.Rat]"], unfollowed := true, recurses := true, named := ["math/bits.deBruijn64tab", "math/bits.deBruijn32tab", "math/bits.divideError", "math/bits.overflowError"], apart := false, laid := [("math/bits.deBruijn32tab", laid_math_bits_deBruijn32tab), ("math/bits.deBruijn64tab", laid_math_bits_deBruijn64tab)], narrowed := true }
def KnotsReadsUptoSaid : Prop := knotsReadsUptoRow.holds Tryz.pinned (OpenSpec.upto knotsReadsSpec)

/-- 'brepkernellaw08.KnotsStay', WHERE WHAT IT READS IS OF BULK AT MOST 1048576: true; the input reads as it did. -/
def knotsStayUptoRow : OpenClaim := { program := "ytfineedhebhpaaagreatdoor", sum := "d92e48ad73c37076f3f1fe3bc155cfc304fa3a7488801a395a7e66fbb43b1a09", func := "brepkernel/brepkernellaw08.KnotsStay", spec := "knotsStay", inPlace := ["math/bits.Add64", "slices.overlaps[brepkernel/api.Rat]"], unfollowed := true, recurses := true, named := ["math/bits.deBruijn64tab", "math/bits.deBruijn32tab", "math/bits.divideError", "math/bits.overflowError"], apart := false, laid := [("math/bits.deBruijn32tab", laid_math_bits_deBruijn32tab), ("math/bits.deBruijn64tab", laid_math_bits_deBruijn64tab)], narrowed := true }
def KnotsStayUptoSaid : Prop := knotsStayUptoRow.holds Tryz.pinned (OpenSpec.upto knotsStaySpec)

end Rows
end Go.Proofs.YtfineedhebhpaaaGreatDoor
