/-
  NARROWER THAN 'FOR EVERY INPUT', by the rows' own cells (each row's printed sentence says how): SpanReads: laid · SpanRoots: laid · SpanDets: laid · SpanContains: laid · SpanNarrow: laid · SpanRegular: laid.
  DERIVED. THE GIVEN ROWS OF THIS SEAT. 6 by the template 'for every input the law returns true; each argument reads behind the call as it read before'; 0 by the template 'total and deterministic' (their statements: YtemmbphdcgdboaaGreatDoorTotals.lean).
  GIVEN WITH THE SEED: the statements are not yours to turn. If you find one false, say at which input.
  Laid BY PROGRAM, IN A SANDBOX (cutbox-rows.mjs): the forced cells as the released guide's own fill.sh prints them over the translation 0f3a2f54e2b0718c… (all of the seat's roots in one cut). By AI agents, Wed Nov 11 2026. No macro, syntax, notation, axiom, sorry.
-/
import Derived.Test.YtemmbphdcgdboaaGreatDoorChecked
import GoSem.Claim
import GoSem.ClaimJoined
import GoSem.ClaimMapViews
import Derived.JoinedTies
import Derived.KernelRfl
namespace Go.Proofs.YtemmbphdcgdboaaGreatDoor
/- THE CELL 'sum', in the pinned program and in every row, IS THE sha256 OF THE DUMP (.gsa) THAT YtemmbphdcgdboaaGreatDoorProg.lean LOADS. Nothing in Lean hashes anything: it is a label: what it is worth is what the hold of that sum in a sandbox is worth. -/
noncomputable def Tryz.pinned : Pinned := { name := "ytemmbphdcgdboaagreatdoor", sum := "0f3a2f54e2b0718c1e0b6a2ee281e4a7261b0cbcd442aab6c6aa0baa34855f18", checked := Tryz.checked }
namespace Rows
def none {H : Type} : Left H := { results := [], args := [] }

/- WHAT THE LISTED PACKAGE-LEVEL VARIABLES READ AS WHEN THE CALL BEGINS. Each datum BY PROGRAM (the guide's laid-datum.mjs) off the statement by which the dump's own 'gosem.cut.vars' lays the variable. In a bare row this is a premise. The card (YtemmbphdcgdboaaGreatDoorCards.lean) ties it to the program's text. -/
def laid_math_bits_deBruijn32tab {H : Type} : DataW H := .agg [.lit (.int .u8 0), .lit (.int .u8 1), .lit (.int .u8 28), .lit (.int .u8 2), .lit (.int .u8 29), .lit (.int .u8 14), .lit (.int .u8 24), .lit (.int .u8 3), .lit (.int .u8 30), .lit (.int .u8 22), .lit (.int .u8 20), .lit (.int .u8 15), .lit (.int .u8 25), .lit (.int .u8 17), .lit (.int .u8 4), .lit (.int .u8 8), .lit (.int .u8 31), .lit (.int .u8 27), .lit (.int .u8 13), .lit (.int .u8 23), .lit (.int .u8 21), .lit (.int .u8 19), .lit (.int .u8 16), .lit (.int .u8 7), .lit (.int .u8 26), .lit (.int .u8 12), .lit (.int .u8 18), .lit (.int .u8 6), .lit (.int .u8 11), .lit (.int .u8 5), .lit (.int .u8 10), .lit (.int .u8 9)]
def laid_math_bits_deBruijn64tab {H : Type} : DataW H := .agg [.lit (.int .u8 0), .lit (.int .u8 1), .lit (.int .u8 56), .lit (.int .u8 2), .lit (.int .u8 57), .lit (.int .u8 49), .lit (.int .u8 28), .lit (.int .u8 3), .lit (.int .u8 61), .lit (.int .u8 58), .lit (.int .u8 42), .lit (.int .u8 50), .lit (.int .u8 38), .lit (.int .u8 29), .lit (.int .u8 17), .lit (.int .u8 4), .lit (.int .u8 62), .lit (.int .u8 47), .lit (.int .u8 59), .lit (.int .u8 36), .lit (.int .u8 45), .lit (.int .u8 43), .lit (.int .u8 51), .lit (.int .u8 22), .lit (.int .u8 53), .lit (.int .u8 39), .lit (.int .u8 33), .lit (.int .u8 30), .lit (.int .u8 24), .lit (.int .u8 18), .lit (.int .u8 12), .lit (.int .u8 5), .lit (.int .u8 63), .lit (.int .u8 55), .lit (.int .u8 48), .lit (.int .u8 27), .lit (.int .u8 60), .lit (.int .u8 41), .lit (.int .u8 37), .lit (.int .u8 16), .lit (.int .u8 46), .lit (.int .u8 35), .lit (.int .u8 44), .lit (.int .u8 21), .lit (.int .u8 52), .lit (.int .u8 32), .lit (.int .u8 23), .lit (.int .u8 11), .lit (.int .u8 54), .lit (.int .u8 26), .lit (.int .u8 40), .lit (.int .u8 15), .lit (.int .u8 34), .lit (.int .u8 20), .lit (.int .u8 31), .lit (.int .u8 10), .lit (.int .u8 25), .lit (.int .u8 14), .lit (.int .u8 19), .lit (.int .u8 9), .lit (.int .u8 13), .lit (.int .u8 8), .lit (.int .u8 7), .lit (.int .u8 6)]

/-- 'brepkernellaw03.SpanReads': WHATEVER THE INPUT: true; the input reads as it did. -/
def spanReadsSpec : ChangeSpec := { name := "spanReads", fn := fun _ => fun
  | [d1, d2, d3] => { results := [.lit (.bool true)], args := [d1, d2, d3] }
  | _ => none }
def spanReadsRow : OpenClaim := { program := "ytemmbphdcgdboaagreatdoor", sum := "0f3a2f54e2b0718c1e0b6a2ee281e4a7261b0cbcd442aab6c6aa0baa34855f18", func := "brepkernel/brepkernellaw03.SpanReads", spec := "spanReads", inPlace := ["math/bits.Add64"], unfollowed := true, recurses := true, named := ["math/bits.deBruijn64tab", "math/bits.deBruijn32tab", "math/bits.divideError", "math/bits.overflowError"], apart := false, laid := [("math/bits.deBruijn32tab", laid_math_bits_deBruijn32tab), ("math/bits.deBruijn64tab", laid_math_bits_deBruijn64tab)] }
def SpanReadsSaid : Prop := spanReadsRow.holds Tryz.pinned (OpenSpec.ofChange spanReadsSpec)

/-- ITS FALSE NEIGHBOUR: 'it returns false'. Refute it at one input. -/
def spanReadsWrong : ChangeSpec := { name := "spanReads", fn := fun _ => fun
  | [d1, d2, d3] => { results := [.lit (.bool false)], args := [d1, d2, d3] }
  | _ => none }
def SpanReadsWrongFalsely : Prop := spanReadsRow.holds Tryz.pinned (OpenSpec.ofChange spanReadsWrong)

/-- 'brepkernellaw03.SpanRoots': WHATEVER THE INPUT: true; the input reads as it did. -/
def spanRootsSpec : ChangeSpec := { name := "spanRoots", fn := fun _ => fun
  | [d1, d2] => { results := [.lit (.bool true)], args := [d1, d2] }
  | _ => none }
def spanRootsRow : OpenClaim := { program := "ytemmbphdcgdboaagreatdoor", sum := "0f3a2f54e2b0718c1e0b6a2ee281e4a7261b0cbcd442aab6c6aa0baa34855f18", func := "brepkernel/brepkernellaw03.SpanRoots", spec := "spanRoots", inPlace := ["math/bits.Add64"], unfollowed := true, recurses := true, named := ["math/bits.deBruijn64tab", "math/bits.deBruijn32tab", "math/bits.divideError", "math/bits.overflowError"], apart := false, laid := [("math/bits.deBruijn32tab", laid_math_bits_deBruijn32tab), ("math/bits.deBruijn64tab", laid_math_bits_deBruijn64tab)] }
def SpanRootsSaid : Prop := spanRootsRow.holds Tryz.pinned (OpenSpec.ofChange spanRootsSpec)

/-- ITS FALSE NEIGHBOUR: 'it returns false'. Refute it at one input. -/
def spanRootsWrong : ChangeSpec := { name := "spanRoots", fn := fun _ => fun
  | [d1, d2] => { results := [.lit (.bool false)], args := [d1, d2] }
  | _ => none }
def SpanRootsWrongFalsely : Prop := spanRootsRow.holds Tryz.pinned (OpenSpec.ofChange spanRootsWrong)

/-- 'brepkernellaw03.SpanDets': WHATEVER THE INPUT: true; the input reads as it did. -/
def spanDetsSpec : ChangeSpec := { name := "spanDets", fn := fun _ => fun
  | [d] => { results := [.lit (.bool true)], args := [d] }
  | _ => none }
def spanDetsRow : OpenClaim := { program := "ytemmbphdcgdboaagreatdoor", sum := "0f3a2f54e2b0718c1e0b6a2ee281e4a7261b0cbcd442aab6c6aa0baa34855f18", func := "brepkernel/brepkernellaw03.SpanDets", spec := "spanDets", inPlace := ["math/bits.Add64"], unfollowed := true, recurses := true, named := ["math/bits.deBruijn64tab", "math/bits.deBruijn32tab", "math/bits.divideError", "math/bits.overflowError"], apart := false, laid := [("math/bits.deBruijn32tab", laid_math_bits_deBruijn32tab), ("math/bits.deBruijn64tab", laid_math_bits_deBruijn64tab)] }
def SpanDetsSaid : Prop := spanDetsRow.holds Tryz.pinned (OpenSpec.ofChange spanDetsSpec)

/-- ITS FALSE NEIGHBOUR: 'it returns false'. Refute it at one input. -/
def spanDetsWrong : ChangeSpec := { name := "spanDets", fn := fun _ => fun
  | [d] => { results := [.lit (.bool false)], args := [d] }
  | _ => none }
def SpanDetsWrongFalsely : Prop := spanDetsRow.holds Tryz.pinned (OpenSpec.ofChange spanDetsWrong)

/-- 'brepkernellaw03.SpanContains': WHATEVER THE INPUT: true; the input reads as it did. -/
def spanContainsSpec : ChangeSpec := { name := "spanContains", fn := fun _ => fun
  | [d1, d2, d3] => { results := [.lit (.bool true)], args := [d1, d2, d3] }
  | _ => none }
def spanContainsRow : OpenClaim := { program := "ytemmbphdcgdboaagreatdoor", sum := "0f3a2f54e2b0718c1e0b6a2ee281e4a7261b0cbcd442aab6c6aa0baa34855f18", func := "brepkernel/brepkernellaw03.SpanContains", spec := "spanContains", inPlace := ["math/bits.Add64"], unfollowed := true, recurses := true, named := ["math/bits.deBruijn64tab", "math/bits.deBruijn32tab", "math/bits.divideError", "math/bits.overflowError"], apart := false, laid := [("math/bits.deBruijn32tab", laid_math_bits_deBruijn32tab), ("math/bits.deBruijn64tab", laid_math_bits_deBruijn64tab)] }
def SpanContainsSaid : Prop := spanContainsRow.holds Tryz.pinned (OpenSpec.ofChange spanContainsSpec)

/-- ITS FALSE NEIGHBOUR: 'it returns false'. Refute it at one input. -/
def spanContainsWrong : ChangeSpec := { name := "spanContains", fn := fun _ => fun
  | [d1, d2, d3] => { results := [.lit (.bool false)], args := [d1, d2, d3] }
  | _ => none }
def SpanContainsWrongFalsely : Prop := spanContainsRow.holds Tryz.pinned (OpenSpec.ofChange spanContainsWrong)

/-- 'brepkernellaw03.SpanNarrow': WHATEVER THE INPUT: true; the input reads as it did. -/
def spanNarrowSpec : ChangeSpec := { name := "spanNarrow", fn := fun _ => fun
  | [d1, d2, d3] => { results := [.lit (.bool true)], args := [d1, d2, d3] }
  | _ => none }
def spanNarrowRow : OpenClaim := { program := "ytemmbphdcgdboaagreatdoor", sum := "0f3a2f54e2b0718c1e0b6a2ee281e4a7261b0cbcd442aab6c6aa0baa34855f18", func := "brepkernel/brepkernellaw03.SpanNarrow", spec := "spanNarrow", inPlace := ["math/bits.Add64"], unfollowed := true, recurses := true, named := ["math/bits.deBruijn64tab", "math/bits.deBruijn32tab", "math/bits.divideError", "math/bits.overflowError"], apart := false, laid := [("math/bits.deBruijn32tab", laid_math_bits_deBruijn32tab), ("math/bits.deBruijn64tab", laid_math_bits_deBruijn64tab)] }
def SpanNarrowSaid : Prop := spanNarrowRow.holds Tryz.pinned (OpenSpec.ofChange spanNarrowSpec)

/-- ITS FALSE NEIGHBOUR: 'it returns false'. Refute it at one input. -/
def spanNarrowWrong : ChangeSpec := { name := "spanNarrow", fn := fun _ => fun
  | [d1, d2, d3] => { results := [.lit (.bool false)], args := [d1, d2, d3] }
  | _ => none }
def SpanNarrowWrongFalsely : Prop := spanNarrowRow.holds Tryz.pinned (OpenSpec.ofChange spanNarrowWrong)

/-- 'brepkernellaw03.SpanRegular': WHATEVER THE INPUT: true; the input reads as it did. -/
def spanRegularSpec : ChangeSpec := { name := "spanRegular", fn := fun _ => fun
  | [d1, d2] => { results := [.lit (.bool true)], args := [d1, d2] }
  | _ => none }
def spanRegularRow : OpenClaim := { program := "ytemmbphdcgdboaagreatdoor", sum := "0f3a2f54e2b0718c1e0b6a2ee281e4a7261b0cbcd442aab6c6aa0baa34855f18", func := "brepkernel/brepkernellaw03.SpanRegular", spec := "spanRegular", inPlace := ["math/bits.Add64"], unfollowed := true, recurses := true, named := ["math/bits.deBruijn64tab", "math/bits.deBruijn32tab", "math/bits.divideError", "math/bits.overflowError"], apart := false, laid := [("math/bits.deBruijn32tab", laid_math_bits_deBruijn32tab), ("math/bits.deBruijn64tab", laid_math_bits_deBruijn64tab)] }
def SpanRegularSaid : Prop := spanRegularRow.holds Tryz.pinned (OpenSpec.ofChange spanRegularSpec)

/-- ITS FALSE NEIGHBOUR: 'it returns false'. Refute it at one input. -/
def spanRegularWrong : ChangeSpec := { name := "spanRegular", fn := fun _ => fun
  | [d1, d2] => { results := [.lit (.bool false)], args := [d1, d2] }
  | _ => none }
def SpanRegularWrongFalsely : Prop := spanRegularRow.holds Tryz.pinned (OpenSpec.ofChange spanRegularWrong)

/- THE SECOND FORM. 'bulk': how many values and letters a reading holds, each counted each time it is reached (what is shared counts as often as it is met; a slice's spare places count too). A statement '..UptoSaid' is the law's where the arguments, and the package variables that the reading takes, are together of bulk at most 1048576: NARROWER than '..Said'. Prove '..Said' where nothing that the law and all that it calls make is longer than what came in: it says more and counts as full. Else prove '..UptoSaid'. A law counts once. -/
mutual
def uptoBulk {H : Type} : DataW H → Nat
  | .lit (.string bytes) => bytes.length + 1
  | .lit _ => 1
  | .nil => 1
  | .ptr d => uptoBulk d + 1
  | .slice elems spare => uptoBulkAll elems + uptoBulkAll spare + 1
  | .agg parts => uptoBulkAll parts + 1
  | .iface _ d => uptoBulk d + 1
  | .map entries => uptoBulkEntries entries + 1
  | .held _ => 1
def uptoBulkAll {H : Type} : List (DataW H) → Nat
  | [] => 0
  | d :: r => uptoBulk d + uptoBulkAll r
def uptoBulkEntries {H : Type} : List (Lit × DataW H) → Nat
  | [] => 0
  | x :: r => uptoBulkEntry x + uptoBulkEntries r
def uptoBulkEntry {H : Type} : Lit × DataW H → Nat
  | (.string bytes, d) => bytes.length + uptoBulk d + 1
  | (_, d) => uptoBulk d + 1
 end
def uptoSmall : (H : Type) → List (DataW H) → Bool := fun _ ds => decide (uptoBulkAll ds ≤ 1048576)
def OpenSpec.upto (s : _root_.Go.ChangeSpec) : _root_.Go.OpenSpec := { _root_.Go.OpenSpec.ofChange s with cond := some uptoSmall }

/-- 'brepkernellaw03.SpanReads', WHERE WHAT IT READS IS OF BULK AT MOST 1048576: true; the input reads as it did. -/
def spanReadsUptoRow : OpenClaim := { program := "ytemmbphdcgdboaagreatdoor", sum := "0f3a2f54e2b0718c1e0b6a2ee281e4a7261b0cbcd442aab6c6aa0baa34855f18", func := "brepkernel/brepkernellaw03.SpanReads", spec := "spanReads", inPlace := ["math/bits.Add64"], unfollowed := true, recurses := true, named := ["math/bits.deBruijn64tab", "math/bits.deBruijn32tab", "math/bits.divideError", "math/bits.overflowError"], apart := false, laid := [("math/bits.deBruijn32tab", laid_math_bits_deBruijn32tab), ("math/bits.deBruijn64tab", laid_math_bits_deBruijn64tab)], narrowed := true }
def SpanReadsUptoSaid : Prop := spanReadsUptoRow.holds Tryz.pinned (OpenSpec.upto spanReadsSpec)

/-- 'brepkernellaw03.SpanRoots', WHERE WHAT IT READS IS OF BULK AT MOST 1048576: true; the input reads as it did. -/
def spanRootsUptoRow : OpenClaim := { program := "ytemmbphdcgdboaagreatdoor", sum := "0f3a2f54e2b0718c1e0b6a2ee281e4a7261b0cbcd442aab6c6aa0baa34855f18", func := "brepkernel/brepkernellaw03.SpanRoots", spec := "spanRoots", inPlace := ["math/bits.Add64"], unfollowed := true, recurses := true, named := ["math/bits.deBruijn64tab", "math/bits.deBruijn32tab", "math/bits.divideError", "math/bits.overflowError"], apart := false, laid := [("math/bits.deBruijn32tab", laid_math_bits_deBruijn32tab), ("math/bits.deBruijn64tab", laid_math_bits_deBruijn64tab)], narrowed := true }
def SpanRootsUptoSaid : Prop := spanRootsUptoRow.holds Tryz.pinned (OpenSpec.upto spanRootsSpec)

/-- 'brepkernellaw03.SpanDets', WHERE WHAT IT READS IS OF BULK AT MOST 1048576: true; the input reads as it did. -/
def spanDetsUptoRow : OpenClaim := { program := "ytemmbphdcgdboaagreatdoor", sum := "0f3a2f54e2b0718c1e0b6a2ee281e4a7261b0cbcd442aab6c6aa0baa34855f18", func := "brepkernel/brepkernellaw03.SpanDets", spec := "spanDets", inPlace := ["math/bits.Add64"], unfollowed := true, recurses := true, named := ["math/bits.deBruijn64tab", "math/bits.deBruijn32tab", "math/bits.divideError", "math/bits.overflowError"], apart := false, laid := [("math/bits.deBruijn32tab", laid_math_bits_deBruijn32tab), ("math/bits.deBruijn64tab", laid_math_bits_deBruijn64tab)], narrowed := true }
def SpanDetsUptoSaid : Prop := spanDetsUptoRow.holds Tryz.pinned (OpenSpec.upto spanDetsSpec)

/-- 'brepkernellaw03.SpanContains', WHERE WHAT IT READS IS OF BULK AT MOST 1048576: true; the input reads as it did. -/
def spanContainsUptoRow : OpenClaim := { program := "ytemmbphdcgdboaagreatdoor", sum := "0f3a2f54e2b0718c1e0b6a2ee281e4a7261b0cbcd442aab6c6aa0baa34855f18", func := "brepkernel/brepkernellaw03.SpanContains", spec := "spanContains", inPlace := ["math/bits.Add64"], unfollowed := true, recurses := true, named := ["math/bits.deBruijn64tab", "math/bits.deBruijn32tab", "math/bits.divideError", "math/bits.overflowError"], apart := false, laid := [("math/bits.deBruijn32tab", laid_math_bits_deBruijn32tab), ("math/bits.deBruijn64tab", laid_math_bits_deBruijn64tab)], narrowed := true }
def SpanContainsUptoSaid : Prop := spanContainsUptoRow.holds Tryz.pinned (OpenSpec.upto spanContainsSpec)

/-- 'brepkernellaw03.SpanNarrow', WHERE WHAT IT READS IS OF BULK AT MOST 1048576: true; the input reads as it did. -/
def spanNarrowUptoRow : OpenClaim := { program := "ytemmbphdcgdboaagreatdoor", sum := "0f3a2f54e2b0718c1e0b6a2ee281e4a7261b0cbcd442aab6c6aa0baa34855f18", func := "brepkernel/brepkernellaw03.SpanNarrow", spec := "spanNarrow", inPlace := ["math/bits.Add64"], unfollowed := true, recurses := true, named := ["math/bits.deBruijn64tab", "math/bits.deBruijn32tab", "math/bits.divideError", "math/bits.overflowError"], apart := false, laid := [("math/bits.deBruijn32tab", laid_math_bits_deBruijn32tab), ("math/bits.deBruijn64tab", laid_math_bits_deBruijn64tab)], narrowed := true }
def SpanNarrowUptoSaid : Prop := spanNarrowUptoRow.holds Tryz.pinned (OpenSpec.upto spanNarrowSpec)

/-- 'brepkernellaw03.SpanRegular', WHERE WHAT IT READS IS OF BULK AT MOST 1048576: true; the input reads as it did. -/
def spanRegularUptoRow : OpenClaim := { program := "ytemmbphdcgdboaagreatdoor", sum := "0f3a2f54e2b0718c1e0b6a2ee281e4a7261b0cbcd442aab6c6aa0baa34855f18", func := "brepkernel/brepkernellaw03.SpanRegular", spec := "spanRegular", inPlace := ["math/bits.Add64"], unfollowed := true, recurses := true, named := ["math/bits.deBruijn64tab", "math/bits.deBruijn32tab", "math/bits.divideError", "math/bits.overflowError"], apart := false, laid := [("math/bits.deBruijn32tab", laid_math_bits_deBruijn32tab), ("math/bits.deBruijn64tab", laid_math_bits_deBruijn64tab)], narrowed := true }
def SpanRegularUptoSaid : Prop := spanRegularUptoRow.holds Tryz.pinned (OpenSpec.upto spanRegularSpec)

end Rows
end Go.Proofs.YtemmbphdcgdboaaGreatDoor
