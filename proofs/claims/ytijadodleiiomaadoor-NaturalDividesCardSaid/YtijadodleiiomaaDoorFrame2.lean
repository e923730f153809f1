/-
  The tables of trailing zeros, out of the rows' list.
-/
import Derived.Test.YtijadodleiiomaaDoorFrame
import Derived.Test.YtijadodleiiomaaDoorTz
namespace Go.Proofs.YtijadodleiiomaaDoor
open Go.ChangeShapes Go.WideShapes Go.ChangeAt Go.RowKit

theorem gB32 : Tryd.prog.globalNamed "math/bits.deBruijn32tab" = some 0 := by kernel_rfl
theorem gB32Type : (Tryd.prog.globals[0]?).map (·.type) = some 79 := by kernel_rfl
theorem cellsB32 : Tryd.prog.cellsOf 79 = 32 := by kernel_rfl
theorem gB64 : Tryd.prog.globalNamed "math/bits.deBruijn64tab" = some 1 := by kernel_rfl
theorem gB64Type : (Tryd.prog.globals[1]?).map (·.type) = some 82 := by kernel_rfl
theorem cellsB64 : Tryd.prog.cellsOf 82 = 64 := by kernel_rfl
theorem cellsU8 : Tryd.prog.cellsOf 5 = 1 := by kernel_rfl

theorem ints_getD (tab : List Nat) (j : Nat) : (tab.map fun n : Nat => (n : Int)).getD j 0 = ((tab.getD j 0 : Nat) : Int) := by
  simp only [List.getD, List.getElem?_map]
  cases tab[j]? <;> rfl

theorem tz {W : World} (h : laidMetH Tryd.prog [("math/bits.deBruijn32tab", Rows.laid_math_bits_deBruijn32tab), ("math/bits.deBruijn64tab", Rows.laid_math_bits_deBruijn64tab), ("internal/strconv.uint64pow10", Rows.laid_internal_strconv_uint64pow10)] W) : Tz W := by
  have h1 : laidMet Tryd.prog [("math/bits.deBruijn32tab", Rows.laid_math_bits_deBruijn32tab), ("math/bits.deBruijn64tab", Rows.laid_math_bits_deBruijn64tab), ("internal/strconv.uint64pow10", Rows.laid_internal_strconv_uint64pow10)] W := h
  have a : Lib.TabIs Tryd.prog W "math/bits.deBruijn32tab" .u8 (Lib.deBruijn32tab.map fun n : Nat => (n : Int)) := Lib.tabIs_of_head gB32 gB32Type Tryd.underlying79 Tryd.underlying5 cellsU8 cellsB32 h1
  have b : Lib.TabIs Tryd.prog W "math/bits.deBruijn64tab" .u8 (Lib.deBruijn64tab.map fun n : Nat => (n : Int)) := Lib.tabIs_of_head gB64 gB64Type Tryd.underlying82 Tryd.underlying5 cellsU8 cellsB64 h1.tail
  refine ⟨fun j hj => ?_, fun j hj => ?_⟩
  · have := a.cell gB32 j (by simpa using hj)
    rwa [ints_getD] at this
  · have := b.cell gB64 j (by simpa using hj)
    rwa [ints_getD] at this
end Go.Proofs.YtijadodleiiomaaDoor
