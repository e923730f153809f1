/-
  Several texts in one: Ty.
-/
import Derived.Test.YtbkkecihjaokpaaGreatDoorEx
import Derived.Test.YtbkkecihjaokpaaGreatDoorProg
/-
  What the engine asks of the program's types and functions.
-/
namespace Go.Proofs.YtbkkecihjaokpaaGreatDoor

instance : Tsz Tryz.prog 1 false 1 := ⟨by kernel_rfl⟩
instance : Zer Tryz.prog 1 .nilFunc := ⟨by kernel_rfl, by kernel_rfl⟩
instance : Tsz Tryz.prog 2 false 1 := ⟨by kernel_rfl⟩
instance : IntT Tryz.prog 2 .i64 := ⟨by kernel_rfl⟩
instance : Zer Tryz.prog 2 (.int .i64 0) := ⟨by kernel_rfl, by kernel_rfl⟩
instance : Tsz Tryz.prog 3 false 1 := ⟨by kernel_rfl⟩
instance : IntT Tryz.prog 3 .i64 := ⟨by kernel_rfl⟩
instance : Zer Tryz.prog 3 (.int .i64 0) := ⟨by kernel_rfl, by kernel_rfl⟩
instance : Tsz Tryz.prog 4 false 1 := ⟨by kernel_rfl⟩
instance : BoolT Tryz.prog 4 := ⟨by kernel_rfl⟩
instance : Zer Tryz.prog 4 (.bool false) := ⟨by kernel_rfl, by kernel_rfl⟩
instance : Tsz Tryz.prog 22 false 1 := ⟨by kernel_rfl⟩
instance : SliT Tryz.prog 22 3 := ⟨by kernel_rfl⟩
instance : Zer Tryz.prog 22 (.slice none 0 0) := ⟨by kernel_rfl, by kernel_rfl⟩
instance : Tsz Tryz.prog 25 false 1 := ⟨by kernel_rfl⟩
instance : Zer Tryz.prog 25 (.pointer none) := ⟨by kernel_rfl, by kernel_rfl⟩
instance : Tsz Tryz.prog 29 true 3 := ⟨by kernel_rfl⟩
instance : Fld Tryz.prog 29 0 0 false 1 := ⟨by kernel_rfl⟩
instance : Fld Tryz.prog 29 1 1 false 1 := ⟨by kernel_rfl⟩
instance : Fld Tryz.prog 29 2 2 false 1 := ⟨by kernel_rfl⟩
instance : BldS Tryz.prog 29 [(0, 1), (1, 1), (2, 1)] := ⟨by kernel_rfl⟩
instance : Zer Tryz.prog 29 (.agg #[(.bool false), (.slice none 0 0), (.slice none 0 0)]) := ⟨by kernel_rfl, by kernel_rfl⟩
instance : Tsz Tryz.prog 110 true 2 := ⟨by kernel_rfl⟩
instance : Fld Tryz.prog 110 0 0 false 1 := ⟨by kernel_rfl⟩
instance : Fld Tryz.prog 110 1 1 false 1 := ⟨by kernel_rfl⟩
instance : BldS Tryz.prog 110 [(0, 1), (1, 1)] := ⟨by kernel_rfl⟩
instance : Zer Tryz.prog 110 (.agg #[(.slice none 0 0), (.int .i64 0)]) := ⟨by kernel_rfl, by kernel_rfl⟩
instance : Fun Tryz.prog 15 := ⟨by kernel_rfl⟩
instance : Fun Tryz.prog 16 := ⟨by kernel_rfl⟩
instance : Fun Tryz.prog 17 := ⟨by kernel_rfl⟩
instance : Fun Tryz.prog 30 := ⟨by kernel_rfl⟩
instance : Fun Tryz.prog 40 := ⟨by kernel_rfl⟩
instance : Fun Tryz.prog 43 := ⟨by kernel_rfl⟩
instance : Fun Tryz.prog 66 := ⟨by kernel_rfl⟩
instance : Fun Tryz.prog 74 := ⟨by kernel_rfl⟩
instance : Fun Tryz.prog 83 := ⟨by kernel_rfl⟩
instance : Fun Tryz.prog 118 := ⟨by kernel_rfl⟩
instance : Fun Tryz.prog 120 := ⟨by kernel_rfl⟩
instance : Fun Tryz.prog 121 := ⟨by kernel_rfl⟩
instance : Fun Tryz.prog 123 := ⟨by kernel_rfl⟩
instance : Fun Tryz.prog 126 := ⟨by kernel_rfl⟩
instance : Fun Tryz.prog 127 := ⟨by kernel_rfl⟩
instance : Fun Tryz.prog 128 := ⟨by kernel_rfl⟩
instance : Fun Tryz.prog 129 := ⟨by kernel_rfl⟩
instance : Fun Tryz.prog 130 := ⟨by kernel_rfl⟩
instance : Fun Tryz.prog 131 := ⟨by kernel_rfl⟩
instance : Fun Tryz.prog 134 := ⟨by kernel_rfl⟩
instance : Fun Tryz.prog 135 := ⟨by kernel_rfl⟩
instance : Fun Tryz.prog 140 := ⟨by kernel_rfl⟩
instance : Fun Tryz.prog 144 := ⟨by kernel_rfl⟩
instance : Fun Tryz.prog 145 := ⟨by kernel_rfl⟩
instance : Fun Tryz.prog 150 := ⟨by kernel_rfl⟩
instance : Fun Tryz.prog 151 := ⟨by kernel_rfl⟩
instance : Fun Tryz.prog 153 := ⟨by kernel_rfl⟩
instance : Fun Tryz.prog 154 := ⟨by kernel_rfl⟩
instance : Fun Tryz.prog 158 := ⟨by kernel_rfl⟩
instance : Fun Tryz.prog 159 := ⟨by kernel_rfl⟩
instance : Fun Tryz.prog 161 := ⟨by kernel_rfl⟩
instance : Fun Tryz.prog 162 := ⟨by kernel_rfl⟩
instance : Fun Tryz.prog 168 := ⟨by kernel_rfl⟩
end Go.Proofs.YtbkkecihjaokpaaGreatDoor
