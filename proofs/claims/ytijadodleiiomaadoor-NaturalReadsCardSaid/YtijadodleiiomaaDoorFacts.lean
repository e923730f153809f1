/-
  Closed facts on the program's table of types.
-/
import Derived.Test.YtijadodleiiomaaDoorProg
import Derived.Test.YtijadodleiiomaaDoorSl
namespace Go.Proofs.YtijadodleiiomaaDoor
theorem infoU32 : (Tryd.prog.info? 45).map (fun i => (i.zero, i.size, i.bytes)) = some (some (.int .u32 0), 1, 4) := by kernel_rfl
theorem undU32s : Tryd.prog.underlying 22 = some (.slice 45) := Tryd.underlying22
theorem infoU8 : (Tryd.prog.info? 5).map (fun i => (i.zero, i.size, i.bytes)) = some (some (.int .u8 0), 1, 1) := by kernel_rfl
theorem undU8s : Tryd.prog.underlying 66 = some (.slice 5) := Tryd.underlying66
end Go.Proofs.YtijadodleiiomaaDoor
