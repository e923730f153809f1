/-
  What the laws of bernstein share.
-/
import Derived.Test.YtnkobfcnflphkaaGreatDoorHv
namespace Go.Proofs.YtnkobfcnflphkaaGreatDoor
open Go.RowKit
set_option linter.unusedVariables false
set_option linter.unusedSimpArgs false
set_option maxRecDepth 20000
set_option maxHeartbeats 8000000
theorem Xc {j k:Nat} {l m:List Rat} (h:l=m) (hl:l.length≤1000000):Ctr Tryz.prog Amb 35 [.one (Ap j l),.one (Ap k m)] (.one (.v (.bool true))):=by
 have S1:=Jh (j:=j) (k:=k) (l:=l) (m:=m) (by omega) (by rw [←h];omega)
 rw [decide_eq_true h] at S1
 refine Am Tryz.func35 rfl rfl rfl rfl rfl rfl ?_
 intro W0 base D μ0 hA hD
 repeat (first|refine Af ?_|refine Ac ?_|refine Aa rfl ?_|refine Ab rfl ?_|refine Ak ?_|refine Al ?_|refine Ad ?_|refine Ae ?_)
 refine As (And.intro (Or.inr rfl) ?_)
 exact AX
namespace evals
theorem light' {l:List Int} {b:Bool} (h:decide ((l.length:Int)≤500)=b):Ctr Tryz.prog Amb 9 [.one (.ints l)] (.one (.v (.bool b))):=h▸WQ l
end evals
end Go.Proofs.YtnkobfcnflphkaaGreatDoor
