/-
  What the laws of bernstein share.
-/
import Derived.Test.YtnkobfcnflphkaaGreatDoorHv
namespace Go.Proofs.YtnkobfcnflphkaaGreatDoor
open Go.RowKit
set_option linter.unusedVariables false
set_option linter.unusedSimpArgs false
set_option maxRecDepth 20000
set_option maxHeartbeats 8000000
theorem same_t {j k:Nat} {x:Rat} :Ctr Tryz.prog Amb 19 [nm j x,nm k x] (.one (.v (.bool true))):=by
 have h:=r_same (j:=j) (k:=k) (x:=x) (y:=x)
 rw [decide_eq_true rfl] at h
 exact h
theorem ratM_rsz (n d:Int):RSz 2 (ratM n d):=by
 unfold ratM
 have h1:=Int.emod_nonneg n (b:=41) (by decide)
 have h2:=Int.emod_lt_of_pos n (b:=41) (by decide)
 have h3:=Int.emod_nonneg d (b:=8) (by decide)
 have h4:=Int.emod_lt_of_pos d (b:=8) (by decide)
 generalize n % 41=a at*
 generalize d % 8=b at*
 have hn:RSz 1 ((a-20:Int):Rat):=⟨by rw [Rat.num_intCast];exact length_toL_le _ _ (by omega),by rw [Rat.den_intCast];exact length_toL_le _ _ (by decide)⟩
 have hd:RSz 1 ((b+1:Int):Rat):=⟨by rw [Rat.num_intCast];exact length_toL_le _ _ (by omega),by rw [Rat.den_intCast];exact length_toL_le _ _ (by decide)⟩
 refine rsz_div hn hd fun h0=>?_
 have h1:((b+1:Int):Rat)=((0:Int):Rat):=h0
 have:=Rat.intCast_inj.1 h1
 omega
namespace evals
theorem light' {l:List Int} {b:Bool} (h:decide ((l.length:Int)≤500)=b):Ctr Tryz.prog Amb 9 [.one (.ints l)] (.one (.v (.bool b))):=h▸d_light l
end evals
end Go.Proofs.YtnkobfcnflphkaaGreatDoor
