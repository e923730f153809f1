/-
  Several texts in one: LawBT, LawKTP.
-/
import Derived.Test.YtfineedhebhpaaaGreatDoorHv
import Derived.Test.YtfineedhebhpaaaGreatDoorIm
import Derived.Test.YtfineedhebhpaaaGreatDoorGs
namespace Go.Proofs.YtfineedhebhpaaaGreatDoor
open Go.RowKit
set_option linter.unusedVariables false
set_option linter.unusedSimpArgs false
set_option maxRecDepth 20000
set_option maxHeartbeats 8000000
theorem Np (n d:Int):RSz 2 (RU n d):=by
 unfold RU
 have h1:=Int.emod_nonneg n (b:=41) (by decide)
 have h2:=Int.emod_lt_of_pos n (b:=41) (by decide)
 have h3:=Int.emod_nonneg d (b:=8) (by decide)
 have h4:=Int.emod_lt_of_pos d (b:=8) (by decide)
 generalize n % 41=a at*
 generalize d % 8=b at*
 have hn:RSz 1 ((a-20:Int):Rat):=⟨by rw [Rat.num_intCast];exact Al _ _ (by omega),by rw [Rat.den_intCast];exact Al _ _ (by decide)⟩
 have hd:RSz 1 ((b+1:Int):Rat):=⟨by rw [Rat.num_intCast];exact Al _ _ (by omega),by rw [Rat.den_intCast];exact Al _ _ (by decide)⟩
 refine He hn hd fun h0=>?_
 have h1:((b+1:Int):Rat)=((0:Int):Rat):=h0
 have:=Rat.intCast_inj.1 h1
 omega
namespace evals
theorem light' {l:List Int} {b:Bool} (h:decide ((l.length:Int)≤500)=b):Ctr Tryz.prog Amb 11 [.one (.ints l)] (.one (.v (.bool b))):=h▸Mf l
end evals
set_option maxHeartbeats 4000000
namespace tparts
theorem light' {l:List Int} {b:Bool} (h:decide ((l.length:Int)≤500)=b):Ctr Tryz.prog Amb 11 [.one (.ints l)] (.one (.v (.bool b))):=h▸Mf l
theorem Tf {j k:Nat} {l:List Rat} (h:l.length≤1000000000):Ctr Tryz.prog Amb 21 [.one (AH j l),.one (AH k l)] (.one (.v (.bool true))):=by
 have:=Ji (j:=j) (k:=k) (l:=l) (m:=l) h h
 rwa [decide_eq_true rfl] at this
theorem Xe {j k:Nat} {x y:Rat} (h:x=y):Ctr Tryz.prog Amb 18 [nm j x,nm k y] (.one (.v (.bool true))):=by
 have:=LN (j:=j) (k:=k) (x:=x) (y:=y)
 rwa [decide_eq_true h] at this
theorem law {l:List Int} {i j k:Int} (hb: ∀x∈l,-9223372036854775808≤x∧x<9223372036854775808) (hi1: -9223372036854775808≤i) (hi2:i<9223372036854775808) (hj1: -9223372036854775808≤j) (hj2:j<9223372036854775808) (hk1: -9223372036854775808≤k) (hk2:k<9223372036854775808):
  Ctr Tryz.prog Amb 4 [.one (.ints l),.one (.v (.int .i64 i)),.one (.v (.int .i64 j)),.one (.v (.int .i64 k))] (.one (.v (.bool true))):=by
 have hA7:=UV
 by_cases hL:(l.length:Int)≤500
 ·have hl:l.length≤1000000:=by omega
  have D1:=light' (decide_eq_true hL)
  have X1:=WE (k:=17) (n:=0) (U:=4) (V:=4) hb hl (Nat.zero_le _) (by decide) (by decide)
  have hu:=L4 l 4 0
  have hv:=L3 l 4 4 0
  have hlen:=NE l 4 4 0
  have hr:=T7 l 4 4 0
  have R1:=WD (n:=i) (d:=k) hi1 hi2 hk1 hk2
  have R2:=WD (n:=j) (d:=k) hj1 hj2 hk1 hk2
  have ha:=Np i k
  have hb2:=Np j k
  generalize (IN l 4 4 0).2=n1 at*
  generalize (IN l 4 4 0).1=c at*
  generalize JK l 4 0=u at*
  generalize JJ l 4 4 0=v at*
  generalize RU i k=a at*
  generalize RU j k=b at*
  have hsz:c.length≤1000:=by
   rw [hlen]
   exact Nat.le_trans (Nat.mul_le_mul (show u+1≤5 by omega) (show v+1≤5 by omega)) (by decide)
  have E1:=Qg (j:=2) (jt:=2) (ju:=2) (js:=27) (u:=u) (v:=v) (l:=c) (a:=a) (b:=b) (by omega) (by omega) hlen (by decide) (by decide) (by decide) hr ha hb2 (by omega) (by decide)
  have E2:=Vr (j:=2) (jt:=2) (ju:=2) (js:=27) (J:=1000) (u:=u) (v:=v) (l:=c) (a:=a) (b:=b) (by omega) (by omega) hlen (by decide) (by decide) (by decide) hr ha hb2 (by omega) (by omega) (by decide) (by decide)
  have W1:=Tj (j:=2) (jt:=2) (J:=27) (u:=u) (v:=v) (l:=c) (t:=a) (by omega) (by omega) hlen (by decide) (by decide) hr ha (by omega)
  have W2:=W7 (j:=2) (jt:=2) (J:=27) (u:=u) (v:=v) (l:=c) (t:=a) (by omega) (by omega) hlen (by decide) (by decide) hr ha (by omega) (by decide)
  have C1:=Kz (j:=2) (jt:=2) (J:=27) (u:=u) (v:=v) (l:=c) (t:=a) (by omega) (by omega) hlen (by decide) (by decide) hr ha (by omega)
  have C2:=Jj (j:=2) (jt:=2) (J:=27) (u:=u) (v:=v) (l:=c) (t:=a) (by omega) (by omega) hlen (by decide) (by decide) hr ha (by omega) (by decide)
  have U1:=Tn (j:=2) (jt:=2) (u:=u) (v:=v) (l:=c) (a:=a) (b:=b) (by omega) (by omega) hlen (by decide) (by decide) hr ha hb2
  have U2:=SW (j:=2) (jt:=2) (u:=u) (v:=v) (l:=c) (a:=a) (b:=b) (by omega) (by omega) hlen (by decide) (by decide) hr ha hb2
  have V1:=Tk (j:=2) (jt:=2) (u:=u) (v:=v) (l:=c) (a:=a) (b:=b) (by omega) (by omega) hlen (by decide) (by decide) hr ha hb2
  have V2:=MR (j:=2) (jt:=2) (u:=u) (v:=v) (l:=c) (a:=a) (b:=b) (by omega) (by omega) hlen (by decide) (by decide) hr ha hb2
  have z1:(EB v u (Dq u v c) a).length≤1000000000:=by rw [Gj];omega
  have z2:(EB u v c a).length≤1000000000:=by rw [Gj];omega
  have z3:(byC u v u (Dv u a b) c).length≤1000000000:=by
   unfold byC
   rw [Cv]
   have:=Dr (u:=u) (v:=v) (by omega) (by omega)
   omega
  have z4:(byR u v (Dv v a b) c).length≤1000000000:=by
   rw [I4 (m:=v+1) hlen fun _ _=>F7]
   have:=Dr (u:=u) (v:=v) (by omega) (by omega)
   omega
  have S1:=Xe (j:=2000000+2000000+2) (k:=1000) (x:=evR u v c a b) rfl
  have S2:=Tf (j:=27) (k:=27) z1
  have S3:=Tf (j:=27) (k:=27) z2
  have S4:=P8 (j:=FT) (k:=100000) (u:=u) (v:=v) z3
  have S5:=P8 (j:=FT) (k:=100000) (u:=u) (v:=v) z4
  generalize evR u v c a b=r1 at*
  generalize EB v u (Dq u v c) a=r2 at*
  generalize EB u v c a=r3 at*
  generalize byC u v u (Dv u a b) c=r4 at*
  generalize byR u v (Dv v a b) c=r5 at*
  clear z1 z2 z3 z4 hr ha hb2
  refine Aj Tryz.func4 rfl rfl rfl rfl rfl rfl ?_
  intro W0 base D μ0 hA hD
  have:=UI l
  repeat (first|refine Ag ?_|refine Ac ?_|refine Aa rfl ?_|refine Ab rfl ?_|refine Am ?_|refine An ?_|refine Ad ?_|refine Ae ?_)
  refine Ap (And.intro (Or.inr rfl) ?_)
  exact AA
 ·have D1:=light' (decide_eq_false hL)
  refine Aj Tryz.func4 rfl rfl rfl rfl rfl rfl ?_
  intro W0 base D μ0 hA hD
  repeat (first|refine Ag ?_|refine Ac ?_|refine Aa rfl ?_|refine Ab rfl ?_|refine Am ?_|refine An ?_|refine Ad ?_|refine Ae ?_)
  refine Ap (And.intro (Or.inr rfl) ?_)
  exact AA
end tparts
end Go.Proofs.YtfineedhebhpaaaGreatDoor
