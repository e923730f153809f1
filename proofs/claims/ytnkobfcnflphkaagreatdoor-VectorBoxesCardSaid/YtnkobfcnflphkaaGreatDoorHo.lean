/-
  Several texts in one: Zbc, Zbd, Zbe, Zbf.
-/
import Derived.Test.YtnkobfcnflphkaaGreatDoorHs
import Derived.Test.YtnkobfcnflphkaaGreatDoorHr
namespace Go.Proofs.YtnkobfcnflphkaaGreatDoor
open Go.RowKit
set_option linter.unusedVariables false
set_option linter.unusedSimpArgs false
set_option maxRecDepth 20000
set_option maxHeartbeats 4000000
section
variable {P:Program} {X:Ctx} {dst:Option Tmp} {ty:TypeId} {pos:String} {af:Array Edge} {gd:Option (Nat×Bool)}
theorem pure_indexFp {s:Nat→AV} {t:TypeId} {x y:Operand} {len:Nat} {agg:Bool} {n:Nat} [hF:Ary P t len agg n] {cs:List D} {ik:IntKind} {i:Int} (hx:evC s x= .one (.fp cs)) (hy:evC s y= .one (.v (.int ik i))) (hi:(decide (0≤i)&&decide (i<len))=true) (hl:Nat.blt (i.toNat*n) cs.length=true):
  Pure P ⟨dst,.indexAddr t x y,ty,pos,af,gd⟩ s (.one (.fp (cs.drop (i.toNat*n)))):=fun W0 μ sz w ρ hρ=>by
 have h:=hρ x (by simp [Op.operands])
 rw [hx] at h
 obtain ⟨b,off,hp,_,hd⟩:=h
 have h2:=hρ y (by simp [Op.operands])
 rw [hy] at h2
 replace h2:ρ y= .int ik i:=h2
 obtain ⟨e,hu,hT⟩:=hF.get
 simp only [Bool.and_eq_true,decide_eq_true_eq] at hi
 have hl:i.toNat*n<cs.length:=by simpa using hl
 refine ⟨.pointer (some ⟨b,off+i.toNat*n,none⟩),?_,b,off+i.toNat*n,rfl,fun h0=>?_,ddL_drop hd (i.toNat*n)⟩
 ·simp [execOp,Instr.indexAt,run_underlying hu w,hp,h2,asIntOf,Instr.sureAddr,hi.1,hi.2,hT.size w,Addr.add_mid]
 ·have:=congrArg List.length h0
  simp at this
  omega
variable {ops l:List Oper} {σ:St} {K:List Eff→St→Prop}
theorem v_indexF {t:TypeId} {x y:Operand} {len:Nat} {agg:Bool} {n:Nat} [hF:Ary P t len agg n] {cs:List D} {ik:IntKind} {i:Int} (hg:gOk ops σ.s gd:=by first | exact trivial | exact rfl) (hd:dB X.n dst=true:=by exact rfl) (hx:evC σ.s x= .one (.fp cs):=by exact rfl) (hy:evC σ.s y= .one (.v (.int ik i)):=by exact rfl) (hi:(decide (0≤i)&&decide (i<len))=true:=by exact rfl) (hc:Nat.blt (i.toNat*n) cs.length=true:=by exact rfl)
  (hl:RunK P X ops l (σ.app dst ⟨.one (.fp (cs.drop (i.toNat*n))),[],[],[]⟩) (fun es σ'=>K (⟨.one (.fp (cs.drop (i.toNat*n))),[],[],[]⟩::es) σ')):RunK P X ops (⟨dst,.indexAddr t x y,ty,pos,af,gd⟩::l) σ K:=
 u_pure (o:=⟨dst,.indexAddr t x y,ty,pos,af,gd⟩) hg hd (pure_indexFp hx hy hi hc) hl
end
abbrev P3:=Rat×Rat×Rat
abbrev ptD (j:Nat) (p:P3):List D:= [.q p.1 j 0,.q p.1 j 1,.q p.1 j 2,.q p.2.1 j 0,.q p.2.1 j 1,.q p.2.1 j 2,.q p.2.2 j 0,.q p.2.2 j 1,.q p.2.2 j 2]
instance (j:Nat):Elm 9 (ptD j):=⟨fun _=>rfl,fun _=>rfl⟩
abbrev pts (j:Nat) (l:List P3):C:=lsG 9 (ptD j) l
abbrev ptP (j:Nat) (p:P3):AV:=pt j p.1 p.2.1 p.2.2
theorem get_atP {α:Type} {l:List α} {i:Nat} (h:i<l.length): ∃x,l[((i:Nat):Int).toNat]?=some x∧l[i]?=some x:=⟨l[i],by rw [Int.toNat_natCast];exact List.getElem?_eq_getElem h,List.getElem?_eq_getElem h⟩
theorem drop_atP {α:Type} {l:List α} {i:Nat} {x:α} (h:l[i]?=some x):l.drop i=x::l.drop (i+1):=by
 obtain ⟨hi,hx⟩:=List.getElem?_eq_some_iff.1 h
 rw [←hx]
 exact List.drop_eq_getElem_cons hi
def mnP (f:P3→Rat):P3→List P3→P3
 | m,[]=>m
 | m,x::l=>mnP f (if cmpR (f x) (f m)<0 then x else m) l
def mxP (f:P3→Rat):P3→List P3→P3
 | m,[]=>m
 | m,x::l=>mxP f (if 0<cmpR (f x) (f m) then x else m) l
theorem mnP_f {f:P3→Rat} : ∀ {l:List P3} {m:P3},f (mnP f m l)=mnA (f m) (l.map f)
 | [],m=>rfl
 | x::l,m=>by
   rw [List.map_cons]
   show f (mnP f (if cmpR (f x) (f m)<0 then x else m) l)=mnA (mn (f m) (f x)) (l.map f)
   rw [mnP_f (f:=f),mn_prog]
   split<;>rfl
theorem mxP_f {f:P3→Rat} : ∀ {l:List P3} {m:P3},f (mxP f m l)=mxA (f m) (l.map f)
 | [],m=>rfl
 | x::l,m=>by
   rw [List.map_cons]
   show f (mxP f (if 0<cmpR (f x) (f m) then x else m) l)=mxA (mx (f m) (f x)) (l.map f)
   rw [mxP_f (f:=f),mx_prog]
   split<;>rfl
theorem s_ord0 {j:Nat} {a b c x y z:Rat} (h:j≤1000000):CtrM Tryz.prog Amb 70 [pt j a b c,pt j x y z,.one (.ptr 901 0)] [(901,[.v (.int .i64 0)],[.v (.int .i64 0)])] (.one (.v (.int .i64 (cmpR a x)))):=by
 have M1:=c_cmp (j:=j) (k:=j) (x:=a) (y:=x) (by omega) (by omega)
 apply ctr_body Tryz.func70 rfl rfl rfl rfl rfl
 case hin=>simp [inA,inC]
 intro W0 base D μ0 hA hD
 repeat (first | refine aw_seq ?_ | refine aw_block ?_ | refine aw_condT rfl ?_ | refine aw_condF rfl ?_ | refine aw_pa ?_ | refine aw_da ?_ | refine aw_skip ?_ | refine aw_exit ?_)
 refine aw_ret (And.intro (Or.inr rfl) ?_)
 exact f_ro (hb:=by repeat (first | exact nil_all | refine List.forall_mem_cons.2 ⟨⟨rfl,rfl,rfl⟩,?_⟩))
theorem s_ord1 {j:Nat} {a b c x y z:Rat} (h:j≤1000000):CtrM Tryz.prog Amb 70 [pt j a b c,pt j x y z,.one (.ptr 901 0)] [(901,[.v (.int .i64 1)],[.v (.int .i64 1)])] (.one (.v (.int .i64 (cmpR b y)))):=by
 have M1:=c_cmp (j:=j) (k:=j) (x:=b) (y:=y) (by omega) (by omega)
 apply ctr_body Tryz.func70 rfl rfl rfl rfl rfl
 case hin=>simp [inA,inC]
 intro W0 base D μ0 hA hD
 repeat (first | refine aw_seq ?_ | refine aw_block ?_ | refine aw_condT rfl ?_ | refine aw_condF rfl ?_ | refine aw_pa ?_ | refine aw_da ?_ | refine aw_skip ?_ | refine aw_exit ?_)
 refine aw_ret (And.intro (Or.inr rfl) ?_)
 exact f_ro (hb:=by repeat (first | exact nil_all | refine List.forall_mem_cons.2 ⟨⟨rfl,rfl,rfl⟩,?_⟩))
theorem s_ord2 {j:Nat} {a b c x y z:Rat} (h:j≤1000000):CtrM Tryz.prog Amb 70 [pt j a b c,pt j x y z,.one (.ptr 901 0)] [(901,[.v (.int .i64 2)],[.v (.int .i64 2)])] (.one (.v (.int .i64 (cmpR c z)))):=by
 have M1:=c_cmp (j:=j) (k:=j) (x:=c) (y:=z) (by omega) (by omega)
 apply ctr_body Tryz.func70 rfl rfl rfl rfl rfl
 case hin=>simp [inA,inC]
 intro W0 base D μ0 hA hD
 repeat (first | refine aw_seq ?_ | refine aw_block ?_ | refine aw_condT rfl ?_ | refine aw_condF rfl ?_ | refine aw_pa ?_ | refine aw_da ?_ | refine aw_skip ?_ | refine aw_exit ?_)
 refine aw_ret (And.intro (Or.inr rfl) ?_)
 exact f_ro (hb:=by repeat (first | exact nil_all | refine List.forall_mem_cons.2 ⟨⟨rfl,rfl,rfl⟩,?_⟩))
theorem s_minP {g:FuncId} [hG:Fun Tryz.prog g] {f:P3→Rat} {j:Nat} {n:Int} {x:P3} {t:List P3} (hl:t.length≤1000000) (H: ∀x y:P3,CtrM Tryz.prog Amb g [ptP j x,ptP j y,.one (.ptr 901 0)] [(901,[.v (.int .i64 n)],[.v (.int .i64 n)])] (.one (.v (.int .i64 (cmpR (f x) (f y)))))):
  CtrM Tryz.prog Amb 73 [.one (pts j (x::t)),.one (.fn g [(901,0)])] [(901,[.v (.int .i64 n)],[.v (.int .i64 n)])] (ptP j (mnP f x t)):=by
 obtain ⟨l,hle⟩: ∃l,l=x::t:=⟨_,rfl⟩
 obtain ⟨R,hR⟩: ∃R,R=mnP f x t:=⟨_,rfl⟩
 have hll:l.length=t.length+1:=by rw [hle];rfl
 have hd:mnP f x (l.drop 1)=R:=by rw [hle,hR];rfl
 have hx0:l[((0:Nat):Int).toNat]?=some x:=by rw [hle];rfl
 have b0:=binLt (k:= .i64) (decide_eq_false (show ¬(l.length:Int)<1 by omega))
 rw [←hle]
 rw [←hR]
 clear hle hR
 apply ctr_body Tryz.func73 rfl rfl rfl rfl rfl
 case hin=>simp [inA,inC]
 intro W0 base D μ0 hA hD
 repeat (first | refine aw_seq ?_ | refine aw_block ?_ | refine aw_condT rfl ?_ | refine aw_condF rfl ?_ | refine aw_pa ?_ | refine aw_da ?_ | refine aw_skip ?_ | refine aw_exit ?_)
 refine aw_loop (fun c σ=> ∃(i:Nat) (m:P3),c=l.length-i∧1≤i∧i≤l.length∧mnP f m (l.drop i)=R∧Wk ⟨W0,base,D,33,[901],μ0⟩ σ [(0,.one (pts j l)),(1,.one (.fn g [(901,0)])),(4,.one (.ptr 4 0)),(5,.one (.ptr 5 0)),(6,errV (i:Nat))] [(4,ptC 0 0 0 0 0 0),(5,ptC j m.1 j m.2.1 j m.2.2),(901,[.v (.int .i64 n)])]) (n:=l.length-1) ⟨1,x,rfl,Nat.le_refl _,by omega,hd,?_⟩ ?_
 ·exact wk_a
 clear hx0 hd b0
 intro c σ hI
 obtain ⟨i,m,hc,hi1,hi0,hS,hw⟩:=hI
 refine aw_wk hw ?_
 clear hw
 by_cases hi:i<l.length
 ·obtain ⟨y,hy,hy'⟩:=get_atP hi
  have bi:=binLt (k:= .i64) (decide_eq_true (show (i:Int)<(l.length:Int) by omega))
  have hin:=binAdd (k:= .i64) (show (IntKind.i64).wrap ((i:Int)+1)=((i+1:Nat):Int) from IntWalk.i64_in _ (by omega))
  have H1:=H y m
  rw [drop_atP hy'] at hS
  replace hS:mnP f (if cmpR (f y) (f m)<0 then y else m) (l.drop (i+1))=R:=hS
  by_cases hlt:cmpR (f y) (f m)<0
  ·have bl:=binLt (k:= .i64) (decide_eq_true hlt)
   rw [if_pos hlt] at hS
   repeat (first | refine aw_seq ?_ | refine aw_block ?_ | refine aw_condT rfl ?_ | refine aw_condF rfl ?_ | refine aw_pa ?_ | refine aw_da ?_ | refine aw_skip ?_ | refine aw_exit ?_)
   refine ⟨c-1,by omega,i+1,y,by omega,by omega,by omega,hS,?_⟩
   exact wk_a
  ·have bl:=binLt (k:= .i64) (decide_eq_false hlt)
   rw [if_neg hlt] at hS
   repeat (first | refine aw_seq ?_ | refine aw_block ?_ | refine aw_condT rfl ?_ | refine aw_condF rfl ?_ | refine aw_pa ?_ | refine aw_da ?_ | refine aw_skip ?_ | refine aw_exit ?_)
   refine ⟨c-1,by omega,i+1,m,by omega,by omega,by omega,hS,?_⟩
   exact wk_a
 ·have bi:=binLt (k:= .i64) (decide_eq_false (show ¬(i:Int)<(l.length:Int) by omega))
  rw [List.drop_eq_nil_of_le (by omega)] at hS
  replace hS:m=R:=hS
  subst hS
  repeat (first | refine aw_seq ?_ | refine aw_block ?_ | refine aw_condT rfl ?_ | refine aw_condF rfl ?_ | refine aw_pa ?_ | refine aw_da ?_ | refine aw_skip ?_ | refine aw_exit ?_)
  refine aw_ret (And.intro (Or.inr rfl) ?_)
  exact f_ro (hb:=by repeat (first | exact nil_all | refine List.forall_mem_cons.2 ⟨⟨rfl,rfl,rfl⟩,?_⟩))
theorem s_maxP {g:FuncId} [hG:Fun Tryz.prog g] {f:P3→Rat} {j:Nat} {n:Int} {x:P3} {t:List P3} (hl:t.length≤1000000) (H: ∀x y:P3,CtrM Tryz.prog Amb g [ptP j x,ptP j y,.one (.ptr 901 0)] [(901,[.v (.int .i64 n)],[.v (.int .i64 n)])] (.one (.v (.int .i64 (cmpR (f x) (f y)))))):
  CtrM Tryz.prog Amb 74 [.one (pts j (x::t)),.one (.fn g [(901,0)])] [(901,[.v (.int .i64 n)],[.v (.int .i64 n)])] (ptP j (mxP f x t)):=by
 obtain ⟨l,hle⟩: ∃l,l=x::t:=⟨_,rfl⟩
 obtain ⟨R,hR⟩: ∃R,R=mxP f x t:=⟨_,rfl⟩
 have hll:l.length=t.length+1:=by rw [hle];rfl
 have hd:mxP f x (l.drop 1)=R:=by rw [hle,hR];rfl
 have hx0:l[((0:Nat):Int).toNat]?=some x:=by rw [hle];rfl
 have b0:=binLt (k:= .i64) (decide_eq_false (show ¬(l.length:Int)<1 by omega))
 rw [←hle]
 rw [←hR]
 clear hle hR
 apply ctr_body Tryz.func74 rfl rfl rfl rfl rfl
 case hin=>simp [inA,inC]
 intro W0 base D μ0 hA hD
 repeat (first | refine aw_seq ?_ | refine aw_block ?_ | refine aw_condT rfl ?_ | refine aw_condF rfl ?_ | refine aw_pa ?_ | refine aw_da ?_ | refine aw_skip ?_ | refine aw_exit ?_)
 refine aw_loop (fun c σ=> ∃(i:Nat) (m:P3),c=l.length-i∧1≤i∧i≤l.length∧mxP f m (l.drop i)=R∧Wk ⟨W0,base,D,33,[901],μ0⟩ σ [(0,.one (pts j l)),(1,.one (.fn g [(901,0)])),(4,.one (.ptr 4 0)),(5,.one (.ptr 5 0)),(6,errV (i:Nat))] [(4,ptC 0 0 0 0 0 0),(5,ptC j m.1 j m.2.1 j m.2.2),(901,[.v (.int .i64 n)])]) (n:=l.length-1) ⟨1,x,rfl,Nat.le_refl _,by omega,hd,?_⟩ ?_
 ·exact wk_a
 clear hx0 hd b0
 intro c σ hI
 obtain ⟨i,m,hc,hi1,hi0,hS,hw⟩:=hI
 refine aw_wk hw ?_
 clear hw
 by_cases hi:i<l.length
 ·obtain ⟨y,hy,hy'⟩:=get_atP hi
  have bi:=binLt (k:= .i64) (decide_eq_true (show (i:Int)<(l.length:Int) by omega))
  have hin:=binAdd (k:= .i64) (show (IntKind.i64).wrap ((i:Int)+1)=((i+1:Nat):Int) from IntWalk.i64_in _ (by omega))
  have H1:=H y m
  rw [drop_atP hy'] at hS
  replace hS:mxP f (if 0<cmpR (f y) (f m) then y else m) (l.drop (i+1))=R:=hS
  by_cases hlt:0<cmpR (f y) (f m)
  ·have bl:=binGt (k:= .i64) (decide_eq_true (show cmpR (f y) (f m)>0 from hlt))
   rw [if_pos hlt] at hS
   repeat (first | refine aw_seq ?_ | refine aw_block ?_ | refine aw_condT rfl ?_ | refine aw_condF rfl ?_ | refine aw_pa ?_ | refine aw_da ?_ | refine aw_skip ?_ | refine aw_exit ?_)
   refine ⟨c-1,by omega,i+1,y,by omega,by omega,by omega,hS,?_⟩
   exact wk_a
  ·have bl:=binGt (k:= .i64) (decide_eq_false (show ¬cmpR (f y) (f m)>0 from hlt))
   rw [if_neg hlt] at hS
   repeat (first | refine aw_seq ?_ | refine aw_block ?_ | refine aw_condT rfl ?_ | refine aw_condF rfl ?_ | refine aw_pa ?_ | refine aw_da ?_ | refine aw_skip ?_ | refine aw_exit ?_)
   refine ⟨c-1,by omega,i+1,m,by omega,by omega,by omega,hS,?_⟩
   exact wk_a
 ·have bi:=binLt (k:= .i64) (decide_eq_false (show ¬(i:Int)<(l.length:Int) by omega))
  rw [List.drop_eq_nil_of_le (by omega)] at hS
  replace hS:m=R:=hS
  subst hS
  repeat (first | refine aw_seq ?_ | refine aw_block ?_ | refine aw_condT rfl ?_ | refine aw_condF rfl ?_ | refine aw_pa ?_ | refine aw_da ?_ | refine aw_skip ?_ | refine aw_exit ?_)
  refine aw_ret (And.intro (Or.inr rfl) ?_)
  exact f_ro (hb:=by repeat (first | exact nil_all | refine List.forall_mem_cons.2 ⟨⟨rfl,rfl,rfl⟩,?_⟩))
end Go.Proofs.YtnkobfcnflphkaaGreatDoor
namespace Go.Proofs.YtnkobfcnflphkaaGreatDoor
open Go.RowKit
set_option linter.unusedVariables false
set_option linter.unusedSimpArgs false
set_option maxRecDepth 20000
set_option maxHeartbeats 4000000
abbrev bxC (i:Nat) (a b:Rat) (j:Nat) (c d:Rat) (k:Nat) (e f:Rat):List C:= [.q a i 0,.q a i 1,.q a i 2,.q b i 0,.q b i 1,.q b i 2,.q c j 0,.q c j 1,.q c j 2,.q d j 0,.q d j 1,.q d j 2,.q e k 0,.q e k 1,.q e k 2,.q f k 0,.q f k 1,.q f k 2]
abbrev bx (j:Nat) (a b c d e f:Rat):AV:= .agg (bxC j a b j c d j e f)
theorem v_boxNil {j:Nat} :Ctr Tryz.prog Amb 13 [.one (pts j [])] (.tup [bx 0 0 0 0 0 0 0,errV 1]):=by
 have b0:=binEq (k:= .i64) (decide_eq_true (show (([]:List P3).length:Int)=0 from rfl))
 refine ctr_body Tryz.func13 rfl rfl rfl rfl rfl rfl ?_
 intro W0 base D μ0 hA hD
 repeat (first
  | refine aw_seq ?_ | refine aw_block ?_ | refine aw_condT rfl ?_ | refine aw_condF rfl ?_
  | ((first | refine aw_plainK (by kernel_rfl) ?_ | refine aw_drawK (by kernel_rfl) (by kernel_rfl) (by kernel_rfl) ?_)
     repeat (first
      | refine v_move (hl:=?_)
      | refine v_assign (hl:=?_)
      | refine v_load (hl:=?_)
      | refine v_store (hl:=?_)
      | refine v_alloc (hl:=?_)
      | refine v_buildS (hl:=?_)
      | refine v_buildA (hl:=?_)
      | refine v_bin (hl:=?_)
      | refine v_indexAddr (hl:=?_)
      | refine v_index (hl:=?_)
      | refine v_makeFunc' (hl:=?_)
      | refine v_eqBool (hl:=?_)
      | refine v_max (hl:=?_)
      | refine v_min (hl:=?_)
      | refine v_len (hl:=?_)
      | refine v_lenS (hl:=?_)
      | refine v_loadF (hl:=?_))
     apply RunK.nil;try refine And.intro (by kernel_rfl) ?_)
  | refine aw_skip ?_ | refine aw_exit ?_)
 refine aw_ret (And.intro (Or.inr rfl) ?_)
 exact f_two
theorem v_boxOf {j:Nat} {x:P3} {t:List P3} (hl:t.length≤1000000) (hj:j≤100000):
  Ctr Tryz.prog Amb 13 [.one (pts j (x::t))] (.tup [bx (j+j+1) (mnA x.1 (t.map (·.1))) (mxA x.1 (t.map (·.1))) (mnA x.2.1 (t.map (·.2.1))) (mxA x.2.1 (t.map (·.2.1))) (mnA x.2.2 (t.map (·.2.2))) (mxA x.2.2 (t.map (·.2.2))),errV 0]):=by
 have hlm: ∀(f:P3→Rat),mnA (f x) (t.map f)≤mxA (f x) (t.map f):=fun f=>Rat.le_trans (mnA_le (.inl Rat.le_refl)) (le_mxA (.inl Rat.le_refl))
 have N0:CtrM Tryz.prog Amb 73 [.one (pts j (x::t)),.one (.fn 70 [(5,0)])] [(5,[.v (.int .i64 0)],[.v (.int .i64 0)])] (ptP j (mnP (fun p=>p.1) x t)):=(s_minP (g:=70) (f:=fun p=>p.1) (j:=j) (n:=0) (x:=x) (t:=t) hl (fun p q=>s_ord0 (by omega))).at1 5 rfl rfl
 have X0:CtrM Tryz.prog Amb 74 [.one (pts j (x::t)),.one (.fn 70 [(5,0)])] [(5,[.v (.int .i64 0)],[.v (.int .i64 0)])] (ptP j (mxP (fun p=>p.1) x t)):=(s_maxP (g:=70) (f:=fun p=>p.1) (j:=j) (n:=0) (x:=x) (t:=t) hl (fun p q=>s_ord0 (by omega))).at1 5 rfl rfl
 have e0:(mnP (fun p=>p.1) x t).1=mnA x.1 (t.map (·.1)):=mnP_f (f:=fun p=>p.1)
 have E0:(mxP (fun p=>p.1) x t).1=mxA x.1 (t.map (·.1)):=mxP_f (f:=fun p=>p.1)
 have h0:(mnP (fun p=>p.1) x t).1≤(mxP (fun p=>p.1) x t).1:=by rw [e0,E0];exact hlm (fun p=>p.1)
 rw [←e0,←E0]
 clear e0 E0
 have N1:CtrM Tryz.prog Amb 73 [.one (pts j (x::t)),.one (.fn 70 [(5,0)])] [(5,[.v (.int .i64 1)],[.v (.int .i64 1)])] (ptP j (mnP (fun p=>p.2.1) x t)):=(s_minP (g:=70) (f:=fun p=>p.2.1) (j:=j) (n:=1) (x:=x) (t:=t) hl (fun p q=>s_ord1 (by omega))).at1 5 rfl rfl
 have X1:CtrM Tryz.prog Amb 74 [.one (pts j (x::t)),.one (.fn 70 [(5,0)])] [(5,[.v (.int .i64 1)],[.v (.int .i64 1)])] (ptP j (mxP (fun p=>p.2.1) x t)):=(s_maxP (g:=70) (f:=fun p=>p.2.1) (j:=j) (n:=1) (x:=x) (t:=t) hl (fun p q=>s_ord1 (by omega))).at1 5 rfl rfl
 have e1:(mnP (fun p=>p.2.1) x t).2.1=mnA x.2.1 (t.map (·.2.1)):=mnP_f (f:=fun p=>p.2.1)
 have E1:(mxP (fun p=>p.2.1) x t).2.1=mxA x.2.1 (t.map (·.2.1)):=mxP_f (f:=fun p=>p.2.1)
 have h1:(mnP (fun p=>p.2.1) x t).2.1≤(mxP (fun p=>p.2.1) x t).2.1:=by rw [e1,E1];exact hlm (fun p=>p.2.1)
 rw [←e1,←E1]
 clear e1 E1
 have N2:CtrM Tryz.prog Amb 73 [.one (pts j (x::t)),.one (.fn 70 [(5,0)])] [(5,[.v (.int .i64 2)],[.v (.int .i64 2)])] (ptP j (mnP (fun p=>p.2.2) x t)):=(s_minP (g:=70) (f:=fun p=>p.2.2) (j:=j) (n:=2) (x:=x) (t:=t) hl (fun p q=>s_ord2 (by omega))).at1 5 rfl rfl
 have X2:CtrM Tryz.prog Amb 74 [.one (pts j (x::t)),.one (.fn 70 [(5,0)])] [(5,[.v (.int .i64 2)],[.v (.int .i64 2)])] (ptP j (mxP (fun p=>p.2.2) x t)):=(s_maxP (g:=70) (f:=fun p=>p.2.2) (j:=j) (n:=2) (x:=x) (t:=t) hl (fun p q=>s_ord2 (by omega))).at1 5 rfl rfl
 have e2:(mnP (fun p=>p.2.2) x t).2.2=mnA x.2.2 (t.map (·.2.2)):=mnP_f (f:=fun p=>p.2.2)
 have E2:(mxP (fun p=>p.2.2) x t).2.2=mxA x.2.2 (t.map (·.2.2)):=mxP_f (f:=fun p=>p.2.2)
 have h2:(mnP (fun p=>p.2.2) x t).2.2≤(mxP (fun p=>p.2.2) x t).2.2:=by rw [e2,E2];exact hlm (fun p=>p.2.2)
 rw [←e2,←E2]
 clear e2 E2
 generalize mnP (fun p=>p.1) x t=m0 at*
 generalize mxP (fun p=>p.1) x t=M0 at*
 generalize mnP (fun p=>p.2.1) x t=m1 at*
 generalize mxP (fun p=>p.2.1) x t=M1 at*
 generalize mnP (fun p=>p.2.2) x t=m2 at*
 generalize mxP (fun p=>p.2.2) x t=M2 at*
 clear hlm
 have O0:=s_of (j1:=j) (j2:=j) (a:=m0.1) (b:=M0.1) (by omega) (by omega)
 rw [mn_of_le h0,mx_of_le h0] at O0
 have O1:=s_of (j1:=j) (j2:=j) (a:=m1.2.1) (b:=M1.2.1) (by omega) (by omega)
 rw [mn_of_le h1,mx_of_le h1] at O1
 have O2:=s_of (j1:=j) (j2:=j) (a:=m2.2.2) (b:=M2.2.2) (by omega) (by omega)
 rw [mn_of_le h2,mx_of_le h2] at O2
 obtain ⟨J,hJ⟩: ∃J,J=j+j+1:=⟨_,rfl⟩
 rw [←hJ] at O0 O1 O2⊢
 have b0:=binEq (k:= .i64) (decide_eq_false (show ¬((x::t).length:Int)=0 by rw [List.length_cons];omega))
 generalize x::t=l at*
 clear hJ
 refine ctr_body Tryz.func13 rfl rfl rfl rfl rfl rfl ?_
 intro W0 base D μ0 hA hD
 repeat (first
  | refine aw_seq ?_ | refine aw_block ?_ | refine aw_condT rfl ?_ | refine aw_condF rfl ?_
  | ((first | refine aw_plainK (by kernel_rfl) ?_ | refine aw_drawK (by kernel_rfl) (by kernel_rfl) (by kernel_rfl) ?_)
     repeat (first
      | refine v_move (hl:=?_)
      | refine v_assign (hl:=?_)
      | refine v_load (hl:=?_)
      | refine v_store (hl:=?_)
      | refine v_alloc (hl:=?_)
      | refine v_buildS (hl:=?_)
      | refine v_buildA (hl:=?_)
      | refine v_bin (hl:=?_)
      | refine v_indexAddr (hl:=?_)
      | refine v_index (hl:=?_)
      | refine v_makeFunc' (hl:=?_)
      | refine v_eqBool (hl:=?_)
      | refine v_max (hl:=?_)
      | refine v_min (hl:=?_)
      | refine v_len (hl:=?_)
      | refine v_lenS (hl:=?_)
      | refine v_loadF (hl:=?_))
     apply RunK.nil;try refine And.intro (by kernel_rfl) ?_)
  | refine aw_skip ?_ | refine aw_exit ?_)
 refine aw_loop (fun n σ=>(n=3∧Wk ⟨W0,base,D,30,[],μ0⟩ σ [(0,.one (pts j l)),(2,.one (.ptr 2 0)),(3,errV 0),(4,.one (.ptr 4 0)),(11,errV 0)] [(2,bxC 0 0 0 0 0 0 0 0 0),(4,bxC 0 0 0 0 0 0 0 0 0)])∨(n=2∧Wk ⟨W0,base,D,30,[],μ0⟩ σ [(0,.one (pts j l)),(2,.one (.ptr 2 0)),(3,errV 0),(4,.one (.ptr 4 0)),(11,errV 1)] [(2,bxC 0 0 0 0 0 0 0 0 0),(4,bxC J m0.1 M0.1 0 0 0 0 0 0)])∨(n=1∧Wk ⟨W0,base,D,30,[],μ0⟩ σ [(0,.one (pts j l)),(2,.one (.ptr 2 0)),(3,errV 0),(4,.one (.ptr 4 0)),(11,errV 2)] [(2,bxC 0 0 0 0 0 0 0 0 0),(4,bxC J m0.1 M0.1 J m1.2.1 M1.2.1 0 0 0)])∨(n=0∧Wk ⟨W0,base,D,30,[],μ0⟩ σ [(0,.one (pts j l)),(2,.one (.ptr 2 0)),(3,errV 0),(4,.one (.ptr 4 0)),(11,errV 3)] [(2,bxC 0 0 0 0 0 0 0 0 0),(4,bxC J m0.1 M0.1 J m1.2.1 M1.2.1 J m2.2.2 M2.2.2)])) (n:=3) (.inl ⟨rfl,?_⟩) ?_
 ·exact wk_a
 clear b0
 intro n σ hI
 rcases hI with ⟨rfl,hw⟩ | ⟨rfl,hw⟩ | ⟨rfl,hw⟩ | ⟨rfl,hw⟩
 ·refine aw_wk hw ?_
  clear hw
  repeat (first
   | refine aw_seq ?_ | refine aw_block ?_ | refine aw_condT rfl ?_ | refine aw_condF rfl ?_
   | ((first | refine aw_plainK (by kernel_rfl) ?_ | refine aw_drawK (by kernel_rfl) (by kernel_rfl) (by kernel_rfl) ?_)
      repeat (first
       | refine v_indexAddrTo 0 (hl:=?_)
       | refine v_move (hl:=?_)
       | refine v_assign (hl:=?_)
       | refine v_load (hl:=?_)
       | refine v_store (hl:=?_)
       | refine v_alloc (hl:=?_)
       | refine v_buildS (hl:=?_)
       | refine v_buildA (hl:=?_)
       | refine v_bin (hl:=?_)
       | refine v_indexAddr (hl:=?_)
       | refine v_index (hl:=?_)
       | refine v_makeFunc' (hl:=?_)
       | refine v_eqBool (hl:=?_)
       | refine v_max (hl:=?_)
       | refine v_min (hl:=?_)
       | refine v_len (hl:=?_)
       | refine v_lenS (hl:=?_)
       | refine v_loadF (hl:=?_)
       | refine v_callR hA [(5,[.v (.int .i64 0)])] N0 (hl:=?_)
       | refine v_callR hA [(5,[.v (.int .i64 0)])] X0 (hl:=?_)
       | refine v_callE hA (hc:=O0) (hl:=?_))
      apply RunK.nil;try refine And.intro (by kernel_rfl) ?_)
   | refine aw_skip ?_ | refine aw_exit ?_)
  refine ⟨2,by decide,.inr (.inl ⟨rfl,?_⟩)⟩
  refine wk_mk ?_ ?_ rfl
  ·exact wk_s
  ·repeat (first | exact nil_all | (refine List.forall_mem_cons.2 ⟨?_,?_⟩;focus (first | exact blk_keep inferInstance | (exact blk_ok (by kernel_rfl) (EntL.of_eq (by kernel_rfl)) (by kernel_rfl)) | (refine blk_ok rfl ?_ rfl;focus (exact entl_a;done)))))
 ·refine aw_wk hw ?_
  clear hw
  repeat (first
   | refine aw_seq ?_ | refine aw_block ?_ | refine aw_condT rfl ?_ | refine aw_condF rfl ?_
   | ((first | refine aw_plainK (by kernel_rfl) ?_ | refine aw_drawK (by kernel_rfl) (by kernel_rfl) (by kernel_rfl) ?_)
      repeat (first
       | refine v_indexAddrTo 6 (hl:=?_)
       | refine v_move (hl:=?_)
       | refine v_assign (hl:=?_)
       | refine v_load (hl:=?_)
       | refine v_store (hl:=?_)
       | refine v_alloc (hl:=?_)
       | refine v_buildS (hl:=?_)
       | refine v_buildA (hl:=?_)
       | refine v_bin (hl:=?_)
       | refine v_indexAddr (hl:=?_)
       | refine v_index (hl:=?_)
       | refine v_makeFunc' (hl:=?_)
       | refine v_eqBool (hl:=?_)
       | refine v_max (hl:=?_)
       | refine v_min (hl:=?_)
       | refine v_len (hl:=?_)
       | refine v_lenS (hl:=?_)
       | refine v_loadF (hl:=?_)
       | refine v_callR hA [(5,[.v (.int .i64 1)])] N1 (hl:=?_)
       | refine v_callR hA [(5,[.v (.int .i64 1)])] X1 (hl:=?_)
       | refine v_callE hA (hc:=O1) (hl:=?_))
      apply RunK.nil;try refine And.intro (by kernel_rfl) ?_)
   | refine aw_skip ?_ | refine aw_exit ?_)
  refine ⟨1,by decide,.inr (.inr (.inl ⟨rfl,?_⟩))⟩
  refine wk_mk ?_ ?_ rfl
  ·exact wk_s
  ·repeat (first | exact nil_all | (refine List.forall_mem_cons.2 ⟨?_,?_⟩;focus (first | exact blk_keep inferInstance | (exact blk_ok (by kernel_rfl) (EntL.of_eq (by kernel_rfl)) (by kernel_rfl)) | (refine blk_ok rfl ?_ rfl;focus (exact entl_a;done)))))
 ·refine aw_wk hw ?_
  clear hw
  repeat (first
   | refine aw_seq ?_ | refine aw_block ?_ | refine aw_condT rfl ?_ | refine aw_condF rfl ?_
   | ((first | refine aw_plainK (by kernel_rfl) ?_ | refine aw_drawK (by kernel_rfl) (by kernel_rfl) (by kernel_rfl) ?_)
      repeat (first
       | refine v_indexAddrTo 12 (hl:=?_)
       | refine v_move (hl:=?_)
       | refine v_assign (hl:=?_)
       | refine v_load (hl:=?_)
       | refine v_store (hl:=?_)
       | refine v_alloc (hl:=?_)
       | refine v_buildS (hl:=?_)
       | refine v_buildA (hl:=?_)
       | refine v_bin (hl:=?_)
       | refine v_indexAddr (hl:=?_)
       | refine v_index (hl:=?_)
       | refine v_makeFunc' (hl:=?_)
       | refine v_eqBool (hl:=?_)
       | refine v_max (hl:=?_)
       | refine v_min (hl:=?_)
       | refine v_len (hl:=?_)
       | refine v_lenS (hl:=?_)
       | refine v_loadF (hl:=?_)
       | refine v_callR hA [(5,[.v (.int .i64 2)])] N2 (hl:=?_)
       | refine v_callR hA [(5,[.v (.int .i64 2)])] X2 (hl:=?_)
       | refine v_callE hA (hc:=O2) (hl:=?_))
      apply RunK.nil;try refine And.intro (by kernel_rfl) ?_)
   | refine aw_skip ?_ | refine aw_exit ?_)
  refine ⟨0,by decide,.inr (.inr (.inr ⟨rfl,?_⟩))⟩
  refine wk_mk ?_ ?_ rfl
  ·exact wk_s
  ·repeat (first | exact nil_all | (refine List.forall_mem_cons.2 ⟨?_,?_⟩;focus (first | exact blk_keep inferInstance | (exact blk_ok (by kernel_rfl) (EntL.of_eq (by kernel_rfl)) (by kernel_rfl)) | (refine blk_ok rfl ?_ rfl;focus (exact entl_a;done)))))
 ·refine aw_wk hw ?_
  clear hw
  repeat (first
   | refine aw_seq ?_ | refine aw_block ?_ | refine aw_condT rfl ?_ | refine aw_condF rfl ?_
   | ((first | refine aw_plainK (by kernel_rfl) ?_ | refine aw_drawK (by kernel_rfl) (by kernel_rfl) (by kernel_rfl) ?_)
      repeat (first
       | refine v_move (hl:=?_)
       | refine v_assign (hl:=?_)
       | refine v_load (hl:=?_)
       | refine v_store (hl:=?_)
       | refine v_alloc (hl:=?_)
       | refine v_buildS (hl:=?_)
       | refine v_buildA (hl:=?_)
       | refine v_bin (hl:=?_)
       | refine v_indexAddr (hl:=?_)
       | refine v_index (hl:=?_)
       | refine v_makeFunc' (hl:=?_)
       | refine v_eqBool (hl:=?_)
       | refine v_max (hl:=?_)
       | refine v_min (hl:=?_)
       | refine v_len (hl:=?_)
       | refine v_lenS (hl:=?_)
       | refine v_loadF (hl:=?_))
      apply RunK.nil;try refine And.intro (by kernel_rfl) ?_)
   | refine aw_skip ?_ | refine aw_exit ?_)
  refine aw_wk (ss:= [(2,.one (.ptr 2 0)),(3,errV 0)]) (bs:= [(2,bxC J m0.1 M0.1 J m1.2.1 M1.2.1 J m2.2.2 M2.2.2)]) ?_ ?_
  ·exact wk_a
  refine aw_ret (And.intro (Or.inr rfl) ?_)
  exact f_two
end Go.Proofs.YtnkobfcnflphkaaGreatDoor
namespace Go.Proofs.YtnkobfcnflphkaaGreatDoor
open Go.RowKit
set_option linter.unusedVariables false
set_option linter.unusedSimpArgs false
set_option maxRecDepth 20000
set_option maxHeartbeats 4000000
def mn3 (u p:P3):P3:=(mn u.1 p.1,mn u.2.1 p.2.1,mn u.2.2 p.2.2)
def mx3 (u p:P3):P3:=(mx u.1 p.1,mx u.2.1 p.2.1,mx u.2.2 p.2.2)
def mnF:P3→List P3→P3
 | u,[]=>u
 | u,p::l=>mnF (mn3 u p) l
def mxF:P3→List P3→P3
 | u,[]=>u
 | u,p::l=>mxF (mx3 u p) l
theorem mnF_eq: ∀ {l:List P3} {u:P3},mnF u l=(mnA u.1 (l.map (·.1)),mnA u.2.1 (l.map (·.2.1)),mnA u.2.2 (l.map (·.2.2)))
 | [],u=>rfl
 | p::l,u=>by
   show mnF (mn3 u p) l=_
   rw [mnF_eq]
   rfl
theorem mxF_eq: ∀ {l:List P3} {u:P3},mxF u l=(mxA u.1 (l.map (·.1)),mxA u.2.1 (l.map (·.2.1)),mxA u.2.2 (l.map (·.2.2)))
 | [],u=>rfl
 | p::l,u=>by
   show mxF (mx3 u p) l=_
   rw [mxF_eq]
   rfl
structure RS3 (j:Nat) (p:P3):Prop where
 a:RSz j p.1
 b:RSz j p.2.1
 c:RSz j p.2.2
theorem RS3.mn {j:Nat} {u p:P3} (h:RS3 j u) (k:RS3 j p):RS3 j (mn3 u p):=⟨mn_rsz h.a k.a,mn_rsz h.b k.b,mn_rsz h.c k.c⟩
theorem RS3.mx {j:Nat} {u p:P3} (h:RS3 j u) (k:RS3 j p):RS3 j (mx3 u p):=⟨mx_rsz h.a k.a,mx_rsz h.b k.b,mx_rsz h.c k.c⟩
theorem t_pointBox {j:Nat} {a b c:Rat} (hj:j≤1000000):Ctr Tryz.prog Amb 75 [pt j a b c] (bx j a a b b c c):=by
 have T0:=t_point (j1:=j) (a:=a) hj
 have T1:=t_point (j1:=j) (a:=b) hj
 have T2:=t_point (j1:=j) (a:=c) hj
 refine ctr_body Tryz.func75 rfl rfl rfl rfl rfl rfl ?_
 intro W0 base D μ0 hA hD
 repeat (first
  | refine aw_seq ?_ | refine aw_block ?_ | refine aw_condT rfl ?_ | refine aw_condF rfl ?_
  | ((first | refine aw_plainK (by kernel_rfl) ?_ | refine aw_drawK (by kernel_rfl) (by kernel_rfl) (by kernel_rfl) ?_)
     repeat (first
      | refine v_load (hl:=?_)
      | refine v_store (hl:=?_)
      | refine v_box (hl:=?_)
      | refine v_alloc (hl:=?_)
      | refine v_buildS (hl:=?_)
      | refine v_buildA (hl:=?_)
      | refine v_indexAddr (hl:=?_)
      | refine v_loadF (hl:=?_)
      | refine v_callE hA (hc:=T0) (hl:=?_)
      | refine v_callE hA (hc:=T1) (hl:=?_)
      | refine v_callE hA (hc:=T2) (hl:=?_))
     apply RunK.nil;try refine And.intro (by kernel_rfl) ?_)
  | refine aw_skip ?_ | refine aw_exit ?_)
 refine aw_wk (ss:= [(2,.one (.ptr 2 0))]) (bs:= [(2,bxC j a a j b b j c c)]) ?_ ?_
 ·refine wk_mk ?_ ?_ rfl
  ·exact wk_s
  ·repeat (first | exact nil_all | (refine List.forall_mem_cons.2 ⟨?_,?_⟩;focus (first | exact blk_keep inferInstance | (exact blk_ok (by kernel_rfl) (EntL.of_eq (by kernel_rfl)) (by kernel_rfl)) | (refine blk_ok rfl ?_ rfl;focus (exact entl_a;done)))))
 refine aw_ret (And.intro (Or.inr rfl) ?_)
 exact f_one
theorem t_boxNil {j:Nat} :Ctr Tryz.prog Amb 14 [.one (pts j [])] (.tup [bx 0 0 0 0 0 0 0,errV 1]):=by
 have b0:=binEq (k:= .i64) (decide_eq_true (show (([]:List P3).length:Int)=0 from rfl))
 refine ctr_body Tryz.func14 rfl rfl rfl rfl rfl rfl ?_
 intro W0 base D μ0 hA hD
 repeat (first | refine aw_seq ?_ | refine aw_block ?_ | refine aw_condT rfl ?_ | refine aw_condF rfl ?_ | refine aw_pa ?_ | refine aw_da ?_ | refine aw_skip ?_ | refine aw_exit ?_)
 refine aw_ret (And.intro (Or.inr rfl) ?_)
 exact f_two
theorem t_boxOf {j:Nat} {x:P3} {t:List P3} (hl:t.length≤100000) (hj:j≤100000) (hr: ∀p∈x::t,RS3 j p):
  Ctr Tryz.prog Amb 14 [.one (pts j (x::t))] (.tup [bx j (mnF x t).1 (mxF x t).1 (mnF x t).2.1 (mxF x t).2.1 (mnF x t).2.2 (mxF x t).2.2,errV 0]):=by
 obtain ⟨l,hle⟩: ∃l,l=x::t:=⟨_,rfl⟩
 obtain ⟨U,hU⟩: ∃R,R=mnF x t:=⟨_,rfl⟩
 obtain ⟨V,hV⟩: ∃R,R=mxF x t:=⟨_,rfl⟩
 obtain ⟨J,hJ⟩: ∃J,J=j+j+1:=⟨_,rfl⟩
 have hll:l.length=t.length+1:=by rw [hle];rfl
 have hd1:mnF x (l.drop 1)=U:=by rw [hle,hU];rfl
 have hd2:mxF x (l.drop 1)=V:=by rw [hle,hV];rfl
 have hx0:l[((0:Nat):Int).toNat]?=some x:=by rw [hle];rfl
 rw [←hle] at hr⊢
 rw [←hU,←hV]
 have hxr:=hr x (by rw [hle];exact List.mem_cons_self)
 have P0:=t_pointBox (j:=j) (a:=x.1) (b:=x.2.1) (c:=x.2.2) (by omega)
 have b0:=binEq (k:= .i64) (decide_eq_false (show ¬(l.length:Int)=0 by omega))
 clear hle hU hV
 refine ctr_body Tryz.func14 rfl rfl rfl rfl rfl rfl ?_
 intro W0 base D μ0 hA hD
 repeat (first
  | refine aw_seq ?_ | refine aw_block ?_ | refine aw_condT rfl ?_ | refine aw_condF rfl ?_
  | ((first | refine aw_plainK (by kernel_rfl) ?_ | refine aw_drawK (by kernel_rfl) (by kernel_rfl) (by kernel_rfl) ?_)
     repeat (first
      | refine v_move (hl:=?_)
      | refine v_assign (hl:=?_)
      | refine v_load (hl:=?_)
      | refine v_store (hl:=?_)
      | refine v_alloc (hl:=?_)
      | refine v_buildS (hl:=?_)
      | refine v_buildA (hl:=?_)
      | refine v_bin (hl:=?_)
      | refine v_indexAddr (hl:=?_)
      | refine v_eqBool (hl:=?_)
      | refine v_max (hl:=?_)
      | refine v_min (hl:=?_)
      | refine v_len (hl:=?_)
      | refine v_lenS (hl:=?_)
      | refine v_loadF (hl:=?_)
      | refine v_callE hA (hc:=P0) (hl:=?_)
      | refine v_idx (i:=((0:Nat):Int)) hx0 (by omega) (hl:=?_))
     apply RunK.nil;try refine And.intro (by kernel_rfl) ?_)
  | refine aw_skip ?_ | refine aw_exit ?_)
 refine aw_loop (fun c σ=> ∃(i:Nat) (u v:P3),c=l.length-i∧1≤i∧i≤l.length∧RS3 j u∧RS3 j v∧mnF u (l.drop i)=U∧mxF v (l.drop i)=V∧Wk ⟨W0,base,D,39,[],μ0⟩ σ [(0,.one (pts j l)),(2,.one (.ptr 2 0)),(3,errV 0),(4,.one (.ptr 4 0)),(5,errV (i:Nat))] [(2,bxC 0 0 0 0 0 0 0 0 0),(4,bxC j u.1 v.1 j u.2.1 v.2.1 j u.2.2 v.2.2)]) (n:=l.length-1) ⟨1,x,x,rfl,Nat.le_refl _,by omega,hxr,hxr,hd1,hd2,?_⟩ ?_
 ·exact wk_a
 clear hx0 hd1 hd2 hxr P0 b0
 intro c σ hI
 obtain ⟨i,u,v,hc,hi1,hi0,hus,hvs,hS1,hS2,hw⟩:=hI
 refine aw_wk hw ?_
 clear hw
 by_cases hi:i<l.length
 ·obtain ⟨y,hy,hy'⟩:=get_atP hi
  have bi:=binLt (k:= .i64) (decide_eq_true (show (i:Int)<(l.length:Int) by omega))
  have hin:=binAdd (k:= .i64) (show (IntKind.i64).wrap ((i:Int)+1)=((i+1:Nat):Int) from IntWalk.i64_in _ (by omega))
  have hyr:=hr y (List.mem_of_getElem? hy')
  rw [drop_atP hy'] at hS1 hS2
  replace hS1:mnF (mn3 u y) (l.drop (i+1))=U:=hS1
  replace hS2:mxF (mx3 v y) (l.drop (i+1))=V:=hS2
  have zu:=hus.mn hyr
  have zv:=hvs.mx hyr
  have T0:=t_point (j1:=j) (a:=y.1) (by omega)
  have T1:=t_point (j1:=j) (a:=y.2.1) (by omega)
  have T2:=t_point (j1:=j) (a:=y.2.2) (by omega)
  have H0:Ctr Tryz.prog Amb 76 [sp j u.1 j v.1,sp j y.1 j y.1] (sp J (mn3 u y).1 J (mx3 v y).1):=by rw [hJ];exact t_hull (by omega) (by omega) (by omega) (by omega)
  have H1:Ctr Tryz.prog Amb 76 [sp j u.2.1 j v.2.1,sp j y.2.1 j y.2.1] (sp J (mn3 u y).2.1 J (mx3 v y).2.1):=by rw [hJ];exact t_hull (by omega) (by omega) (by omega) (by omega)
  have H2:Ctr Tryz.prog Amb 76 [sp j u.2.2 j v.2.2,sp j y.2.2 j y.2.2] (sp J (mn3 u y).2.2 J (mx3 v y).2.2):=by rw [hJ];exact t_hull (by omega) (by omega) (by omega) (by omega)
  generalize mn3 u y=w at*
  generalize mx3 v y=W at*
  have w1:=zu.a
  have w2:=zu.b
  have w3:=zu.c
  have W1:=zv.a
  have W2:=zv.b
  have W3:=zv.c
  repeat (first
   | refine aw_seq ?_ | refine aw_block ?_ | refine aw_condT rfl ?_ | refine aw_condF rfl ?_
   | ((first | refine aw_plainK (by kernel_rfl) ?_ | refine aw_drawK (by kernel_rfl) (by kernel_rfl) (by kernel_rfl) ?_)
      repeat (first
       | refine v_move (hl:=?_)
       | refine v_assign (hl:=?_)
       | refine v_load (hl:=?_)
       | refine v_store (hl:=?_)
       | refine v_alloc (hl:=?_)
       | refine v_buildS (hl:=?_)
       | refine v_buildA (hl:=?_)
       | refine v_bin (hl:=?_)
       | refine v_indexAddr (hl:=?_)
       | refine v_eqBool (hl:=?_)
       | refine v_max (hl:=?_)
       | refine v_min (hl:=?_)
       | refine v_len (hl:=?_)
       | refine v_lenS (hl:=?_)
       | refine v_loadF (hl:=?_))
      apply RunK.nil;try refine And.intro (by kernel_rfl) ?_)
   | refine aw_skip ?_ | refine aw_exit ?_)
  refine aw_loop (fun n σ=>(n=3∧Wk ⟨W0,base,D,39,[],μ0⟩ σ [(0,.one (pts j l)),(2,.one (.ptr 2 0)),(3,errV 0),(4,.one (.ptr 4 0)),(5,errV (i:Nat)),(6,errV 0)] [(2,bxC 0 0 0 0 0 0 0 0 0),(4,bxC j u.1 v.1 j u.2.1 v.2.1 j u.2.2 v.2.2)])∨(n=2∧Wk ⟨W0,base,D,39,[],μ0⟩ σ [(0,.one (pts j l)),(2,.one (.ptr 2 0)),(3,errV 0),(4,.one (.ptr 4 0)),(5,errV (i:Nat)),(6,errV 1)] [(2,bxC 0 0 0 0 0 0 0 0 0),(4,bxC J w.1 W.1 j u.2.1 v.2.1 j u.2.2 v.2.2)])∨(n=1∧Wk ⟨W0,base,D,39,[],μ0⟩ σ [(0,.one (pts j l)),(2,.one (.ptr 2 0)),(3,errV 0),(4,.one (.ptr 4 0)),(5,errV (i:Nat)),(6,errV 2)] [(2,bxC 0 0 0 0 0 0 0 0 0),(4,bxC J w.1 W.1 J w.2.1 W.2.1 j u.2.2 v.2.2)])∨(n=0∧Wk ⟨W0,base,D,39,[],μ0⟩ σ [(0,.one (pts j l)),(2,.one (.ptr 2 0)),(3,errV 0),(4,.one (.ptr 4 0)),(5,errV (i:Nat)),(6,errV 3)] [(2,bxC 0 0 0 0 0 0 0 0 0),(4,bxC J w.1 W.1 J w.2.1 W.2.1 J w.2.2 W.2.2)])) (n:=3) (.inl ⟨rfl,?_⟩) ?_
  ·exact wk_a
  intro n σ hI
  rcases hI with ⟨rfl,hw⟩ | ⟨rfl,hw⟩ | ⟨rfl,hw⟩ | ⟨rfl,hw⟩
  ·refine aw_wk hw ?_
   clear hw
   repeat (first
    | refine aw_seq ?_ | refine aw_block ?_ | refine aw_condT rfl ?_ | refine aw_condF rfl ?_
    | ((first | refine aw_plainK (by kernel_rfl) ?_ | refine aw_drawK (by kernel_rfl) (by kernel_rfl) (by kernel_rfl) ?_)
       repeat (first
        | refine v_indexAddrTo 0 (hl:=?_)
        | refine v_move (hl:=?_)
        | refine v_assign (hl:=?_)
        | refine v_load (hl:=?_)
        | refine v_store (hl:=?_)
        | refine v_alloc (hl:=?_)
        | refine v_buildS (hl:=?_)
        | refine v_buildA (hl:=?_)
        | refine v_bin (hl:=?_)
        | refine v_indexAddr (hl:=?_)
        | refine v_eqBool (hl:=?_)
        | refine v_max (hl:=?_)
        | refine v_min (hl:=?_)
        | refine v_len (hl:=?_)
        | refine v_lenS (hl:=?_)
        | refine v_loadF (hl:=?_)
        | refine v_idx hy (by omega) (hl:=?_)
        | refine v_indexF (hl:=?_)
        | refine v_callE hA (hc:=T0) (hl:=?_)
        | refine v_callE hA (hc:=H0) (hl:=?_))
       apply RunK.nil;try refine And.intro (by kernel_rfl) ?_)
    | refine aw_skip ?_ | refine aw_exit ?_)
   refine ⟨2,by decide,.inr (.inl ⟨rfl,?_⟩)⟩
   refine wk_mk ?_ ?_ rfl
   ·exact wk_s
   ·repeat (first | exact nil_all | (refine List.forall_mem_cons.2 ⟨?_,?_⟩;focus (first | exact blk_keep inferInstance | (exact blk_ok (by kernel_rfl) (EntL.of_eq (by kernel_rfl)) (by kernel_rfl)) | (refine blk_ok rfl ?_ rfl;focus (exact entl_a;done)))))
  ·refine aw_wk hw ?_
   clear hw
   repeat (first
    | refine aw_seq ?_ | refine aw_block ?_ | refine aw_condT rfl ?_ | refine aw_condF rfl ?_
    | ((first | refine aw_plainK (by kernel_rfl) ?_ | refine aw_drawK (by kernel_rfl) (by kernel_rfl) (by kernel_rfl) ?_)
       repeat (first
        | refine v_indexAddrTo 6 (hl:=?_)
        | refine v_move (hl:=?_)
        | refine v_assign (hl:=?_)
        | refine v_load (hl:=?_)
        | refine v_store (hl:=?_)
        | refine v_alloc (hl:=?_)
        | refine v_buildS (hl:=?_)
        | refine v_buildA (hl:=?_)
        | refine v_bin (hl:=?_)
        | refine v_indexAddr (hl:=?_)
        | refine v_eqBool (hl:=?_)
        | refine v_max (hl:=?_)
        | refine v_min (hl:=?_)
        | refine v_len (hl:=?_)
        | refine v_lenS (hl:=?_)
        | refine v_loadF (hl:=?_)
        | refine v_idx hy (by omega) (hl:=?_)
        | refine v_indexF (hl:=?_)
        | refine v_callE hA (hc:=T1) (hl:=?_)
        | refine v_callE hA (hc:=H1) (hl:=?_))
       apply RunK.nil;try refine And.intro (by kernel_rfl) ?_)
    | refine aw_skip ?_ | refine aw_exit ?_)
   refine ⟨1,by decide,.inr (.inr (.inl ⟨rfl,?_⟩))⟩
   refine wk_mk ?_ ?_ rfl
   ·exact wk_s
   ·repeat (first | exact nil_all | (refine List.forall_mem_cons.2 ⟨?_,?_⟩;focus (first | exact blk_keep inferInstance | (exact blk_ok (by kernel_rfl) (EntL.of_eq (by kernel_rfl)) (by kernel_rfl)) | (refine blk_ok rfl ?_ rfl;focus (exact entl_a;done)))))
  ·refine aw_wk hw ?_
   clear hw
   repeat (first
    | refine aw_seq ?_ | refine aw_block ?_ | refine aw_condT rfl ?_ | refine aw_condF rfl ?_
    | ((first | refine aw_plainK (by kernel_rfl) ?_ | refine aw_drawK (by kernel_rfl) (by kernel_rfl) (by kernel_rfl) ?_)
       repeat (first
        | refine v_indexAddrTo 12 (hl:=?_)
        | refine v_move (hl:=?_)
        | refine v_assign (hl:=?_)
        | refine v_load (hl:=?_)
        | refine v_store (hl:=?_)
        | refine v_alloc (hl:=?_)
        | refine v_buildS (hl:=?_)
        | refine v_buildA (hl:=?_)
        | refine v_bin (hl:=?_)
        | refine v_indexAddr (hl:=?_)
        | refine v_eqBool (hl:=?_)
        | refine v_max (hl:=?_)
        | refine v_min (hl:=?_)
        | refine v_len (hl:=?_)
        | refine v_lenS (hl:=?_)
        | refine v_loadF (hl:=?_)
        | refine v_idx hy (by omega) (hl:=?_)
        | refine v_indexF (hl:=?_)
        | refine v_callE hA (hc:=T2) (hl:=?_)
        | refine v_callE hA (hc:=H2) (hl:=?_))
       apply RunK.nil;try refine And.intro (by kernel_rfl) ?_)
    | refine aw_skip ?_ | refine aw_exit ?_)
   refine ⟨0,by decide,.inr (.inr (.inr ⟨rfl,?_⟩))⟩
   refine wk_mk ?_ ?_ rfl
   ·exact wk_s
   ·repeat (first | exact nil_all | (refine List.forall_mem_cons.2 ⟨?_,?_⟩;focus (first | exact blk_keep inferInstance | (exact blk_ok (by kernel_rfl) (EntL.of_eq (by kernel_rfl)) (by kernel_rfl)) | (refine blk_ok rfl ?_ rfl;focus (exact entl_a;done)))))
  ·refine aw_wk hw ?_
   clear hw
   repeat (first
    | refine aw_seq ?_ | refine aw_block ?_ | refine aw_condT rfl ?_ | refine aw_condF rfl ?_
    | ((first | refine aw_plainK (by kernel_rfl) ?_ | refine aw_drawK (by kernel_rfl) (by kernel_rfl) (by kernel_rfl) ?_)
       repeat (first
        | refine v_move (hl:=?_)
        | refine v_assign (hl:=?_)
        | refine v_load (hl:=?_)
        | refine v_store (hl:=?_)
        | refine v_alloc (hl:=?_)
        | refine v_buildS (hl:=?_)
        | refine v_buildA (hl:=?_)
        | refine v_bin (hl:=?_)
        | refine v_indexAddr (hl:=?_)
        | refine v_eqBool (hl:=?_)
        | refine v_max (hl:=?_)
        | refine v_min (hl:=?_)
        | refine v_len (hl:=?_)
        | refine v_lenS (hl:=?_)
        | refine v_loadF (hl:=?_))
       apply RunK.nil;try refine And.intro (by kernel_rfl) ?_)
    | refine aw_skip ?_ | refine aw_exit ?_)
   refine ⟨c-1,by omega,i+1,w,W,by omega,by omega,by omega,zu,zv,hS1,hS2,?_⟩
   exact wk_a
 ·have bi:=binLt (k:= .i64) (decide_eq_false (show ¬(i:Int)<(l.length:Int) by omega))
  rw [List.drop_eq_nil_of_le (by omega)] at hS1 hS2
  replace hS1:u=U:=hS1
  replace hS2:v=V:=hS2
  subst hS1 hS2
  repeat (first
   | refine aw_seq ?_ | refine aw_block ?_ | refine aw_condT rfl ?_ | refine aw_condF rfl ?_
   | ((first | refine aw_plainK (by kernel_rfl) ?_ | refine aw_drawK (by kernel_rfl) (by kernel_rfl) (by kernel_rfl) ?_)
      repeat (first
       | refine v_move (hl:=?_)
       | refine v_assign (hl:=?_)
       | refine v_load (hl:=?_)
       | refine v_store (hl:=?_)
       | refine v_alloc (hl:=?_)
       | refine v_buildS (hl:=?_)
       | refine v_buildA (hl:=?_)
       | refine v_bin (hl:=?_)
       | refine v_indexAddr (hl:=?_)
       | refine v_eqBool (hl:=?_)
       | refine v_max (hl:=?_)
       | refine v_min (hl:=?_)
       | refine v_len (hl:=?_)
       | refine v_lenS (hl:=?_)
       | refine v_loadF (hl:=?_))
      apply RunK.nil;try refine And.intro (by kernel_rfl) ?_)
   | refine aw_skip ?_ | refine aw_exit ?_)
  refine aw_wk (ss:= [(2,.one (.ptr 2 0)),(3,errV 0)]) (bs:= [(2,bxC j u.1 v.1 j u.2.1 v.2.1 j u.2.2 v.2.2)]) ?_ ?_
  ·exact wk_a
  refine aw_ret (And.intro (Or.inr rfl) ?_)
  exact f_two
end Go.Proofs.YtnkobfcnflphkaaGreatDoor
namespace Go.Proofs.YtnkobfcnflphkaaGreatDoor
open Go.RowKit
set_option linter.unusedVariables false
set_option linter.unusedSimpArgs false
set_option maxRecDepth 20000
set_option maxHeartbeats 4000000
theorem w_sameBox {j k:Nat} {a b c d e f:Rat} :Ctr Tryz.prog Amb 16 [bx j a b c d e f,bx k a b c d e f] (.one (.v (.bool true))):=by
 have S0:Ctr Tryz.prog Amb 27 [sp j a j b,sp k a k b] (.one (.v (.bool true))):=t_same (p:=true) (q:=true) (by simp) (by simp)
 have S1:Ctr Tryz.prog Amb 27 [sp j c j d,sp k c k d] (.one (.v (.bool true))):=t_same (p:=true) (q:=true) (by simp) (by simp)
 have S2:Ctr Tryz.prog Amb 27 [sp j e j f,sp k e k f] (.one (.v (.bool true))):=t_same (p:=true) (q:=true) (by simp) (by simp)
 refine ctr_body Tryz.func16 rfl rfl rfl rfl rfl rfl ?_
 intro W0 base D μ0 hA hD
 repeat (first
  | refine aw_seq ?_ | refine aw_block ?_ | refine aw_condT rfl ?_ | refine aw_condF rfl ?_
  | ((first | refine aw_plainK (by kernel_rfl) ?_ | refine aw_drawK (by kernel_rfl) (by kernel_rfl) (by kernel_rfl) ?_)
     repeat (first
      | refine v_skip (hl:=?_)
      | refine v_move (hl:=?_)
      | refine v_assign (hl:=?_)
      | refine v_load (hl:=?_)
      | refine v_box (hl:=?_)
      | refine v_indexAddr (hl:=?_)
      | refine v_pickT (hl:=?_)
      | refine v_pickF (hl:=?_)
      | refine v_loadF (hl:=?_)
      | refine v_callE hA (hc:=S0) (hl:=?_)
      | refine v_callE hA (hc:=S1) (hl:=?_)
      | refine v_callE hA (hc:=S2) (hl:=?_))
     apply RunK.nil;try refine And.intro (by kernel_rfl) ?_)
  | refine aw_skip ?_ | refine aw_exit ?_)
 refine aw_ret (And.intro (Or.inr rfl) ?_)
 exact f_one
theorem cmp_gtP {x y:Rat} :cmpR x y>0↔y<x:=by
 unfold cmpR
 constructor
 ·intro h
  split at h
  ·exact absurd h (by decide)
  ·split at h
   ·assumption
   ·exact absurd h (by decide)
 ·intro h
  rw [if_neg (Rat.not_lt.2 (Rat.le_of_lt h)),if_pos h]
  decide
def meB (a b c d:Rat):Bool:=!(decide (cmpR a d>0) || decide (cmpR c b>0))
theorem meB_eq {a b c d:Rat} (h1:a≤b) (h2:c≤d):decide (cmpR (mx a c) (mn b d)>0)=(decide (cmpR a d>0) || decide (cmpR c b>0)):=by
 have key:(cmpR (mx a c) (mn b d)>0)↔(cmpR a d>0∨cmpR c b>0):=by
  rw [cmp_gtP,cmp_gtP,cmp_gtP]
  rcases mx_cases a c with ⟨e,h3⟩ | ⟨e,h3⟩<;>rcases mn_cases b d with ⟨e',h4⟩ | ⟨e',h4⟩<;>rw [e,e']
  ·constructor
   ·intro h;exact absurd h (Rat.not_lt.2 h1)
   ·intro h;rcases h with h | h<;>grind
  ·constructor
   ·intro h;exact .inl h
   ·intro h;rcases h with h | h<;>grind
  ·constructor
   ·intro h;exact .inr h
   ·intro h;rcases h with h | h<;>grind
  ·constructor
   ·intro h;exact absurd h (Rat.not_lt.2 h2)
   ·intro h;rcases h with h | h<;>grind
 by_cases h:cmpR (mx a c) (mn b d)>0
 ·rw [decide_eq_true h]
  rcases key.1 h with h | h
  ·rw [decide_eq_true h,Bool.true_or]
  ·rw [decide_eq_true h,Bool.or_true]
 ·rw [decide_eq_false h,decide_eq_false (fun hh=>h (key.2 (.inl hh))),decide_eq_false (fun hh=>h (key.2 (.inr hh)))]
  rfl
theorem s_meet' {j k:Nat} {a b c d:Rat} (h1:j≤1000000) (h2:k≤1000000): ∃e r s,Ctr Tryz.prog Amb 80 [sp j a j b,sp k c k d] (.tup [sp e r e s,.one (.v (.bool (meB a b c d)))]):=by
 have h:=s_meet (j1:=j) (j2:=j) (j3:=k) (j4:=k) (a:=a) (b:=b) (c:=c) (d:=d) rfl rfl h1 h1 h2 h2
 by_cases hp:(decide (cmpR a d>0) || decide (cmpR c b>0))=true
 ·rw [if_pos hp] at h
  exact ⟨_,_,_,h⟩
 ·rw [if_neg hp] at h
  exact ⟨_,_,_,h⟩
theorem t_meet' {j k:Nat} {a b c d:Rat} (h1:j≤1000000) (h2:k≤1000000) (h3:a≤b) (h4:c≤d): ∃e r s,Ctr Tryz.prog Amb 81 [sp j a j b,sp k c k d] (.tup [sp e r e s,.one (.v (.bool (meB a b c d)))]):=by
 have h:=t_meet (j1:=j) (j2:=j) (j3:=k) (j4:=k) (a:=a) (b:=b) (c:=c) (d:=d) (meB_eq h3 h4) h1 h1 h2 h2
 by_cases hp:(decide (cmpR a d>0) || decide (cmpR c b>0))=true
 ·rw [if_pos hp] at h
  exact ⟨_,_,_,h⟩
 ·rw [if_neg hp] at h
  exact ⟨_,_,_,h⟩
theorem v_meets0 {j k e0 e1 e2:Nat} {a0 b0 a1 b1 a2 b2 c0 d0 c1 d1 c2 d2 r0 s0 r1 s1 r2 s2:Rat} {m0 m1 m2:Bool}
  (S0:Ctr Tryz.prog Amb 80 [sp j a0 j b0,sp k c0 k d0] (.tup [sp e0 r0 e0 s0,.one (.v (.bool m0))]))
  (S1:Ctr Tryz.prog Amb 80 [sp j a1 j b1,sp k c1 k d1] (.tup [sp e1 r1 e1 s1,.one (.v (.bool m1))]))
  (S2:Ctr Tryz.prog Amb 80 [sp j a2 j b2,sp k c2 k d2] (.tup [sp e2 r2 e2 s2,.one (.v (.bool m2))])):
  Ctr Tryz.prog Amb 17 [bx j a0 b0 a1 b1 a2 b2,bx k c0 d0 c1 d1 c2 d2] (.one (.v (.bool (m0&&m1&&m2)))):=by
 refine ctr_body Tryz.func17 rfl rfl rfl rfl rfl rfl ?_
 intro W0 base D μ0 hA hD
 repeat (first
  | refine aw_seq ?_ | refine aw_block ?_ | refine aw_condT rfl ?_ | refine aw_condF rfl ?_
  | ((first | refine aw_plainK (by kernel_rfl) ?_ | refine aw_drawK (by kernel_rfl) (by kernel_rfl) (by kernel_rfl) ?_)
     repeat (first
      | refine v_move (hl:=?_)
      | refine v_assign (hl:=?_)
      | refine v_load (hl:=?_)
      | refine v_store (hl:=?_)
      | refine v_box (hl:=?_)
      | refine v_alloc (hl:=?_)
      | refine v_extract (hl:=?_)
      | refine v_bin (hl:=?_)
      | refine v_indexAddr (hl:=?_)
      | refine v_not (hl:=?_)
      | refine v_loadF (hl:=?_))
     apply RunK.nil;try refine And.intro (by kernel_rfl) ?_)
  | refine aw_skip ?_ | refine aw_exit ?_)
 refine aw_loop (fun n σ=>(n=3∧Wk ⟨W0,base,D,24,[],μ0⟩ σ [(2,.one (.ptr 2 0)),(3,.one (.ptr 3 0)),(4,.one (.v (.bool false))),(8,errV 0)] [(2,bxC j a0 b0 j a1 b1 j a2 b2),(3,bxC k c0 d0 k c1 d1 k c2 d2)])∨(n=2∧m0=true∧Wk ⟨W0,base,D,24,[],μ0⟩ σ [(2,.one (.ptr 2 0)),(3,.one (.ptr 3 0)),(4,.one (.v (.bool false))),(8,errV 1)] [(2,bxC j a0 b0 j a1 b1 j a2 b2),(3,bxC k c0 d0 k c1 d1 k c2 d2)])∨(n=1∧m0=true∧m1=true∧Wk ⟨W0,base,D,24,[],μ0⟩ σ [(2,.one (.ptr 2 0)),(3,.one (.ptr 3 0)),(4,.one (.v (.bool false))),(8,errV 2)] [(2,bxC j a0 b0 j a1 b1 j a2 b2),(3,bxC k c0 d0 k c1 d1 k c2 d2)])∨(n=0∧m0=true∧m1=true∧m2=true∧Wk ⟨W0,base,D,24,[],μ0⟩ σ [(2,.one (.ptr 2 0)),(3,.one (.ptr 3 0)),(4,.one (.v (.bool false))),(8,errV 3)] [(2,bxC j a0 b0 j a1 b1 j a2 b2),(3,bxC k c0 d0 k c1 d1 k c2 d2)])) (n:=3) (.inl ⟨rfl,?_⟩) ?_
 ·exact wk_a
 intro n σ hI
 rcases hI with ⟨rfl,hw⟩ | ⟨rfl,rfl,hw⟩ | ⟨rfl,rfl,rfl,hw⟩ | ⟨rfl,rfl,rfl,rfl,hw⟩
 ·refine aw_wk hw ?_
  clear hw
  cases m0
  ·repeat (first
    | refine aw_seq ?_ | refine aw_block ?_ | refine aw_condT rfl ?_ | refine aw_condF rfl ?_
    | ((first | refine aw_plainK (by kernel_rfl) ?_ | refine aw_drawK (by kernel_rfl) (by kernel_rfl) (by kernel_rfl) ?_)
       repeat (first
        | refine v_indexAddrTo 0 (hl:=?_)
        | refine v_move (hl:=?_)
        | refine v_assign (hl:=?_)
        | refine v_load (hl:=?_)
        | refine v_store (hl:=?_)
        | refine v_box (hl:=?_)
        | refine v_alloc (hl:=?_)
        | refine v_extract (hl:=?_)
        | refine v_bin (hl:=?_)
        | refine v_indexAddr (hl:=?_)
        | refine v_not (hl:=?_)
        | refine v_loadF (hl:=?_)
        | refine v_callE hA (hc:=S0) (hl:=?_))
       apply RunK.nil;try refine And.intro (by kernel_rfl) ?_)
    | refine aw_skip ?_ | refine aw_exit ?_)
   rw [show (false&&m1&&m2)=false from rfl]
   refine aw_ret (And.intro (Or.inr rfl) ?_)
   exact f_one
  ·repeat (first
    | refine aw_seq ?_ | refine aw_block ?_ | refine aw_condT rfl ?_ | refine aw_condF rfl ?_
    | ((first | refine aw_plainK (by kernel_rfl) ?_ | refine aw_drawK (by kernel_rfl) (by kernel_rfl) (by kernel_rfl) ?_)
       repeat (first
        | refine v_indexAddrTo 0 (hl:=?_)
        | refine v_move (hl:=?_)
        | refine v_assign (hl:=?_)
        | refine v_load (hl:=?_)
        | refine v_store (hl:=?_)
        | refine v_box (hl:=?_)
        | refine v_alloc (hl:=?_)
        | refine v_extract (hl:=?_)
        | refine v_bin (hl:=?_)
        | refine v_indexAddr (hl:=?_)
        | refine v_not (hl:=?_)
        | refine v_loadF (hl:=?_)
        | refine v_callE hA (hc:=S0) (hl:=?_))
       apply RunK.nil;try refine And.intro (by kernel_rfl) ?_)
    | refine aw_skip ?_ | refine aw_exit ?_)
   refine ⟨2,by decide,.inr (.inl ⟨rfl,rfl,?_⟩)⟩
   exact wk_a
 ·refine aw_wk hw ?_
  clear hw
  cases m1
  ·repeat (first
    | refine aw_seq ?_ | refine aw_block ?_ | refine aw_condT rfl ?_ | refine aw_condF rfl ?_
    | ((first | refine aw_plainK (by kernel_rfl) ?_ | refine aw_drawK (by kernel_rfl) (by kernel_rfl) (by kernel_rfl) ?_)
       repeat (first
        | refine v_indexAddrTo 6 (hl:=?_)
        | refine v_move (hl:=?_)
        | refine v_assign (hl:=?_)
        | refine v_load (hl:=?_)
        | refine v_store (hl:=?_)
        | refine v_box (hl:=?_)
        | refine v_alloc (hl:=?_)
        | refine v_extract (hl:=?_)
        | refine v_bin (hl:=?_)
        | refine v_indexAddr (hl:=?_)
        | refine v_not (hl:=?_)
        | refine v_loadF (hl:=?_)
        | refine v_callE hA (hc:=S1) (hl:=?_))
       apply RunK.nil;try refine And.intro (by kernel_rfl) ?_)
    | refine aw_skip ?_ | refine aw_exit ?_)
   rw [show (true&&false&&m2)=false from rfl]
   refine aw_ret (And.intro (Or.inr rfl) ?_)
   exact f_one
  ·repeat (first
    | refine aw_seq ?_ | refine aw_block ?_ | refine aw_condT rfl ?_ | refine aw_condF rfl ?_
    | ((first | refine aw_plainK (by kernel_rfl) ?_ | refine aw_drawK (by kernel_rfl) (by kernel_rfl) (by kernel_rfl) ?_)
       repeat (first
        | refine v_indexAddrTo 6 (hl:=?_)
        | refine v_move (hl:=?_)
        | refine v_assign (hl:=?_)
        | refine v_load (hl:=?_)
        | refine v_store (hl:=?_)
        | refine v_box (hl:=?_)
        | refine v_alloc (hl:=?_)
        | refine v_extract (hl:=?_)
        | refine v_bin (hl:=?_)
        | refine v_indexAddr (hl:=?_)
        | refine v_not (hl:=?_)
        | refine v_loadF (hl:=?_)
        | refine v_callE hA (hc:=S1) (hl:=?_))
       apply RunK.nil;try refine And.intro (by kernel_rfl) ?_)
    | refine aw_skip ?_ | refine aw_exit ?_)
   refine ⟨1,by decide,.inr (.inr (.inl ⟨rfl,rfl,rfl,?_⟩))⟩
   exact wk_a
 ·refine aw_wk hw ?_
  clear hw
  cases m2
  ·repeat (first
    | refine aw_seq ?_ | refine aw_block ?_ | refine aw_condT rfl ?_ | refine aw_condF rfl ?_
    | ((first | refine aw_plainK (by kernel_rfl) ?_ | refine aw_drawK (by kernel_rfl) (by kernel_rfl) (by kernel_rfl) ?_)
       repeat (first
        | refine v_indexAddrTo 12 (hl:=?_)
        | refine v_move (hl:=?_)
        | refine v_assign (hl:=?_)
        | refine v_load (hl:=?_)
        | refine v_store (hl:=?_)
        | refine v_box (hl:=?_)
        | refine v_alloc (hl:=?_)
        | refine v_extract (hl:=?_)
        | refine v_bin (hl:=?_)
        | refine v_indexAddr (hl:=?_)
        | refine v_not (hl:=?_)
        | refine v_loadF (hl:=?_)
        | refine v_callE hA (hc:=S2) (hl:=?_))
       apply RunK.nil;try refine And.intro (by kernel_rfl) ?_)
    | refine aw_skip ?_ | refine aw_exit ?_)
   rw [show (true&&true&&false)=false from rfl]
   refine aw_ret (And.intro (Or.inr rfl) ?_)
   exact f_one
  ·repeat (first
    | refine aw_seq ?_ | refine aw_block ?_ | refine aw_condT rfl ?_ | refine aw_condF rfl ?_
    | ((first | refine aw_plainK (by kernel_rfl) ?_ | refine aw_drawK (by kernel_rfl) (by kernel_rfl) (by kernel_rfl) ?_)
       repeat (first
        | refine v_indexAddrTo 12 (hl:=?_)
        | refine v_move (hl:=?_)
        | refine v_assign (hl:=?_)
        | refine v_load (hl:=?_)
        | refine v_store (hl:=?_)
        | refine v_box (hl:=?_)
        | refine v_alloc (hl:=?_)
        | refine v_extract (hl:=?_)
        | refine v_bin (hl:=?_)
        | refine v_indexAddr (hl:=?_)
        | refine v_not (hl:=?_)
        | refine v_loadF (hl:=?_)
        | refine v_callE hA (hc:=S2) (hl:=?_))
       apply RunK.nil;try refine And.intro (by kernel_rfl) ?_)
    | refine aw_skip ?_ | refine aw_exit ?_)
   refine ⟨0,by decide,.inr (.inr (.inr ⟨rfl,rfl,rfl,rfl,?_⟩))⟩
   exact wk_a
 ·refine aw_wk hw ?_
  clear hw
  repeat (first
   | refine aw_seq ?_ | refine aw_block ?_ | refine aw_condT rfl ?_ | refine aw_condF rfl ?_
   | ((first | refine aw_plainK (by kernel_rfl) ?_ | refine aw_drawK (by kernel_rfl) (by kernel_rfl) (by kernel_rfl) ?_)
      repeat (first
       | refine v_move (hl:=?_)
       | refine v_assign (hl:=?_)
       | refine v_load (hl:=?_)
       | refine v_store (hl:=?_)
       | refine v_box (hl:=?_)
       | refine v_alloc (hl:=?_)
       | refine v_extract (hl:=?_)
       | refine v_bin (hl:=?_)
       | refine v_indexAddr (hl:=?_)
       | refine v_not (hl:=?_)
       | refine v_loadF (hl:=?_))
      apply RunK.nil;try refine And.intro (by kernel_rfl) ?_)
   | refine aw_skip ?_ | refine aw_exit ?_)
  rw [show (true&&true&&true)=true from rfl]
  refine aw_ret (And.intro (Or.inr rfl) ?_)
  exact f_one
theorem w_meets0 {j k e0 e1 e2:Nat} {a0 b0 a1 b1 a2 b2 c0 d0 c1 d1 c2 d2 r0 s0 r1 s1 r2 s2:Rat} {m0 m1 m2:Bool}
  (S0:Ctr Tryz.prog Amb 81 [sp j a0 j b0,sp k c0 k d0] (.tup [sp e0 r0 e0 s0,.one (.v (.bool m0))]))
  (S1:Ctr Tryz.prog Amb 81 [sp j a1 j b1,sp k c1 k d1] (.tup [sp e1 r1 e1 s1,.one (.v (.bool m1))]))
  (S2:Ctr Tryz.prog Amb 81 [sp j a2 j b2,sp k c2 k d2] (.tup [sp e2 r2 e2 s2,.one (.v (.bool m2))])):
  Ctr Tryz.prog Amb 18 [bx j a0 b0 a1 b1 a2 b2,bx k c0 d0 c1 d1 c2 d2] (.one (.v (.bool (m0&&m1&&m2)))):=by
 refine ctr_body Tryz.func18 rfl rfl rfl rfl rfl rfl ?_
 intro W0 base D μ0 hA hD
 repeat (first
  | refine aw_seq ?_ | refine aw_block ?_ | refine aw_condT rfl ?_ | refine aw_condF rfl ?_
  | ((first | refine aw_plainK (by kernel_rfl) ?_ | refine aw_drawK (by kernel_rfl) (by kernel_rfl) (by kernel_rfl) ?_)
     repeat (first
      | refine v_move (hl:=?_)
      | refine v_assign (hl:=?_)
      | refine v_load (hl:=?_)
      | refine v_store (hl:=?_)
      | refine v_box (hl:=?_)
      | refine v_alloc (hl:=?_)
      | refine v_extract (hl:=?_)
      | refine v_bin (hl:=?_)
      | refine v_indexAddr (hl:=?_)
      | refine v_not (hl:=?_)
      | refine v_loadF (hl:=?_))
     apply RunK.nil;try refine And.intro (by kernel_rfl) ?_)
  | refine aw_skip ?_ | refine aw_exit ?_)
 refine aw_loop (fun n σ=>(n=3∧Wk ⟨W0,base,D,24,[],μ0⟩ σ [(2,.one (.ptr 2 0)),(3,.one (.ptr 3 0)),(4,.one (.v (.bool false))),(5,errV 0)] [(2,bxC j a0 b0 j a1 b1 j a2 b2),(3,bxC k c0 d0 k c1 d1 k c2 d2)])∨(n=2∧m0=true∧Wk ⟨W0,base,D,24,[],μ0⟩ σ [(2,.one (.ptr 2 0)),(3,.one (.ptr 3 0)),(4,.one (.v (.bool false))),(5,errV 1)] [(2,bxC j a0 b0 j a1 b1 j a2 b2),(3,bxC k c0 d0 k c1 d1 k c2 d2)])∨(n=1∧m0=true∧m1=true∧Wk ⟨W0,base,D,24,[],μ0⟩ σ [(2,.one (.ptr 2 0)),(3,.one (.ptr 3 0)),(4,.one (.v (.bool false))),(5,errV 2)] [(2,bxC j a0 b0 j a1 b1 j a2 b2),(3,bxC k c0 d0 k c1 d1 k c2 d2)])∨(n=0∧m0=true∧m1=true∧m2=true∧Wk ⟨W0,base,D,24,[],μ0⟩ σ [(2,.one (.ptr 2 0)),(3,.one (.ptr 3 0)),(4,.one (.v (.bool false))),(5,errV 3)] [(2,bxC j a0 b0 j a1 b1 j a2 b2),(3,bxC k c0 d0 k c1 d1 k c2 d2)])) (n:=3) (.inl ⟨rfl,?_⟩) ?_
 ·exact wk_a
 intro n σ hI
 rcases hI with ⟨rfl,hw⟩ | ⟨rfl,rfl,hw⟩ | ⟨rfl,rfl,rfl,hw⟩ | ⟨rfl,rfl,rfl,rfl,hw⟩
 ·refine aw_wk hw ?_
  clear hw
  cases m0
  ·repeat (first
    | refine aw_seq ?_ | refine aw_block ?_ | refine aw_condT rfl ?_ | refine aw_condF rfl ?_
    | ((first | refine aw_plainK (by kernel_rfl) ?_ | refine aw_drawK (by kernel_rfl) (by kernel_rfl) (by kernel_rfl) ?_)
       repeat (first
        | refine v_indexAddrTo 0 (hl:=?_)
        | refine v_move (hl:=?_)
        | refine v_assign (hl:=?_)
        | refine v_load (hl:=?_)
        | refine v_store (hl:=?_)
        | refine v_box (hl:=?_)
        | refine v_alloc (hl:=?_)
        | refine v_extract (hl:=?_)
        | refine v_bin (hl:=?_)
        | refine v_indexAddr (hl:=?_)
        | refine v_not (hl:=?_)
        | refine v_loadF (hl:=?_)
        | refine v_callE hA (hc:=S0) (hl:=?_))
       apply RunK.nil;try refine And.intro (by kernel_rfl) ?_)
    | refine aw_skip ?_ | refine aw_exit ?_)
   rw [show (false&&m1&&m2)=false from rfl]
   refine aw_ret (And.intro (Or.inr rfl) ?_)
   exact f_one
  ·repeat (first
    | refine aw_seq ?_ | refine aw_block ?_ | refine aw_condT rfl ?_ | refine aw_condF rfl ?_
    | ((first | refine aw_plainK (by kernel_rfl) ?_ | refine aw_drawK (by kernel_rfl) (by kernel_rfl) (by kernel_rfl) ?_)
       repeat (first
        | refine v_indexAddrTo 0 (hl:=?_)
        | refine v_move (hl:=?_)
        | refine v_assign (hl:=?_)
        | refine v_load (hl:=?_)
        | refine v_store (hl:=?_)
        | refine v_box (hl:=?_)
        | refine v_alloc (hl:=?_)
        | refine v_extract (hl:=?_)
        | refine v_bin (hl:=?_)
        | refine v_indexAddr (hl:=?_)
        | refine v_not (hl:=?_)
        | refine v_loadF (hl:=?_)
        | refine v_callE hA (hc:=S0) (hl:=?_))
       apply RunK.nil;try refine And.intro (by kernel_rfl) ?_)
    | refine aw_skip ?_ | refine aw_exit ?_)
   refine ⟨2,by decide,.inr (.inl ⟨rfl,rfl,?_⟩)⟩
   exact wk_a
 ·refine aw_wk hw ?_
  clear hw
  cases m1
  ·repeat (first
    | refine aw_seq ?_ | refine aw_block ?_ | refine aw_condT rfl ?_ | refine aw_condF rfl ?_
    | ((first | refine aw_plainK (by kernel_rfl) ?_ | refine aw_drawK (by kernel_rfl) (by kernel_rfl) (by kernel_rfl) ?_)
       repeat (first
        | refine v_indexAddrTo 6 (hl:=?_)
        | refine v_move (hl:=?_)
        | refine v_assign (hl:=?_)
        | refine v_load (hl:=?_)
        | refine v_store (hl:=?_)
        | refine v_box (hl:=?_)
        | refine v_alloc (hl:=?_)
        | refine v_extract (hl:=?_)
        | refine v_bin (hl:=?_)
        | refine v_indexAddr (hl:=?_)
        | refine v_not (hl:=?_)
        | refine v_loadF (hl:=?_)
        | refine v_callE hA (hc:=S1) (hl:=?_))
       apply RunK.nil;try refine And.intro (by kernel_rfl) ?_)
    | refine aw_skip ?_ | refine aw_exit ?_)
   rw [show (true&&false&&m2)=false from rfl]
   refine aw_ret (And.intro (Or.inr rfl) ?_)
   exact f_one
  ·repeat (first
    | refine aw_seq ?_ | refine aw_block ?_ | refine aw_condT rfl ?_ | refine aw_condF rfl ?_
    | ((first | refine aw_plainK (by kernel_rfl) ?_ | refine aw_drawK (by kernel_rfl) (by kernel_rfl) (by kernel_rfl) ?_)
       repeat (first
        | refine v_indexAddrTo 6 (hl:=?_)
        | refine v_move (hl:=?_)
        | refine v_assign (hl:=?_)
        | refine v_load (hl:=?_)
        | refine v_store (hl:=?_)
        | refine v_box (hl:=?_)
        | refine v_alloc (hl:=?_)
        | refine v_extract (hl:=?_)
        | refine v_bin (hl:=?_)
        | refine v_indexAddr (hl:=?_)
        | refine v_not (hl:=?_)
        | refine v_loadF (hl:=?_)
        | refine v_callE hA (hc:=S1) (hl:=?_))
       apply RunK.nil;try refine And.intro (by kernel_rfl) ?_)
    | refine aw_skip ?_ | refine aw_exit ?_)
   refine ⟨1,by decide,.inr (.inr (.inl ⟨rfl,rfl,rfl,?_⟩))⟩
   exact wk_a
 ·refine aw_wk hw ?_
  clear hw
  cases m2
  ·repeat (first
    | refine aw_seq ?_ | refine aw_block ?_ | refine aw_condT rfl ?_ | refine aw_condF rfl ?_
    | ((first | refine aw_plainK (by kernel_rfl) ?_ | refine aw_drawK (by kernel_rfl) (by kernel_rfl) (by kernel_rfl) ?_)
       repeat (first
        | refine v_indexAddrTo 12 (hl:=?_)
        | refine v_move (hl:=?_)
        | refine v_assign (hl:=?_)
        | refine v_load (hl:=?_)
        | refine v_store (hl:=?_)
        | refine v_box (hl:=?_)
        | refine v_alloc (hl:=?_)
        | refine v_extract (hl:=?_)
        | refine v_bin (hl:=?_)
        | refine v_indexAddr (hl:=?_)
        | refine v_not (hl:=?_)
        | refine v_loadF (hl:=?_)
        | refine v_callE hA (hc:=S2) (hl:=?_))
       apply RunK.nil;try refine And.intro (by kernel_rfl) ?_)
    | refine aw_skip ?_ | refine aw_exit ?_)
   rw [show (true&&true&&false)=false from rfl]
   refine aw_ret (And.intro (Or.inr rfl) ?_)
   exact f_one
  ·repeat (first
    | refine aw_seq ?_ | refine aw_block ?_ | refine aw_condT rfl ?_ | refine aw_condF rfl ?_
    | ((first | refine aw_plainK (by kernel_rfl) ?_ | refine aw_drawK (by kernel_rfl) (by kernel_rfl) (by kernel_rfl) ?_)
       repeat (first
        | refine v_indexAddrTo 12 (hl:=?_)
        | refine v_move (hl:=?_)
        | refine v_assign (hl:=?_)
        | refine v_load (hl:=?_)
        | refine v_store (hl:=?_)
        | refine v_box (hl:=?_)
        | refine v_alloc (hl:=?_)
        | refine v_extract (hl:=?_)
        | refine v_bin (hl:=?_)
        | refine v_indexAddr (hl:=?_)
        | refine v_not (hl:=?_)
        | refine v_loadF (hl:=?_)
        | refine v_callE hA (hc:=S2) (hl:=?_))
       apply RunK.nil;try refine And.intro (by kernel_rfl) ?_)
    | refine aw_skip ?_ | refine aw_exit ?_)
   refine ⟨0,by decide,.inr (.inr (.inr ⟨rfl,rfl,rfl,rfl,?_⟩))⟩
   exact wk_a
 ·refine aw_wk hw ?_
  clear hw
  repeat (first
   | refine aw_seq ?_ | refine aw_block ?_ | refine aw_condT rfl ?_ | refine aw_condF rfl ?_
   | ((first | refine aw_plainK (by kernel_rfl) ?_ | refine aw_drawK (by kernel_rfl) (by kernel_rfl) (by kernel_rfl) ?_)
      repeat (first
       | refine v_move (hl:=?_)
       | refine v_assign (hl:=?_)
       | refine v_load (hl:=?_)
       | refine v_store (hl:=?_)
       | refine v_box (hl:=?_)
       | refine v_alloc (hl:=?_)
       | refine v_extract (hl:=?_)
       | refine v_bin (hl:=?_)
       | refine v_indexAddr (hl:=?_)
       | refine v_not (hl:=?_)
       | refine v_loadF (hl:=?_))
      apply RunK.nil;try refine And.intro (by kernel_rfl) ?_)
   | refine aw_skip ?_ | refine aw_exit ?_)
  rw [show (true&&true&&true)=true from rfl]
  refine aw_ret (And.intro (Or.inr rfl) ?_)
  exact f_one
end Go.Proofs.YtnkobfcnflphkaaGreatDoor
