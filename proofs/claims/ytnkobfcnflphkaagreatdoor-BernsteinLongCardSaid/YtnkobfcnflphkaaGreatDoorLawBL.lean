/-
  BernsteinLong, by contracts.
-/
import Derived.Test.YtnkobfcnflphkaaGreatDoorHq
import Derived.Test.YtnkobfcnflphkaaGreatDoorHy
import Derived.Test.YtnkobfcnflphkaaGreatDoorLawBT
namespace Go.Proofs.YtnkobfcnflphkaaGreatDoor
open Go.RowKit
set_option linter.unusedVariables false
set_option linter.unusedSimpArgs false
set_option maxRecDepth 20000
set_option maxHeartbeats 8000000
section
variable {P:Program} {X:Ctx} {ops l:List Oper} {σ:St} {K:List Eff→St→Prop} {s:Nat→AV} {dst:Option Tmp} {ty:TypeId} {pos:String} {af:Array Edge} {gd:Option (Nat×Bool)}
theorem pure_neBool {t u:TypeId} {x y:Operand} {a b:Bool} [h1:BoolT P t] (hx:evC s x= .one (.v (.bool a))) (hy:evC s y= .one (.v (.bool b))):Pure P ⟨dst,.binOp .neq t x y u,ty,pos,af,gd⟩ s (.one (.v (.bool (!(a==b))))):=fun W0 μ sz w ρ hρ=>by
 have h:=hρ x (by simp [Op.operands])
 rw [hx] at h
 replace h:ρ x= .bool a:=h
 have h':=hρ y (by simp [Op.operands])
 rw [hy] at h'
 replace h':ρ y= .bool b:=h'
 refine ⟨.bool (!(a==b)),?_,rfl⟩
 have h3:=run_equalIn_bool' (P:=P) w 9999 t a b h1.ok
 have h4:(binOp .neq t (.bool a) (.bool b)).run P w= .ok (.bool (!(a==b))) w:=by
  show (do pure (Value.bool (!(←Op.equal t (.bool a) (.bool b)))):Sem Value).run P w=_
  rw [Sem.run_bind]
  rw [show (Op.equal t (.bool a) (.bool b)).run P w= .ok (a==b) w from h3]
  rfl
 have h5:(eqGuard .neq t x y (.bool a) (.bool b)).run P w= .ok () w:=rfl
 show (do let v←(do eqGuard .neq t x y (ρ x) (ρ y);binOp .neq t (ρ x) (ρ y):Sem Value);pure (Next.value v):Sem Next).run P w=_
 rw [h,h',Sem.run_bind,Sem.run_bind,h5,Result.andThen_ok,h4]
 rfl
theorem v_neBool {t u:TypeId} {x y:Operand} {a b:Bool} [hT:BoolT P t] (hg:gOk ops σ.s gd:=by first | exact trivial | exact rfl) (hd:dB X.n dst=true:=by exact rfl) (hx:evC σ.s x= .one (.v (.bool a)):=by exact rfl) (hy:evC σ.s y= .one (.v (.bool b)):=by exact rfl) (hl:RunK P X ops l (σ.app dst ⟨.one (.v (.bool (!(a==b)))),[],[],[]⟩) (fun es σ'=>K (⟨.one (.v (.bool (!(a==b)))),[],[],[]⟩::es) σ')):
  RunK P X ops (⟨dst,.binOp .neq t x y u,ty,pos,af,gd⟩::l) σ K:=u_pure (o:=⟨dst,.binOp .neq t x y u,ty,pos,af,gd⟩) hg hd (pure_neBool (h1:=hT) hx hy) hl
end
theorem s_validF {j:Nat} {l:List Rat} (h:l.length=0∨41<l.length) (h2:l.length≤1000000):Ctr Tryz.prog Amb 44 [.one (rats j l)] (.one (.v (.bool false))):=by
 have P1:=s_permittedF (j:=j) h h2
 refine ctr_body Tryz.func44 rfl rfl rfl rfl rfl rfl ?_
 intro W0 base D μ0 hA hD
 repeat (first | refine aw_seq ?_ | refine aw_block ?_ | refine aw_condT rfl ?_ | refine aw_condF rfl ?_ | refine aw_pa ?_ | refine aw_da ?_ | refine aw_skip ?_ | refine aw_exit ?_)
 refine aw_ret (And.intro (Or.inr rfl) ?_)
 exact f_one
theorem s_mulF {j k m n:Nat} {p q:List Rat} (hp:p.length=m+1) (hq:q.length=n+1) (hmn:40<m+n) (hm:m≤1000) (hn:n≤1000) (K:Nat):
  Ctr Tryz.prog Amb 45 [.one (rats j p),.one (rats k q)] (.tup [.one (rats K []),errV 2]):=by
 obtain ⟨N,hN⟩: ∃N,N=m+n:=⟨_,rfl⟩
 have e1:=binSub (k:= .i64) (show (IntKind.i64).wrap ((p.length:Int)-1)=(m:Int) by rw [show ((p.length:Int)-1)=(m:Int) by omega];exact IntWalk.i64_in _ (by omega))
 have e2:=binAdd (k:= .i64) (show (IntKind.i64).wrap ((m:Int)+(q.length:Int))=((N+1:Nat):Int) by rw [show ((m:Int)+(q.length:Int))=((N+1:Nat):Int) by omega];exact IntWalk.i64_in _ (by omega))
 have e3:=binSub (k:= .i64) (show (IntKind.i64).wrap (((N+1:Nat):Int)-1)=(N:Int) by rw [show (((N+1:Nat):Int)-1)=(N:Int) by omega];exact IntWalk.i64_in _ (by omega))
 have e4:=binEq (k:= .i64) (decide_eq_false (show ¬(p.length:Int)=0 by omega))
 have e5:=binEq (k:= .i64) (decide_eq_false (show ¬(q.length:Int)=0 by omega))
 have e6:=binGt (k:= .i64) (decide_eq_true (show (N:Int)>40 by omega))
 refine ctr_body Tryz.func45 rfl rfl rfl rfl rfl rfl ?_
 intro W0 base D μ0 hA hD
 repeat (first | refine aw_seq ?_ | refine aw_block ?_ | refine aw_condT rfl ?_ | refine aw_condF rfl ?_ | refine aw_pa ?_ | refine aw_da ?_ | refine aw_skip ?_ | refine aw_exit ?_)
 refine aw_ret (And.intro (Or.inr rfl) ?_)
 exact f_two (hE:=(Ent.tup rfl (EntT.cons (Ent.one' rfl EntC.ratsNil) rfl rfl (EntT.cons (Ent.of_eq rfl) rfl rfl EntT.nil))))
namespace blong
def thr (k:Nat):Rat:=(((k:Int).tmod 3:Int):Rat)
theorem thr_rsz (k:Nat):RSz 2 (thr k):=by
 have h1:0≤(k:Int).tmod 3:=Int.tmod_nonneg _ (by omega)
 have h2:(k:Int).tmod 3<3:=Int.tmod_lt_of_pos _ (by omega)
 exact rsz_cast _ (by omega) (by omega)
theorem law {n m:Int} (hn1: -9223372036854775808≤n) (hn2:n<9223372036854775808) (hm1: -9223372036854775808≤m) (hm2:m<9223372036854775808):
  Ctr Tryz.prog Amb 5 [.one (.v (.int .i64 n)),.one (.v (.int .i64 m))] (.one (.v (.bool true))):=by
 have D1:=d_mod hn1 hn2 (m:=44) (by decide) (by decide)
 have D2:=d_mod hm1 hm2 (m:=41) (by decide) (by decide)
 obtain ⟨a,ha,ha2⟩: ∃a:Nat,n % 44=(a:Int)∧a<44:=⟨(n % 44).toNat,by omega,by omega⟩
 obtain ⟨b,hb,hb2⟩: ∃b:Nat,m % 41=(b:Int)∧b<41:=⟨(m % 41).toNat,by omega,by omega⟩
 rw [ha] at D1
 rw [hb] at D2
 clear ha hb
 have a1:=binAdd (k:= .i64) (show (IntKind.i64).wrap (1+(a:Int))=((a+1:Nat):Int) by rw [show (1+(a:Int))=((a+1:Nat):Int) by omega];exact IntWalk.i64_in _ (by omega))
 have a2:=binAdd (k:= .i64) (show (IntKind.i64).wrap (1+(b:Int))=((b+1:Nat):Int) by rw [show (1+(b:Int))=((b+1:Nat):Int) by omega];exact IntWalk.i64_in _ (by omega))
 obtain ⟨Z,hZ⟩: ∃Z:List Rat,Z=List.replicate (a+1) 0:=⟨_,rfl⟩
 have hZl:Z.length=a+1:=by rw [hZ];simp
 have hZr: ∀r∈Z,RSz 2 r:=fun r hr=>by
  rw [hZ] at hr
  rw [(List.mem_replicate.1 hr).2]
  exact rsz_cast 0 (by decide) (by decide)
 refine ctr_body Tryz.func5 rfl rfl rfl rfl rfl rfl ?_
 intro W0 base D μ0 hA hD
 repeat (first
  | refine aw_seq ?_ | refine aw_block ?_ | refine aw_condT rfl ?_ | refine aw_condF rfl ?_
  | ((first | refine aw_plainK (by kernel_rfl) ?_ | refine aw_drawK (by kernel_rfl) (by kernel_rfl) (by kernel_rfl) ?_)
     repeat (first
      | refine v_skip (hl:=?_)
      | refine v_move (hl:=?_)
      | refine v_assign (hl:=?_)
      | refine v_store (hl:=?_)
      | refine v_extract (hl:=?_)
      | refine v_bin (hl:=?_)
      | refine v_indexAddr (hl:=?_)
      | refine v_not (hl:=?_)
      | refine v_pickT (hl:=?_)
      | refine v_pickF (hl:=?_)
      | refine v_eqBool (hl:=?_)
      | refine v_callE hA (hc:=D1) (hl:=?_)
      | refine v_callE hA (hc:=D2) (hl:=?_)
      | refine v_make (cap:=a+1) (by omega) (by omega) (by omega) (hl:=?_)
      | refine v_make (cap:=b+1) (by omega) (by omega) (by omega) (hl:=?_))
     apply RunK.nil;try refine And.intro (by kernel_rfl) ?_)
  | refine aw_skip ?_ | refine aw_exit ?_)
 refine aw_loop (fun c σ=> ∃(i:Nat) (cur:List Rat),c=b+1-i∧i≤b+1∧cur=tab (b+1) (fun k=>if k<i then thr k else 0)∧Wk ⟨W0,base,D,88,[],μ0⟩ σ [(5,errV ((a+1:Nat):Int)),(6,errV ((b+1:Nat):Int)),(7,.one (.gl 21 (a+1) 3)),(8,.one (.gl 23 (b+1) 3)),(9,errV (i:Nat))] [(21,blkL (nmD 2) Z),(23,blkL (nmD 2) cur)]) (n:=b+1) ⟨0,List.replicate (b+1) 0,by omega,by omega,tab_rep.trans (tab_congr fun q _=>(if_neg (Nat.not_lt_zero q)).symm),?_⟩ ?_
 ·rw [hZ]
  exact wk_a
 intro c σ hI
 obtain ⟨i,cur,hc,hi0,hcur,hw⟩:=hI
 refine aw_wk hw ?_
 clear hw
 have hcl:cur.length=b+1:=by rw [hcur];simp
 by_cases hi:i<b+1
 ·have bi:=binLt (k:= .i64) (decide_eq_true (show (i:Int)<((b+1:Nat):Int) by omega))
  have hin:=binAdd (k:= .i64) (show (IntKind.i64).wrap ((i:Int)+1)=((i+1:Nat):Int) from IntWalk.i64_in _ (by omega))
  have rm:=binRem (k:= .i64) (a:=(i:Int)) (b:=3) (by decide)
  have ht:cur.set i (thr i)=tab (b+1) (fun k=>if k<i+1 then thr k else 0):=by
   rw [hcur]
   refine tab_set hi (if_pos (by omega)) fun k hk hkq=>?_
   by_cases h1:k<i
   ·rw [if_pos h1,if_pos (by omega)]
   ·rw [if_neg h1,if_neg (by omega)]
  have I1:Ctr Tryz.prog Amb 43 [.one (.v (.int .i64 ((i:Int).tmod 3)))] (nm 2 (thr i)):=by
   have h1:0≤(i:Int).tmod 3:=Int.tmod_nonneg _ (by omega)
   have h2:(i:Int).tmod 3<3:=Int.tmod_lt_of_pos _ (by omega)
   exact r_int (n:=(i:Int).tmod 3) (by rw [decide_eq_true (show-9223372036854775808≤(i:Int).tmod 3 by omega),decide_eq_true (show (i:Int).tmod 3<9223372036854775808 by omega)];rfl)
  have lt1:(0:Int)≤((i:Nat):Int)∧((i:Nat):Int)<((b+1:Nat):Int):=by omega
  have st1:((i:Nat):Int).toNat*3+3≤(blkL (nmD 2) cur).length:=by rw [blkL_len (n:=3) inferInstance,hcl,Int.toNat_natCast];omega
  generalize thr i=y at*
  generalize (i:Int).tmod 3=z at*
  repeat (first | refine aw_seq ?_ | refine aw_block ?_ | refine aw_condT rfl ?_ | refine aw_condF rfl ?_ | refine aw_pa ?_ | refine aw_da ?_ | refine aw_skip ?_ | refine aw_exit ?_)
  refine ⟨c-1,by omega,i+1,cur.set i y,by omega,by omega,ht,?_⟩
  exact wk_a
 ·have bi:=binLt (k:= .i64) (decide_eq_false (show ¬(i:Int)<((b+1:Nat):Int) by omega))
  have hqr: ∀r∈cur,RSz 2 r:=fun r hrr=>by
   obtain ⟨k,hk,he⟩:=List.getElem_of_mem hrr
   have h2:cur[k]?=some (if k<i then thr k else 0):=by rw [hcur];exact tab_get (by omega)
   rw [List.getElem?_eq_getElem hk,he] at h2
   rw [Option.some.inj h2,if_pos (by omega)]
   exact thr_rsz k
  clear hcur hZ
  repeat (first | refine aw_seq ?_ | refine aw_block ?_ | refine aw_condT rfl ?_ | refine aw_condF rfl ?_ | refine aw_pa ?_ | refine aw_da ?_ | refine aw_skip ?_ | refine aw_exit ?_)
  refine aw_freeze 21 hD (ss:= [(5,errV ((a+1:Nat):Int)),(6,errV ((b+1:Nat):Int)),(7,.one (rats 2 Z)),(8,.one (.gl 23 (b+1) 3))]) (bs:= [(23,blkL (nmD 2) cur)]) ?_ ?_
  ·rw [←hZl]
   refine fk_mk ?_ ?_ rfl
   ·repeat (first | exact nil_all | (refine List.forall_mem_cons.2 ⟨?_,?_⟩;focus (first | exact fz_blk inferInstance | refine FzA.ent ?_;first | exact Ent.of_eq rfl | (refine Ent.one' rfl ?_;(first | exact EntC.ratsLe (by omega) | exact EntC.ratsNil | exact EntC.glNil | (refine EntC.int ?_;omega) | (refine EntC.glLen ?_;first | omega | simp) | exact EntC.of_eq rfl | (refine EntC.q rfl ?_;omega) | exact Z0 _ | exact Z2 _ | exact EntC.z0 (k:=0) | exact EntC.z1 (k:=0) | exact EntC.z2 (k:=0) | exact EntC.z0 | exact EntC.z1 | exact EntC.z2)) | (refine Ent.agg' rfl ?_;(repeat (first | exact EntL.nil' rfl | (refine EntL.cons' rfl ?_ ?_;focus (first | exact EntC.ratsLe (by omega) | exact EntC.ratsNil | exact EntC.glNil | (refine EntC.int ?_;omega) | (refine EntC.glLen ?_;first | omega | simp) | exact EntC.of_eq rfl | (refine EntC.q rfl ?_;omega) | exact Z0 _ | exact Z2 _ | exact EntC.z0 (k:=0) | exact EntC.z1 (k:=0) | exact EntC.z2 (k:=0) | exact EntC.z0 | exact EntC.z1 | exact EntC.z2))));done))))
   ·repeat (first | exact nil_all | (refine List.forall_mem_cons.2 ⟨?_,?_⟩;focus (first | exact blk_keep inferInstance | (refine blk_ok rfl ?_ rfl;focus ((repeat (first | exact EntL.nil' rfl | (refine EntL.cons' rfl ?_ ?_;focus (first | exact EntC.ratsLe (by omega) | exact EntC.ratsNil | exact EntC.glNil | (refine EntC.int ?_;omega) | (refine EntC.glLen ?_;first | omega | simp) | exact EntC.of_eq rfl | (refine EntC.q rfl ?_;omega) | exact Z0 _ | exact Z2 _ | exact EntC.z0 (k:=0) | exact EntC.z1 (k:=0) | exact EntC.z2 (k:=0) | exact EntC.z0 | exact EntC.z1 | exact EntC.z2))));done)))))
  refine aw_freeze 23 hD (ss:= [(5,errV ((a+1:Nat):Int)),(6,errV ((b+1:Nat):Int)),(7,.one (rats 2 Z)),(8,.one (rats 2 cur))]) (bs:= []) ?_ ?_
  ·rw [←hcl]
   refine fk_mk ?_ ?_ rfl
   ·repeat (first | exact nil_all | (refine List.forall_mem_cons.2 ⟨?_,?_⟩;focus (first | exact fz_blk inferInstance | refine FzA.ent ?_;first | exact Ent.of_eq rfl | (refine Ent.one' rfl ?_;(first | exact EntC.ratsLe (by omega) | exact EntC.ratsNil | exact EntC.glNil | (refine EntC.int ?_;omega) | (refine EntC.glLen ?_;first | omega | simp) | exact EntC.of_eq rfl | (refine EntC.q rfl ?_;omega) | exact Z0 _ | exact Z2 _ | exact EntC.z0 (k:=0) | exact EntC.z1 (k:=0) | exact EntC.z2 (k:=0) | exact EntC.z0 | exact EntC.z1 | exact EntC.z2)) | (refine Ent.agg' rfl ?_;(repeat (first | exact EntL.nil' rfl | (refine EntL.cons' rfl ?_ ?_;focus (first | exact EntC.ratsLe (by omega) | exact EntC.ratsNil | exact EntC.glNil | (refine EntC.int ?_;omega) | (refine EntC.glLen ?_;first | omega | simp) | exact EntC.of_eq rfl | (refine EntC.q rfl ?_;omega) | exact Z0 _ | exact Z2 _ | exact EntC.z0 (k:=0) | exact EntC.z1 (k:=0) | exact EntC.z2 (k:=0) | exact EntC.z0 | exact EntC.z1 | exact EntC.z2))));done))))
   ·repeat (first | exact nil_all | (refine List.forall_mem_cons.2 ⟨?_,?_⟩;focus (first | exact blk_keep inferInstance | (refine blk_ok rfl ?_ rfl;focus ((repeat (first | exact EntL.nil' rfl | (refine EntL.cons' rfl ?_ ?_;focus (first | exact EntC.ratsLe (by omega) | exact EntC.ratsNil | exact EntC.glNil | (refine EntC.int ?_;omega) | (refine EntC.glLen ?_;first | omega | simp) | exact EntC.of_eq rfl | (refine EntC.q rfl ?_;omega) | exact Z0 _ | exact Z2 _ | exact EntC.z0 (k:=0) | exact EntC.z1 (k:=0) | exact EntC.z2 (k:=0) | exact EntC.z0 | exact EntC.z1 | exact EntC.z2))));done)))))
  have V2:=s_validB (j:=2) (l:=cur) (by omega) (by omega) (by decide)
  have V3:Ctr Tryz.prog Amb 44 [.one (.v (.slice none 0 0))] (.one (.v (.bool false))):=CtrM.weak (s_validF (j:=2) (l:= []) (.inl rfl) (by decide)) (.cons (Ent.one' rfl EntC.ratsNil) .nil) (Ent.of_eq rfl)
  by_cases h41:a+1≤41
  ·have c1:=binLe (k:= .i64) (decide_eq_true (show ((a+1:Nat):Int)≤41 by omega))
   have c2:=binGt (k:= .i64) (decide_eq_false (show ¬((a+1:Nat):Int)>41 by omega))
   have V1:=s_validB (j:=2) (l:=Z) (by omega) (by omega) (by decide)
   have F1:=s_fromPowers (j:=2) hZl (by omega) (by decide) hZr
   have s1:=binAdd (k:= .i64) (show (IntKind.i64).wrap (((a+1:Nat):Int)+((b+1:Nat):Int))=((a+b+2:Nat):Int) by rw [show (((a+1:Nat):Int)+((b+1:Nat):Int))=((a+b+2:Nat):Int) by omega];exact IntWalk.i64_in _ (by omega))
   have s2:=binSub (k:= .i64) (show (IntKind.i64).wrap (((a+b+2:Nat):Int)-2)=((a+b:Nat):Int) by rw [show (((a+b+2:Nat):Int)-2)=((a+b:Nat):Int) by omega];exact IntWalk.i64_in _ (by omega))
   generalize tab (a+1) (ofPw (cf Z) a)=L at*
   by_cases hs:a+b≤40
   ·have s3:=binLe (k:= .i64) (decide_eq_true (show ((a+b:Nat):Int)≤40 by omega))
    have M1:=s_mulB (j:=2) (k:=2) hZl hcl hs (by decide) (by decide) hZr hqr
    generalize tab (a+b+1) (mulQ (cf Z) (cf cur) a b)=L2 at*
    repeat (first
     | refine aw_seq ?_ | refine aw_block ?_ | refine aw_condT rfl ?_ | refine aw_condF rfl ?_
     | ((first | refine aw_plainK (by kernel_rfl) ?_ | refine aw_drawK (by kernel_rfl) (by kernel_rfl) (by kernel_rfl) ?_)
        repeat (first
         | refine v_skip (hl:=?_)
         | refine v_move (hl:=?_)
         | refine v_assign (hl:=?_)
         | refine v_store (hl:=?_)
         | refine v_extract (hl:=?_)
         | refine v_bin (hl:=?_)
         | refine v_indexAddr (hl:=?_)
         | refine v_not (hl:=?_)
         | refine v_pickT (hl:=?_)
         | refine v_pickF (hl:=?_)
         | refine v_eqBool (hl:=?_)
         | refine v_callE hA (hc:=V1) (hl:=?_)
         | refine v_callE hA (hc:=V2) (hl:=?_)
         | refine v_callE hA (hc:=V3) (hl:=?_)
         | refine v_callE hA (hc:=F1) (hl:=?_)
         | refine v_callE hA (hc:=M1) (hl:=?_)
         | refine v_callE hA (hc:=awake5) (hl:=?_)
         | refine v_neBool (hl:=?_))
        apply RunK.nil;try refine And.intro (by kernel_rfl) ?_)
     | refine aw_skip ?_ | refine aw_exit ?_)
    refine aw_ret (And.intro (Or.inr rfl) ?_)
    exact f_one
   ·have s3:=binLe (k:= .i64) (decide_eq_false (show ¬((a+b:Nat):Int)≤40 by omega))
    have M1:=s_mulF (j:=2) (k:=2) hZl hcl (by omega) (by omega) (by omega) 2
    repeat (first
     | refine aw_seq ?_ | refine aw_block ?_ | refine aw_condT rfl ?_ | refine aw_condF rfl ?_
     | ((first | refine aw_plainK (by kernel_rfl) ?_ | refine aw_drawK (by kernel_rfl) (by kernel_rfl) (by kernel_rfl) ?_)
        repeat (first
         | refine v_skip (hl:=?_)
         | refine v_move (hl:=?_)
         | refine v_assign (hl:=?_)
         | refine v_store (hl:=?_)
         | refine v_extract (hl:=?_)
         | refine v_bin (hl:=?_)
         | refine v_indexAddr (hl:=?_)
         | refine v_not (hl:=?_)
         | refine v_pickT (hl:=?_)
         | refine v_pickF (hl:=?_)
         | refine v_eqBool (hl:=?_)
         | refine v_callE hA (hc:=V1) (hl:=?_)
         | refine v_callE hA (hc:=V2) (hl:=?_)
         | refine v_callE hA (hc:=V3) (hl:=?_)
         | refine v_callE hA (hc:=F1) (hl:=?_)
         | refine v_callE hA (hc:=M1) (hl:=?_)
         | refine v_callE hA (hc:=awake5) (hl:=?_)
         | refine v_neBool (hl:=?_))
        apply RunK.nil;try refine And.intro (by kernel_rfl) ?_)
     | refine aw_skip ?_ | refine aw_exit ?_)
    refine aw_ret (And.intro (Or.inr rfl) ?_)
    exact f_one
  ·have c1:=binLe (k:= .i64) (decide_eq_false (show ¬((a+1:Nat):Int)≤41 by omega))
   have c2:=binGt (k:= .i64) (decide_eq_true (show ((a+1:Nat):Int)>41 by omega))
   have V1:=s_validF (j:=2) (l:=Z) (.inr (by omega)) (by omega)
   have F1:=s_fromPowersF (j:=2) (p:=Z) (.inr (by omega)) (by omega) 2
   repeat (first
    | refine aw_seq ?_ | refine aw_block ?_ | refine aw_condT rfl ?_ | refine aw_condF rfl ?_
    | ((first | refine aw_plainK (by kernel_rfl) ?_ | refine aw_drawK (by kernel_rfl) (by kernel_rfl) (by kernel_rfl) ?_)
       repeat (first
        | refine v_skip (hl:=?_)
        | refine v_move (hl:=?_)
        | refine v_assign (hl:=?_)
        | refine v_store (hl:=?_)
        | refine v_extract (hl:=?_)
        | refine v_bin (hl:=?_)
        | refine v_indexAddr (hl:=?_)
        | refine v_not (hl:=?_)
        | refine v_pickT (hl:=?_)
        | refine v_pickF (hl:=?_)
        | refine v_eqBool (hl:=?_)
        | refine v_callE hA (hc:=V1) (hl:=?_)
        | refine v_callE hA (hc:=V2) (hl:=?_)
        | refine v_callE hA (hc:=V3) (hl:=?_)
        | refine v_callE hA (hc:=F1) (hl:=?_)
        | refine v_callE hA (hc:=awake5) (hl:=?_)
        | refine v_neBool (hl:=?_))
       apply RunK.nil;try refine And.intro (by kernel_rfl) ?_)
    | refine aw_skip ?_ | refine aw_exit ?_)
   refine aw_ret (And.intro (Or.inr rfl) ?_)
   exact f_one
end blong
end Go.Proofs.YtnkobfcnflphkaaGreatDoor
