/-
  Several texts in one: Za, Zb, Zc.
-/
import Derived.Test.YtdgjkohkmdpcdaaGreatDoorEv
import Derived.Test.YtdgjkohkmdpcdaaGreatDoorHn
import Derived.Test.YtdgjkohkmdpcdaaGreatDoorHz
import Derived.Test.YtdgjkohkmdpcdaaGreatDoorDn
namespace Go.Proofs.YtdgjkohkmdpcdaaGreatDoor
open Go.RowKit
set_option linter.unusedVariables false
set_option linter.unusedSimpArgs false
section
variable {P:Program} {X:Ctx} {σ:St} {Q:Exit→St→Prop} {tl:List Oper}
theorem tl_fz {o:Oper} (k:Nat) {ss:List (Nat×AV)} {bs:List (Nat×List C)} (hD: ∀g,X.D g→ ∃k∈X.ps,g=(X.μ0 k).1) (hg:o.guard=none:=by exact rfl) (h:RunK P X [o] [o] σ fun _ σ'=>Fk X σ' k ss bs∧Tl P X Q tl (stL ss bs)):Tl P X Q (o::tl) σ:=by
 obtain ⟨es,σ',hr,hf,ht⟩:=h
 cases hr with
 | cons hd hrd hal hl=>
   cases hl
   unfold Does at hd
   rw [hg] at hd
   exact ⟨hg,_,fun a w hc K Q hK=>hd σ (fun _ _=> .inl rfl) (fun k _=> .inr rfl) hrd hal a w hc K Q fun a' w' hc'=>hK a' w' (hf.cn hD hc'),ht⟩
end
def BlkFz (σ:St) (k:Nat) (ks:List Nat) (p:Nat×List C):Prop:=(σ.sz p.1=p.2.length∧ ∀(i:Nat) c,p.2[i]?=some c→FzC σ k (σ.m p.1 i) c∧nl c)∧p.2.all (inC ks)=true
theorem BlkFz.of {σ:St} {k:Nat} {ks:List Nat} {p:Nat×List C} (h:BlkOk σ ks p):BlkFz σ k ks p:=⟨⟨h.1.1,fun i c hc=>⟨.ent (h.1.2 i c hc).1,(h.1.2 i c hc).2⟩⟩,h.2⟩
theorem BlkFz.gl {α:Type} {n:Nat} {f:α→List D} (hf:Elm n f) {σ:St} {k kb len:Nat} {ks:List Nat} {l:List α} (hz:σ.sz k=(blkL f l).length:=by exact rfl) (hm:RowX (σ.m k) (blkL f l):=by first | exact rowX_row | exact rowX_laid) (hz2:σ.sz kb=1:=by exact rfl) (hm2:σ.m kb 0= .gl k len n:=by exact rfl) (hlen:len=l.length:=by first | rfl | omega):BlkFz σ k ks (kb,[lsG n f l]):=by
 subst hlen
 have h:=fz_blk (f:=f) (l:=l) hf hz hm
 refine ⟨⟨hz2,fun i c hc=>?_⟩,by simp [inC]⟩
 match i,hc with
 | 0,hc=>
   cases hc
   refine ⟨?_,trivial⟩
   show FzC σ k (σ.m kb 0) _
   rw [hm2]
   cases h with
   | one h=>exact h
   | ent h=>exact .ent fun W0 μ sz w x hx=>h W0 μ sz w x hx
theorem fk_mk2 {X:Ctx} {σ:St} {k:Nat} {ss:List (Nat×AV)} {bs:List (Nat×List C)} (h1: ∀p∈ss,FzA σ k (σ.s p.1) p.2) (h2: ∀p∈bs,BlkFz σ k (bs.map (·.1)) p)
  (hb:((ss.all fun p=>inA (bs.map (·.1)) p.2)&&ndB (bs.map (·.1))&&(X.ps.all fun k=>(bs.map (·.1)).any (Nat.beq k))&&(!X.ps.any (Nat.beq k))&&(bs.all fun p=>!Nat.beq p.1 k))=true):Fk X σ k ss bs:=by
 simp only [Bool.and_eq_true,Bool.not_eq_true'] at hb
 refine ⟨h1,fun p hp=>(h2 p hp).1,hb.1.1.1.1,List.all_eq_true.2 fun p hp=>(h2 p hp).2,ndB_ok hb.1.1.1.2,hb.1.1.2,fun hk=>?_,by
  refine List.all_eq_true.2 fun p hp=>?_
  exact List.all_eq_true.1 hb.2 p hp⟩
 have:=List.any_eq_false.1 hb.1.2 k hk
 simp at this
abbrev ratT (j m:Nat) (g:Nat→Rat):C:=rats j (tab m g)
end Go.Proofs.YtdgjkohkmdpcdaaGreatDoor
namespace Go.Proofs.YtdgjkohkmdpcdaaGreatDoor
open Go.RowKit
set_option linter.unusedVariables false
set_option linter.unusedSimpArgs false
set_option maxRecDepth 20000
set_option maxHeartbeats 4000000
theorem f_twoN {P:Program} {r1 r2:ResultVar} {R a b:AV} {σ:St} {ns:List (Nat×List C)} (hn: ∀q∈ns,BlkOk σ [] q∨BlkOk σ (ns.map (·.1)) q) (h1:ResIs P σ r1 a:=by first | exact ResIs.tmp rfl | exact ResIs.cell inferInstance rfl rfl rfl rfl) (h2:ResIs P σ r2 b:=by first | exact ResIs.tmp rfl | exact ResIs.cell inferInstance rfl rfl rfl rfl) (ha:([a,b].all fun a=>match a with | .tup _=>false | _=>true)=true:=by exact rfl) (hE:Ent (.tup [a,b]) R:=by exact Ent.of_eq rfl):Fin P [r1,r2] [] R σ∧FinN ns σ:=
 ⟨fin_two h1 h2 ha hE,fun q hq=>by rcases hn q hq with h | h<;>exact h.1⟩
theorem f_three {P:Program} {r1 r2 r3:ResultVar} {R a b c:AV} {σ:St} (h1:ResIs P σ r1 a:=by first | exact ResIs.tmp rfl | exact ResIs.cell inferInstance rfl rfl rfl rfl) (h2:ResIs P σ r2 b:=by first | exact ResIs.tmp rfl | exact ResIs.cell inferInstance rfl rfl rfl rfl) (h3:ResIs P σ r3 c:=by first | exact ResIs.tmp rfl | exact ResIs.cell inferInstance rfl rfl rfl rfl) (ha:([a,b,c].all fun a=>match a with | .tup _=>false | _=>true)=true:=by exact rfl) (hE:Ent (.tup [a,b,c]) R:=by exact Ent.of_eq rfl):Fin P [r1,r2,r3] [] R σ:=
 ⟨⟨[a,b,c],.cons h1 (.cons h2 (.cons h3 .nil)),.inr ha,hE⟩,fun p hp=>by cases hp⟩
theorem s_over {j k:Nat} {x y:Rat} (hj:j≤100000000) (hk:k≤100000000) (h0:y≠0):Ctr Tryz.prog Amb 85 [nm j x,nm k y] (nm (j+k+2) (x/y)):=by
 have Q1:=c_quo (j:=j) (k:=k) (x:=x) (y:=y) hj hk h0
 refine ctr_body Tryz.func85 rfl rfl rfl rfl rfl rfl ?_
 intro W0 base D μ0 hA hD
 repeat (first
  | refine aw_seq ?_ | refine aw_block ?_ | refine aw_condT rfl ?_ | refine aw_condF rfl ?_
  | ((first | refine aw_plainK (by kernel_rfl) ?_ | refine aw_drawK (by kernel_rfl) (by kernel_rfl) (by kernel_rfl) ?_)
     repeat (first
      | refine v_move (hl:=?_)
      | refine v_assign (hl:=?_)
      | refine v_load (hl:=?_)
      | refine v_store (hl:=?_)
      | refine v_box (hl:=?_)
      | refine v_alloc (hl:=?_)
      | refine v_extract (hl:=?_)
      | refine v_loadF (hl:=?_)
      | refine v_callE hA (hc:=Q1) (hl:=?_))
     apply RunK.nil;try refine And.intro (by kernel_rfl) ?_)
  | refine aw_skip ?_ | refine aw_exit ?_)
 refine aw_ret (And.intro (Or.inr rfl) ?_)
 exact f_one
theorem s_ratio {j:Nat} {t:Rat} (hj:j≤10000000):Ctr Tryz.prog Amb 80 [nm j t] (.tup [nm (2*j+4) (t*denQ t),nm (3*j+9) (denQ t-t*denQ t),nm (j+2) (denQ t)]):=by
 have D1:=c_den (j:=j) (x:=t) (by omega)
 have M1:=c_mul (j:=j) (k:=j+2) (x:=t) (y:=denQ t) (by omega) (by omega)
 have S1:=c_sub (j:=j+2) (k:=j+(j+2)+2) (x:=denQ t) (y:=t*denQ t) (by omega) (by omega)
 refine ctr_body Tryz.func80 rfl rfl rfl rfl rfl rfl ?_
 intro W0 base D μ0 hA hD
 repeat (first
  | refine aw_seq ?_ | refine aw_block ?_ | refine aw_condT rfl ?_ | refine aw_condF rfl ?_
  | ((first | refine aw_plainK (by kernel_rfl) ?_ | refine aw_drawK (by kernel_rfl) (by kernel_rfl) (by kernel_rfl) ?_)
     repeat (first
      | refine v_load (hl:=?_)
      | refine v_store (hl:=?_)
      | refine v_box (hl:=?_)
      | refine v_alloc (hl:=?_)
      | refine v_loadF (hl:=?_)
      | refine v_callE hA (hc:=D1) (hl:=?_)
      | refine v_callE hA (hc:=M1) (hl:=?_)
      | refine v_callE hA (hc:=S1) (hl:=?_))
     apply RunK.nil;try refine And.intro (by kernel_rfl) ?_)
  | refine aw_skip ?_ | refine aw_exit ?_)
 refine aw_ret (And.intro (Or.inr rfl) ?_)
 exact f_three (hE:=(by first | exact Ent.of_eq rfl | (refine Ent.tup rfl ?_;(repeat (first | exact EntT.nil | (refine EntT.cons ?_ rfl rfl ?_;focus (first | exact Ent.of_eq rfl | (refine Ent.agg' rfl ?_;(repeat (first | exact EntL.nil' rfl | (refine EntL.cons' rfl ?_ ?_;focus (first | exact EntC.of_eq rfl | (refine EntC.q rfl ?_;omega) | exact Z0 _ | exact Z2 _ | exact EntC.z0 (k:=0) | exact EntC.z1 (k:=0) | exact EntC.z2 (k:=0) | exact EntC.z0 | exact EntC.z1 | exact EntC.z2))));done) | (refine Ent.one' rfl ?_;(first | exact EntC.of_eq rfl | (refine EntC.q rfl ?_;omega) | exact Z0 _ | exact Z2 _ | exact EntC.z0 (k:=0) | exact EntC.z1 (k:=0) | exact EntC.z2 (k:=0) | exact EntC.z0 | exact EntC.z1 | exact EntC.z2))))));done)))
def geoR (a q:Rat) (i:Nat):Rat:=a*q^i
theorem geoR_zero (a q:Rat):geoR a q 0=a:=by unfold geoR;rw [Rat.pow_zero,Rat.mul_one]
theorem geoR_succ (a q:Rat) (i:Nat):geoR a q (i+1)=geoR a q i*q:=by unfold geoR;rw [Rat.pow_succ,Rat.mul_assoc]
theorem s_geometric {ja jq n J:Nat} {a q:Rat} (h1:ja≤10000000) (h2:jq≤10000000) (h3:J≤10000000) (hn:n≤1000) (hJ: ∀i,i≤n→RSz J (geoR a q i)):
  Ctr Tryz.prog Amb 82 [nm ja a,nm jq q,errV (n:Nat)] (.one (ratT J (n+1) (geoR a q))):=by
 have h0:=hJ 0 (Nat.zero_le _)
 rw [geoR_zero] at h0
 refine ctr_body Tryz.func82 rfl rfl rfl rfl rfl rfl ?_
 intro W0 base D μ0 hA hD
 repeat (first
  | refine aw_seq ?_ | refine aw_block ?_ | refine aw_condT rfl ?_ | refine aw_condF rfl ?_
  | ((first | refine aw_plainK (by kernel_rfl) ?_ | refine aw_drawK (by kernel_rfl) (by kernel_rfl) (by kernel_rfl) ?_)
     repeat (first
      | refine v_move (hl:=?_)
      | refine v_assign (hl:=?_)
      | refine v_load (hl:=?_)
      | refine v_box (hl:=?_)
      | refine v_bin (hl:=?_)
      | refine v_indexAddr (hl:=?_)
      | refine v_max (hl:=?_)
      | refine v_min (hl:=?_)
      | refine v_len (hl:=?_)
      | refine v_loadF (hl:=?_)
      | refine v_buildL (hl:=?_))
     apply RunK.nil;try refine And.intro (by kernel_rfl) ?_)
  | refine aw_skip ?_ | refine aw_exit ?_)
 refine aw_loop (fun m σ=> ∃(i:Nat) (done:List Rat),m=n-i∧i≤n∧done=tab (i+1) (geoR a q)∧Wk ⟨W0,base,D,26,[],μ0⟩ σ [(4,.one (.ptr 4 0)),(7,.one (.gl 10 done.length 3)),(11,errV (n:Nat)),(12,errV (i:Nat))] [(10,blkL (nmD J) done),(4,nmC jq q)]) (n:=n) ⟨0,[a],by omega,by omega,by simp [tab,geoR_zero],?_⟩ ?_
 ·refine wk_mk ?_ ?_ rfl
  ·repeat (first | exact nil_all | (refine List.forall_mem_cons.2 ⟨?_,?_⟩;focus (first | exact Ent.of_eq rfl | (refine Ent.one' rfl ?_;(first | exact EntC.ratsLe (by omega) | exact EntC.ratsNil | exact EntC.glNil | (refine EntC.int ?_;omega) | (refine EntC.glLen ?_;first | omega | simp) | exact EntC.qs h0 | exact EntC.of_eq rfl | (refine EntC.q rfl ?_;omega) | exact Z0 _ | exact Z2 _ | exact EntC.z0 (k:=0) | exact EntC.z1 (k:=0) | exact EntC.z2 (k:=0) | exact EntC.z0 | exact EntC.z1 | exact EntC.z2)) | (refine Ent.agg' rfl ?_;(repeat (first | exact EntL.nil' rfl | (refine EntL.cons' rfl ?_ ?_;focus (first | exact EntC.ratsLe (by omega) | exact EntC.ratsNil | exact EntC.glNil | (refine EntC.int ?_;omega) | (refine EntC.glLen ?_;first | omega | simp) | exact EntC.qs h0 | exact EntC.of_eq rfl | (refine EntC.q rfl ?_;omega) | exact Z0 _ | exact Z2 _ | exact EntC.z0 (k:=0) | exact EntC.z1 (k:=0) | exact EntC.z2 (k:=0) | exact EntC.z0 | exact EntC.z1 | exact EntC.z2))));done))))
  ·repeat (first | exact nil_all | (refine List.forall_mem_cons.2 ⟨?_,?_⟩;focus (first | exact blk_keep inferInstance | (refine blk_ok rfl ?_ rfl;focus ((repeat (first | exact EntL.nil' rfl | (refine EntL.cons' rfl ?_ ?_;focus (first | exact EntC.ratsLe (by omega) | exact EntC.ratsNil | exact EntC.glNil | (refine EntC.int ?_;omega) | (refine EntC.glLen ?_;first | omega | simp) | exact EntC.qs h0 | exact EntC.of_eq rfl | (refine EntC.q rfl ?_;omega) | exact Z0 _ | exact Z2 _ | exact EntC.z0 (k:=0) | exact EntC.z1 (k:=0) | exact EntC.z2 (k:=0) | exact EntC.z0 | exact EntC.z1 | exact EntC.z2))));done)))))
 intro m σ hI
 obtain ⟨i,done,hm,hi0,hdone,hw⟩:=hI
 refine aw_wk hw ?_
 clear hw
 have hdl:done.length=i+1:=by rw [hdone];simp
 by_cases hi:i<n
 ·have bi:=binLt (k:= .i64) (decide_eq_true (show (i:Int)<(n:Int) by omega))
  have hin:=binAdd (k:= .i64) (show (IntKind.i64).wrap ((i:Int)+1)=((i+1:Nat):Int) from IntWalk.i64_in _ (by omega))
  have hx:done[((i:Nat):Int).toNat]?=some (geoR a q i):=by rw [hdone];exact tab_at (by omega)
  have lt1:(0:Int)≤((i:Nat):Int)∧((i:Nat):Int)<(done.length:Nat):=by omega
  have st1:((i:Nat):Int).toNat*3+3≤(blkL (nmD J) done).length:=by rw [blkL_len (n:=3) inferInstance,Int.toNat_natCast];omega
  have ld1:=rdL_row (f:=nmD J) (n:=3) inferInstance hx
  have M1:=c_mul (j:=J) (k:=jq) (x:=geoR a q i) (y:=q) (by omega) (by omega)
  have hs:=hJ (i+1) (by omega)
  rw [geoR_succ] at hs
  have ht:done++ [geoR a q i*q]=tab (i+1+1) (geoR a q):=by rw [hdone,←geoR_succ];exact tab_succ
  generalize geoR a q i=x at*
  repeat (first
   | refine aw_seq ?_ | refine aw_block ?_ | refine aw_condT rfl ?_ | refine aw_condF rfl ?_
   | ((first | refine aw_plainK (by kernel_rfl) ?_ | refine aw_drawK (by kernel_rfl) (by kernel_rfl) (by kernel_rfl) ?_)
      repeat (first
       | refine v_move (hl:=?_)
       | refine v_assign (hl:=?_)
       | refine v_load (hl:=?_)
       | refine v_box (hl:=?_)
       | refine v_bin (hl:=?_)
       | refine v_indexAddr (hl:=?_)
       | refine v_max (hl:=?_)
       | refine v_min (hl:=?_)
       | refine v_len (hl:=?_)
       | refine v_loadF (hl:=?_)
       | refine v_buildL (hl:=?_))
      apply RunK.nil;try refine And.intro (by kernel_rfl) ?_)
   | refine aw_skip ?_ | refine aw_exit ?_)
  try refine aw_seq ?_
  refine aw_drawT 8 (by simp only [List.take_succ_cons,List.take_zero,List.drop_succ_cons,List.drop_zero];exact ⟨rfl,rfl⟩) (by kernel_rfl) (by kernel_rfl) (by kernel_rfl) (by kernel_rfl) (by kernel_rfl) ?_
  repeat (first
   | refine v_loadG (k:=10) st1 ld1 (hl:=?_)
   | refine v_move (hl:=?_)
   | refine v_assign (hl:=?_)
   | refine v_load (hl:=?_)
   | refine v_box (hl:=?_)
   | refine v_bin (hl:=?_)
   | refine v_indexAddr (hl:=?_)
   | refine v_max (hl:=?_)
   | refine v_min (hl:=?_)
   | refine v_len (hl:=?_)
   | refine v_loadF (hl:=?_)
   | refine v_buildL (hl:=?_)
   | refine v_idxG lt1 (hl:=?_)
   | refine v_callE hA (hc:=M1) (hl:=?_))
  apply RunK.nil
  refine And.intro (by kernel_rfl) ?_
  refine v_app (k:=10) (ss:= [(4,.one (.ptr 4 0)),(11,errV (n:Nat)),(12,errV (i:Nat))]) (bs:= [(4,nmC jq q)]) (ns:=(nmC (J+jq+2) (x*q))) hD ?_ ?_ ?_
  ·exact ⟨by omega,by omega⟩
  ·refine wk_mk ?_ ?_ rfl
   ·repeat (first | exact nil_all | (refine List.forall_mem_cons.2 ⟨?_,?_⟩;focus (first | exact Ent.of_eq rfl | (refine Ent.one' rfl ?_;(first | exact EntC.ratsLe (by omega) | exact EntC.ratsNil | exact EntC.glNil | (refine EntC.int ?_;omega) | (refine EntC.glLen ?_;first | omega | simp) | exact EntC.of_eq rfl | (refine EntC.q rfl ?_;omega) | exact Z0 _ | exact Z2 _ | exact EntC.z0 (k:=0) | exact EntC.z1 (k:=0) | exact EntC.z2 (k:=0) | exact EntC.z0 | exact EntC.z1 | exact EntC.z2)) | (refine Ent.agg' rfl ?_;(repeat (first | exact EntL.nil' rfl | (refine EntL.cons' rfl ?_ ?_;focus (first | exact EntC.ratsLe (by omega) | exact EntC.ratsNil | exact EntC.glNil | (refine EntC.int ?_;omega) | (refine EntC.glLen ?_;first | omega | simp) | exact EntC.of_eq rfl | (refine EntC.q rfl ?_;omega) | exact Z0 _ | exact Z2 _ | exact EntC.z0 (k:=0) | exact EntC.z1 (k:=0) | exact EntC.z2 (k:=0) | exact EntC.z0 | exact EntC.z1 | exact EntC.z2))));done))))
   ·repeat (first | exact nil_all | (refine List.forall_mem_cons.2 ⟨?_,?_⟩;focus (first | exact blk_keep inferInstance | (refine blk_ok rfl ?_ rfl;focus ((repeat (first | exact EntL.nil' rfl | (refine EntL.cons' rfl ?_ ?_;focus (first | exact EntC.ratsLe (by omega) | exact EntC.ratsNil | exact EntC.glNil | (refine EntC.int ?_;omega) | (refine EntC.glLen ?_;first | omega | simp) | exact EntC.of_eq rfl | (refine EntC.q rfl ?_;omega) | exact Z0 _ | exact Z2 _ | exact EntC.z0 (k:=0) | exact EntC.z1 (k:=0) | exact EntC.z2 (k:=0) | exact EntC.z0 | exact EntC.z1 | exact EntC.z2))));done)))))
  repeat (refine tl_run rfl ?_;(first | refine v_assign (hl:=?_) | refine v_move (hl:=?_) | refine v_store (hl:=?_));apply RunK.nil)
  refine tl_nil ?_
  repeat (first
   | refine aw_seq ?_ | refine aw_block ?_ | refine aw_condT rfl ?_ | refine aw_condF rfl ?_
   | ((first | refine aw_plainK (by kernel_rfl) ?_ | refine aw_drawK (by kernel_rfl) (by kernel_rfl) (by kernel_rfl) ?_)
      repeat (first
       | refine v_move (hl:=?_)
       | refine v_assign (hl:=?_)
       | refine v_load (hl:=?_)
       | refine v_box (hl:=?_)
       | refine v_bin (hl:=?_)
       | refine v_indexAddr (hl:=?_)
       | refine v_max (hl:=?_)
       | refine v_min (hl:=?_)
       | refine v_len (hl:=?_)
       | refine v_loadF (hl:=?_)
       | refine v_buildL (hl:=?_))
      apply RunK.nil;try refine And.intro (by kernel_rfl) ?_)
   | refine aw_skip ?_ | refine aw_exit ?_)
  refine ⟨m-1,by omega,i+1,done++ [x*q],by omega,by omega,ht,?_⟩
  refine wk_mk ?_ ?_ rfl
  ·repeat (first | exact nil_all | (refine List.forall_mem_cons.2 ⟨?_,?_⟩;focus (first | exact Ent.of_eq rfl | (refine Ent.one' rfl ?_;(first | exact EntC.ratsLe (by omega) | exact EntC.ratsNil | exact EntC.glNil | (refine EntC.int ?_;omega) | (refine EntC.glLen ?_;first | omega | simp) | exact EntC.qs hs | exact EntC.of_eq rfl | (refine EntC.q rfl ?_;omega) | exact Z0 _ | exact Z2 _ | exact EntC.z0 (k:=0) | exact EntC.z1 (k:=0) | exact EntC.z2 (k:=0) | exact EntC.z0 | exact EntC.z1 | exact EntC.z2)) | (refine Ent.agg' rfl ?_;(repeat (first | exact EntL.nil' rfl | (refine EntL.cons' rfl ?_ ?_;focus (first | exact EntC.ratsLe (by omega) | exact EntC.ratsNil | exact EntC.glNil | (refine EntC.int ?_;omega) | (refine EntC.glLen ?_;first | omega | simp) | exact EntC.qs hs | exact EntC.of_eq rfl | (refine EntC.q rfl ?_;omega) | exact Z0 _ | exact Z2 _ | exact EntC.z0 (k:=0) | exact EntC.z1 (k:=0) | exact EntC.z2 (k:=0) | exact EntC.z0 | exact EntC.z1 | exact EntC.z2))));done))))
  ·repeat (first | exact nil_all | (refine List.forall_mem_cons.2 ⟨?_,?_⟩;focus (first | exact blk_keep inferInstance | (refine blk_app inferInstance ?_;(repeat (first | exact EntL.nil' rfl | (refine EntL.cons' rfl ?_ ?_;focus (first | exact EntC.ratsLe (by omega) | exact EntC.ratsNil | exact EntC.glNil | (refine EntC.int ?_;omega) | (refine EntC.glLen ?_;first | omega | simp) | exact EntC.qs hs | exact EntC.of_eq rfl | (refine EntC.q rfl ?_;omega) | exact Z0 _ | exact Z2 _ | exact EntC.z0 (k:=0) | exact EntC.z1 (k:=0) | exact EntC.z2 (k:=0) | exact EntC.z0 | exact EntC.z1 | exact EntC.z2))));done) | (refine blk_ok rfl ?_ rfl;focus ((repeat (first | exact EntL.nil' rfl | (refine EntL.cons' rfl ?_ ?_;focus (first | exact EntC.ratsLe (by omega) | exact EntC.ratsNil | exact EntC.glNil | (refine EntC.int ?_;omega) | (refine EntC.glLen ?_;first | omega | simp) | exact EntC.qs hs | exact EntC.of_eq rfl | (refine EntC.q rfl ?_;omega) | exact Z0 _ | exact Z2 _ | exact EntC.z0 (k:=0) | exact EntC.z1 (k:=0) | exact EntC.z2 (k:=0) | exact EntC.z0 | exact EntC.z1 | exact EntC.z2))));done)))))
 ·have bi:=binLt (k:= .i64) (decide_eq_false (show ¬(i:Int)<(n:Int) by omega))
  obtain rfl:i=n:=by omega
  repeat (first
   | refine aw_seq ?_ | refine aw_block ?_ | refine aw_condT rfl ?_ | refine aw_condF rfl ?_
   | ((first | refine aw_plainK (by kernel_rfl) ?_ | refine aw_drawK (by kernel_rfl) (by kernel_rfl) (by kernel_rfl) ?_)
      repeat (first
       | refine v_move (hl:=?_)
       | refine v_assign (hl:=?_)
       | refine v_load (hl:=?_)
       | refine v_box (hl:=?_)
       | refine v_bin (hl:=?_)
       | refine v_indexAddr (hl:=?_)
       | refine v_max (hl:=?_)
       | refine v_min (hl:=?_)
       | refine v_len (hl:=?_)
       | refine v_loadF (hl:=?_)
       | refine v_buildL (hl:=?_))
      apply RunK.nil;try refine And.intro (by kernel_rfl) ?_)
   | refine aw_skip ?_ | refine aw_exit ?_)
  refine aw_freeze 10 hD (ss:= [(6,.one (rats J done))]) (bs:= []) ?_ ?_
  ·refine fk_mk ?_ ?_ rfl
   ·repeat (first | exact nil_all | (refine List.forall_mem_cons.2 ⟨?_,?_⟩;focus (first | exact fz_blk inferInstance | refine FzA.ent ?_;first | exact Ent.of_eq rfl | (refine Ent.one' rfl ?_;(first | exact EntC.ratsLe (by omega) | exact EntC.ratsNil | exact EntC.glNil | (refine EntC.int ?_;omega) | (refine EntC.glLen ?_;first | omega | simp) | exact EntC.of_eq rfl | (refine EntC.q rfl ?_;omega) | exact Z0 _ | exact Z2 _ | exact EntC.z0 (k:=0) | exact EntC.z1 (k:=0) | exact EntC.z2 (k:=0) | exact EntC.z0 | exact EntC.z1 | exact EntC.z2)) | (refine Ent.agg' rfl ?_;(repeat (first | exact EntL.nil' rfl | (refine EntL.cons' rfl ?_ ?_;focus (first | exact EntC.ratsLe (by omega) | exact EntC.ratsNil | exact EntC.glNil | (refine EntC.int ?_;omega) | (refine EntC.glLen ?_;first | omega | simp) | exact EntC.of_eq rfl | (refine EntC.q rfl ?_;omega) | exact Z0 _ | exact Z2 _ | exact EntC.z0 (k:=0) | exact EntC.z1 (k:=0) | exact EntC.z2 (k:=0) | exact EntC.z0 | exact EntC.z1 | exact EntC.z2))));done))))
   ·repeat (first | exact nil_all | (refine List.forall_mem_cons.2 ⟨?_,?_⟩;focus (first | exact blk_keep inferInstance | (refine blk_ok rfl ?_ rfl;focus ((repeat (first | exact EntL.nil' rfl | (refine EntL.cons' rfl ?_ ?_;focus (first | exact EntC.ratsLe (by omega) | exact EntC.ratsNil | exact EntC.glNil | (refine EntC.int ?_;omega) | (refine EntC.glLen ?_;first | omega | simp) | exact EntC.of_eq rfl | (refine EntC.q rfl ?_;omega) | exact Z0 _ | exact Z2 _ | exact EntC.z0 (k:=0) | exact EntC.z1 (k:=0) | exact EntC.z2 (k:=0) | exact EntC.z0 | exact EntC.z1 | exact EntC.z2))));done)))))
  subst hdone
  refine aw_ret (And.intro (Or.inr rfl) ?_)
  exact f_one
theorem s_scheme {ju jd n J:Nat} {u d:Rat} {f:Nat→Rat} (h1:ju≤10000000) (h2:jd≤10000000) (h3:J≤10000000) (hn:n≤1000) (hJ: ∀k i,k+i≤n→RSz J (casR u d f k i)):
  CtrM Tryz.prog Amb 81 [.one (.gl 26 (n+1) 3),nm ju u,nm jd d] [(26,blkL (nmD J) (tab (n+1) f),blkL (nmD J) (tab (n+1) fun q=>casR u d f (n-q) q))] (.one (ratT J (n+1) fun k=>casR u d f k 0)):=by
 have hdn:=binSub (k:= .i64) (show (IntKind.i64).wrap (((n+1:Nat):Int)-1)=(n:Int) by rw [show (((n+1:Nat):Int)-1)=(n:Int) by omega];exact IntWalk.i64_in _ (by omega))
 obtain ⟨R,hR⟩: ∃R,R=tab (n+1) fun q=>casR u d f (n-q) q:=⟨_,rfl⟩
 obtain ⟨L,hL⟩: ∃L,L=tab (n+1) f:=⟨_,rfl⟩
 rw [←hR,←hL]
 have hLl:L.length=n+1:=by rw [hL];simp
 have hst:=casI_start (u:=u) (d:=d) (f:=f) (n:=n)
 rw [←hL] at hst
 apply ctr_body Tryz.func81 rfl rfl rfl rfl
 case hpf=>
  simp only [List.all_cons,List.all_nil,Bool.and_true,Bool.and_eq_true]
  exact ⟨rfl,blkL_pf _,blkL_pf _⟩
 case hin=>simp [inA,inC]
 intro W0 base D μ0 hA hD
 have hx0:L[((0:Nat):Int).toNat]?=some (f 0):=by rw [hL];exact tab_at (by omega)
 have lt0:(0:Int)≤((0:Nat):Int)∧((0:Nat):Int)<((n+1:Nat):Int):=by omega
 have st0:((0:Nat):Int).toNat*3+3≤(blkL (nmD J) L).length:=by rw [blkL_len (n:=3) inferInstance,Int.toNat_natCast];omega
 have ld0:=rdL_row (f:=nmD J) (n:=3) inferInstance hx0
 repeat (first
  | refine aw_seq ?_ | refine aw_block ?_ | refine aw_condT rfl ?_ | refine aw_condF rfl ?_
  | ((first | refine aw_plainK (by kernel_rfl) ?_ | refine aw_drawK (by kernel_rfl) (by kernel_rfl) (by kernel_rfl) ?_)
     repeat (first
      | refine v_loadG (k:=26) st0 ld0 (hl:=?_)
      | refine v_move (hl:=?_)
      | refine v_assign (hl:=?_)
      | refine v_load (hl:=?_)
      | refine v_store (hl:=?_)
      | refine v_box (hl:=?_)
      | refine v_bin (hl:=?_)
      | refine v_indexAddr (hl:=?_)
      | refine v_max (hl:=?_)
      | refine v_min (hl:=?_)
      | refine v_len (hl:=?_)
      | refine v_lenS (hl:=?_)
      | refine v_loadF (hl:=?_)
      | refine v_buildL (hl:=?_)
      | refine v_idxG lt0 (hl:=?_))
     apply RunK.nil;try refine And.intro (by kernel_rfl) ?_)
  | refine aw_skip ?_ | refine aw_exit ?_)
 refine aw_loop (fun m σ=> ∃(s:Nat) (cur done:List Rat),m=n-s∧s≤n∧cur=tab (n+1) (casI u d f n s 0)∧done=tab (s+1) (fun k=>casR u d f k 0)∧Wk ⟨W0,base,D,54,[26],μ0⟩ σ [(0,.one (.gl 26 (n+1) 3)),(4,.one (.ptr 4 0)),(5,.one (.ptr 5 0)),(7,errV (n:Nat)),(8,.one (.gl 17 done.length 3)),(18,errV (n:Nat)),(19,errV (s:Nat))] [(26,blkL (nmD J) cur),(17,blkL (nmD J) done),(4,nmC ju u),(5,nmC jd d)]) (n:=n) ⟨0,L,[f 0],by omega,by omega,hst.symm,by simp [tab,casR],?_⟩ ?_
 ·refine wk_mk ?_ ?_ rfl
  ·repeat (first | exact nil_all | (refine List.forall_mem_cons.2 ⟨?_,?_⟩;focus (first | exact Ent.of_eq rfl | (refine Ent.one' rfl ?_;(first | exact EntC.ratsLe (by omega) | exact EntC.ratsNil | exact EntC.glNil | (refine EntC.int ?_;omega) | (refine EntC.glLen ?_;first | omega | simp) | exact EntC.of_eq rfl | (refine EntC.q rfl ?_;omega) | exact Z0 _ | exact Z2 _ | exact EntC.z0 (k:=0) | exact EntC.z1 (k:=0) | exact EntC.z2 (k:=0) | exact EntC.z0 | exact EntC.z1 | exact EntC.z2)) | (refine Ent.agg' rfl ?_;(repeat (first | exact EntL.nil' rfl | (refine EntL.cons' rfl ?_ ?_;focus (first | exact EntC.ratsLe (by omega) | exact EntC.ratsNil | exact EntC.glNil | (refine EntC.int ?_;omega) | (refine EntC.glLen ?_;first | omega | simp) | exact EntC.of_eq rfl | (refine EntC.q rfl ?_;omega) | exact Z0 _ | exact Z2 _ | exact EntC.z0 (k:=0) | exact EntC.z1 (k:=0) | exact EntC.z2 (k:=0) | exact EntC.z0 | exact EntC.z1 | exact EntC.z2))));done))))
  ·repeat (first | exact nil_all | (refine List.forall_mem_cons.2 ⟨?_,?_⟩;focus (first | exact blk_keep inferInstance | (refine blk_ok rfl ?_ rfl;focus ((repeat (first | exact EntL.nil' rfl | (refine EntL.cons' rfl ?_ ?_;focus (first | exact EntC.ratsLe (by omega) | exact EntC.ratsNil | exact EntC.glNil | (refine EntC.int ?_;omega) | (refine EntC.glLen ?_;first | omega | simp) | exact EntC.of_eq rfl | (refine EntC.q rfl ?_;omega) | exact Z0 _ | exact Z2 _ | exact EntC.z0 (k:=0) | exact EntC.z1 (k:=0) | exact EntC.z2 (k:=0) | exact EntC.z0 | exact EntC.z1 | exact EntC.z2))));done)))))
 intro m σ hI
 obtain ⟨s,cur,done,hm,hs0,hcur,hdone,hw⟩:=hI
 refine aw_wk hw ?_
 clear hw hst hx0 ld0 st0 lt0
 have hdl:done.length=s+1:=by rw [hdone];simp
 by_cases hs:s<n
 ·have bs:=binLt (k:= .i64) (decide_eq_true (show (s:Int)<(n:Int) by omega))
  have hsn:=binSub (k:= .i64) (show (IntKind.i64).wrap ((n:Int)-(s:Int))=((n-s:Nat):Int) by rw [show ((n:Int)-(s:Int))=((n-s:Nat):Int) by omega];exact IntWalk.i64_in _ (by omega))
  repeat (first
   | refine aw_seq ?_ | refine aw_block ?_ | refine aw_condT rfl ?_ | refine aw_condF rfl ?_
   | ((first | refine aw_plainK (by kernel_rfl) ?_ | refine aw_drawK (by kernel_rfl) (by kernel_rfl) (by kernel_rfl) ?_)
      repeat (first
       | refine v_move (hl:=?_)
       | refine v_assign (hl:=?_)
       | refine v_load (hl:=?_)
       | refine v_store (hl:=?_)
       | refine v_box (hl:=?_)
       | refine v_bin (hl:=?_)
       | refine v_indexAddr (hl:=?_)
       | refine v_max (hl:=?_)
       | refine v_min (hl:=?_)
       | refine v_len (hl:=?_)
       | refine v_lenS (hl:=?_)
       | refine v_loadF (hl:=?_)
       | refine v_buildL (hl:=?_))
      apply RunK.nil;try refine And.intro (by kernel_rfl) ?_)
   | refine aw_skip ?_ | refine aw_exit ?_)
  refine aw_loop (fun b σ=> ∃(i:Nat) (cur:List Rat),b=n-s-i∧i≤n-s∧cur=tab (n+1) (casI u d f n s i)∧Wk ⟨W0,base,D,54,[26],μ0⟩ σ [(0,.one (.gl 26 (n+1) 3)),(4,.one (.ptr 4 0)),(5,.one (.ptr 5 0)),(7,errV (n:Nat)),(8,.one (.gl 17 done.length 3)),(18,errV (n:Nat)),(19,errV (s:Nat)),(24,errV ((n-s:Nat):Int)),(25,errV (i:Nat))] [(26,blkL (nmD J) cur),(17,blkL (nmD J) done),(4,nmC ju u),(5,nmC jd d)]) (n:=n-s) ⟨0,cur,by omega,by omega,hcur,?_⟩ ?_
  ·refine wk_mk ?_ ?_ rfl
   ·repeat (first | exact nil_all | (refine List.forall_mem_cons.2 ⟨?_,?_⟩;focus (first | exact Ent.of_eq rfl | (refine Ent.one' rfl ?_;(first | exact EntC.ratsLe (by omega) | exact EntC.ratsNil | exact EntC.glNil | (refine EntC.int ?_;omega) | (refine EntC.glLen ?_;first | omega | simp) | exact EntC.of_eq rfl | (refine EntC.q rfl ?_;omega) | exact Z0 _ | exact Z2 _ | exact EntC.z0 (k:=0) | exact EntC.z1 (k:=0) | exact EntC.z2 (k:=0) | exact EntC.z0 | exact EntC.z1 | exact EntC.z2)) | (refine Ent.agg' rfl ?_;(repeat (first | exact EntL.nil' rfl | (refine EntL.cons' rfl ?_ ?_;focus (first | exact EntC.ratsLe (by omega) | exact EntC.ratsNil | exact EntC.glNil | (refine EntC.int ?_;omega) | (refine EntC.glLen ?_;first | omega | simp) | exact EntC.of_eq rfl | (refine EntC.q rfl ?_;omega) | exact Z0 _ | exact Z2 _ | exact EntC.z0 (k:=0) | exact EntC.z1 (k:=0) | exact EntC.z2 (k:=0) | exact EntC.z0 | exact EntC.z1 | exact EntC.z2))));done))))
   ·repeat (first | exact nil_all | (refine List.forall_mem_cons.2 ⟨?_,?_⟩;focus (first | exact blk_keep inferInstance | (refine blk_ok rfl ?_ rfl;focus ((repeat (first | exact EntL.nil' rfl | (refine EntL.cons' rfl ?_ ?_;focus (first | exact EntC.ratsLe (by omega) | exact EntC.ratsNil | exact EntC.glNil | (refine EntC.int ?_;omega) | (refine EntC.glLen ?_;first | omega | simp) | exact EntC.of_eq rfl | (refine EntC.q rfl ?_;omega) | exact Z0 _ | exact Z2 _ | exact EntC.z0 (k:=0) | exact EntC.z1 (k:=0) | exact EntC.z2 (k:=0) | exact EntC.z0 | exact EntC.z1 | exact EntC.z2))));done)))))
  clear hcur cur
  intro b σ hI
  obtain ⟨i,cur,hb,hi0,hcur,hw⟩:=hI
  refine aw_wk hw ?_
  clear hw
  have hcl:cur.length=n+1:=by rw [hcur];simp
  by_cases hi:i<n-s
  ·have bi:=binLt (k:= .i64) (decide_eq_true (show (i:Int)<((n-s:Nat):Int) by omega))
   have hin:=binAdd (k:= .i64) (show (IntKind.i64).wrap ((i:Int)+1)=((i+1:Nat):Int) from IntWalk.i64_in _ (by omega))
   have hx:cur[((i:Nat):Int).toNat]?=some (casR u d f s i):=by rw [hcur,←casI_at (u:=u) (d:=d) (f:=f) (n:=n) (k:=s) (i:=i) (q:=i) (by omega) (by omega)];exact tab_at (by omega)
   have hy:cur[((i+1:Nat):Int).toNat]?=some (casR u d f s (i+1)):=by rw [hcur,←casI_at (u:=u) (d:=d) (f:=f) (n:=n) (k:=s) (i:=i) (q:=i+1) (by omega) (by omega)];exact tab_at (by omega)
   have lt1:(0:Int)≤((i:Nat):Int)∧((i:Nat):Int)<((n+1:Nat):Int):=by omega
   have lt2:(0:Int)≤((i+1:Nat):Int)∧((i+1:Nat):Int)<((n+1:Nat):Int):=by omega
   have st1:((i:Nat):Int).toNat*3+3≤(blkL (nmD J) cur).length:=by rw [blkL_len (n:=3) inferInstance,Int.toNat_natCast];omega
   have st2:((i+1:Nat):Int).toNat*3+3≤(blkL (nmD J) cur).length:=by rw [blkL_len (n:=3) inferInstance,Int.toNat_natCast];omega
   have ld1:=rdL_row (f:=nmD J) (n:=3) inferInstance hx
   have ld2:=rdL_row (f:=nmD J) (n:=3) inferInstance hy
   have M1:=c_mul (j:=jd) (k:=J) (x:=d) (y:=casR u d f s i) (by omega) (by omega)
   have M2:=c_mul (j:=ju) (k:=J) (x:=u) (y:=casR u d f s (i+1)) (by omega) (by omega)
   have A1:=c_add (j:=jd+J+2) (k:=ju+J+2) (x:=d*casR u d f s i) (y:=u*casR u d f s (i+1)) (by omega) (by omega)
   have hz:=hJ (s+1) i (by omega)
   have ht:=casI_set (u:=u) (d:=d) (f:=f) (n:=n) (k:=s) (i:=i) (by omega) rfl
   rw [←hcur] at ht
   replace hz:RSz J (d*casR u d f s i+u*casR u d f s (i+1)):=hz
   generalize casR u d f s i=x at*
   generalize casR u d f s (i+1)=y at*
   repeat (first
    | refine aw_seq ?_ | refine aw_block ?_ | refine aw_condT rfl ?_ | refine aw_condF rfl ?_
    | ((first | refine aw_plainK (by kernel_rfl) ?_ | refine aw_drawK (by kernel_rfl) (by kernel_rfl) (by kernel_rfl) ?_)
       repeat (first
        | refine v_storeG (k:=26) st1 (hl:=?_)
        | refine v_loadG (k:=26) st1 ld1 (hl:=?_)
        | refine v_loadG (k:=26) st2 ld2 (hl:=?_)
        | refine v_move (hl:=?_)
        | refine v_assign (hl:=?_)
        | refine v_load (hl:=?_)
        | refine v_store (hl:=?_)
        | refine v_box (hl:=?_)
        | refine v_bin (hl:=?_)
        | refine v_indexAddr (hl:=?_)
        | refine v_max (hl:=?_)
        | refine v_min (hl:=?_)
        | refine v_len (hl:=?_)
        | refine v_lenS (hl:=?_)
        | refine v_loadF (hl:=?_)
        | refine v_buildL (hl:=?_)
        | refine v_idxG lt1 (hl:=?_)
        | refine v_idxG lt2 (hl:=?_)
        | refine v_callE hA (hc:=M1) (hl:=?_)
        | refine v_callE hA (hc:=M2) (hl:=?_)
        | refine v_callE hA (hc:=A1) (hl:=?_))
       apply RunK.nil;try refine And.intro (by kernel_rfl) ?_)
    | refine aw_skip ?_ | refine aw_exit ?_)
   refine ⟨b-1,by omega,i+1,cur.set i (d*x+u*y),by omega,by omega,ht,?_⟩
   refine wk_mk ?_ ?_ rfl
   ·repeat (first | exact nil_all | (refine List.forall_mem_cons.2 ⟨?_,?_⟩;focus (first | exact Ent.of_eq rfl | (refine Ent.one' rfl ?_;(first | exact EntC.ratsLe (by omega) | exact EntC.ratsNil | exact EntC.glNil | (refine EntC.int ?_;omega) | (refine EntC.glLen ?_;first | omega | simp) | exact EntC.qs hz | exact EntC.of_eq rfl | (refine EntC.q rfl ?_;omega) | exact Z0 _ | exact Z2 _ | exact EntC.z0 (k:=0) | exact EntC.z1 (k:=0) | exact EntC.z2 (k:=0) | exact EntC.z0 | exact EntC.z1 | exact EntC.z2)) | (refine Ent.agg' rfl ?_;(repeat (first | exact EntL.nil' rfl | (refine EntL.cons' rfl ?_ ?_;focus (first | exact EntC.ratsLe (by omega) | exact EntC.ratsNil | exact EntC.glNil | (refine EntC.int ?_;omega) | (refine EntC.glLen ?_;first | omega | simp) | exact EntC.qs hz | exact EntC.of_eq rfl | (refine EntC.q rfl ?_;omega) | exact Z0 _ | exact Z2 _ | exact EntC.z0 (k:=0) | exact EntC.z1 (k:=0) | exact EntC.z2 (k:=0) | exact EntC.z0 | exact EntC.z1 | exact EntC.z2))));done))))
   ·repeat (first | exact nil_all | (refine List.forall_mem_cons.2 ⟨?_,?_⟩;focus (first | exact blk_keep inferInstance | (refine blk_set inferInstance (i:=i) (show i<cur.length by omega) ?_;(repeat (first | exact EntL.nil' rfl | (refine EntL.cons' rfl ?_ ?_;focus (first | exact EntC.ratsLe (by omega) | exact EntC.ratsNil | exact EntC.glNil | (refine EntC.int ?_;omega) | (refine EntC.glLen ?_;first | omega | simp) | exact EntC.qs hz | exact EntC.of_eq rfl | (refine EntC.q rfl ?_;omega) | exact Z0 _ | exact Z2 _ | exact EntC.z0 (k:=0) | exact EntC.z1 (k:=0) | exact EntC.z2 (k:=0) | exact EntC.z0 | exact EntC.z1 | exact EntC.z2))));done) | (refine blk_ok rfl ?_ rfl;focus ((repeat (first | exact EntL.nil' rfl | (refine EntL.cons' rfl ?_ ?_;focus (first | exact EntC.ratsLe (by omega) | exact EntC.ratsNil | exact EntC.glNil | (refine EntC.int ?_;omega) | (refine EntC.glLen ?_;first | omega | simp) | exact EntC.qs hz | exact EntC.of_eq rfl | (refine EntC.q rfl ?_;omega) | exact Z0 _ | exact Z2 _ | exact EntC.z0 (k:=0) | exact EntC.z1 (k:=0) | exact EntC.z2 (k:=0) | exact EntC.z0 | exact EntC.z1 | exact EntC.z2))));done)))))
  ·have bi:=binLt (k:= .i64) (decide_eq_false (show ¬(i:Int)<((n-s:Nat):Int) by omega))
   obtain rfl:i=n-s:=by omega
   have hin:=binAdd (k:= .i64) (show (IntKind.i64).wrap ((s:Int)+1)=((s+1:Nat):Int) from IntWalk.i64_in _ (by omega))
   rw [casI_step (by omega)] at hcur
   have hx:cur[((0:Nat):Int).toNat]?=some (casR u d f (s+1) 0):=by rw [hcur,←casI_at (u:=u) (d:=d) (f:=f) (n:=n) (k:=s+1) (i:=0) (q:=0) (by omega) (by omega)];exact tab_at (by omega)
   have lt1:(0:Int)≤((0:Nat):Int)∧((0:Nat):Int)<((n+1:Nat):Int):=by omega
   have st1:((0:Nat):Int).toNat*3+3≤(blkL (nmD J) cur).length:=by rw [blkL_len (n:=3) inferInstance,Int.toNat_natCast];omega
   have ld1:=rdL_row (f:=nmD J) (n:=3) inferInstance hx
   have ht:done++ [casR u d f (s+1) 0]=tab (s+1+1) fun k=>casR u d f k 0:=by rw [hdone];exact tab_succ (g:=fun k=>casR u d f k 0)
   generalize casR u d f (s+1) 0=x at*
   repeat (first
    | refine aw_seq ?_ | refine aw_block ?_ | refine aw_condT rfl ?_ | refine aw_condF rfl ?_
    | ((first | refine aw_plainK (by kernel_rfl) ?_ | refine aw_drawK (by kernel_rfl) (by kernel_rfl) (by kernel_rfl) ?_)
       repeat (first
        | refine v_move (hl:=?_)
        | refine v_assign (hl:=?_)
        | refine v_load (hl:=?_)
        | refine v_store (hl:=?_)
        | refine v_box (hl:=?_)
        | refine v_bin (hl:=?_)
        | refine v_indexAddr (hl:=?_)
        | refine v_max (hl:=?_)
        | refine v_min (hl:=?_)
        | refine v_len (hl:=?_)
        | refine v_lenS (hl:=?_)
        | refine v_loadF (hl:=?_)
        | refine v_buildL (hl:=?_))
       apply RunK.nil;try refine And.intro (by kernel_rfl) ?_)
    | refine aw_skip ?_ | refine aw_exit ?_)
   try refine aw_seq ?_
   refine aw_plainT 5 (by simp only [List.take_succ_cons,List.take_zero,List.drop_succ_cons,List.drop_zero];exact ⟨rfl,rfl⟩) (by kernel_rfl) ?_
   repeat (first
    | refine v_loadG (k:=26) st1 ld1 (hl:=?_)
    | refine v_move (hl:=?_)
    | refine v_assign (hl:=?_)
    | refine v_load (hl:=?_)
    | refine v_store (hl:=?_)
    | refine v_box (hl:=?_)
    | refine v_bin (hl:=?_)
    | refine v_indexAddr (hl:=?_)
    | refine v_max (hl:=?_)
    | refine v_min (hl:=?_)
    | refine v_len (hl:=?_)
    | refine v_lenS (hl:=?_)
    | refine v_loadF (hl:=?_)
    | refine v_buildL (hl:=?_)
    | refine v_idxG lt1 (hl:=?_))
   apply RunK.nil
   refine v_app (k:=17) (ss:= [(0,.one (.gl 26 (n+1) 3)),(4,.one (.ptr 4 0)),(5,.one (.ptr 5 0)),(7,errV (n:Nat)),(18,errV (n:Nat)),(19,errV (s:Nat))]) (bs:= [(26,blkL (nmD J) cur),(4,nmC ju u),(5,nmC jd d)]) (ns:=(nmC J x)) hD ?_ ?_ ?_
   ·exact ⟨by omega,by omega⟩
   ·refine wk_mk ?_ ?_ rfl
    ·repeat (first | exact nil_all | (refine List.forall_mem_cons.2 ⟨?_,?_⟩;focus (first | exact Ent.of_eq rfl | (refine Ent.one' rfl ?_;(first | exact EntC.ratsLe (by omega) | exact EntC.ratsNil | exact EntC.glNil | (refine EntC.int ?_;omega) | (refine EntC.glLen ?_;first | omega | simp) | exact EntC.of_eq rfl | (refine EntC.q rfl ?_;omega) | exact Z0 _ | exact Z2 _ | exact EntC.z0 (k:=0) | exact EntC.z1 (k:=0) | exact EntC.z2 (k:=0) | exact EntC.z0 | exact EntC.z1 | exact EntC.z2)) | (refine Ent.agg' rfl ?_;(repeat (first | exact EntL.nil' rfl | (refine EntL.cons' rfl ?_ ?_;focus (first | exact EntC.ratsLe (by omega) | exact EntC.ratsNil | exact EntC.glNil | (refine EntC.int ?_;omega) | (refine EntC.glLen ?_;first | omega | simp) | exact EntC.of_eq rfl | (refine EntC.q rfl ?_;omega) | exact Z0 _ | exact Z2 _ | exact EntC.z0 (k:=0) | exact EntC.z1 (k:=0) | exact EntC.z2 (k:=0) | exact EntC.z0 | exact EntC.z1 | exact EntC.z2))));done))))
    ·repeat (first | exact nil_all | (refine List.forall_mem_cons.2 ⟨?_,?_⟩;focus (first | exact blk_keep inferInstance | (refine blk_ok rfl ?_ rfl;focus ((repeat (first | exact EntL.nil' rfl | (refine EntL.cons' rfl ?_ ?_;focus (first | exact EntC.ratsLe (by omega) | exact EntC.ratsNil | exact EntC.glNil | (refine EntC.int ?_;omega) | (refine EntC.glLen ?_;first | omega | simp) | exact EntC.of_eq rfl | (refine EntC.q rfl ?_;omega) | exact Z0 _ | exact Z2 _ | exact EntC.z0 (k:=0) | exact EntC.z1 (k:=0) | exact EntC.z2 (k:=0) | exact EntC.z0 | exact EntC.z1 | exact EntC.z2))));done)))))
   repeat (refine tl_run rfl ?_;(first | refine v_assign (hl:=?_) | refine v_move (hl:=?_) | refine v_store (hl:=?_));apply RunK.nil)
   refine tl_nil ?_
   repeat (first
    | refine aw_seq ?_ | refine aw_block ?_ | refine aw_condT rfl ?_ | refine aw_condF rfl ?_
    | ((first | refine aw_plainK (by kernel_rfl) ?_ | refine aw_drawK (by kernel_rfl) (by kernel_rfl) (by kernel_rfl) ?_)
       repeat (first
        | refine v_move (hl:=?_)
        | refine v_assign (hl:=?_)
        | refine v_load (hl:=?_)
        | refine v_store (hl:=?_)
        | refine v_box (hl:=?_)
        | refine v_bin (hl:=?_)
        | refine v_indexAddr (hl:=?_)
        | refine v_max (hl:=?_)
        | refine v_min (hl:=?_)
        | refine v_len (hl:=?_)
        | refine v_lenS (hl:=?_)
        | refine v_loadF (hl:=?_)
        | refine v_buildL (hl:=?_))
       apply RunK.nil;try refine And.intro (by kernel_rfl) ?_)
    | refine aw_skip ?_ | refine aw_exit ?_)
   refine ⟨m-1,by omega,s+1,cur,done++ [x],by omega,by omega,hcur,ht,?_⟩
   refine wk_mk ?_ ?_ rfl
   ·repeat (first | exact nil_all | (refine List.forall_mem_cons.2 ⟨?_,?_⟩;focus (first | exact Ent.of_eq rfl | (refine Ent.one' rfl ?_;(first | exact EntC.ratsLe (by omega) | exact EntC.ratsNil | exact EntC.glNil | (refine EntC.int ?_;omega) | (refine EntC.glLen ?_;first | omega | simp) | exact EntC.of_eq rfl | (refine EntC.q rfl ?_;omega) | exact Z0 _ | exact Z2 _ | exact EntC.z0 (k:=0) | exact EntC.z1 (k:=0) | exact EntC.z2 (k:=0) | exact EntC.z0 | exact EntC.z1 | exact EntC.z2)) | (refine Ent.agg' rfl ?_;(repeat (first | exact EntL.nil' rfl | (refine EntL.cons' rfl ?_ ?_;focus (first | exact EntC.ratsLe (by omega) | exact EntC.ratsNil | exact EntC.glNil | (refine EntC.int ?_;omega) | (refine EntC.glLen ?_;first | omega | simp) | exact EntC.of_eq rfl | (refine EntC.q rfl ?_;omega) | exact Z0 _ | exact Z2 _ | exact EntC.z0 (k:=0) | exact EntC.z1 (k:=0) | exact EntC.z2 (k:=0) | exact EntC.z0 | exact EntC.z1 | exact EntC.z2))));done))))
   ·repeat (first | exact nil_all | (refine List.forall_mem_cons.2 ⟨?_,?_⟩;focus (first | exact blk_keep inferInstance | (refine blk_app inferInstance ?_;(repeat (first | exact EntL.nil' rfl | (refine EntL.cons' rfl ?_ ?_;focus (first | exact EntC.ratsLe (by omega) | exact EntC.ratsNil | exact EntC.glNil | (refine EntC.int ?_;omega) | (refine EntC.glLen ?_;first | omega | simp) | exact EntC.of_eq rfl | (refine EntC.q rfl ?_;omega) | exact Z0 _ | exact Z2 _ | exact EntC.z0 (k:=0) | exact EntC.z1 (k:=0) | exact EntC.z2 (k:=0) | exact EntC.z0 | exact EntC.z1 | exact EntC.z2))));done) | (refine blk_ok rfl ?_ rfl;focus ((repeat (first | exact EntL.nil' rfl | (refine EntL.cons' rfl ?_ ?_;focus (first | exact EntC.ratsLe (by omega) | exact EntC.ratsNil | exact EntC.glNil | (refine EntC.int ?_;omega) | (refine EntC.glLen ?_;first | omega | simp) | exact EntC.of_eq rfl | (refine EntC.q rfl ?_;omega) | exact Z0 _ | exact Z2 _ | exact EntC.z0 (k:=0) | exact EntC.z1 (k:=0) | exact EntC.z2 (k:=0) | exact EntC.z0 | exact EntC.z1 | exact EntC.z2))));done)))))
 ·have bs:=binLt (k:= .i64) (decide_eq_false (show ¬(s:Int)<(n:Int) by omega))
  obtain rfl:s=n:=by omega
  rw [casI_end,←hR] at hcur
  subst hcur
  repeat (first
   | refine aw_seq ?_ | refine aw_block ?_ | refine aw_condT rfl ?_ | refine aw_condF rfl ?_
   | ((first | refine aw_plainK (by kernel_rfl) ?_ | refine aw_drawK (by kernel_rfl) (by kernel_rfl) (by kernel_rfl) ?_)
      repeat (first
       | refine v_move (hl:=?_)
       | refine v_assign (hl:=?_)
       | refine v_load (hl:=?_)
       | refine v_store (hl:=?_)
       | refine v_box (hl:=?_)
       | refine v_bin (hl:=?_)
       | refine v_indexAddr (hl:=?_)
       | refine v_max (hl:=?_)
       | refine v_min (hl:=?_)
       | refine v_len (hl:=?_)
       | refine v_lenS (hl:=?_)
       | refine v_loadF (hl:=?_)
       | refine v_buildL (hl:=?_))
      apply RunK.nil;try refine And.intro (by kernel_rfl) ?_)
   | refine aw_skip ?_ | refine aw_exit ?_)
  refine aw_freeze 17 hD (ss:= [(6,.one (rats J done))]) (bs:= [(26,blkL (nmD J) cur)]) ?_ ?_
  ·refine fk_mk ?_ ?_ rfl
   ·repeat (first | exact nil_all | (refine List.forall_mem_cons.2 ⟨?_,?_⟩;focus (first | exact fz_blk inferInstance | refine FzA.ent ?_;first | exact Ent.of_eq rfl | (refine Ent.one' rfl ?_;(first | exact EntC.ratsLe (by omega) | exact EntC.ratsNil | exact EntC.glNil | (refine EntC.int ?_;omega) | (refine EntC.glLen ?_;first | omega | simp) | exact EntC.of_eq rfl | (refine EntC.q rfl ?_;omega) | exact Z0 _ | exact Z2 _ | exact EntC.z0 (k:=0) | exact EntC.z1 (k:=0) | exact EntC.z2 (k:=0) | exact EntC.z0 | exact EntC.z1 | exact EntC.z2)) | (refine Ent.agg' rfl ?_;(repeat (first | exact EntL.nil' rfl | (refine EntL.cons' rfl ?_ ?_;focus (first | exact EntC.ratsLe (by omega) | exact EntC.ratsNil | exact EntC.glNil | (refine EntC.int ?_;omega) | (refine EntC.glLen ?_;first | omega | simp) | exact EntC.of_eq rfl | (refine EntC.q rfl ?_;omega) | exact Z0 _ | exact Z2 _ | exact EntC.z0 (k:=0) | exact EntC.z1 (k:=0) | exact EntC.z2 (k:=0) | exact EntC.z0 | exact EntC.z1 | exact EntC.z2))));done))))
   ·repeat (first | exact nil_all | (refine List.forall_mem_cons.2 ⟨?_,?_⟩;focus (first | exact blk_keep inferInstance | (refine blk_ok rfl ?_ rfl;focus ((repeat (first | exact EntL.nil' rfl | (refine EntL.cons' rfl ?_ ?_;focus (first | exact EntC.ratsLe (by omega) | exact EntC.ratsNil | exact EntC.glNil | (refine EntC.int ?_;omega) | (refine EntC.glLen ?_;first | omega | simp) | exact EntC.of_eq rfl | (refine EntC.q rfl ?_;omega) | exact Z0 _ | exact Z2 _ | exact EntC.z0 (k:=0) | exact EntC.z1 (k:=0) | exact EntC.z2 (k:=0) | exact EntC.z0 | exact EntC.z1 | exact EntC.z2))));done)))))
  subst hdone
  refine aw_ret (And.intro (Or.inr rfl) ⟨(f_one (hE:=Ent.of_eq rfl)).1,?_⟩)
  exact List.forall_mem_cons.2 ⟨(blk_keep (ks:= []) inferInstance).1,nil_all⟩
end Go.Proofs.YtdgjkohkmdpcdaaGreatDoor
namespace Go.Proofs.YtdgjkohkmdpcdaaGreatDoor
open Go.RowKit
set_option linter.unusedVariables false
set_option linter.unusedSimpArgs false
set_option maxRecDepth 20000
set_option maxHeartbeats 4000000
theorem s_permittedB {j:Nat} {l:List Rat} (h1:0<l.length) (h2:l.length≤41):Ctr Tryz.prog Amb 78 [.one (rats j l)] (.one (.v (.bool true))):=by
 have b1:=binGt (k:= .i64) (decide_eq_true (show (l.length:Int)>0 by omega))
 have b2:=binLe (k:= .i64) (decide_eq_true (show (l.length:Int)≤41 by omega))
 refine ctr_body Tryz.func78 rfl rfl rfl rfl rfl rfl ?_
 intro W0 base D μ0 hA hD
 repeat (first
  | refine aw_seq ?_ | refine aw_block ?_ | refine aw_condT rfl ?_ | refine aw_condF rfl ?_
  | ((first | refine aw_plainK (by kernel_rfl) ?_ | refine aw_drawK (by kernel_rfl) (by kernel_rfl) (by kernel_rfl) ?_)
     repeat (first
      | refine v_skip (hl:=?_)
      | refine v_move (hl:=?_)
      | refine v_assign (hl:=?_)
      | refine v_bin (hl:=?_)
      | refine v_pickT (hl:=?_)
      | refine v_pickF (hl:=?_)
      | refine v_max (hl:=?_)
      | refine v_min (hl:=?_)
      | refine v_len (hl:=?_)
      | refine v_lenS (hl:=?_))
     apply RunK.nil;try refine And.intro (by kernel_rfl) ?_)
  | refine aw_skip ?_ | refine aw_exit ?_)
 refine aw_ret (And.intro (Or.inr rfl) ?_)
 exact f_one
theorem drop_at {α:Type} {l:List α} {i:Nat} {x:α} (h:l[i]?=some x):l.drop i=x::l.drop (i+1):=by
 have hi:=(List.getElem?_eq_some_iff.1 h)
 rw [List.drop_eq_getElem_cons hi.1,hi.2]
abbrev oneR:Rat:=((1:Int):Rat)
theorem s_whole {j J:Nat} {l:List Rat} (hl:l.length≤100) (hne:0<l.length) (hj:j≤100000) (hr: ∀r∈l,RSz j r) (hJ:l.length*j+2+j+2≤J):
  CtrG Tryz.prog Amb 79 [.one (rats j l)] [] [(26,blkL (nmD J) (l.map fun r=>whS oneR l*r))] (.tup [.one (.gl 26 (l.map fun r=>whS oneR l*r).length 3),nm (l.length*j+2) (whS oneR l)]):=by
 have hjs:l.length*j≤10000000:=Nat.le_trans (Nat.mul_le_mul hl hj) (by decide)
 obtain ⟨js,hjse⟩: ∃js,js=l.length*j+2:=⟨_,rfl⟩
 rw [←hjse] at hJ⊢
 obtain ⟨S,hS⟩: ∃S,S=whS oneR l:=⟨_,rfl⟩
 rw [←hS]
 obtain ⟨h,hh⟩: ∃h:Rat→Rat,h=fun r=>S*r:=⟨_,rfl⟩
 rw [←hh]
 have hne':(!(blkL (nmD J) (l.map h)).isEmpty)=true:=by
  have:=blkL_ne (f:=nmD J) inferInstance (by decide) (show 0<(l.map h).length by simpa using hne)
  cases hb:blkL (nmD J) (l.map h) with
  | nil=>rw [hb] at this;cases this
  | cons a b=>rfl
 have I1:=c_int (n:=1) rfl
 refine ctrG_body Tryz.func79 rfl rfl rfl rfl (by
  simp only [List.all_cons,List.all_nil,Bool.and_true,Bool.and_eq_true]
  exact ⟨by simp [inA,inC],blkL_in _ _,hne'⟩) (by simp [inA,inC]) (by simp) (by simp) ?_
 intro W0 base D μ0 hA hD
 repeat (first
  | refine aw_seq ?_ | refine aw_block ?_ | refine aw_condT rfl ?_ | refine aw_condF rfl ?_
  | ((first | refine aw_plainK (by kernel_rfl) ?_ | refine aw_drawK (by kernel_rfl) (by kernel_rfl) (by kernel_rfl) ?_)
     repeat (first
      | refine v_move (hl:=?_)
      | refine v_assign (hl:=?_)
      | refine v_load (hl:=?_)
      | refine v_store (hl:=?_)
      | refine v_alloc (hl:=?_)
      | refine v_bin (hl:=?_)
      | refine v_indexAddr (hl:=?_)
      | refine v_max (hl:=?_)
      | refine v_min (hl:=?_)
      | refine v_len (hl:=?_)
      | refine v_lenS (hl:=?_)
      | refine v_loadF (hl:=?_)
      | refine v_callE hA (hc:=I1) (hl:=?_))
     apply RunK.nil;try refine And.intro (by kernel_rfl) ?_)
  | refine aw_skip ?_ | refine aw_exit ?_)
 refine aw_loop (fun b σ=> ∃(i m:Nat),b=l.length-i∧i≤l.length∧0<m∧Sz (i*j+2) m∧whS ((m:Int):Rat) (l.drop i)=S∧Wk ⟨W0,base,D,43,[],μ0⟩ σ [(0,.one (rats j l)),(3,.one (.ptr 3 0)),(4,.one (.ptr 4 0)),(11,.one (rats j l)),(12,errV (l.length:Nat)),(13,errV (i:Nat))] [(3,nmC 2 0),(4,nmC js ((m:Int):Rat))]) (n:=l.length) ⟨0,1,by omega,by omega,by decide,length_toL_le _ _ (by rw [Nat.zero_mul];decide),hS.symm,?_⟩ ?_
 ·refine wk_mk ?_ ?_ rfl
  ·repeat (first | exact nil_all | (refine List.forall_mem_cons.2 ⟨?_,?_⟩;focus (first | exact Ent.of_eq rfl | (refine Ent.one' rfl ?_;(first | exact EntC.ratsLe (by omega) | exact EntC.ratsNil | exact EntC.glNil | (refine EntC.int ?_;omega) | (refine EntC.glLen ?_;first | omega | simp) | exact EntC.of_eq rfl | (refine EntC.q rfl ?_;omega) | exact Z0 _ | exact Z2 _ | exact EntC.z0 (k:=0) | exact EntC.z1 (k:=0) | exact EntC.z2 (k:=0) | exact EntC.z0 | exact EntC.z1 | exact EntC.z2)) | (refine Ent.agg' rfl ?_;(repeat (first | exact EntL.nil' rfl | (refine EntL.cons' rfl ?_ ?_;focus (first | exact EntC.ratsLe (by omega) | exact EntC.ratsNil | exact EntC.glNil | (refine EntC.int ?_;omega) | (refine EntC.glLen ?_;first | omega | simp) | exact EntC.of_eq rfl | (refine EntC.q rfl ?_;omega) | exact Z0 _ | exact Z2 _ | exact EntC.z0 (k:=0) | exact EntC.z1 (k:=0) | exact EntC.z2 (k:=0) | exact EntC.z0 | exact EntC.z1 | exact EntC.z2))));done))))
  ·repeat (first | exact nil_all | (refine List.forall_mem_cons.2 ⟨?_,?_⟩;focus (first | exact blk_keep inferInstance | (refine blk_ok rfl ?_ rfl;focus ((repeat (first | exact EntL.nil' rfl | (refine EntL.cons' rfl ?_ ?_;focus (first | exact EntC.ratsLe (by omega) | exact EntC.ratsNil | exact EntC.glNil | (refine EntC.int ?_;omega) | (refine EntC.glLen ?_;first | omega | simp) | exact EntC.of_eq rfl | (refine EntC.q rfl ?_;omega) | exact Z0 _ | exact Z2 _ | exact EntC.z0 (k:=0) | exact EntC.z1 (k:=0) | exact EntC.z2 (k:=0) | exact EntC.z0 | exact EntC.z1 | exact EntC.z2))));done)))))
 intro b σ hI
 obtain ⟨i,m,hb,hi0,hm,hms,hw0,hw⟩:=hI
 refine aw_wk hw ?_
 clear hw
 by_cases hi:i<l.length
 ·obtain ⟨x,hx,hx'⟩:=get_at hi
  have bi:=binLt (k:= .i64) (decide_eq_true (show (i:Int)<(l.length:Int) by omega))
  have hin:=binAdd (k:= .i64) (show (IntKind.i64).wrap ((i:Int)+1)=((i+1:Nat):Int) from IntWalk.i64_in _ (by omega))
  rw [drop_at hx'] at hw0
  obtain ⟨m',hm',he,hs'⟩:=whS_step (r:=x) hm hms (hr x (List.mem_of_getElem? hx'))
  have hw1:whS ((m':Int):Rat) (l.drop (i+1))=S:=by rw [←he];exact hw0
  have e1:i*j+2+j=(i+1)*j+2:=by rw [Nat.succ_mul];omega
  rw [e1] at hs'
  have hs2:RSz js ((m':Int):Rat):=(rsz_nat hs' (by omega)).mono (by
   have:=Nat.mul_le_mul_right j (show i+1≤l.length by omega)
   omega)
  have M1:=c_mul (j:=js) (k:=j) (x:=((m:Int):Rat)) (y:=x) (by omega) (by omega)
  have D1:=c_den (j:=js+j+2) (x:=((m:Int):Rat)*x) (by omega)
  have M2:=c_mul (j:=js) (k:=js+j+2+2) (x:=((m:Int):Rat)) (y:=denQ (((m:Int):Rat)*x)) (by omega) (by omega)
  repeat (first
   | refine aw_seq ?_ | refine aw_block ?_ | refine aw_condT rfl ?_ | refine aw_condF rfl ?_
   | ((first | refine aw_plainK (by kernel_rfl) ?_ | refine aw_drawK (by kernel_rfl) (by kernel_rfl) (by kernel_rfl) ?_)
      repeat (first
       | refine v_move (hl:=?_)
       | refine v_assign (hl:=?_)
       | refine v_load (hl:=?_)
       | refine v_store (hl:=?_)
       | refine v_alloc (hl:=?_)
       | refine v_bin (hl:=?_)
       | refine v_indexAddr (hl:=?_)
       | refine v_max (hl:=?_)
       | refine v_min (hl:=?_)
       | refine v_len (hl:=?_)
       | refine v_lenS (hl:=?_)
       | refine v_loadF (hl:=?_)
       | refine v_idx hx (by omega) (hl:=?_)
       | refine v_callE hA (hc:=M1) (hl:=?_)
       | refine v_callE hA (hc:=D1) (hl:=?_)
       | refine v_callE hA (hc:=M2) (hl:=?_))
      apply RunK.nil;try refine And.intro (by kernel_rfl) ?_)
   | refine aw_skip ?_ | refine aw_exit ?_)
  refine ⟨b-1,by omega,i+1,m',by omega,by omega,hm',hs',hw1,?_⟩
  refine wk_mk ?_ ?_ rfl
  ·repeat (first | exact nil_all | (refine List.forall_mem_cons.2 ⟨?_,?_⟩;focus (first | exact Ent.of_eq rfl | (refine Ent.one' rfl ?_;(first | exact EntC.ratsLe (by omega) | exact EntC.ratsNil | exact EntC.glNil | (refine EntC.int ?_;omega) | (refine EntC.glLen ?_;first | omega | simp) | exact EntC.qe he hs2 | exact EntC.of_eq rfl | (refine EntC.q rfl ?_;omega) | exact Z0 _ | exact Z2 _ | exact EntC.z0 (k:=0) | exact EntC.z1 (k:=0) | exact EntC.z2 (k:=0) | exact EntC.z0 | exact EntC.z1 | exact EntC.z2)) | (refine Ent.agg' rfl ?_;(repeat (first | exact EntL.nil' rfl | (refine EntL.cons' rfl ?_ ?_;focus (first | exact EntC.ratsLe (by omega) | exact EntC.ratsNil | exact EntC.glNil | (refine EntC.int ?_;omega) | (refine EntC.glLen ?_;first | omega | simp) | exact EntC.qe he hs2 | exact EntC.of_eq rfl | (refine EntC.q rfl ?_;omega) | exact Z0 _ | exact Z2 _ | exact EntC.z0 (k:=0) | exact EntC.z1 (k:=0) | exact EntC.z2 (k:=0) | exact EntC.z0 | exact EntC.z1 | exact EntC.z2))));done))))
  ·repeat (first | exact nil_all | (refine List.forall_mem_cons.2 ⟨?_,?_⟩;focus (first | exact blk_keep inferInstance | (refine blk_ok rfl ?_ rfl;focus ((repeat (first | exact EntL.nil' rfl | (refine EntL.cons' rfl ?_ ?_;focus (first | exact EntC.ratsLe (by omega) | exact EntC.ratsNil | exact EntC.glNil | (refine EntC.int ?_;omega) | (refine EntC.glLen ?_;first | omega | simp) | exact EntC.qe he hs2 | exact EntC.of_eq rfl | (refine EntC.q rfl ?_;omega) | exact Z0 _ | exact Z2 _ | exact EntC.z0 (k:=0) | exact EntC.z1 (k:=0) | exact EntC.z2 (k:=0) | exact EntC.z0 | exact EntC.z1 | exact EntC.z2))));done)))))
 ·have bi:=binLt (k:= .i64) (decide_eq_false (show ¬(i:Int)<(l.length:Int) by omega))
  have hmS:((m:Int):Rat)=S:=by
   rw [List.drop_eq_nil_of_le (by omega)] at hw0
   exact hw0
  rw [hmS]
  clear hw0 hms hm I1 hS hmS
  repeat (first
   | refine aw_seq ?_ | refine aw_block ?_ | refine aw_condT rfl ?_ | refine aw_condF rfl ?_
   | ((first | refine aw_plainK (by kernel_rfl) ?_ | refine aw_drawK (by kernel_rfl) (by kernel_rfl) (by kernel_rfl) ?_)
      repeat (first
       | refine v_move (hl:=?_)
       | refine v_assign (hl:=?_)
       | refine v_load (hl:=?_)
       | refine v_store (hl:=?_)
       | refine v_alloc (hl:=?_)
       | refine v_bin (hl:=?_)
       | refine v_indexAddr (hl:=?_)
       | refine v_max (hl:=?_)
       | refine v_min (hl:=?_)
       | refine v_len (hl:=?_)
       | refine v_lenS (hl:=?_)
       | refine v_loadF (hl:=?_)
       | refine v_make hne (by omega) (by omega) (hl:=?_))
      apply RunK.nil;try refine And.intro (by kernel_rfl) ?_)
   | refine aw_skip ?_ | refine aw_exit ?_)
  refine aw_loop (fun n σ=> ∃(i:Nat) (cur:List Rat),n=l.length-i∧i≤l.length∧cur=(l.take i).map h++List.replicate (l.length-i) 0∧Wk ⟨W0,base,D,43,[],μ0⟩ σ [(3,.one (.ptr 3 0)),(4,.one (.ptr 4 0)),(7,.one (.gl 26 l.length 3)),(27,.one (rats j l)),(28,errV (l.length:Nat)),(29,errV (i:Nat))] [(26,blkL (nmD J) cur),(3,nmC 2 0),(4,nmC js S)]) (n:=l.length) ⟨0,List.replicate l.length 0,by omega,by omega,by simp,?_⟩ ?_
  ·refine wk_mk ?_ ?_ rfl
   ·repeat (first | exact nil_all | (refine List.forall_mem_cons.2 ⟨?_,?_⟩;focus (first | exact Ent.of_eq rfl | (refine Ent.one' rfl ?_;(first | exact EntC.ratsLe (by omega) | exact EntC.ratsNil | exact EntC.glNil | (refine EntC.int ?_;omega) | (refine EntC.glLen ?_;first | omega | simp) | exact EntC.of_eq rfl | (refine EntC.q rfl ?_;omega) | exact Z0 _ | exact Z2 _ | exact EntC.z0 (k:=0) | exact EntC.z1 (k:=0) | exact EntC.z2 (k:=0) | exact EntC.z0 | exact EntC.z1 | exact EntC.z2)) | (refine Ent.agg' rfl ?_;(repeat (first | exact EntL.nil' rfl | (refine EntL.cons' rfl ?_ ?_;focus (first | exact EntC.ratsLe (by omega) | exact EntC.ratsNil | exact EntC.glNil | (refine EntC.int ?_;omega) | (refine EntC.glLen ?_;first | omega | simp) | exact EntC.of_eq rfl | (refine EntC.q rfl ?_;omega) | exact Z0 _ | exact Z2 _ | exact EntC.z0 (k:=0) | exact EntC.z1 (k:=0) | exact EntC.z2 (k:=0) | exact EntC.z0 | exact EntC.z1 | exact EntC.z2))));done))))
   ·repeat (first | exact nil_all | (refine List.forall_mem_cons.2 ⟨?_,?_⟩;focus (first | exact blk_keep inferInstance | (refine blk_zeros inferInstance ?_;(repeat (first | exact EntL.nil' rfl | (refine EntL.cons' rfl ?_ ?_;focus (first | exact EntC.ratsLe (by omega) | exact EntC.ratsNil | exact EntC.glNil | (refine EntC.int ?_;omega) | (refine EntC.glLen ?_;first | omega | simp) | exact EntC.of_eq rfl | (refine EntC.q rfl ?_;omega) | exact Z0 _ | exact Z2 _ | exact EntC.z0 (k:=0) | exact EntC.z1 (k:=0) | exact EntC.z2 (k:=0) | exact EntC.z0 | exact EntC.z1 | exact EntC.z2))));done) | (refine blk_ok rfl ?_ rfl;focus ((repeat (first | exact EntL.nil' rfl | (refine EntL.cons' rfl ?_ ?_;focus (first | exact EntC.ratsLe (by omega) | exact EntC.ratsNil | exact EntC.glNil | (refine EntC.int ?_;omega) | (refine EntC.glLen ?_;first | omega | simp) | exact EntC.of_eq rfl | (refine EntC.q rfl ?_;omega) | exact Z0 _ | exact Z2 _ | exact EntC.z0 (k:=0) | exact EntC.z1 (k:=0) | exact EntC.z2 (k:=0) | exact EntC.z0 | exact EntC.z1 | exact EntC.z2))));done)))))
  intro n σ hI
  obtain ⟨i,cur,hn,hi0,hcur,hw⟩:=hI
  refine aw_wk hw ?_
  clear hw
  have hcl:cur.length=l.length:=by rw [hcur];simp;omega
  by_cases hi:i<l.length
  ·obtain ⟨x,hx,hx'⟩:=get_at hi
   have bi:=binLt (k:= .i64) (decide_eq_true (show (i:Int)<(l.length:Int) by omega))
   have hin:=binAdd (k:= .i64) (show (IntKind.i64).wrap ((i:Int)+1)=((i+1:Nat):Int) from IntWalk.i64_in _ (by omega))
   have hlt:(0:Int)≤((i:Nat):Int)∧((i:Nat):Int)<(l.length:Nat):=by omega
   have hst:((i:Nat):Int).toNat*3+3≤(blkL (nmD J) cur).length:=by rw [blkL_len (n:=3) inferInstance,hcl,Int.toNat_natCast];omega
   have M3:=c_mul (j:=js) (k:=j) (x:=S) (y:=x) (by omega) (by omega)
   repeat (first
    | refine aw_seq ?_ | refine aw_block ?_ | refine aw_condT rfl ?_ | refine aw_condF rfl ?_
    | ((first | refine aw_plainK (by kernel_rfl) ?_ | refine aw_drawK (by kernel_rfl) (by kernel_rfl) (by kernel_rfl) ?_)
       repeat (first
        | refine v_storeG (k:=26) hst (hl:=?_)
        | refine v_move (hl:=?_)
        | refine v_assign (hl:=?_)
        | refine v_load (hl:=?_)
        | refine v_store (hl:=?_)
        | refine v_alloc (hl:=?_)
        | refine v_bin (hl:=?_)
        | refine v_indexAddr (hl:=?_)
        | refine v_max (hl:=?_)
        | refine v_min (hl:=?_)
        | refine v_len (hl:=?_)
        | refine v_lenS (hl:=?_)
        | refine v_loadF (hl:=?_)
        | refine v_idx hx (by omega) (hl:=?_)
        | refine v_callE hA (hc:=M3) (hl:=?_)
        | refine v_idxG hlt (hl:=?_))
       apply RunK.nil;try refine And.intro (by kernel_rfl) ?_)
    | refine aw_skip ?_ | refine aw_exit ?_)
   refine ⟨n-1,by omega,i+1,cur.set i (S*x),by omega,by omega,?_,?_⟩
   ·rw [hcur,show S*x=h x by rw [hh]];exact set_map rfl hx'
   ·refine wk_mk ?_ ?_ rfl
    ·repeat (first | exact nil_all | (refine List.forall_mem_cons.2 ⟨?_,?_⟩;focus (first | exact Ent.of_eq rfl | (refine Ent.one' rfl ?_;(first | exact EntC.ratsLe (by omega) | exact EntC.ratsNil | exact EntC.glNil | (refine EntC.int ?_;omega) | (refine EntC.glLen ?_;first | omega | simp) | exact EntC.of_eq rfl | (refine EntC.q rfl ?_;omega) | exact Z0 _ | exact Z2 _ | exact EntC.z0 (k:=0) | exact EntC.z1 (k:=0) | exact EntC.z2 (k:=0) | exact EntC.z0 | exact EntC.z1 | exact EntC.z2)) | (refine Ent.agg' rfl ?_;(repeat (first | exact EntL.nil' rfl | (refine EntL.cons' rfl ?_ ?_;focus (first | exact EntC.ratsLe (by omega) | exact EntC.ratsNil | exact EntC.glNil | (refine EntC.int ?_;omega) | (refine EntC.glLen ?_;first | omega | simp) | exact EntC.of_eq rfl | (refine EntC.q rfl ?_;omega) | exact Z0 _ | exact Z2 _ | exact EntC.z0 (k:=0) | exact EntC.z1 (k:=0) | exact EntC.z2 (k:=0) | exact EntC.z0 | exact EntC.z1 | exact EntC.z2))));done))))
    ·repeat (first | exact nil_all | (refine List.forall_mem_cons.2 ⟨?_,?_⟩;focus (first | exact blk_keep inferInstance | (refine blk_set inferInstance (i:=i) (show i<cur.length by omega) ?_;(repeat (first | exact EntL.nil' rfl | (refine EntL.cons' rfl ?_ ?_;focus (first | exact EntC.ratsLe (by omega) | exact EntC.ratsNil | exact EntC.glNil | (refine EntC.int ?_;omega) | (refine EntC.glLen ?_;first | omega | simp) | exact EntC.of_eq rfl | (refine EntC.q rfl ?_;omega) | exact Z0 _ | exact Z2 _ | exact EntC.z0 (k:=0) | exact EntC.z1 (k:=0) | exact EntC.z2 (k:=0) | exact EntC.z0 | exact EntC.z1 | exact EntC.z2))));done) | (refine blk_ok rfl ?_ rfl;focus ((repeat (first | exact EntL.nil' rfl | (refine EntL.cons' rfl ?_ ?_;focus (first | exact EntC.ratsLe (by omega) | exact EntC.ratsNil | exact EntC.glNil | (refine EntC.int ?_;omega) | (refine EntC.glLen ?_;first | omega | simp) | exact EntC.of_eq rfl | (refine EntC.q rfl ?_;omega) | exact Z0 _ | exact Z2 _ | exact EntC.z0 (k:=0) | exact EntC.z1 (k:=0) | exact EntC.z2 (k:=0) | exact EntC.z0 | exact EntC.z1 | exact EntC.z2))));done)))))
  ·have bi:=binLt (k:= .i64) (decide_eq_false (show ¬(i:Int)<(l.length:Int) by omega))
   have he:cur=l.map h:=by rw [hcur,List.take_of_length_le (by omega),show l.length-i=0 by omega];simp
   subst he
   repeat (first
    | refine aw_seq ?_ | refine aw_block ?_ | refine aw_condT rfl ?_ | refine aw_condF rfl ?_
    | ((first | refine aw_plainK (by kernel_rfl) ?_ | refine aw_drawK (by kernel_rfl) (by kernel_rfl) (by kernel_rfl) ?_)
       repeat (first
        | refine v_move (hl:=?_)
        | refine v_assign (hl:=?_)
        | refine v_load (hl:=?_)
        | refine v_store (hl:=?_)
        | refine v_alloc (hl:=?_)
        | refine v_bin (hl:=?_)
        | refine v_indexAddr (hl:=?_)
        | refine v_max (hl:=?_)
        | refine v_min (hl:=?_)
        | refine v_len (hl:=?_)
        | refine v_lenS (hl:=?_)
        | refine v_loadF (hl:=?_))
       apply RunK.nil;try refine And.intro (by kernel_rfl) ?_)
    | refine aw_skip ?_ | refine aw_exit ?_)
   refine aw_ret (And.intro (Or.inr rfl) (f_twoN ?_ (hE:=by exact Ent.tup rfl (EntT.cons (Ent.one' rfl (EntC.glLen (by simp))) rfl rfl (EntT.cons (Ent.of_eq rfl) rfl rfl EntT.nil)))))
   exact List.forall_mem_cons.2 ⟨.inl (blk_keep inferInstance),nil_all⟩
theorem s_wholeT {j J n:Nat} {l:List Rat} (hl:l.length=n+1) (hn:n≤60) (hj:j≤100000) (hr: ∀r∈l,RSz j r) (hJ:(n+1)*j+2+j+2≤J):
  CtrG Tryz.prog Amb 79 [.one (rats j l)] [] [(26,blkL (nmD J) (tab (n+1) fun i=>whS oneR l*l.getD i 0))] (.tup [.one (.gl 26 (n+1) 3),nm ((n+1)*j+2) (whS oneR l)]):=by
 have h:=s_whole (J:=J) (l:=l) (by omega) (by omega) hj hr (by rw [hl];exact hJ)
 have e:(l.map fun r=>whS oneR l*r)=tab (n+1) fun i=>whS oneR l*l.getD i 0:=by rw [map_tab (fun r=>whS oneR l*r) 0 l,hl]
 rw [e,tab_len,hl] at h
 exact h
end Go.Proofs.YtdgjkohkmdpcdaaGreatDoor
