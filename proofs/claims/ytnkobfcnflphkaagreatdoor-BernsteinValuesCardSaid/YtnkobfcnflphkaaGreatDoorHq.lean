/-
  Several texts in one: Zaa, Zab.
-/
import Derived.Test.YtnkobfcnflphkaaGreatDoorHu
import Derived.Test.YtnkobfcnflphkaaGreatDoorHz
namespace Go.Proofs.YtnkobfcnflphkaaGreatDoor
open Go.RowKit
set_option linter.unusedVariables false
set_option linter.unusedSimpArgs false
set_option maxRecDepth 20000
set_option maxHeartbeats 4000000
theorem dif_iz {b n:Nat} {f:Nat→Rat} (hf: ∀i,i≤n→IZ b (f i)): ∀k i,k+i≤n→IZ (b+k) (difR f k i)
 | 0,i,h=>hf i (by omega)
 | k+1,i,h=>(dif_iz hf k (i+1) (by omega)).sub (dif_iz hf k i (by omega))
theorem dfI_iz {b n o i q:Nat} {f:Nat→Rat} (hf: ∀i,i≤n→IZ b (f i)) (ho:o≤n) (hoi:o≤i) (hq:q≤n):IZ (b+n+1) (dfI f o i q):=by
 unfold dfI
 by_cases h1:i<q
 ·rw [if_pos h1];exact (dif_iz hf (o+1) (q-(o+1)) (by omega)).mono (by omega)
 ·rw [if_neg h1]
  by_cases h2:q≤o
  ·rw [if_pos h2];exact (dif_iz hf q 0 (by omega)).mono (by omega)
  ·rw [if_neg h2];exact (dif_iz hf o (q-o) (by omega)).mono (by omega)
theorem s_toPw1 {ja js jw i:Nat} {l m:List Rat} {x y s:Rat} (hx:l[((i:Nat):Int).toNat]?=some x) (hy:m[((i:Nat):Int).toNat]?=some y) (h1:ja≤10000000) (h2:js≤10000000) (h3:jw≤10000000) (h0:s≠0):
  CtrM Tryz.prog Amb 109 [errV (i:Nat),.one (.ptr 901 0),.one (.ptr 902 0),.one (.ptr 903 0)] [(901,[rats ja l],[rats ja l]),(902,[rats jw m],[rats jw m]),(903,nmC js s,nmC js s)] (nm (ja+jw+2+js+2) (x*y/s)):=by
 have M1:=c_mul (j:=ja) (k:=jw) (x:=x) (y:=y) (by omega) (by omega)
 have O1:=s_over (j:=ja+jw+2) (k:=js) (x:=x*y) (y:=s) (by omega) (by omega) h0
 apply ctr_body Tryz.func109 rfl rfl rfl rfl rfl
 case hin=>simp [inA,inC]
 intro W0 base D μ0 hA hD
 repeat (first | refine aw_seq ?_ | refine aw_block ?_ | refine aw_condT rfl ?_ | refine aw_condF rfl ?_ | refine aw_pa ?_ | refine aw_da ?_ | refine aw_skip ?_ | refine aw_exit ?_)
 refine aw_ret (And.intro (Or.inr rfl) ?_)
 exact f_ro (hb:=by repeat (first | exact nil_all | refine List.forall_mem_cons.2 ⟨⟨rfl,rfl,rfl⟩,?_⟩))
set_option maxHeartbeats 16000000 in
theorem s_toPowers {j n:Nat} {p:List Rat} (hp:p.length=n+1) (hn:n≤40) (hj:j≤10000) (hr: ∀r∈p,RSz j r):
  Ctr Tryz.prog Amb 33 [.one (rats j p)] (.one (ratT 5000000 (n+1) (toPw (cf p) n))):=by
 have hNA:(n+1)*j≤41*10000:=Nat.mul_le_mul (by omega) hj
 obtain ⟨J,hJ⟩: ∃J,J=1000000:=⟨_,rfl⟩
 obtain ⟨M,hM0,_,hMS,hMsz,hint⟩:=whS_spec p 1 2 (by decide) (length_toL_le _ _ (by decide)) hr
 have P1:=s_permittedB (j:=j) (l:=p) (by omega) (by omega)
 have W1:=s_wholeT (J:=J) hp (by omega) (by omega) hr (by omega)
 obtain ⟨S,hS⟩: ∃S,S=whS oneR p:=⟨_,rfl⟩
 rw [←hS] at W1
 have hSM:S=((M:Int):Rat):=hS.trans hMS
 have hS0:S≠0:=by rw [hSM];exact natQ_ne hM0
 rw [hp] at hMsz
 obtain ⟨a,ha⟩: ∃a:Nat→Rat,a=fun i=>S*cf p i:=⟨_,rfl⟩
 have hva: ∀k,difR a k 0*binQ n k/S=toPw (cf p) n k:=fun k=>by rw [ha];exact toPw_scaled hS0
 have iz: ∀i,i≤n→IZ 900000 (a i):=fun i hi=>by
  have h1:cf p i∈p:=by
   have hlt:i<p.length:=by omega
   unfold cf
   rw [List.getD_eq_getElem?_getD,List.getElem?_eq_getElem hlt];exact List.getElem_mem hlt
  rw [ha,hSM]
  exact (IZ.scaled hMsz (hr _ h1) (hint _ h1)).mono (by omega)
 have hcz: ∀o i q,o≤n→o≤i→q≤n→RSz J (dfI a o i q):=fun o i q h1 h2 h3=>((dfI_iz iz h1 h2 h3).rsz (by omega)).mono (by omega)
 have W1':CtrG Tryz.prog Amb 100 [.one (rats j p)] [] [(26,blkL (nmD J) (tab (n+1) a))] (.tup [.one (.gl 26 (n+1) 3),nm ((n+1)*j+2) S]):=by rw [ha];exact W1
 clear W1 ha hint hMS hS hSM hM0 hMsz hr iz
 obtain ⟨js,hjs⟩: ∃js,js=(n+1)*j+2:=⟨_,rfl⟩
 rw [←hjs] at W1'
 have Bi:=s_binomials (n:=n) (by omega)
 have B1:=b113 (g:=109) (n:=n) (J:=5000000) (h:=toPw (cf p) n) (c0:=rats J (tab (n+1) fun q=>difR a q 0)) (c1:=rats 2 (tab (n+1) (binQ n))) (c2:= .q S js 0) (c3:= .q S js 1) (c4:= .q S js 2) rfl rfl rfl rfl rfl rfl rfl rfl rfl rfl (k1:=4) (k2:=8) (k3:=5) (by omega) (fun i hi=>by
  rw [←hva i]
  have h:=s_toPw1 (ja:=J) (js:=js) (jw:=2) (i:=i) (l:=tab (n+1) fun q=>difR a q 0) (m:=tab (n+1) (binQ n)) (s:=S) (tab_at (by omega)) (tab_at (by omega)) (by omega) (by omega) (by omega) hS0
  exact CtrM.weak h (Ents.of_eq rfl) (Ent.agg (.cons (.q rfl (by omega)) (.cons (.q rfl (by omega)) (.cons (.q rfl (by omega)) .nil))))) (by decide)
 obtain ⟨R0,hR0⟩: ∃R0,R0=tab (n+1) (toPw (cf p) n):=⟨_,rfl⟩
 obtain ⟨A,hA1⟩: ∃A,A=tab (n+1) a:=⟨_,rfl⟩
 obtain ⟨C,hC1⟩: ∃C,C=tab (n+1) fun q=>difR a q 0:=⟨_,rfl⟩
 obtain ⟨G,hG1⟩: ∃G,G=tab (n+1) (binQ n):=⟨_,rfl⟩
 unfold ratT at B1 Bi⊢
 rw [←hR0] at B1⊢
 rw [←hA1] at W1'
 rw [←hC1,←hG1] at B1
 rw [←hG1] at Bi
 have hAl:A.length=n+1:=by rw [hA1];simp
 have hbl:0<(blkL (nmD J) A).length:=blkL_ne (n:=3) inferInstance (by decide) (by omega)
 clear hR0 hG1 hva hS0
 have e1:=binSub (k:= .i64) (show (IntKind.i64).wrap ((p.length:Int)-1)=(n:Int) by rw [show ((p.length:Int)-1)=(n:Int) by omega];exact IntWalk.i64_in _ (by omega))
 refine ctr_body Tryz.func33 rfl rfl rfl rfl rfl rfl ?_
 intro W0 base D μ0 hA hD
 repeat (first | refine aw_seq ?_ | refine aw_block ?_ | refine aw_condT rfl ?_ | refine aw_condF rfl ?_ | refine aw_pa ?_ | refine aw_da ?_ | refine aw_skip ?_ | refine aw_exit ?_)
 refine aw_loop (fun c σ=> ∃(o:Nat) (cur:List Rat),c=n-o∧o≤n∧cur=tab (n+1) (dfI a o n)∧Wk ⟨W0,base,D,49,[],μ0⟩ σ [(3,errV (n:Nat)),(4,.one (.ptr 4 0)),(5,.one (.ptr 5 0)),(20,errV (n:Nat)),(21,errV (o:Nat))] [(4,[.gl 26 (n+1) 3]),(5,nmC js S),(26,blkL (nmD J) cur)]) (n:=n) ⟨0,A,by omega,by omega,hA1.trans dfI_start.symm,?_⟩ ?_
 ·exact wk_a
 intro c σ hI
 obtain ⟨o,cur,hc,ho0,hcur,hw⟩:=hI
 refine aw_wk hw ?_
 clear hw
 by_cases ho:o<n
 ·have bo:=binLt (k:= .i64) (decide_eq_true (show (o:Int)<(n:Int) by omega))
  have hon:=binAdd (k:= .i64) (show (IntKind.i64).wrap ((o:Int)+1)=((o+1:Nat):Int) from IntWalk.i64_in _ (by omega))
  repeat (first | refine aw_seq ?_ | refine aw_block ?_ | refine aw_condT rfl ?_ | refine aw_condF rfl ?_ | refine aw_pa ?_ | refine aw_da ?_ | refine aw_skip ?_ | refine aw_exit ?_)
  refine aw_loop (fun c σ=> ∃(i:Nat) (cur:List Rat),c=i-o∧o≤i∧i≤n∧cur=tab (n+1) (dfI a o i)∧Wk ⟨W0,base,D,49,[],μ0⟩ σ [(3,errV (n:Nat)),(4,.one (.ptr 4 0)),(5,.one (.ptr 5 0)),(6,errV (o:Nat)),(7,errV (i:Nat)),(20,errV (n:Nat)),(21,errV (o:Nat))] [(4,[.gl 26 (n+1) 3]),(5,nmC js S),(26,blkL (nmD J) cur)]) (n:=n-o) ⟨n,cur,rfl,by omega,Nat.le_refl _,hcur,?_⟩ ?_
  ·exact wk_a
  clear hcur cur
  intro c2 σ hI
  obtain ⟨i,cur,hc2,hoi,hin,hcur,hw⟩:=hI
  refine aw_wk hw ?_
  clear hw
  have hcl:cur.length=n+1:=by rw [hcur];simp
  by_cases hi:o<i
  ·obtain ⟨q,rfl⟩: ∃q,i=q+1:=⟨i-1,by omega⟩
   have bi:=binGt (k:= .i64) (decide_eq_true (show ((q+1:Nat):Int)>(o:Int) by omega))
   have hdn:=binSub (k:= .i64) (show (IntKind.i64).wrap (((q+1:Nat):Int)-1)=(q:Int) by rw [show (((q+1:Nat):Int)-1)=(q:Int) by omega];exact IntWalk.i64_in _ (by omega))
   have hx:cur[((q+1:Nat):Int).toNat]?=some (dfI a o (q+1) (q+1)):=by rw [hcur];exact tab_at (by omega)
   have hy:cur[((q:Nat):Int).toNat]?=some (dfI a o (q+1) q):=by rw [hcur];exact tab_at (by omega)
   have ht:=dfI_set (f:=a) (n:=n) hi hin rfl
   rw [Nat.add_sub_cancel,←hcur] at ht
   have hz:RSz J (dfI a o (q+1) (q+1)-dfI a o (q+1) q):=by
    have e:dfI a o (q+1) (q+1)-dfI a o (q+1) q=dfI a o q (q+1):=by
     have h2:=congrArg (fun l=>l[q+1]?) ht
     try dsimp only at h2
     rw [List.getElem?_set_self (by omega),tab_get (by omega)] at h2
     exact Option.some.inj h2
    rw [e];exact hcz o q (q+1) (by omega) (by omega) (by omega)
   have lt1:(0:Int)≤((q+1:Nat):Int)∧((q+1:Nat):Int)<((n+1:Nat):Int):=by omega
   have lt2:(0:Int)≤((q:Nat):Int)∧((q:Nat):Int)<((n+1:Nat):Int):=by omega
   have st1:((q+1:Nat):Int).toNat*3+3≤(blkL (nmD J) cur).length:=by rw [blkL_len (n:=3) inferInstance,hcl,Int.toNat_natCast];omega
   have st2:((q:Nat):Int).toNat*3+3≤(blkL (nmD J) cur).length:=by rw [blkL_len (n:=3) inferInstance,hcl,Int.toNat_natCast];omega
   have ld1:=rdL_row (f:=nmD J) (n:=3) inferInstance hx
   have ld2:=rdL_row (f:=nmD J) (n:=3) inferInstance hy
   have D4:=c_sub (j:=J) (k:=J) (x:=dfI a o (q+1) (q+1)) (y:=dfI a o (q+1) q) (by omega) (by omega)
   generalize dfI a o (q+1) (q+1)=x at*
   generalize dfI a o (q+1) q=y at*
   repeat (first | refine aw_seq ?_ | refine aw_block ?_ | refine aw_condT rfl ?_ | refine aw_condF rfl ?_ | refine aw_pa ?_ | refine aw_da ?_ | refine aw_skip ?_ | refine aw_exit ?_)
   refine ⟨c2-1,by omega,q,cur.set (q+1) (x-y),by omega,by omega,by omega,ht,?_⟩
   exact wk_a
  ·have bi:=binGt (k:= .i64) (decide_eq_false (show ¬(i:Int)>(o:Int) by omega))
   obtain rfl:i=o:=by omega
   rw [dfI_next] at hcur
   repeat (first | refine aw_seq ?_ | refine aw_block ?_ | refine aw_condT rfl ?_ | refine aw_condF rfl ?_ | refine aw_pa ?_ | refine aw_da ?_ | refine aw_skip ?_ | refine aw_exit ?_)
   refine ⟨c-1,by omega,i+1,cur,by omega,by omega,hcur,?_⟩
   exact wk_a
 ·have bo:=binLt (k:= .i64) (decide_eq_false (show ¬(o:Int)<(n:Int) by omega))
  obtain rfl:o=n:=by omega
  rw [dfI_end] at hcur
  have he:cur=C:=hcur.trans hC1.symm
  have hCl:C.length=o+1:=by rw [hC1];simp
  subst he
  clear hcur hC1
  repeat (first | refine aw_seq ?_ | refine aw_block ?_ | refine aw_condT rfl ?_ | refine aw_condF rfl ?_ | refine aw_pa ?_ | refine aw_da ?_ | refine aw_skip ?_ | refine aw_exit ?_)
  refine aw_freeze 26 hD (ss:= [(3,errV (o:Nat)),(4,.one (.ptr 4 0)),(5,.one (.ptr 5 0)),(8,.one (.ptr 8 0))]) (bs:= [(4,[rats J cur]),(5,nmC js S),(8,[rats 2 G])]) ?_ ?_
  ·refine fk_mk2 ?_ ?_ rfl
   ·repeat (first | exact nil_all | (refine List.forall_mem_cons.2 ⟨?_,?_⟩;focus (first | exact fz_blk inferInstance | refine FzA.ent ?_;first | exact Ent.of_eq rfl | (refine Ent.one' rfl ?_;(first | exact EntC.ratsLe (by omega) | exact EntC.ratsNil | exact EntC.glNil | (refine EntC.int ?_;omega) | (refine EntC.glLen ?_;first | omega | simp) | exact EntC.of_eq rfl | (refine EntC.q rfl ?_;omega) | exact Z0 _ | exact Z2 _ | exact EntC.z0 (k:=0) | exact EntC.z1 (k:=0) | exact EntC.z2 (k:=0) | exact EntC.z0 | exact EntC.z1 | exact EntC.z2)) | (refine Ent.agg' rfl ?_;(repeat (first | exact EntL.nil' rfl | (refine EntL.cons' rfl ?_ ?_;focus (first | exact EntC.ratsLe (by omega) | exact EntC.ratsNil | exact EntC.glNil | (refine EntC.int ?_;omega) | (refine EntC.glLen ?_;first | omega | simp) | exact EntC.of_eq rfl | (refine EntC.q rfl ?_;omega) | exact Z0 _ | exact Z2 _ | exact EntC.z0 (k:=0) | exact EntC.z1 (k:=0) | exact EntC.z2 (k:=0) | exact EntC.z0 | exact EntC.z1 | exact EntC.z2))));done))))
   ·repeat (first | exact nil_all | (refine List.forall_mem_cons.2 ⟨?_,?_⟩;focus (first | exact BlkFz.gl inferInstance | (refine BlkFz.of ?_;first | exact blk_keep inferInstance | (refine blk_ok rfl ?_ rfl;focus ((repeat (first | exact EntL.nil' rfl | (refine EntL.cons' rfl ?_ ?_;focus (first | exact EntC.ratsLe (by omega) | exact EntC.ratsNil | exact EntC.glNil | (refine EntC.int ?_;omega) | (refine EntC.glLen ?_;first | omega | simp) | exact EntC.of_eq rfl | (refine EntC.q rfl ?_;omega) | exact Z0 _ | exact Z2 _ | exact EntC.z0 (k:=0) | exact EntC.z1 (k:=0) | exact EntC.z2 (k:=0) | exact EntC.z0 | exact EntC.z1 | exact EntC.z2))));done))))))
  repeat (first | refine aw_seq ?_ | refine aw_block ?_ | refine aw_condT rfl ?_ | refine aw_condF rfl ?_ | refine aw_pa ?_ | refine aw_da ?_ | refine aw_skip ?_ | refine aw_exit ?_)
  refine aw_ret (And.intro (Or.inr rfl) ?_)
  exact f_one
end Go.Proofs.YtnkobfcnflphkaaGreatDoor
namespace Go.Proofs.YtnkobfcnflphkaaGreatDoor
open Go.RowKit
set_option linter.unusedVariables false
set_option linter.unusedSimpArgs false
set_option maxRecDepth 20000
set_option maxHeartbeats 4000000
section
variable {P:Program} {X:Ctx} {ops l:List Oper} {σ:St} {K:List Eff→St→Prop} {s:Nat→AV}
variable {dst:Option Tmp} {ty:TypeId} {pos:String} {af:Array Edge} {gd:Option (Nat×Bool)}
end
section
variable {f:Nat→Rat} {n k i q:Nat} {x:Rat}
end
theorem dif_ib {D B n:Nat} {f:Nat→Rat} (hf: ∀i,i≤n→IB D B (f i)): ∀k i,k+i≤n→IB D (B*2^k) (difR f k i)
 | 0,i,h=>by rw [Nat.pow_zero,Nat.mul_one];exact hf i (by omega)
 | k+1,i,h=>by
   obtain ⟨a,ha,hab⟩:=dif_ib hf k (i+1) (by omega)
   obtain ⟨b,hb,hbb⟩:=dif_ib hf k i (by omega)
   refine ⟨a-b,?_,?_⟩
   ·show (difR f k (i+1)-difR f k i)*_=_
    rw [Rat.intCast_sub,←ha,←hb];grind
   ·rw [Nat.pow_succ,←Nat.mul_assoc]
    omega
theorem dif_rsz {j n J:Nat} {l:List Rat} (hl:l.length=n+1) (hr: ∀r∈l,RSz j r) (hJ:2+(n+1)*j+j+(n+2)≤J): ∀k i,k+i≤n→RSz J (difR (cf l) k i):=fun k i h=>by
 obtain ⟨M,B,hM0,hM,hB,H⟩:=list_ib hl hr
 have h2:Sz (n+2) (2^k):=((Sz.pow (a:=1) (E:=2) (length_toL_le _ _ (by decide)) k)).mono (by omega)
 exact (dif_ib H k i h).rsz hM0 (hM.mono (by omega)) ((hB.mul h2).mono (by omega))
theorem sum_rsz {g:Nat→Rat} {b:Nat} : ∀ {c:Nat},(∀i,i<c→RSz b (g i))→RSz (c*(b+1)+1) (sumR g c)
 | 0,_=>((IZ.zero (b:=1)).rsz (Nat.le_refl 1)).mono (by omega)
 | c+1,h=>((sum_rsz (c:=c) fun i hi=>h i (by omega)).add (h c (by omega))).mono (by rw [Nat.succ_mul];omega)
end Go.Proofs.YtnkobfcnflphkaaGreatDoor
