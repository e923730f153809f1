/-
  Several texts in one: Zaa.
-/
import Derived.Test.YtnkobfcnflphkaaGreatDoorHu
import Derived.Test.YtnkobfcnflphkaaGreatDoorHz
namespace Go.Proofs.YtnkobfcnflphkaaGreatDoor
open Go.RowKit
set_option linter.unusedVariables false
set_option linter.unusedSimpArgs false
set_option maxRecDepth 20000
set_option maxHeartbeats 4000000
theorem smp_iz {b n:Nat} {f:Nat→Rat} (hf: ∀i,i≤n→IZ b (f i)): ∀d m,m+d≤n→IZ (b+d) (smpR f m d)
 | 0,m,h=>hf m (by omega)
 | d+1,m,h=>IZ.add (smp_iz hf d m (by omega)) (smp_iz hf d (m+1) (by omega)) (by omega)
theorem smI_iz {b n o i q:Nat} {f:Nat→Rat} (hf: ∀i,i≤n→IZ b (f i)) (ho:0<o) (hq:q≤n):IZ (b+n+1) (smI f o i q):=by
 unfold smI
 by_cases h1:q<o
 ·rw [if_pos h1];exact (hf q hq).mono (by omega)
 ·rw [if_neg h1]
  by_cases h2:q<i
  ·rw [if_pos h2];exact (smp_iz hf (q-o+1) (o-1) (by omega)).mono (by omega)
  ·rw [if_neg h2];exact (smp_iz hf (q-o) o (by omega)).mono (by omega)
theorem s_permittedF {j:Nat} {l:List Rat} (h:l.length=0∨41<l.length) (h2:l.length≤1000000):Ctr Tryz.prog Amb 98 [.one (rats j l)] (.one (.v (.bool false))):=by
 by_cases h0:l.length=0
 ·have b1:=binGt (k:= .i64) (decide_eq_false (show ¬(l.length:Int)>0 by omega))
  refine ctr_body Tryz.func98 rfl rfl rfl rfl rfl rfl ?_
  intro W0 base D μ0 hA hD
  repeat (first | refine aw_seq ?_ | refine aw_block ?_ | refine aw_condT rfl ?_ | refine aw_condF rfl ?_ | refine aw_pa ?_ | refine aw_da ?_ | refine aw_skip ?_ | refine aw_exit ?_)
  refine aw_ret (And.intro (Or.inr rfl) ?_)
  exact f_one
 ·have b1:=binGt (k:= .i64) (decide_eq_true (show (l.length:Int)>0 by omega))
  have b2:=binLe (k:= .i64) (decide_eq_false (show ¬(l.length:Int)≤41 by omega))
  refine ctr_body Tryz.func98 rfl rfl rfl rfl rfl rfl ?_
  intro W0 base D μ0 hA hD
  repeat (first | refine aw_seq ?_ | refine aw_block ?_ | refine aw_condT rfl ?_ | refine aw_condF rfl ?_ | refine aw_pa ?_ | refine aw_da ?_ | refine aw_skip ?_ | refine aw_exit ?_)
  refine aw_ret (And.intro (Or.inr rfl) ?_)
  exact f_one
theorem s_ofPw1 {ja jw i:Nat} {l m:List Rat} {x y:Rat} (hx:l[((i:Nat):Int).toNat]?=some x) (hy:m[((i:Nat):Int).toNat]?=some y) (h1:ja≤10000000) (h3:jw≤10000000) (h0:y≠0):
  CtrM Tryz.prog Amb 102 [errV (i:Nat),.one (.ptr 901 0),.one (.ptr 902 0)] [(901,[rats ja l],[rats ja l]),(902,[rats jw m],[rats jw m])] (nm (ja+jw+2) (x/y)):=by
 have O1:=s_over (j:=ja) (k:=jw) (x:=x) (y:=y) (by omega) (by omega) h0
 apply ctr_body Tryz.func102 rfl rfl rfl rfl rfl
 case hin=>simp [inA,inC]
 intro W0 base D μ0 hA hD
 repeat (first | refine aw_seq ?_ | refine aw_block ?_ | refine aw_condT rfl ?_ | refine aw_condF rfl ?_ | refine aw_pa ?_ | refine aw_da ?_ | refine aw_skip ?_ | refine aw_exit ?_)
 refine aw_ret (And.intro (Or.inr rfl) ?_)
 exact f_ro (hb:=by repeat (first | exact nil_all | refine List.forall_mem_cons.2 ⟨⟨rfl,rfl,rfl⟩,?_⟩))
theorem s_ofPw2 {ja js i:Nat} {l:List Rat} {x s:Rat} (hx:l[((i:Nat):Int).toNat]?=some x) (h1:ja≤10000000) (h2:js≤10000000) (h0:s≠0):
  CtrM Tryz.prog Amb 105 [errV (i:Nat),.one (.ptr 901 0),.one (.ptr 902 0)] [(901,[rats ja l],[rats ja l]),(902,nmC js s,nmC js s)] (nm (ja+js+2) (x/s)):=by
 have O1:=s_over (j:=ja) (k:=js) (x:=x) (y:=s) (by omega) (by omega) h0
 apply ctr_body Tryz.func105 rfl rfl rfl rfl rfl
 case hin=>simp [inA,inC]
 intro W0 base D μ0 hA hD
 repeat (first | refine aw_seq ?_ | refine aw_block ?_ | refine aw_condT rfl ?_ | refine aw_condF rfl ?_ | refine aw_pa ?_ | refine aw_da ?_ | refine aw_skip ?_ | refine aw_exit ?_)
 refine aw_ret (And.intro (Or.inr rfl) ?_)
 exact f_ro (hb:=by repeat (first | exact nil_all | refine List.forall_mem_cons.2 ⟨⟨rfl,rfl,rfl⟩,?_⟩))
set_option maxHeartbeats 16000000 in
theorem s_fromPowers {j n:Nat} {p:List Rat} (hp:p.length=n+1) (hn:n≤40) (hj:j≤9000) (hr: ∀r∈p,RSz j r):
  Ctr Tryz.prog Amb 25 [.one (rats j p)] (.tup [.one (rats 5000000 (tab (n+1) (ofPw (cf p) n))),errV 0]):=by
 obtain ⟨k,hk⟩: ∃k,k=j+2+2:=⟨_,rfl⟩
 have hNA:(n+1)*k≤41*9100:=Nat.mul_le_mul (by omega) (by omega)
 obtain ⟨J,hJ⟩: ∃J,J=1000000:=⟨_,rfl⟩
 obtain ⟨Q,hQ⟩: ∃Q,Q=tab (n+1) fun i=>cf p i/binQ n i:=⟨_,rfl⟩
 have hQl:Q.length=n+1:=by rw [hQ];simp
 have hQr: ∀r∈Q,RSz k r:=fun r hrr=>by
  obtain ⟨i,hi,he⟩:=List.getElem_of_mem hrr
  have h2:Q[i]?=some (cf p i/binQ n i):=by rw [hQ];exact tab_get (by omega)
  rw [List.getElem?_eq_getElem hi,he] at h2
  rw [Option.some.inj h2]
  have h1:cf p i∈p:=by
   have hlt:i<p.length:=by omega
   unfold cf
   rw [List.getD_eq_getElem?_getD,List.getElem?_eq_getElem hlt];exact List.getElem_mem hlt
  exact (rsz_div (hr _ h1) (binQ_rsz (n:=n) (k:=i) (by omega)) (binQ_ne (by omega))).mono (by omega)
 obtain ⟨M,hM0,_,hMS,hMsz,hint⟩:=whS_spec Q 1 2 (by decide) (length_toL_le _ _ (by decide)) hQr
 have P1:=s_permittedB (j:=j) (l:=p) (by omega) (by omega)
 have Bi:=s_binomials (n:=n) (by omega)
 have B0:=b11 (g:=102) (n:=n) (J:=k) (h:=fun i=>cf p i/binQ n i) (c0:=rats j p) (c1:=rats 2 (tab (n+1) (binQ n))) rfl rfl rfl rfl (k1:=1) (k2:=5) (by omega) (fun i hi=>by
  rw [hk]
  exact s_ofPw1 (ja:=j) (jw:=2) (i:=i) (l:=p) (m:=tab (n+1) (binQ n)) (getD_at (by omega)) (tab_at (by omega)) (by omega) (by omega) (binQ_ne hi)) (by decide)
 have W1:=s_wholeT (J:=J) hQl (by omega) (by omega) hQr (by omega)
 obtain ⟨S,hS⟩: ∃S,S=whS oneR Q:=⟨_,rfl⟩
 rw [←hS] at W1
 have hSM:S=((M:Int):Rat):=hS.trans hMS
 have hS0:S≠0:=by rw [hSM];exact natQ_ne hM0
 rw [hQl] at hMsz
 obtain ⟨a,ha⟩: ∃a:Nat→Rat,a=fun i=>S*Q.getD i 0:=⟨_,rfl⟩
 have hva: ∀i,i≤n→smpR a 0 i/S=ofPw (cf p) n i:=fun i hi=>by
  rw [←ofPw_scaled hS0]
  congr 1
  refine smpR_congr fun q hq=>?_
  rw [ha,hQ]
  dsimp only
  rw [tab_getD 0 (by omega)]
 have iz: ∀i,i≤n→IZ 900000 (a i):=fun i hi=>by
  have h1:Q.getD i 0∈Q:=by
   have hlt:i<Q.length:=by omega
   rw [List.getD_eq_getElem?_getD,List.getElem?_eq_getElem hlt];exact List.getElem_mem hlt
  rw [ha,hSM]
  exact (IZ.scaled hMsz (hQr _ h1) (hint _ h1)).mono (by omega)
 have hcz: ∀o i q,0<o→q≤n→RSz J (smI a o i q):=fun o i q h1 h3=>((smI_iz iz h1 h3).rsz (by omega)).mono (by omega)
 have W1':CtrG Tryz.prog Amb 100 [.one (rats k Q)] [] [(26,blkL (nmD J) (tab (n+1) a))] (.tup [.one (.gl 26 (n+1) 3),nm ((n+1)*k+2) S]):=by rw [ha];exact W1
 unfold ratT at B0 Bi
 rw [←hQ] at B0
 clear W1 ha hint hMS hS hSM hM0 hMsz hr iz hQr hQ hk
 obtain ⟨js,hjs⟩: ∃js,js=(n+1)*k+2:=⟨_,rfl⟩
 rw [←hjs] at W1'
 have B1:=b13 (g:=105) (n:=n) (J:=5000000) (h:=ofPw (cf p) n) (c0:=rats J (tab (n+1) fun q=>smpR a 0 q)) (c1:= .q S js 0) (c2:= .q S js 1) (c3:= .q S js 2) rfl rfl rfl rfl rfl rfl rfl rfl (k1:=6) (k2:=7) (by omega) (fun i hi=>by
  rw [←hva i hi]
  have h:=s_ofPw2 (ja:=J) (js:=js) (i:=i) (l:=tab (n+1) fun q=>smpR a 0 q) (s:=S) (tab_at (by omega)) (by omega) (by omega) hS0
  exact CtrM.weak h (Ents.of_eq rfl) (Ent.agg (.cons (.q rfl (by omega)) (.cons (.q rfl (by omega)) (.cons (.q rfl (by omega)) .nil))))) (by decide)
 obtain ⟨R0,hR0⟩: ∃R0,R0=tab (n+1) (ofPw (cf p) n):=⟨_,rfl⟩
 obtain ⟨A,hA1⟩: ∃A,A=tab (n+1) a:=⟨_,rfl⟩
 obtain ⟨C,hC1⟩: ∃C,C=tab (n+1) fun q=>smpR a 0 q:=⟨_,rfl⟩
 obtain ⟨G,hG1⟩: ∃G,G=tab (n+1) (binQ n):=⟨_,rfl⟩
 unfold ratT at B1
 rw [←hR0] at B1⊢
 rw [←hA1] at W1'
 rw [←hC1] at B1
 rw [←hG1] at Bi B0
 have hAl:A.length=n+1:=by rw [hA1];simp
 have hbl:0<(blkL (nmD J) A).length:=blkL_ne (n:=3) inferInstance (by decide) (by omega)
 clear hR0 hG1 hva hS0
 have e1:=binSub (k:= .i64) (show (IntKind.i64).wrap ((p.length:Int)-1)=(n:Int) by rw [show ((p.length:Int)-1)=(n:Int) by omega];exact IntWalk.i64_in _ (by omega))
 refine ctr_body Tryz.func25 rfl rfl rfl rfl rfl rfl ?_
 intro W0 base D μ0 hA hD
 repeat (first | refine aw_seq ?_ | refine aw_block ?_ | refine aw_condT rfl ?_ | refine aw_condF rfl ?_ | refine aw_pa ?_ | refine aw_da ?_ | refine aw_skip ?_ | refine aw_exit ?_)
 refine aw_loop (fun c σ=> ∃(o:Nat) (cur:List Rat),c=o∧o≤n∧cur=tab (n+1) (smI a o o)∧Wk ⟨W0,base,D,52,[],μ0⟩ σ [(4,errV (n:Nat)),(6,.one (.ptr 6 0)),(7,.one (.ptr 7 0)),(8,errV (o:Nat))] [(6,[.gl 26 (n+1) 3]),(7,nmC js S),(26,blkL (nmD J) cur)]) (n:=n) ⟨n,A,rfl,by omega,hA1.trans smI_start.symm,?_⟩ ?_
 ·exact wk_a
 intro c σ hI
 obtain ⟨o,cur,hc,ho0,hcur,hw⟩:=hI
 refine aw_wk hw ?_
 clear hw
 by_cases ho:0<o
 ·obtain ⟨o,rfl⟩: ∃w,o=w+1:=⟨o-1,by omega⟩
  have bo:=binGt (k:= .i64) (decide_eq_true (show ((o+1:Nat):Int)>0 by omega))
  have hon:=binSub (k:= .i64) (show (IntKind.i64).wrap (((o+1:Nat):Int)-1)=((o:Nat):Int) by rw [show (((o+1:Nat):Int)-1)=(o:Int) by omega];exact IntWalk.i64_in _ (by omega))
  repeat (first | refine aw_seq ?_ | refine aw_block ?_ | refine aw_condT rfl ?_ | refine aw_condF rfl ?_ | refine aw_pa ?_ | refine aw_da ?_ | refine aw_skip ?_ | refine aw_exit ?_)
  refine aw_loop (fun c σ=> ∃(q:Nat) (cur:List Rat),c=n-q∧o≤q∧q≤n∧cur=tab (n+1) (smI a (o+1) (q+1))∧Wk ⟨W0,base,D,52,[],μ0⟩ σ [(4,errV (n:Nat)),(6,.one (.ptr 6 0)),(7,.one (.ptr 7 0)),(8,errV ((o+1:Nat):Int)),(9,errV ((q+1:Nat):Int))] [(6,[.gl 26 (n+1) 3]),(7,nmC js S),(26,blkL (nmD J) cur)]) (n:=n-o) ⟨o,cur,rfl,Nat.le_refl _,by omega,hcur,?_⟩ ?_
  ·exact wk_a
  clear hcur cur
  intro c2 σ hI
  obtain ⟨q,cur,hc2,hoi,hin,hcur,hw⟩:=hI
  refine aw_wk hw ?_
  clear hw
  have hcl:cur.length=n+1:=by rw [hcur];simp
  by_cases hi:q<n
  ·have bi:=binLe (k:= .i64) (decide_eq_true (show ((q+1:Nat):Int)≤(n:Int) by omega))
   have hdn:=binSub (k:= .i64) (show (IntKind.i64).wrap (((q+1:Nat):Int)-1)=(q:Int) by rw [show (((q+1:Nat):Int)-1)=(q:Int) by omega];exact IntWalk.i64_in _ (by omega))
   have hup:=binAdd (k:= .i64) (show (IntKind.i64).wrap (((q+1:Nat):Int)+1)=((q+1+1:Nat):Int) from IntWalk.i64_in _ (by omega))
   have hx:cur[((q+1:Nat):Int).toNat]?=some (smI a (o+1) (q+1) (q+1)):=by rw [hcur];exact tab_at (by omega)
   have hy:cur[((q:Nat):Int).toNat]?=some (smI a (o+1) (q+1) q):=by rw [hcur];exact tab_at (by omega)
   have ht:=smI_set (f:=a) (n:=n) (o:=o+1) (i:=q+1) ho (by omega) (by omega) rfl
   rw [Nat.add_sub_cancel,←hcur] at ht
   have hz:RSz J (smI a (o+1) (q+1) (q+1)+smI a (o+1) (q+1) q):=by
    have e:smI a (o+1) (q+1) (q+1)+smI a (o+1) (q+1) q=smI a (o+1) (q+1+1) (q+1):=by
     have h2:=congrArg (fun l=>l[q+1]?) ht
     try dsimp only at h2
     rw [List.getElem?_set_self (by omega),tab_get (by omega)] at h2
     exact Option.some.inj h2
    rw [e];exact hcz _ _ _ (by omega) (by omega)
   have lt1:(0:Int)≤((q+1:Nat):Int)∧((q+1:Nat):Int)<((n+1:Nat):Int):=by omega
   have lt2:(0:Int)≤((q:Nat):Int)∧((q:Nat):Int)<((n+1:Nat):Int):=by omega
   have st1:((q+1:Nat):Int).toNat*3+3≤(blkL (nmD J) cur).length:=by rw [blkL_len (n:=3) inferInstance,hcl,Int.toNat_natCast];omega
   have st2:((q:Nat):Int).toNat*3+3≤(blkL (nmD J) cur).length:=by rw [blkL_len (n:=3) inferInstance,hcl,Int.toNat_natCast];omega
   have ld1:=rdL_row (f:=nmD J) (n:=3) inferInstance hx
   have ld2:=rdL_row (f:=nmD J) (n:=3) inferInstance hy
   have D4:=c_add (j:=J) (k:=J) (x:=smI a (o+1) (q+1) (q+1)) (y:=smI a (o+1) (q+1) q) (by omega) (by omega)
   generalize smI a (o+1) (q+1) (q+1)=x at*
   generalize smI a (o+1) (q+1) q=y at*
   repeat (first | refine aw_seq ?_ | refine aw_block ?_ | refine aw_condT rfl ?_ | refine aw_condF rfl ?_ | refine aw_pa ?_ | refine aw_da ?_ | refine aw_skip ?_ | refine aw_exit ?_)
   refine ⟨c2-1,by omega,q+1,cur.set (q+1) (x+y),by omega,by omega,by omega,ht,?_⟩
   exact wk_a
  ·have bi:=binLe (k:= .i64) (decide_eq_false (show ¬((q+1:Nat):Int)≤(n:Int) by omega))
   obtain rfl:q=n:=by omega
   rw [smI_next ho,Nat.add_sub_cancel] at hcur
   repeat (first | refine aw_seq ?_ | refine aw_block ?_ | refine aw_condT rfl ?_ | refine aw_condF rfl ?_ | refine aw_pa ?_ | refine aw_da ?_ | refine aw_skip ?_ | refine aw_exit ?_)
   refine ⟨c-1,by omega,o,cur,by omega,by omega,hcur,?_⟩
   exact wk_a
 ·have bo:=binGt (k:= .i64) (decide_eq_false (show ¬(o:Int)>0 by omega))
  obtain rfl:o=0:=by omega
  rw [smI_end] at hcur
  have he:cur=C:=hcur.trans hC1.symm
  have hCl:C.length=n+1:=by rw [hC1];simp
  subst he
  clear hcur hC1
  repeat (first | refine aw_seq ?_ | refine aw_block ?_ | refine aw_condT rfl ?_ | refine aw_condF rfl ?_ | refine aw_pa ?_ | refine aw_da ?_ | refine aw_skip ?_ | refine aw_exit ?_)
  refine aw_freeze 26 hD (ss:= [(4,errV (n:Nat)),(6,.one (.ptr 6 0)),(7,.one (.ptr 7 0))]) (bs:= [(6,[rats J cur]),(7,nmC js S)]) ?_ ?_
  ·refine fk_mk2 ?_ ?_ rfl
   ·repeat (first | exact nil_all | (refine List.forall_mem_cons.2 ⟨?_,?_⟩;focus (first | exact fz_blk inferInstance | refine FzA.ent ?_;first | exact Ent.of_eq rfl | (refine Ent.one' rfl ?_;(first | exact EntC.ratsLe (by omega) | exact EntC.ratsNil | exact EntC.glNil | (refine EntC.int ?_;omega) | (refine EntC.glLen ?_;first | omega | simp) | exact EntC.of_eq rfl | (refine EntC.q rfl ?_;omega) | exact Z0 _ | exact Z2 _ | exact EntC.z0 (k:=0) | exact EntC.z1 (k:=0) | exact EntC.z2 (k:=0) | exact EntC.z0 | exact EntC.z1 | exact EntC.z2)) | (refine Ent.agg' rfl ?_;(repeat (first | exact EntL.nil' rfl | (refine EntL.cons' rfl ?_ ?_;focus (first | exact EntC.ratsLe (by omega) | exact EntC.ratsNil | exact EntC.glNil | (refine EntC.int ?_;omega) | (refine EntC.glLen ?_;first | omega | simp) | exact EntC.of_eq rfl | (refine EntC.q rfl ?_;omega) | exact Z0 _ | exact Z2 _ | exact EntC.z0 (k:=0) | exact EntC.z1 (k:=0) | exact EntC.z2 (k:=0) | exact EntC.z0 | exact EntC.z1 | exact EntC.z2))));done))))
   ·repeat (first | exact nil_all | (refine List.forall_mem_cons.2 ⟨?_,?_⟩;focus (first | exact BlkFz.gl inferInstance | (refine BlkFz.of ?_;first | exact blk_keep inferInstance | (refine blk_ok rfl ?_ rfl;focus ((repeat (first | exact EntL.nil' rfl | (refine EntL.cons' rfl ?_ ?_;focus (first | exact EntC.ratsLe (by omega) | exact EntC.ratsNil | exact EntC.glNil | (refine EntC.int ?_;omega) | (refine EntC.glLen ?_;first | omega | simp) | exact EntC.of_eq rfl | (refine EntC.q rfl ?_;omega) | exact Z0 _ | exact Z2 _ | exact EntC.z0 (k:=0) | exact EntC.z1 (k:=0) | exact EntC.z2 (k:=0) | exact EntC.z0 | exact EntC.z1 | exact EntC.z2))));done))))))
  repeat (first | refine aw_seq ?_ | refine aw_block ?_ | refine aw_condT rfl ?_ | refine aw_condF rfl ?_ | refine aw_pa ?_ | refine aw_da ?_ | refine aw_skip ?_ | refine aw_exit ?_)
  refine aw_ret (And.intro (Or.inr rfl) ?_)
  exact f_two
theorem s_fromPowersF {j:Nat} {p:List Rat} (h:p.length=0∨41<p.length) (h2:p.length≤1000000) (K:Nat):
  Ctr Tryz.prog Amb 25 [.one (rats j p)] (.tup [.one (rats K []),errV 2]):=by
 have P1:=s_permittedF (j:=j) h h2
 refine ctr_body Tryz.func25 rfl rfl rfl rfl rfl rfl ?_
 intro W0 base D μ0 hA hD
 repeat (first | refine aw_seq ?_ | refine aw_block ?_ | refine aw_condT rfl ?_ | refine aw_condF rfl ?_ | refine aw_pa ?_ | refine aw_da ?_ | refine aw_skip ?_ | refine aw_exit ?_)
 refine aw_ret (And.intro (Or.inr rfl) ?_)
 exact f_two (hE:=(Ent.tup rfl (EntT.cons (Ent.one' rfl EntC.ratsNil) rfl rfl (EntT.cons (Ent.of_eq rfl) rfl rfl EntT.nil))))
end Go.Proofs.YtnkobfcnflphkaaGreatDoor
