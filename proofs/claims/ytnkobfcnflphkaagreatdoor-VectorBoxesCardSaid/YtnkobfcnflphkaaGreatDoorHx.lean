/-
  Several texts in one: Zd, Ze, Zf.
-/
import Derived.Test.YtnkobfcnflphkaaGreatDoorHy
import Derived.Test.YtnkobfcnflphkaaGreatDoorHz
namespace Go.Proofs.YtnkobfcnflphkaaGreatDoor
open Go.RowKit
set_option linter.unusedVariables false
set_option linter.unusedSimpArgs false
set_option maxRecDepth 20000
set_option maxHeartbeats 4000000
theorem b00 {g:FuncId} [hG:Fun Tryz.prog g] {n J:Nat} {h:Nat→Rat} (hn:n≤1000)
  (H: ∀i,i≤n→Ctr Tryz.prog Amb g [errV (i:Nat)] (nm J (h i))):
  CtrG Tryz.prog Amb 101 [errV (n:Nat),.one (.fn g [])] [] [(9,blkL (nmD J) (tab (n+1) h))] (.one (.gl 9 (tab (n+1) h).length 3)):=by
 have hne':(!(blkL (nmD J) (tab (n+1) h)).isEmpty)=true:=by
  have:=blkL_ne (f:=nmD J) inferInstance (by decide) (show 0<(tab (n+1) h).length by simp)
  cases hb:blkL (nmD J) (tab (n+1) h) with
  | nil=>rw [hb] at this;cases this
  | cons a b=>rfl
 have h1:=binAdd (k:= .i64) (show (IntKind.i64).wrap ((n:Int)+1)=((n+1:Nat):Int) from IntWalk.i64_in _ (by omega))
 obtain ⟨R,hR⟩: ∃R,R=tab (n+1) h:=⟨_,rfl⟩
 have hRl:R.length=n+1:=by rw [hR];simp
 rw [←hR] at hne'⊢
 refine ctrG_body Tryz.func101 rfl rfl rfl rfl (by
  simp only [List.all_cons,List.all_nil,Bool.and_true,Bool.and_eq_true]
  exact ⟨by simp [inA,inC],blkL_in _ _,hne'⟩) (by simp [inA,inC]) (by simp) (by simp) ?_
 intro W0 base D μ0 hA hD
 repeat (first | refine aw_seq ?_ | refine aw_block ?_ | refine aw_condT rfl ?_ | refine aw_condF rfl ?_ | refine aw_pa ?_ | refine aw_da ?_ | refine aw_skip ?_ | refine aw_exit ?_)
 refine aw_loop (fun m σ=> ∃(i:Nat) (cur:List Rat),m=n+1-i∧i≤n+1∧cur=tab (n+1) (fun q=>if q<i then h q else 0)∧Wk ⟨W0,base,D,23,[],μ0⟩ σ [(1,.one (.fn g [])),(5,.one (.gl 9 (n+1) 3)),(11,errV ((n+1:Nat):Int)),(12,errV (i:Nat))] [(9,blkL (nmD J) cur)]) (n:=n+1) ⟨0,List.replicate (n+1) 0,by omega,by omega,tab_rep.trans (tab_congr fun q _=>(if_neg (Nat.not_lt_zero q)).symm),?_⟩ ?_
 ·exact wk_a
 intro m σ hI
 obtain ⟨i,cur,hm,hi0,hcur,hw⟩:=hI
 refine aw_wk hw ?_
 clear hw
 have hcl:cur.length=n+1:=by rw [hcur];simp
 by_cases hi:i<n+1
 ·have bi:=binLt (k:= .i64) (decide_eq_true (show (i:Int)<((n+1:Nat):Int) by omega))
  have hin:=binAdd (k:= .i64) (show (IntKind.i64).wrap ((i:Int)+1)=((i+1:Nat):Int) from IntWalk.i64_in _ (by omega))
  have hlt:(0:Int)≤((i:Nat):Int)∧((i:Nat):Int)<((n+1:Nat):Int):=by omega
  have hst:((i:Nat):Int).toNat*3+3≤(blkL (nmD J) cur).length:=by rw [blkL_len (n:=3) inferInstance,hcl,Int.toNat_natCast];omega
  have H1:=H i (by omega)
  repeat (first | refine aw_seq ?_ | refine aw_block ?_ | refine aw_condT rfl ?_ | refine aw_condF rfl ?_ | refine aw_pa ?_ | refine aw_da ?_ | refine aw_skip ?_ | refine aw_exit ?_)
  refine ⟨m-1,by omega,i+1,cur.set i (h i),by omega,by omega,?_,?_⟩
  ·rw [hcur]
   refine tab_set (by omega) (by show (if i<i+1 then h i else 0)=_;rw [if_pos (by omega)]) fun q hq hqi=>?_
   by_cases hqq:q<i
   ·rw [if_pos hqq,if_pos (by omega)]
   ·rw [if_neg hqq,if_neg (by omega)]
  ·exact wk_a
 ·have bi:=binLt (k:= .i64) (decide_eq_false (show ¬(i:Int)<((n+1:Nat):Int) by omega))
  have he:cur=R:=by rw [hcur,hR];exact tab_congr fun q hq=>if_pos (by omega)
  subst he
  repeat (first | refine aw_seq ?_ | refine aw_block ?_ | refine aw_condT rfl ?_ | refine aw_condF rfl ?_ | refine aw_pa ?_ | refine aw_da ?_ | refine aw_skip ?_ | refine aw_exit ?_)
  refine aw_ret (And.intro (Or.inr rfl) (fin_g (ResIs.tmp rfl) (Ent.one' rfl (EntC.glLen (by omega))) ?_ ?_))
  ·repeat (first | exact nil_all | refine List.forall_mem_cons.2 ⟨⟨rfl,rfl,rfl⟩,?_⟩)
  ·exact List.forall_mem_cons.2 ⟨.inl (blk_keep inferInstance),nil_all⟩
theorem b0 {g:FuncId} [hG:Fun Tryz.prog g] {n J:Nat} {h:Nat→Rat} (hn:n≤1000)
  (H: ∀i,i≤n→Ctr Tryz.prog Amb g [errV (i:Nat)] (nm J (h i))):
  Ctr Tryz.prog Amb 101 [errV (n:Nat),.one (.fn g [])] (.one (ratT J (n+1) h)):=
 (b00 hn H).freeze (g:=nmD J) inferInstance rfl (by simp) (.inr ⟨rfl,List.forall_mem_cons.2 ⟨rfl,List.forall_mem_cons.2 ⟨rfl,nil_all⟩⟩⟩) rfl
theorem b110 {g:FuncId} [hG:Fun Tryz.prog g] {n J:Nat} {h:Nat→Rat} {c0 c1:C} (p0:pfC c0=true) (q0:nlB c0=true) (p1:pfC c1=true) (q1:nlB c1=true) (hn:n≤1000)
  (H: ∀i,i≤n→CtrM Tryz.prog Amb g [errV (i:Nat),.one (.ptr 901 0),.one (.ptr 902 0)] [(901,[c0],[c0]),(902,[c1],[c1])] (nm J (h i))):
  CtrG Tryz.prog Amb 101 [errV (n:Nat),.one (.fn g [(901,0),(902,0)])] [(901,[c0],[c0]),(902,[c1],[c1])] [(9,blkL (nmD J) (tab (n+1) h))] (.one (.gl 9 (tab (n+1) h).length 3)):=by
 have hne':(!(blkL (nmD J) (tab (n+1) h)).isEmpty)=true:=by
  have:=blkL_ne (f:=nmD J) inferInstance (by decide) (show 0<(tab (n+1) h).length by simp)
  cases hb:blkL (nmD J) (tab (n+1) h) with
  | nil=>rw [hb] at this;cases this
  | cons a b=>rfl
 have h1:=binAdd (k:= .i64) (show (IntKind.i64).wrap ((n:Int)+1)=((n+1:Nat):Int) from IntWalk.i64_in _ (by omega))
 obtain ⟨R,hR⟩: ∃R,R=tab (n+1) h:=⟨_,rfl⟩
 have hRl:R.length=n+1:=by rw [hR];simp
 rw [←hR] at hne'⊢
 refine ctrG_body Tryz.func101 rfl rfl rfl rfl (by
  simp only [List.all_cons,List.all_nil,Bool.and_true,Bool.and_eq_true]
  exact ⟨⟨by simp [inA,inC],by simp [pfC_in p0,pfC_in p1]⟩,blkL_in _ _,hne'⟩) (by simp [inA,inC]) (by simp) (by simp) ?_
 intro W0 base D μ0 hA hD
 repeat (first | refine aw_seq ?_ | refine aw_block ?_ | refine aw_condT rfl ?_ | refine aw_condF rfl ?_ | refine aw_pa ?_ | refine aw_da ?_ | refine aw_skip ?_ | refine aw_exit ?_)
 refine aw_loop (fun m σ=> ∃(i:Nat) (cur:List Rat),m=n+1-i∧i≤n+1∧cur=tab (n+1) (fun q=>if q<i then h q else 0)∧Wk ⟨W0,base,D,23,[901,902],μ0⟩ σ [(1,.one (.fn g [(901,0),(902,0)])),(5,.one (.gl 9 (n+1) 3)),(11,errV ((n+1:Nat):Int)),(12,errV (i:Nat))] [(9,blkL (nmD J) cur),(901,[c0]),(902,[c1])]) (n:=n+1) ⟨0,List.replicate (n+1) 0,by omega,by omega,tab_rep.trans (tab_congr fun q _=>(if_neg (Nat.not_lt_zero q)).symm),?_⟩ ?_
 ·refine wk_mk ?_ ?_ rfl
  ·exact wk_s
  ·repeat (first | exact nil_all | (refine List.forall_mem_cons.2 ⟨?_,?_⟩;focus (first | exact blk_keep inferInstance | (refine blk_zeros inferInstance ?_;exact entl_a;done) | (exact blk_ok rfl (EntL.of_eq rfl) (by simp [q0,q1,pfC_in p0,pfC_in p1])) | (refine blk_ok rfl ?_ rfl;focus (exact entl_a;done)))))
 intro m σ hI
 obtain ⟨i,cur,hm,hi0,hcur,hw⟩:=hI
 refine aw_wk hw ?_
 clear hw
 have hcl:cur.length=n+1:=by rw [hcur];simp
 by_cases hi:i<n+1
 ·have bi:=binLt (k:= .i64) (decide_eq_true (show (i:Int)<((n+1:Nat):Int) by omega))
  have hin:=binAdd (k:= .i64) (show (IntKind.i64).wrap ((i:Int)+1)=((i+1:Nat):Int) from IntWalk.i64_in _ (by omega))
  have hlt:(0:Int)≤((i:Nat):Int)∧((i:Nat):Int)<((n+1:Nat):Int):=by omega
  have hst:((i:Nat):Int).toNat*3+3≤(blkL (nmD J) cur).length:=by rw [blkL_len (n:=3) inferInstance,hcl,Int.toNat_natCast];omega
  have H1:=H i (by omega)
  repeat (first | refine aw_seq ?_ | refine aw_block ?_ | refine aw_condT rfl ?_ | refine aw_condF rfl ?_ | refine aw_pa ?_ | refine aw_da ?_ | refine aw_skip ?_ | refine aw_exit ?_)
  refine ⟨m-1,by omega,i+1,cur.set i (h i),by omega,by omega,?_,?_⟩
  ·rw [hcur]
   refine tab_set (by omega) (by show (if i<i+1 then h i else 0)=_;rw [if_pos (by omega)]) fun q hq hqi=>?_
   by_cases hqq:q<i
   ·rw [if_pos hqq,if_pos (by omega)]
   ·rw [if_neg hqq,if_neg (by omega)]
  ·refine wk_mk ?_ ?_ rfl
   ·exact wk_s
   ·repeat (first | exact nil_all | (refine List.forall_mem_cons.2 ⟨?_,?_⟩;focus (first | exact blk_keep inferInstance | (refine blk_set inferInstance (i:=i) (show i<cur.length by omega) ?_;exact entl_a;done) | (exact blk_ok rfl (EntL.of_eq rfl) (by simp [q0,q1,pfC_in p0,pfC_in p1])) | (refine blk_ok rfl ?_ rfl;focus (exact entl_a;done)))))
 ·have bi:=binLt (k:= .i64) (decide_eq_false (show ¬(i:Int)<((n+1:Nat):Int) by omega))
  have he:cur=R:=by rw [hcur,hR];exact tab_congr fun q hq=>if_pos (by omega)
  subst he
  repeat (first | refine aw_seq ?_ | refine aw_block ?_ | refine aw_condT rfl ?_ | refine aw_condF rfl ?_ | refine aw_pa ?_ | refine aw_da ?_ | refine aw_skip ?_ | refine aw_exit ?_)
  refine aw_ret (And.intro (Or.inr rfl) (fin_g (ResIs.tmp rfl) (Ent.one' rfl (EntC.glLen (by omega))) ?_ ?_))
  ·repeat (first | exact nil_all | refine List.forall_mem_cons.2 ⟨⟨rfl,rfl,by simp [p0,p1,q0,q1]⟩,?_⟩)
  ·exact List.forall_mem_cons.2 ⟨.inl (blk_keep inferInstance),nil_all⟩
theorem b11 {g:FuncId} [hG:Fun Tryz.prog g] {n J:Nat} {h:Nat→Rat} {c0 c1:C} (p0:pfC c0=true) (q0:nlB c0=true) (p1:pfC c1=true) (q1:nlB c1=true) {k1 k2:Nat} (hn:n≤1000)
  (H: ∀i,i≤n→CtrM Tryz.prog Amb g [errV (i:Nat),.one (.ptr 901 0),.one (.ptr 902 0)] [(901,[c0],[c0]),(902,[c1],[c1])] (nm J (h i))) (hk:k1≠k2):
  CtrM Tryz.prog Amb 101 [errV (n:Nat),.one (.fn g [(k1,0),(k2,0)])] [(k1,[c0],[c0]),(k2,[c1],[c1])] (.one (ratT J (n+1) h)):=by
 have F:=(b110 p0 q0 p1 q1 hn H).freeze (g:=nmD J) inferInstance (by simp [p0,p1,q0,q1]) (by simp) (.inr ⟨rfl,List.forall_mem_cons.2 ⟨rfl,List.forall_mem_cons.2 ⟨rfl,nil_all⟩⟩⟩) (by simp [p0,p1,q0,q1])
 exact F.ren (fun k=>if k=901 then k1 else k2) (by
  intro p hp q hq hpq
  simp only [List.mem_cons,List.not_mem_nil,or_false] at hp hq
  rcases hp with rfl | rfl<;>rcases hq with rfl | rfl<;>first | rfl | (simp at hpq;omega)) (by simp only [List.all_cons,List.all_nil,Bool.and_true,Bool.and_self,p0,p1];exact rfl) rfl
theorem b130 {g:FuncId} [hG:Fun Tryz.prog g] {n J:Nat} {h:Nat→Rat} {c0 c1 c2 c3:C} (p0:pfC c0=true) (q0:nlB c0=true) (p1:pfC c1=true) (q1:nlB c1=true) (p2:pfC c2=true) (q2:nlB c2=true) (p3:pfC c3=true) (q3:nlB c3=true) (hn:n≤1000)
  (H: ∀i,i≤n→CtrM Tryz.prog Amb g [errV (i:Nat),.one (.ptr 901 0),.one (.ptr 902 0)] [(901,[c0],[c0]),(902,[c1,c2,c3],[c1,c2,c3])] (nm J (h i))):
  CtrG Tryz.prog Amb 101 [errV (n:Nat),.one (.fn g [(901,0),(902,0)])] [(901,[c0],[c0]),(902,[c1,c2,c3],[c1,c2,c3])] [(9,blkL (nmD J) (tab (n+1) h))] (.one (.gl 9 (tab (n+1) h).length 3)):=by
 have hne':(!(blkL (nmD J) (tab (n+1) h)).isEmpty)=true:=by
  have:=blkL_ne (f:=nmD J) inferInstance (by decide) (show 0<(tab (n+1) h).length by simp)
  cases hb:blkL (nmD J) (tab (n+1) h) with
  | nil=>rw [hb] at this;cases this
  | cons a b=>rfl
 have h1:=binAdd (k:= .i64) (show (IntKind.i64).wrap ((n:Int)+1)=((n+1:Nat):Int) from IntWalk.i64_in _ (by omega))
 obtain ⟨R,hR⟩: ∃R,R=tab (n+1) h:=⟨_,rfl⟩
 have hRl:R.length=n+1:=by rw [hR];simp
 rw [←hR] at hne'⊢
 refine ctrG_body Tryz.func101 rfl rfl rfl rfl (by
  simp only [List.all_cons,List.all_nil,Bool.and_true,Bool.and_eq_true]
  exact ⟨⟨by simp [inA,inC],by simp [pfC_in p0,pfC_in p1,pfC_in p2,pfC_in p3]⟩,blkL_in _ _,hne'⟩) (by simp [inA,inC]) (by simp) (by simp) ?_
 intro W0 base D μ0 hA hD
 repeat (first | refine aw_seq ?_ | refine aw_block ?_ | refine aw_condT rfl ?_ | refine aw_condF rfl ?_ | refine aw_pa ?_ | refine aw_da ?_ | refine aw_skip ?_ | refine aw_exit ?_)
 refine aw_loop (fun m σ=> ∃(i:Nat) (cur:List Rat),m=n+1-i∧i≤n+1∧cur=tab (n+1) (fun q=>if q<i then h q else 0)∧Wk ⟨W0,base,D,23,[901,902],μ0⟩ σ [(1,.one (.fn g [(901,0),(902,0)])),(5,.one (.gl 9 (n+1) 3)),(11,errV ((n+1:Nat):Int)),(12,errV (i:Nat))] [(9,blkL (nmD J) cur),(901,[c0]),(902,[c1,c2,c3])]) (n:=n+1) ⟨0,List.replicate (n+1) 0,by omega,by omega,tab_rep.trans (tab_congr fun q _=>(if_neg (Nat.not_lt_zero q)).symm),?_⟩ ?_
 ·refine wk_mk ?_ ?_ rfl
  ·exact wk_s
  ·repeat (first | exact nil_all | (refine List.forall_mem_cons.2 ⟨?_,?_⟩;focus (first | exact blk_keep inferInstance | (refine blk_zeros inferInstance ?_;exact entl_a;done) | (exact blk_ok rfl (EntL.of_eq rfl) (by simp [q0,q1,q2,q3,pfC_in p0,pfC_in p1,pfC_in p2,pfC_in p3])) | (refine blk_ok rfl ?_ rfl;focus (exact entl_a;done)))))
 intro m σ hI
 obtain ⟨i,cur,hm,hi0,hcur,hw⟩:=hI
 refine aw_wk hw ?_
 clear hw
 have hcl:cur.length=n+1:=by rw [hcur];simp
 by_cases hi:i<n+1
 ·have bi:=binLt (k:= .i64) (decide_eq_true (show (i:Int)<((n+1:Nat):Int) by omega))
  have hin:=binAdd (k:= .i64) (show (IntKind.i64).wrap ((i:Int)+1)=((i+1:Nat):Int) from IntWalk.i64_in _ (by omega))
  have hlt:(0:Int)≤((i:Nat):Int)∧((i:Nat):Int)<((n+1:Nat):Int):=by omega
  have hst:((i:Nat):Int).toNat*3+3≤(blkL (nmD J) cur).length:=by rw [blkL_len (n:=3) inferInstance,hcl,Int.toNat_natCast];omega
  have H1:=H i (by omega)
  repeat (first | refine aw_seq ?_ | refine aw_block ?_ | refine aw_condT rfl ?_ | refine aw_condF rfl ?_ | refine aw_pa ?_ | refine aw_da ?_ | refine aw_skip ?_ | refine aw_exit ?_)
  refine ⟨m-1,by omega,i+1,cur.set i (h i),by omega,by omega,?_,?_⟩
  ·rw [hcur]
   refine tab_set (by omega) (by show (if i<i+1 then h i else 0)=_;rw [if_pos (by omega)]) fun q hq hqi=>?_
   by_cases hqq:q<i
   ·rw [if_pos hqq,if_pos (by omega)]
   ·rw [if_neg hqq,if_neg (by omega)]
  ·refine wk_mk ?_ ?_ rfl
   ·exact wk_s
   ·repeat (first | exact nil_all | (refine List.forall_mem_cons.2 ⟨?_,?_⟩;focus (first | exact blk_keep inferInstance | (refine blk_set inferInstance (i:=i) (show i<cur.length by omega) ?_;exact entl_a;done) | (exact blk_ok rfl (EntL.of_eq rfl) (by simp [q0,q1,q2,q3,pfC_in p0,pfC_in p1,pfC_in p2,pfC_in p3])) | (refine blk_ok rfl ?_ rfl;focus (exact entl_a;done)))))
 ·have bi:=binLt (k:= .i64) (decide_eq_false (show ¬(i:Int)<((n+1:Nat):Int) by omega))
  have he:cur=R:=by rw [hcur,hR];exact tab_congr fun q hq=>if_pos (by omega)
  subst he
  repeat (first | refine aw_seq ?_ | refine aw_block ?_ | refine aw_condT rfl ?_ | refine aw_condF rfl ?_ | refine aw_pa ?_ | refine aw_da ?_ | refine aw_skip ?_ | refine aw_exit ?_)
  refine aw_ret (And.intro (Or.inr rfl) (fin_g (ResIs.tmp rfl) (Ent.one' rfl (EntC.glLen (by omega))) ?_ ?_))
  ·repeat (first | exact nil_all | refine List.forall_mem_cons.2 ⟨⟨rfl,rfl,by simp [p0,p1,p2,p3,q0,q1,q2,q3]⟩,?_⟩)
  ·exact List.forall_mem_cons.2 ⟨.inl (blk_keep inferInstance),nil_all⟩
theorem b13 {g:FuncId} [hG:Fun Tryz.prog g] {n J:Nat} {h:Nat→Rat} {c0 c1 c2 c3:C} (p0:pfC c0=true) (q0:nlB c0=true) (p1:pfC c1=true) (q1:nlB c1=true) (p2:pfC c2=true) (q2:nlB c2=true) (p3:pfC c3=true) (q3:nlB c3=true) {k1 k2:Nat} (hn:n≤1000)
  (H: ∀i,i≤n→CtrM Tryz.prog Amb g [errV (i:Nat),.one (.ptr 901 0),.one (.ptr 902 0)] [(901,[c0],[c0]),(902,[c1,c2,c3],[c1,c2,c3])] (nm J (h i))) (hk:k1≠k2):
  CtrM Tryz.prog Amb 101 [errV (n:Nat),.one (.fn g [(k1,0),(k2,0)])] [(k1,[c0],[c0]),(k2,[c1,c2,c3],[c1,c2,c3])] (.one (ratT J (n+1) h)):=by
 have F:=(b130 p0 q0 p1 q1 p2 q2 p3 q3 hn H).freeze (g:=nmD J) inferInstance (by simp [p0,p1,p2,p3,q0,q1,q2,q3]) (by simp) (.inr ⟨rfl,List.forall_mem_cons.2 ⟨rfl,List.forall_mem_cons.2 ⟨rfl,nil_all⟩⟩⟩) (by simp [p0,p1,p2,p3,q0,q1,q2,q3])
 exact F.ren (fun k=>if k=901 then k1 else k2) (by
  intro p hp q hq hpq
  simp only [List.mem_cons,List.not_mem_nil,or_false] at hp hq
  rcases hp with rfl | rfl<;>rcases hq with rfl | rfl<;>first | rfl | (simp at hpq;omega)) (by simp only [List.all_cons,List.all_nil,Bool.and_true,Bool.and_self,p0,p1,p2,p3];exact rfl) rfl
end Go.Proofs.YtnkobfcnflphkaaGreatDoor
namespace Go.Proofs.YtnkobfcnflphkaaGreatDoor
open Go.RowKit
set_option linter.unusedVariables false
set_option linter.unusedSimpArgs false
set_option maxRecDepth 20000
set_option maxHeartbeats 4000000
end Go.Proofs.YtnkobfcnflphkaaGreatDoor
namespace Go.Proofs.YtnkobfcnflphkaaGreatDoor
open Go.RowKit
set_option linter.unusedVariables false
set_option linter.unusedSimpArgs false
set_option maxRecDepth 20000
set_option maxHeartbeats 4000000
end Go.Proofs.YtnkobfcnflphkaaGreatDoor
