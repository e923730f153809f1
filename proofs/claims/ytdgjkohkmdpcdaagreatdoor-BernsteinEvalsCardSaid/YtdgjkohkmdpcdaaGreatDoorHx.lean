/-
  Several texts in one: Zd, Ze, Zf.
-/
import Derived.Test.YtdgjkohkmdpcdaaGreatDoorHy
import Derived.Test.YtdgjkohkmdpcdaaGreatDoorHz
namespace Go.Proofs.YtdgjkohkmdpcdaaGreatDoor
open Go.RowKit
set_option linter.unusedVariables false
set_option linter.unusedSimpArgs false
set_option maxRecDepth 20000
set_option maxHeartbeats 4000000
theorem b00 {g:FuncId} [hG:Fun Tryz.prog g] {n J:Nat} {h:Nat→Rat} (hn:n≤1000)
  (H: ∀i,i≤n→Ctr Tryz.prog Amb g [errV (i:Nat)] (nm J (h i))):
  CtrG Tryz.prog Amb 83 [errV (n:Nat),.one (.fn g [])] [] [(9,blkL (nmD J) (tab (n+1) h))] (.one (.gl 9 (tab (n+1) h).length 3)):=by
 have hne':(!(blkL (nmD J) (tab (n+1) h)).isEmpty)=true:=by
  have:=blkL_ne (f:=nmD J) inferInstance (by decide) (show 0<(tab (n+1) h).length by simp)
  cases hb:blkL (nmD J) (tab (n+1) h) with
  | nil=>rw [hb] at this;cases this
  | cons a b=>rfl
 have h1:=binAdd (k:= .i64) (show (IntKind.i64).wrap ((n:Int)+1)=((n+1:Nat):Int) from IntWalk.i64_in _ (by omega))
 obtain ⟨R,hR⟩: ∃R,R=tab (n+1) h:=⟨_,rfl⟩
 have hRl:R.length=n+1:=by rw [hR];simp
 rw [←hR] at hne'⊢
 refine ctrG_body Tryz.func83 rfl rfl rfl rfl (by
  simp only [List.all_cons,List.all_nil,Bool.and_true,Bool.and_eq_true]
  exact ⟨by simp [inA,inC],blkL_in _ _,hne'⟩) (by simp [inA,inC]) (by simp) (by simp) ?_
 intro W0 base D μ0 hA hD
 repeat (first
  | refine aw_seq ?_ | refine aw_block ?_ | refine aw_condT rfl ?_ | refine aw_condF rfl ?_
  | ((first | refine aw_plainK (by kernel_rfl) ?_ | refine aw_drawK (by kernel_rfl) (by kernel_rfl) (by kernel_rfl) ?_)
     repeat (first
      | refine v_move (hl:=?_)
      | refine v_assign (hl:=?_)
      | refine v_store (hl:=?_)
      | refine v_bin (hl:=?_)
      | refine v_indexAddr (hl:=?_)
      | refine v_max (hl:=?_)
      | refine v_min (hl:=?_)
      | refine v_len (hl:=?_)
      | refine v_lenS (hl:=?_)
      | refine v_make (cap:=n+1) (Nat.succ_pos n) (by omega) (by omega) (hl:=?_))
     apply RunK.nil;try refine And.intro (by kernel_rfl) ?_)
  | refine aw_skip ?_ | refine aw_exit ?_)
 refine aw_loop (fun m σ=> ∃(i:Nat) (cur:List Rat),m=n+1-i∧i≤n+1∧cur=tab (n+1) (fun q=>if q<i then h q else 0)∧Wk ⟨W0,base,D,23,[],μ0⟩ σ [(1,.one (.fn g [])),(5,.one (.gl 9 (n+1) 3)),(11,errV ((n+1:Nat):Int)),(12,errV (i:Nat))] [(9,blkL (nmD J) cur)]) (n:=n+1) ⟨0,List.replicate (n+1) 0,by omega,by omega,tab_rep.trans (tab_congr fun q _=>(if_neg (Nat.not_lt_zero q)).symm),?_⟩ ?_
 ·refine wk_mk ?_ ?_ rfl
  ·repeat (first | exact nil_all | (refine List.forall_mem_cons.2 ⟨?_,?_⟩;focus (first | exact Ent.of_eq rfl | (refine Ent.one' rfl ?_;(first | exact EntC.ratsLe (by omega) | exact EntC.ratsNil | exact EntC.glNil | (refine EntC.int ?_;omega) | (refine EntC.glLen ?_;first | omega | simp) | exact EntC.of_eq rfl | (refine EntC.q rfl ?_;omega) | exact Z0 _ | exact Z2 _ | exact EntC.z0 (k:=0) | exact EntC.z1 (k:=0) | exact EntC.z2 (k:=0) | exact EntC.z0 | exact EntC.z1 | exact EntC.z2)) | (refine Ent.agg' rfl ?_;(repeat (first | exact EntL.nil' rfl | (refine EntL.cons' rfl ?_ ?_;focus (first | exact EntC.ratsLe (by omega) | exact EntC.ratsNil | exact EntC.glNil | (refine EntC.int ?_;omega) | (refine EntC.glLen ?_;first | omega | simp) | exact EntC.of_eq rfl | (refine EntC.q rfl ?_;omega) | exact Z0 _ | exact Z2 _ | exact EntC.z0 (k:=0) | exact EntC.z1 (k:=0) | exact EntC.z2 (k:=0) | exact EntC.z0 | exact EntC.z1 | exact EntC.z2))));done))))
  ·repeat (first | exact nil_all | (refine List.forall_mem_cons.2 ⟨?_,?_⟩;focus (first | exact blk_keep inferInstance | (refine blk_zeros inferInstance ?_;(repeat (first | exact EntL.nil' rfl | (refine EntL.cons' rfl ?_ ?_;focus (first | exact EntC.ratsLe (by omega) | exact EntC.ratsNil | exact EntC.glNil | (refine EntC.int ?_;omega) | (refine EntC.glLen ?_;first | omega | simp) | exact EntC.of_eq rfl | (refine EntC.q rfl ?_;omega) | exact Z0 _ | exact Z2 _ | exact EntC.z0 (k:=0) | exact EntC.z1 (k:=0) | exact EntC.z2 (k:=0) | exact EntC.z0 | exact EntC.z1 | exact EntC.z2))));done) | (refine blk_ok rfl ?_ rfl;focus ((repeat (first | exact EntL.nil' rfl | (refine EntL.cons' rfl ?_ ?_;focus (first | exact EntC.ratsLe (by omega) | exact EntC.ratsNil | exact EntC.glNil | (refine EntC.int ?_;omega) | (refine EntC.glLen ?_;first | omega | simp) | exact EntC.of_eq rfl | (refine EntC.q rfl ?_;omega) | exact Z0 _ | exact Z2 _ | exact EntC.z0 (k:=0) | exact EntC.z1 (k:=0) | exact EntC.z2 (k:=0) | exact EntC.z0 | exact EntC.z1 | exact EntC.z2))));done)))))
 intro m σ hI
 obtain ⟨i,cur,hm,hi0,hcur,hw⟩:=hI
 refine aw_wk hw ?_
 clear hw
 have hcl:cur.length=n+1:=by rw [hcur];simp
 by_cases hi:i<n+1
 ·have bi:=binLt (k:= .i64) (decide_eq_true (show (i:Int)<((n+1:Nat):Int) by omega))
  have hin:=binAdd (k:= .i64) (show (IntKind.i64).wrap ((i:Int)+1)=((i+1:Nat):Int) from IntWalk.i64_in _ (by omega))
  have hlt:(0:Int)≤((i:Nat):Int)∧((i:Nat):Int)<((n+1:Nat):Int):=by omega
  have hst:((i:Nat):Int).toNat*3+3≤(blkL (nmD J) cur).length:=by rw [blkL_len (n:=3) inferInstance,hcl,Int.toNat_natCast];omega
  have H1:=H i (by omega)
  repeat (first
   | refine aw_seq ?_ | refine aw_block ?_ | refine aw_condT rfl ?_ | refine aw_condF rfl ?_
   | ((first | refine aw_plainK (by kernel_rfl) ?_ | refine aw_drawK (by kernel_rfl) (by kernel_rfl) (by kernel_rfl) ?_)
      repeat (first
       | refine v_storeG (k:=9) hst (hl:=?_)
       | refine v_move (hl:=?_)
       | refine v_assign (hl:=?_)
       | refine v_store (hl:=?_)
       | refine v_bin (hl:=?_)
       | refine v_indexAddr (hl:=?_)
       | refine v_max (hl:=?_)
       | refine v_min (hl:=?_)
       | refine v_len (hl:=?_)
       | refine v_lenS (hl:=?_)
       | refine v_callE hA (hc:=H1) (hl:=?_)
       | refine v_idxG hlt (hl:=?_))
      apply RunK.nil;try refine And.intro (by kernel_rfl) ?_)
   | refine aw_skip ?_ | refine aw_exit ?_)
  refine ⟨m-1,by omega,i+1,cur.set i (h i),by omega,by omega,?_,?_⟩
  ·rw [hcur]
   refine tab_set (by omega) (by show (if i<i+1 then h i else 0)=_;rw [if_pos (by omega)]) fun q hq hqi=>?_
   by_cases hqq:q<i
   ·rw [if_pos hqq,if_pos (by omega)]
   ·rw [if_neg hqq,if_neg (by omega)]
  ·refine wk_mk ?_ ?_ rfl
   ·repeat (first | exact nil_all | (refine List.forall_mem_cons.2 ⟨?_,?_⟩;focus (first | exact Ent.of_eq rfl | (refine Ent.one' rfl ?_;(first | exact EntC.ratsLe (by omega) | exact EntC.ratsNil | exact EntC.glNil | (refine EntC.int ?_;omega) | (refine EntC.glLen ?_;first | omega | simp) | exact EntC.of_eq rfl | (refine EntC.q rfl ?_;omega) | exact Z0 _ | exact Z2 _ | exact EntC.z0 (k:=0) | exact EntC.z1 (k:=0) | exact EntC.z2 (k:=0) | exact EntC.z0 | exact EntC.z1 | exact EntC.z2)) | (refine Ent.agg' rfl ?_;(repeat (first | exact EntL.nil' rfl | (refine EntL.cons' rfl ?_ ?_;focus (first | exact EntC.ratsLe (by omega) | exact EntC.ratsNil | exact EntC.glNil | (refine EntC.int ?_;omega) | (refine EntC.glLen ?_;first | omega | simp) | exact EntC.of_eq rfl | (refine EntC.q rfl ?_;omega) | exact Z0 _ | exact Z2 _ | exact EntC.z0 (k:=0) | exact EntC.z1 (k:=0) | exact EntC.z2 (k:=0) | exact EntC.z0 | exact EntC.z1 | exact EntC.z2))));done))))
   ·repeat (first | exact nil_all | (refine List.forall_mem_cons.2 ⟨?_,?_⟩;focus (first | exact blk_keep inferInstance | (refine blk_set inferInstance (i:=i) (show i<cur.length by omega) ?_;(repeat (first | exact EntL.nil' rfl | (refine EntL.cons' rfl ?_ ?_;focus (first | exact EntC.ratsLe (by omega) | exact EntC.ratsNil | exact EntC.glNil | (refine EntC.int ?_;omega) | (refine EntC.glLen ?_;first | omega | simp) | exact EntC.of_eq rfl | (refine EntC.q rfl ?_;omega) | exact Z0 _ | exact Z2 _ | exact EntC.z0 (k:=0) | exact EntC.z1 (k:=0) | exact EntC.z2 (k:=0) | exact EntC.z0 | exact EntC.z1 | exact EntC.z2))));done) | (refine blk_ok rfl ?_ rfl;focus ((repeat (first | exact EntL.nil' rfl | (refine EntL.cons' rfl ?_ ?_;focus (first | exact EntC.ratsLe (by omega) | exact EntC.ratsNil | exact EntC.glNil | (refine EntC.int ?_;omega) | (refine EntC.glLen ?_;first | omega | simp) | exact EntC.of_eq rfl | (refine EntC.q rfl ?_;omega) | exact Z0 _ | exact Z2 _ | exact EntC.z0 (k:=0) | exact EntC.z1 (k:=0) | exact EntC.z2 (k:=0) | exact EntC.z0 | exact EntC.z1 | exact EntC.z2))));done)))))
 ·have bi:=binLt (k:= .i64) (decide_eq_false (show ¬(i:Int)<((n+1:Nat):Int) by omega))
  have he:cur=R:=by rw [hcur,hR];exact tab_congr fun q hq=>if_pos (by omega)
  subst he
  repeat (first
   | refine aw_seq ?_ | refine aw_block ?_ | refine aw_condT rfl ?_ | refine aw_condF rfl ?_
   | ((first | refine aw_plainK (by kernel_rfl) ?_ | refine aw_drawK (by kernel_rfl) (by kernel_rfl) (by kernel_rfl) ?_)
      repeat (first
       | refine v_move (hl:=?_)
       | refine v_assign (hl:=?_)
       | refine v_store (hl:=?_)
       | refine v_bin (hl:=?_)
       | refine v_indexAddr (hl:=?_)
       | refine v_max (hl:=?_)
       | refine v_min (hl:=?_)
       | refine v_len (hl:=?_)
       | refine v_lenS (hl:=?_))
      apply RunK.nil;try refine And.intro (by kernel_rfl) ?_)
   | refine aw_skip ?_ | refine aw_exit ?_)
  refine aw_ret (And.intro (Or.inr rfl) (fin_g (ResIs.tmp rfl) (Ent.one' rfl (EntC.glLen (by omega))) ?_ ?_))
  ·repeat (first | exact nil_all | refine List.forall_mem_cons.2 ⟨⟨rfl,rfl,rfl⟩,?_⟩)
  ·exact List.forall_mem_cons.2 ⟨.inl (blk_keep inferInstance),nil_all⟩
theorem b0 {g:FuncId} [hG:Fun Tryz.prog g] {n J:Nat} {h:Nat→Rat} (hn:n≤1000)
  (H: ∀i,i≤n→Ctr Tryz.prog Amb g [errV (i:Nat)] (nm J (h i))):
  Ctr Tryz.prog Amb 83 [errV (n:Nat),.one (.fn g [])] (.one (ratT J (n+1) h)):=
 (b00 hn H).freeze (g:=nmD J) inferInstance rfl (by simp) (.inr ⟨rfl,List.forall_mem_cons.2 ⟨rfl,List.forall_mem_cons.2 ⟨rfl,nil_all⟩⟩⟩) rfl
theorem b110 {g:FuncId} [hG:Fun Tryz.prog g] {n J:Nat} {h:Nat→Rat} {c0 c1:C} (p0:pfC c0=true) (q0:nlB c0=true) (p1:pfC c1=true) (q1:nlB c1=true) (hn:n≤1000)
  (H: ∀i,i≤n→CtrM Tryz.prog Amb g [errV (i:Nat),.one (.ptr 901 0),.one (.ptr 902 0)] [(901,[c0],[c0]),(902,[c1],[c1])] (nm J (h i))):
  CtrG Tryz.prog Amb 83 [errV (n:Nat),.one (.fn g [(901,0),(902,0)])] [(901,[c0],[c0]),(902,[c1],[c1])] [(9,blkL (nmD J) (tab (n+1) h))] (.one (.gl 9 (tab (n+1) h).length 3)):=by
 have hne':(!(blkL (nmD J) (tab (n+1) h)).isEmpty)=true:=by
  have:=blkL_ne (f:=nmD J) inferInstance (by decide) (show 0<(tab (n+1) h).length by simp)
  cases hb:blkL (nmD J) (tab (n+1) h) with
  | nil=>rw [hb] at this;cases this
  | cons a b=>rfl
 have h1:=binAdd (k:= .i64) (show (IntKind.i64).wrap ((n:Int)+1)=((n+1:Nat):Int) from IntWalk.i64_in _ (by omega))
 obtain ⟨R,hR⟩: ∃R,R=tab (n+1) h:=⟨_,rfl⟩
 have hRl:R.length=n+1:=by rw [hR];simp
 rw [←hR] at hne'⊢
 refine ctrG_body Tryz.func83 rfl rfl rfl rfl (by
  simp only [List.all_cons,List.all_nil,Bool.and_true,Bool.and_eq_true]
  exact ⟨⟨by simp [inA,inC],by simp [pfC_in p0,pfC_in p1]⟩,blkL_in _ _,hne'⟩) (by simp [inA,inC]) (by simp) (by simp) ?_
 intro W0 base D μ0 hA hD
 repeat (first
  | refine aw_seq ?_ | refine aw_block ?_ | refine aw_condT rfl ?_ | refine aw_condF rfl ?_
  | ((first | refine aw_plainK (by kernel_rfl) ?_ | refine aw_drawK (by kernel_rfl) (by kernel_rfl) (by kernel_rfl) ?_)
     repeat (first
      | refine v_move (hl:=?_)
      | refine v_assign (hl:=?_)
      | refine v_store (hl:=?_)
      | refine v_bin (hl:=?_)
      | refine v_indexAddr (hl:=?_)
      | refine v_max (hl:=?_)
      | refine v_min (hl:=?_)
      | refine v_len (hl:=?_)
      | refine v_lenS (hl:=?_)
      | refine v_make (cap:=n+1) (Nat.succ_pos n) (by omega) (by omega) (hl:=?_))
     apply RunK.nil;try refine And.intro (by kernel_rfl) ?_)
  | refine aw_skip ?_ | refine aw_exit ?_)
 refine aw_loop (fun m σ=> ∃(i:Nat) (cur:List Rat),m=n+1-i∧i≤n+1∧cur=tab (n+1) (fun q=>if q<i then h q else 0)∧Wk ⟨W0,base,D,23,[901,902],μ0⟩ σ [(1,.one (.fn g [(901,0),(902,0)])),(5,.one (.gl 9 (n+1) 3)),(11,errV ((n+1:Nat):Int)),(12,errV (i:Nat))] [(9,blkL (nmD J) cur),(901,[c0]),(902,[c1])]) (n:=n+1) ⟨0,List.replicate (n+1) 0,by omega,by omega,tab_rep.trans (tab_congr fun q _=>(if_neg (Nat.not_lt_zero q)).symm),?_⟩ ?_
 ·refine wk_mk ?_ ?_ rfl
  ·repeat (first | exact nil_all | (refine List.forall_mem_cons.2 ⟨?_,?_⟩;focus (first | exact Ent.of_eq rfl | (refine Ent.one' rfl ?_;(first | exact EntC.ratsLe (by omega) | exact EntC.ratsNil | exact EntC.glNil | (refine EntC.int ?_;omega) | (refine EntC.glLen ?_;first | omega | simp) | exact EntC.of_eq rfl | (refine EntC.q rfl ?_;omega) | exact Z0 _ | exact Z2 _ | exact EntC.z0 (k:=0) | exact EntC.z1 (k:=0) | exact EntC.z2 (k:=0) | exact EntC.z0 | exact EntC.z1 | exact EntC.z2)) | (refine Ent.agg' rfl ?_;(repeat (first | exact EntL.nil' rfl | (refine EntL.cons' rfl ?_ ?_;focus (first | exact EntC.ratsLe (by omega) | exact EntC.ratsNil | exact EntC.glNil | (refine EntC.int ?_;omega) | (refine EntC.glLen ?_;first | omega | simp) | exact EntC.of_eq rfl | (refine EntC.q rfl ?_;omega) | exact Z0 _ | exact Z2 _ | exact EntC.z0 (k:=0) | exact EntC.z1 (k:=0) | exact EntC.z2 (k:=0) | exact EntC.z0 | exact EntC.z1 | exact EntC.z2))));done))))
  ·repeat (first | exact nil_all | (refine List.forall_mem_cons.2 ⟨?_,?_⟩;focus (first | exact blk_keep inferInstance | (refine blk_zeros inferInstance ?_;(repeat (first | exact EntL.nil' rfl | (refine EntL.cons' rfl ?_ ?_;focus (first | exact EntC.ratsLe (by omega) | exact EntC.ratsNil | exact EntC.glNil | (refine EntC.int ?_;omega) | (refine EntC.glLen ?_;first | omega | simp) | exact EntC.of_eq rfl | (refine EntC.q rfl ?_;omega) | exact Z0 _ | exact Z2 _ | exact EntC.z0 (k:=0) | exact EntC.z1 (k:=0) | exact EntC.z2 (k:=0) | exact EntC.z0 | exact EntC.z1 | exact EntC.z2))));done) | (exact blk_ok rfl (EntL.of_eq rfl) (by simp [q0,q1,pfC_in p0,pfC_in p1])) | (refine blk_ok rfl ?_ rfl;focus ((repeat (first | exact EntL.nil' rfl | (refine EntL.cons' rfl ?_ ?_;focus (first | exact EntC.ratsLe (by omega) | exact EntC.ratsNil | exact EntC.glNil | (refine EntC.int ?_;omega) | (refine EntC.glLen ?_;first | omega | simp) | exact EntC.of_eq rfl | (refine EntC.q rfl ?_;omega) | exact Z0 _ | exact Z2 _ | exact EntC.z0 (k:=0) | exact EntC.z1 (k:=0) | exact EntC.z2 (k:=0) | exact EntC.z0 | exact EntC.z1 | exact EntC.z2))));done)))))
 intro m σ hI
 obtain ⟨i,cur,hm,hi0,hcur,hw⟩:=hI
 refine aw_wk hw ?_
 clear hw
 have hcl:cur.length=n+1:=by rw [hcur];simp
 by_cases hi:i<n+1
 ·have bi:=binLt (k:= .i64) (decide_eq_true (show (i:Int)<((n+1:Nat):Int) by omega))
  have hin:=binAdd (k:= .i64) (show (IntKind.i64).wrap ((i:Int)+1)=((i+1:Nat):Int) from IntWalk.i64_in _ (by omega))
  have hlt:(0:Int)≤((i:Nat):Int)∧((i:Nat):Int)<((n+1:Nat):Int):=by omega
  have hst:((i:Nat):Int).toNat*3+3≤(blkL (nmD J) cur).length:=by rw [blkL_len (n:=3) inferInstance,hcl,Int.toNat_natCast];omega
  have H1:=H i (by omega)
  repeat (first
   | refine aw_seq ?_ | refine aw_block ?_ | refine aw_condT rfl ?_ | refine aw_condF rfl ?_
   | ((first | refine aw_plainK (by kernel_rfl) ?_ | refine aw_drawK (by kernel_rfl) (by kernel_rfl) (by kernel_rfl) ?_)
      repeat (first
       | refine v_storeG (k:=9) hst (hl:=?_)
       | refine v_move (hl:=?_)
       | refine v_assign (hl:=?_)
       | refine v_store (hl:=?_)
       | refine v_bin (hl:=?_)
       | refine v_indexAddr (hl:=?_)
       | refine v_max (hl:=?_)
       | refine v_min (hl:=?_)
       | refine v_len (hl:=?_)
       | refine v_lenS (hl:=?_)
       | refine v_callR hA [(901,[c0]),(902,[c1])] H1 (hl:=?_)
       | refine v_idxG hlt (hl:=?_))
      apply RunK.nil;try refine And.intro (by kernel_rfl) ?_)
   | refine aw_skip ?_ | refine aw_exit ?_)
  refine ⟨m-1,by omega,i+1,cur.set i (h i),by omega,by omega,?_,?_⟩
  ·rw [hcur]
   refine tab_set (by omega) (by show (if i<i+1 then h i else 0)=_;rw [if_pos (by omega)]) fun q hq hqi=>?_
   by_cases hqq:q<i
   ·rw [if_pos hqq,if_pos (by omega)]
   ·rw [if_neg hqq,if_neg (by omega)]
  ·refine wk_mk ?_ ?_ rfl
   ·repeat (first | exact nil_all | (refine List.forall_mem_cons.2 ⟨?_,?_⟩;focus (first | exact Ent.of_eq rfl | (refine Ent.one' rfl ?_;(first | exact EntC.ratsLe (by omega) | exact EntC.ratsNil | exact EntC.glNil | (refine EntC.int ?_;omega) | (refine EntC.glLen ?_;first | omega | simp) | exact EntC.of_eq rfl | (refine EntC.q rfl ?_;omega) | exact Z0 _ | exact Z2 _ | exact EntC.z0 (k:=0) | exact EntC.z1 (k:=0) | exact EntC.z2 (k:=0) | exact EntC.z0 | exact EntC.z1 | exact EntC.z2)) | (refine Ent.agg' rfl ?_;(repeat (first | exact EntL.nil' rfl | (refine EntL.cons' rfl ?_ ?_;focus (first | exact EntC.ratsLe (by omega) | exact EntC.ratsNil | exact EntC.glNil | (refine EntC.int ?_;omega) | (refine EntC.glLen ?_;first | omega | simp) | exact EntC.of_eq rfl | (refine EntC.q rfl ?_;omega) | exact Z0 _ | exact Z2 _ | exact EntC.z0 (k:=0) | exact EntC.z1 (k:=0) | exact EntC.z2 (k:=0) | exact EntC.z0 | exact EntC.z1 | exact EntC.z2))));done))))
   ·repeat (first | exact nil_all | (refine List.forall_mem_cons.2 ⟨?_,?_⟩;focus (first | exact blk_keep inferInstance | (refine blk_set inferInstance (i:=i) (show i<cur.length by omega) ?_;(repeat (first | exact EntL.nil' rfl | (refine EntL.cons' rfl ?_ ?_;focus (first | exact EntC.ratsLe (by omega) | exact EntC.ratsNil | exact EntC.glNil | (refine EntC.int ?_;omega) | (refine EntC.glLen ?_;first | omega | simp) | exact EntC.of_eq rfl | (refine EntC.q rfl ?_;omega) | exact Z0 _ | exact Z2 _ | exact EntC.z0 (k:=0) | exact EntC.z1 (k:=0) | exact EntC.z2 (k:=0) | exact EntC.z0 | exact EntC.z1 | exact EntC.z2))));done) | (exact blk_ok rfl (EntL.of_eq rfl) (by simp [q0,q1,pfC_in p0,pfC_in p1])) | (refine blk_ok rfl ?_ rfl;focus ((repeat (first | exact EntL.nil' rfl | (refine EntL.cons' rfl ?_ ?_;focus (first | exact EntC.ratsLe (by omega) | exact EntC.ratsNil | exact EntC.glNil | (refine EntC.int ?_;omega) | (refine EntC.glLen ?_;first | omega | simp) | exact EntC.of_eq rfl | (refine EntC.q rfl ?_;omega) | exact Z0 _ | exact Z2 _ | exact EntC.z0 (k:=0) | exact EntC.z1 (k:=0) | exact EntC.z2 (k:=0) | exact EntC.z0 | exact EntC.z1 | exact EntC.z2))));done)))))
 ·have bi:=binLt (k:= .i64) (decide_eq_false (show ¬(i:Int)<((n+1:Nat):Int) by omega))
  have he:cur=R:=by rw [hcur,hR];exact tab_congr fun q hq=>if_pos (by omega)
  subst he
  repeat (first
   | refine aw_seq ?_ | refine aw_block ?_ | refine aw_condT rfl ?_ | refine aw_condF rfl ?_
   | ((first | refine aw_plainK (by kernel_rfl) ?_ | refine aw_drawK (by kernel_rfl) (by kernel_rfl) (by kernel_rfl) ?_)
      repeat (first
       | refine v_move (hl:=?_)
       | refine v_assign (hl:=?_)
       | refine v_store (hl:=?_)
       | refine v_bin (hl:=?_)
       | refine v_indexAddr (hl:=?_)
       | refine v_max (hl:=?_)
       | refine v_min (hl:=?_)
       | refine v_len (hl:=?_)
       | refine v_lenS (hl:=?_))
      apply RunK.nil;try refine And.intro (by kernel_rfl) ?_)
   | refine aw_skip ?_ | refine aw_exit ?_)
  refine aw_ret (And.intro (Or.inr rfl) (fin_g (ResIs.tmp rfl) (Ent.one' rfl (EntC.glLen (by omega))) ?_ ?_))
  ·repeat (first | exact nil_all | refine List.forall_mem_cons.2 ⟨⟨rfl,rfl,by simp [p0,p1,q0,q1]⟩,?_⟩)
  ·exact List.forall_mem_cons.2 ⟨.inl (blk_keep inferInstance),nil_all⟩
theorem b11 {g:FuncId} [hG:Fun Tryz.prog g] {n J:Nat} {h:Nat→Rat} {c0 c1:C} (p0:pfC c0=true) (q0:nlB c0=true) (p1:pfC c1=true) (q1:nlB c1=true) {k1 k2:Nat} (hn:n≤1000)
  (H: ∀i,i≤n→CtrM Tryz.prog Amb g [errV (i:Nat),.one (.ptr 901 0),.one (.ptr 902 0)] [(901,[c0],[c0]),(902,[c1],[c1])] (nm J (h i))) (hk:k1≠k2):
  CtrM Tryz.prog Amb 83 [errV (n:Nat),.one (.fn g [(k1,0),(k2,0)])] [(k1,[c0],[c0]),(k2,[c1],[c1])] (.one (ratT J (n+1) h)):=by
 have F:=(b110 p0 q0 p1 q1 hn H).freeze (g:=nmD J) inferInstance (by simp [p0,p1,q0,q1]) (by simp) (.inr ⟨rfl,List.forall_mem_cons.2 ⟨rfl,List.forall_mem_cons.2 ⟨rfl,nil_all⟩⟩⟩) (by simp [p0,p1,q0,q1])
 exact F.ren (fun k=>if k=901 then k1 else k2) (by
  intro p hp q hq hpq
  simp only [List.mem_cons,List.not_mem_nil,or_false] at hp hq
  rcases hp with rfl | rfl<;>rcases hq with rfl | rfl<;>first | rfl | (simp at hpq;omega)) (by simp only [List.all_cons,List.all_nil,Bool.and_true,Bool.and_self,p0,p1];exact rfl) rfl
theorem b1110 {g:FuncId} [hG:Fun Tryz.prog g] {n J:Nat} {h:Nat→Rat} {c0 c1 c2:C} (p0:pfC c0=true) (q0:nlB c0=true) (p1:pfC c1=true) (q1:nlB c1=true) (p2:pfC c2=true) (q2:nlB c2=true) (hn:n≤1000)
  (H: ∀i,i≤n→CtrM Tryz.prog Amb g [errV (i:Nat),.one (.ptr 901 0),.one (.ptr 902 0),.one (.ptr 903 0)] [(901,[c0],[c0]),(902,[c1],[c1]),(903,[c2],[c2])] (nm J (h i))):
  CtrG Tryz.prog Amb 83 [errV (n:Nat),.one (.fn g [(901,0),(902,0),(903,0)])] [(901,[c0],[c0]),(902,[c1],[c1]),(903,[c2],[c2])] [(9,blkL (nmD J) (tab (n+1) h))] (.one (.gl 9 (tab (n+1) h).length 3)):=by
 have hne':(!(blkL (nmD J) (tab (n+1) h)).isEmpty)=true:=by
  have:=blkL_ne (f:=nmD J) inferInstance (by decide) (show 0<(tab (n+1) h).length by simp)
  cases hb:blkL (nmD J) (tab (n+1) h) with
  | nil=>rw [hb] at this;cases this
  | cons a b=>rfl
 have h1:=binAdd (k:= .i64) (show (IntKind.i64).wrap ((n:Int)+1)=((n+1:Nat):Int) from IntWalk.i64_in _ (by omega))
 obtain ⟨R,hR⟩: ∃R,R=tab (n+1) h:=⟨_,rfl⟩
 have hRl:R.length=n+1:=by rw [hR];simp
 rw [←hR] at hne'⊢
 refine ctrG_body Tryz.func83 rfl rfl rfl rfl (by
  simp only [List.all_cons,List.all_nil,Bool.and_true,Bool.and_eq_true]
  exact ⟨⟨by simp [inA,inC],by simp [pfC_in p0,pfC_in p1,pfC_in p2]⟩,blkL_in _ _,hne'⟩) (by simp [inA,inC]) (by simp) (by simp) ?_
 intro W0 base D μ0 hA hD
 repeat (first
  | refine aw_seq ?_ | refine aw_block ?_ | refine aw_condT rfl ?_ | refine aw_condF rfl ?_
  | ((first | refine aw_plainK (by kernel_rfl) ?_ | refine aw_drawK (by kernel_rfl) (by kernel_rfl) (by kernel_rfl) ?_)
     repeat (first
      | refine v_move (hl:=?_)
      | refine v_assign (hl:=?_)
      | refine v_store (hl:=?_)
      | refine v_bin (hl:=?_)
      | refine v_indexAddr (hl:=?_)
      | refine v_max (hl:=?_)
      | refine v_min (hl:=?_)
      | refine v_len (hl:=?_)
      | refine v_lenS (hl:=?_)
      | refine v_make (cap:=n+1) (Nat.succ_pos n) (by omega) (by omega) (hl:=?_))
     apply RunK.nil;try refine And.intro (by kernel_rfl) ?_)
  | refine aw_skip ?_ | refine aw_exit ?_)
 refine aw_loop (fun m σ=> ∃(i:Nat) (cur:List Rat),m=n+1-i∧i≤n+1∧cur=tab (n+1) (fun q=>if q<i then h q else 0)∧Wk ⟨W0,base,D,23,[901,902,903],μ0⟩ σ [(1,.one (.fn g [(901,0),(902,0),(903,0)])),(5,.one (.gl 9 (n+1) 3)),(11,errV ((n+1:Nat):Int)),(12,errV (i:Nat))] [(9,blkL (nmD J) cur),(901,[c0]),(902,[c1]),(903,[c2])]) (n:=n+1) ⟨0,List.replicate (n+1) 0,by omega,by omega,tab_rep.trans (tab_congr fun q _=>(if_neg (Nat.not_lt_zero q)).symm),?_⟩ ?_
 ·refine wk_mk ?_ ?_ rfl
  ·repeat (first | exact nil_all | (refine List.forall_mem_cons.2 ⟨?_,?_⟩;focus (first | exact Ent.of_eq rfl | (refine Ent.one' rfl ?_;(first | exact EntC.ratsLe (by omega) | exact EntC.ratsNil | exact EntC.glNil | (refine EntC.int ?_;omega) | (refine EntC.glLen ?_;first | omega | simp) | exact EntC.of_eq rfl | (refine EntC.q rfl ?_;omega) | exact Z0 _ | exact Z2 _ | exact EntC.z0 (k:=0) | exact EntC.z1 (k:=0) | exact EntC.z2 (k:=0) | exact EntC.z0 | exact EntC.z1 | exact EntC.z2)) | (refine Ent.agg' rfl ?_;(repeat (first | exact EntL.nil' rfl | (refine EntL.cons' rfl ?_ ?_;focus (first | exact EntC.ratsLe (by omega) | exact EntC.ratsNil | exact EntC.glNil | (refine EntC.int ?_;omega) | (refine EntC.glLen ?_;first | omega | simp) | exact EntC.of_eq rfl | (refine EntC.q rfl ?_;omega) | exact Z0 _ | exact Z2 _ | exact EntC.z0 (k:=0) | exact EntC.z1 (k:=0) | exact EntC.z2 (k:=0) | exact EntC.z0 | exact EntC.z1 | exact EntC.z2))));done))))
  ·repeat (first | exact nil_all | (refine List.forall_mem_cons.2 ⟨?_,?_⟩;focus (first | exact blk_keep inferInstance | (refine blk_zeros inferInstance ?_;(repeat (first | exact EntL.nil' rfl | (refine EntL.cons' rfl ?_ ?_;focus (first | exact EntC.ratsLe (by omega) | exact EntC.ratsNil | exact EntC.glNil | (refine EntC.int ?_;omega) | (refine EntC.glLen ?_;first | omega | simp) | exact EntC.of_eq rfl | (refine EntC.q rfl ?_;omega) | exact Z0 _ | exact Z2 _ | exact EntC.z0 (k:=0) | exact EntC.z1 (k:=0) | exact EntC.z2 (k:=0) | exact EntC.z0 | exact EntC.z1 | exact EntC.z2))));done) | (exact blk_ok rfl (EntL.of_eq rfl) (by simp [q0,q1,q2,pfC_in p0,pfC_in p1,pfC_in p2])) | (refine blk_ok rfl ?_ rfl;focus ((repeat (first | exact EntL.nil' rfl | (refine EntL.cons' rfl ?_ ?_;focus (first | exact EntC.ratsLe (by omega) | exact EntC.ratsNil | exact EntC.glNil | (refine EntC.int ?_;omega) | (refine EntC.glLen ?_;first | omega | simp) | exact EntC.of_eq rfl | (refine EntC.q rfl ?_;omega) | exact Z0 _ | exact Z2 _ | exact EntC.z0 (k:=0) | exact EntC.z1 (k:=0) | exact EntC.z2 (k:=0) | exact EntC.z0 | exact EntC.z1 | exact EntC.z2))));done)))))
 intro m σ hI
 obtain ⟨i,cur,hm,hi0,hcur,hw⟩:=hI
 refine aw_wk hw ?_
 clear hw
 have hcl:cur.length=n+1:=by rw [hcur];simp
 by_cases hi:i<n+1
 ·have bi:=binLt (k:= .i64) (decide_eq_true (show (i:Int)<((n+1:Nat):Int) by omega))
  have hin:=binAdd (k:= .i64) (show (IntKind.i64).wrap ((i:Int)+1)=((i+1:Nat):Int) from IntWalk.i64_in _ (by omega))
  have hlt:(0:Int)≤((i:Nat):Int)∧((i:Nat):Int)<((n+1:Nat):Int):=by omega
  have hst:((i:Nat):Int).toNat*3+3≤(blkL (nmD J) cur).length:=by rw [blkL_len (n:=3) inferInstance,hcl,Int.toNat_natCast];omega
  have H1:=H i (by omega)
  repeat (first
   | refine aw_seq ?_ | refine aw_block ?_ | refine aw_condT rfl ?_ | refine aw_condF rfl ?_
   | ((first | refine aw_plainK (by kernel_rfl) ?_ | refine aw_drawK (by kernel_rfl) (by kernel_rfl) (by kernel_rfl) ?_)
      repeat (first
       | refine v_storeG (k:=9) hst (hl:=?_)
       | refine v_move (hl:=?_)
       | refine v_assign (hl:=?_)
       | refine v_store (hl:=?_)
       | refine v_bin (hl:=?_)
       | refine v_indexAddr (hl:=?_)
       | refine v_max (hl:=?_)
       | refine v_min (hl:=?_)
       | refine v_len (hl:=?_)
       | refine v_lenS (hl:=?_)
       | refine v_callR hA [(901,[c0]),(902,[c1]),(903,[c2])] H1 (hl:=?_)
       | refine v_idxG hlt (hl:=?_))
      apply RunK.nil;try refine And.intro (by kernel_rfl) ?_)
   | refine aw_skip ?_ | refine aw_exit ?_)
  refine ⟨m-1,by omega,i+1,cur.set i (h i),by omega,by omega,?_,?_⟩
  ·rw [hcur]
   refine tab_set (by omega) (by show (if i<i+1 then h i else 0)=_;rw [if_pos (by omega)]) fun q hq hqi=>?_
   by_cases hqq:q<i
   ·rw [if_pos hqq,if_pos (by omega)]
   ·rw [if_neg hqq,if_neg (by omega)]
  ·refine wk_mk ?_ ?_ rfl
   ·repeat (first | exact nil_all | (refine List.forall_mem_cons.2 ⟨?_,?_⟩;focus (first | exact Ent.of_eq rfl | (refine Ent.one' rfl ?_;(first | exact EntC.ratsLe (by omega) | exact EntC.ratsNil | exact EntC.glNil | (refine EntC.int ?_;omega) | (refine EntC.glLen ?_;first | omega | simp) | exact EntC.of_eq rfl | (refine EntC.q rfl ?_;omega) | exact Z0 _ | exact Z2 _ | exact EntC.z0 (k:=0) | exact EntC.z1 (k:=0) | exact EntC.z2 (k:=0) | exact EntC.z0 | exact EntC.z1 | exact EntC.z2)) | (refine Ent.agg' rfl ?_;(repeat (first | exact EntL.nil' rfl | (refine EntL.cons' rfl ?_ ?_;focus (first | exact EntC.ratsLe (by omega) | exact EntC.ratsNil | exact EntC.glNil | (refine EntC.int ?_;omega) | (refine EntC.glLen ?_;first | omega | simp) | exact EntC.of_eq rfl | (refine EntC.q rfl ?_;omega) | exact Z0 _ | exact Z2 _ | exact EntC.z0 (k:=0) | exact EntC.z1 (k:=0) | exact EntC.z2 (k:=0) | exact EntC.z0 | exact EntC.z1 | exact EntC.z2))));done))))
   ·repeat (first | exact nil_all | (refine List.forall_mem_cons.2 ⟨?_,?_⟩;focus (first | exact blk_keep inferInstance | (refine blk_set inferInstance (i:=i) (show i<cur.length by omega) ?_;(repeat (first | exact EntL.nil' rfl | (refine EntL.cons' rfl ?_ ?_;focus (first | exact EntC.ratsLe (by omega) | exact EntC.ratsNil | exact EntC.glNil | (refine EntC.int ?_;omega) | (refine EntC.glLen ?_;first | omega | simp) | exact EntC.of_eq rfl | (refine EntC.q rfl ?_;omega) | exact Z0 _ | exact Z2 _ | exact EntC.z0 (k:=0) | exact EntC.z1 (k:=0) | exact EntC.z2 (k:=0) | exact EntC.z0 | exact EntC.z1 | exact EntC.z2))));done) | (exact blk_ok rfl (EntL.of_eq rfl) (by simp [q0,q1,q2,pfC_in p0,pfC_in p1,pfC_in p2])) | (refine blk_ok rfl ?_ rfl;focus ((repeat (first | exact EntL.nil' rfl | (refine EntL.cons' rfl ?_ ?_;focus (first | exact EntC.ratsLe (by omega) | exact EntC.ratsNil | exact EntC.glNil | (refine EntC.int ?_;omega) | (refine EntC.glLen ?_;first | omega | simp) | exact EntC.of_eq rfl | (refine EntC.q rfl ?_;omega) | exact Z0 _ | exact Z2 _ | exact EntC.z0 (k:=0) | exact EntC.z1 (k:=0) | exact EntC.z2 (k:=0) | exact EntC.z0 | exact EntC.z1 | exact EntC.z2))));done)))))
 ·have bi:=binLt (k:= .i64) (decide_eq_false (show ¬(i:Int)<((n+1:Nat):Int) by omega))
  have he:cur=R:=by rw [hcur,hR];exact tab_congr fun q hq=>if_pos (by omega)
  subst he
  repeat (first
   | refine aw_seq ?_ | refine aw_block ?_ | refine aw_condT rfl ?_ | refine aw_condF rfl ?_
   | ((first | refine aw_plainK (by kernel_rfl) ?_ | refine aw_drawK (by kernel_rfl) (by kernel_rfl) (by kernel_rfl) ?_)
      repeat (first
       | refine v_move (hl:=?_)
       | refine v_assign (hl:=?_)
       | refine v_store (hl:=?_)
       | refine v_bin (hl:=?_)
       | refine v_indexAddr (hl:=?_)
       | refine v_max (hl:=?_)
       | refine v_min (hl:=?_)
       | refine v_len (hl:=?_)
       | refine v_lenS (hl:=?_))
      apply RunK.nil;try refine And.intro (by kernel_rfl) ?_)
   | refine aw_skip ?_ | refine aw_exit ?_)
  refine aw_ret (And.intro (Or.inr rfl) (fin_g (ResIs.tmp rfl) (Ent.one' rfl (EntC.glLen (by omega))) ?_ ?_))
  ·repeat (first | exact nil_all | refine List.forall_mem_cons.2 ⟨⟨rfl,rfl,by simp [p0,p1,p2,q0,q1,q2]⟩,?_⟩)
  ·exact List.forall_mem_cons.2 ⟨.inl (blk_keep inferInstance),nil_all⟩
theorem b111 {g:FuncId} [hG:Fun Tryz.prog g] {n J:Nat} {h:Nat→Rat} {c0 c1 c2:C} (p0:pfC c0=true) (q0:nlB c0=true) (p1:pfC c1=true) (q1:nlB c1=true) (p2:pfC c2=true) (q2:nlB c2=true) {k1 k2 k3:Nat} (hn:n≤1000)
  (H: ∀i,i≤n→CtrM Tryz.prog Amb g [errV (i:Nat),.one (.ptr 901 0),.one (.ptr 902 0),.one (.ptr 903 0)] [(901,[c0],[c0]),(902,[c1],[c1]),(903,[c2],[c2])] (nm J (h i))) (hk:k1≠k2∧k1≠k3∧k2≠k3):
  CtrM Tryz.prog Amb 83 [errV (n:Nat),.one (.fn g [(k1,0),(k2,0),(k3,0)])] [(k1,[c0],[c0]),(k2,[c1],[c1]),(k3,[c2],[c2])] (.one (ratT J (n+1) h)):=by
 have F:=(b1110 p0 q0 p1 q1 p2 q2 hn H).freeze (g:=nmD J) inferInstance (by simp [p0,p1,p2,q0,q1,q2]) (by simp) (.inr ⟨rfl,List.forall_mem_cons.2 ⟨rfl,List.forall_mem_cons.2 ⟨rfl,nil_all⟩⟩⟩) (by simp [p0,p1,p2,q0,q1,q2])
 exact F.ren (fun k=>if k=901 then k1 else if k=902 then k2 else k3) (by
  intro p hp q hq hpq
  simp only [List.mem_cons,List.not_mem_nil,or_false] at hp hq
  rcases hp with rfl | rfl | rfl<;>rcases hq with rfl | rfl | rfl<;>first | rfl | (simp at hpq;omega)) (by simp only [List.all_cons,List.all_nil,Bool.and_true,Bool.and_self,p0,p1,p2];exact rfl) rfl
theorem b130 {g:FuncId} [hG:Fun Tryz.prog g] {n J:Nat} {h:Nat→Rat} {c0 c1 c2 c3:C} (p0:pfC c0=true) (q0:nlB c0=true) (p1:pfC c1=true) (q1:nlB c1=true) (p2:pfC c2=true) (q2:nlB c2=true) (p3:pfC c3=true) (q3:nlB c3=true) (hn:n≤1000)
  (H: ∀i,i≤n→CtrM Tryz.prog Amb g [errV (i:Nat),.one (.ptr 901 0),.one (.ptr 902 0)] [(901,[c0],[c0]),(902,[c1,c2,c3],[c1,c2,c3])] (nm J (h i))):
  CtrG Tryz.prog Amb 83 [errV (n:Nat),.one (.fn g [(901,0),(902,0)])] [(901,[c0],[c0]),(902,[c1,c2,c3],[c1,c2,c3])] [(9,blkL (nmD J) (tab (n+1) h))] (.one (.gl 9 (tab (n+1) h).length 3)):=by
 have hne':(!(blkL (nmD J) (tab (n+1) h)).isEmpty)=true:=by
  have:=blkL_ne (f:=nmD J) inferInstance (by decide) (show 0<(tab (n+1) h).length by simp)
  cases hb:blkL (nmD J) (tab (n+1) h) with
  | nil=>rw [hb] at this;cases this
  | cons a b=>rfl
 have h1:=binAdd (k:= .i64) (show (IntKind.i64).wrap ((n:Int)+1)=((n+1:Nat):Int) from IntWalk.i64_in _ (by omega))
 obtain ⟨R,hR⟩: ∃R,R=tab (n+1) h:=⟨_,rfl⟩
 have hRl:R.length=n+1:=by rw [hR];simp
 rw [←hR] at hne'⊢
 refine ctrG_body Tryz.func83 rfl rfl rfl rfl (by
  simp only [List.all_cons,List.all_nil,Bool.and_true,Bool.and_eq_true]
  exact ⟨⟨by simp [inA,inC],by simp [pfC_in p0,pfC_in p1,pfC_in p2,pfC_in p3]⟩,blkL_in _ _,hne'⟩) (by simp [inA,inC]) (by simp) (by simp) ?_
 intro W0 base D μ0 hA hD
 repeat (first
  | refine aw_seq ?_ | refine aw_block ?_ | refine aw_condT rfl ?_ | refine aw_condF rfl ?_
  | ((first | refine aw_plainK (by kernel_rfl) ?_ | refine aw_drawK (by kernel_rfl) (by kernel_rfl) (by kernel_rfl) ?_)
     repeat (first
      | refine v_move (hl:=?_)
      | refine v_assign (hl:=?_)
      | refine v_store (hl:=?_)
      | refine v_bin (hl:=?_)
      | refine v_indexAddr (hl:=?_)
      | refine v_max (hl:=?_)
      | refine v_min (hl:=?_)
      | refine v_len (hl:=?_)
      | refine v_lenS (hl:=?_)
      | refine v_make (cap:=n+1) (Nat.succ_pos n) (by omega) (by omega) (hl:=?_))
     apply RunK.nil;try refine And.intro (by kernel_rfl) ?_)
  | refine aw_skip ?_ | refine aw_exit ?_)
 refine aw_loop (fun m σ=> ∃(i:Nat) (cur:List Rat),m=n+1-i∧i≤n+1∧cur=tab (n+1) (fun q=>if q<i then h q else 0)∧Wk ⟨W0,base,D,23,[901,902],μ0⟩ σ [(1,.one (.fn g [(901,0),(902,0)])),(5,.one (.gl 9 (n+1) 3)),(11,errV ((n+1:Nat):Int)),(12,errV (i:Nat))] [(9,blkL (nmD J) cur),(901,[c0]),(902,[c1,c2,c3])]) (n:=n+1) ⟨0,List.replicate (n+1) 0,by omega,by omega,tab_rep.trans (tab_congr fun q _=>(if_neg (Nat.not_lt_zero q)).symm),?_⟩ ?_
 ·refine wk_mk ?_ ?_ rfl
  ·repeat (first | exact nil_all | (refine List.forall_mem_cons.2 ⟨?_,?_⟩;focus (first | exact Ent.of_eq rfl | (refine Ent.one' rfl ?_;(first | exact EntC.ratsLe (by omega) | exact EntC.ratsNil | exact EntC.glNil | (refine EntC.int ?_;omega) | (refine EntC.glLen ?_;first | omega | simp) | exact EntC.of_eq rfl | (refine EntC.q rfl ?_;omega) | exact Z0 _ | exact Z2 _ | exact EntC.z0 (k:=0) | exact EntC.z1 (k:=0) | exact EntC.z2 (k:=0) | exact EntC.z0 | exact EntC.z1 | exact EntC.z2)) | (refine Ent.agg' rfl ?_;(repeat (first | exact EntL.nil' rfl | (refine EntL.cons' rfl ?_ ?_;focus (first | exact EntC.ratsLe (by omega) | exact EntC.ratsNil | exact EntC.glNil | (refine EntC.int ?_;omega) | (refine EntC.glLen ?_;first | omega | simp) | exact EntC.of_eq rfl | (refine EntC.q rfl ?_;omega) | exact Z0 _ | exact Z2 _ | exact EntC.z0 (k:=0) | exact EntC.z1 (k:=0) | exact EntC.z2 (k:=0) | exact EntC.z0 | exact EntC.z1 | exact EntC.z2))));done))))
  ·repeat (first | exact nil_all | (refine List.forall_mem_cons.2 ⟨?_,?_⟩;focus (first | exact blk_keep inferInstance | (refine blk_zeros inferInstance ?_;(repeat (first | exact EntL.nil' rfl | (refine EntL.cons' rfl ?_ ?_;focus (first | exact EntC.ratsLe (by omega) | exact EntC.ratsNil | exact EntC.glNil | (refine EntC.int ?_;omega) | (refine EntC.glLen ?_;first | omega | simp) | exact EntC.of_eq rfl | (refine EntC.q rfl ?_;omega) | exact Z0 _ | exact Z2 _ | exact EntC.z0 (k:=0) | exact EntC.z1 (k:=0) | exact EntC.z2 (k:=0) | exact EntC.z0 | exact EntC.z1 | exact EntC.z2))));done) | (exact blk_ok rfl (EntL.of_eq rfl) (by simp [q0,q1,q2,q3,pfC_in p0,pfC_in p1,pfC_in p2,pfC_in p3])) | (refine blk_ok rfl ?_ rfl;focus ((repeat (first | exact EntL.nil' rfl | (refine EntL.cons' rfl ?_ ?_;focus (first | exact EntC.ratsLe (by omega) | exact EntC.ratsNil | exact EntC.glNil | (refine EntC.int ?_;omega) | (refine EntC.glLen ?_;first | omega | simp) | exact EntC.of_eq rfl | (refine EntC.q rfl ?_;omega) | exact Z0 _ | exact Z2 _ | exact EntC.z0 (k:=0) | exact EntC.z1 (k:=0) | exact EntC.z2 (k:=0) | exact EntC.z0 | exact EntC.z1 | exact EntC.z2))));done)))))
 intro m σ hI
 obtain ⟨i,cur,hm,hi0,hcur,hw⟩:=hI
 refine aw_wk hw ?_
 clear hw
 have hcl:cur.length=n+1:=by rw [hcur];simp
 by_cases hi:i<n+1
 ·have bi:=binLt (k:= .i64) (decide_eq_true (show (i:Int)<((n+1:Nat):Int) by omega))
  have hin:=binAdd (k:= .i64) (show (IntKind.i64).wrap ((i:Int)+1)=((i+1:Nat):Int) from IntWalk.i64_in _ (by omega))
  have hlt:(0:Int)≤((i:Nat):Int)∧((i:Nat):Int)<((n+1:Nat):Int):=by omega
  have hst:((i:Nat):Int).toNat*3+3≤(blkL (nmD J) cur).length:=by rw [blkL_len (n:=3) inferInstance,hcl,Int.toNat_natCast];omega
  have H1:=H i (by omega)
  repeat (first
   | refine aw_seq ?_ | refine aw_block ?_ | refine aw_condT rfl ?_ | refine aw_condF rfl ?_
   | ((first | refine aw_plainK (by kernel_rfl) ?_ | refine aw_drawK (by kernel_rfl) (by kernel_rfl) (by kernel_rfl) ?_)
      repeat (first
       | refine v_storeG (k:=9) hst (hl:=?_)
       | refine v_move (hl:=?_)
       | refine v_assign (hl:=?_)
       | refine v_store (hl:=?_)
       | refine v_bin (hl:=?_)
       | refine v_indexAddr (hl:=?_)
       | refine v_max (hl:=?_)
       | refine v_min (hl:=?_)
       | refine v_len (hl:=?_)
       | refine v_lenS (hl:=?_)
       | refine v_callR hA [(901,[c0]),(902,[c1,c2,c3])] H1 (hl:=?_)
       | refine v_idxG hlt (hl:=?_))
      apply RunK.nil;try refine And.intro (by kernel_rfl) ?_)
   | refine aw_skip ?_ | refine aw_exit ?_)
  refine ⟨m-1,by omega,i+1,cur.set i (h i),by omega,by omega,?_,?_⟩
  ·rw [hcur]
   refine tab_set (by omega) (by show (if i<i+1 then h i else 0)=_;rw [if_pos (by omega)]) fun q hq hqi=>?_
   by_cases hqq:q<i
   ·rw [if_pos hqq,if_pos (by omega)]
   ·rw [if_neg hqq,if_neg (by omega)]
  ·refine wk_mk ?_ ?_ rfl
   ·repeat (first | exact nil_all | (refine List.forall_mem_cons.2 ⟨?_,?_⟩;focus (first | exact Ent.of_eq rfl | (refine Ent.one' rfl ?_;(first | exact EntC.ratsLe (by omega) | exact EntC.ratsNil | exact EntC.glNil | (refine EntC.int ?_;omega) | (refine EntC.glLen ?_;first | omega | simp) | exact EntC.of_eq rfl | (refine EntC.q rfl ?_;omega) | exact Z0 _ | exact Z2 _ | exact EntC.z0 (k:=0) | exact EntC.z1 (k:=0) | exact EntC.z2 (k:=0) | exact EntC.z0 | exact EntC.z1 | exact EntC.z2)) | (refine Ent.agg' rfl ?_;(repeat (first | exact EntL.nil' rfl | (refine EntL.cons' rfl ?_ ?_;focus (first | exact EntC.ratsLe (by omega) | exact EntC.ratsNil | exact EntC.glNil | (refine EntC.int ?_;omega) | (refine EntC.glLen ?_;first | omega | simp) | exact EntC.of_eq rfl | (refine EntC.q rfl ?_;omega) | exact Z0 _ | exact Z2 _ | exact EntC.z0 (k:=0) | exact EntC.z1 (k:=0) | exact EntC.z2 (k:=0) | exact EntC.z0 | exact EntC.z1 | exact EntC.z2))));done))))
   ·repeat (first | exact nil_all | (refine List.forall_mem_cons.2 ⟨?_,?_⟩;focus (first | exact blk_keep inferInstance | (refine blk_set inferInstance (i:=i) (show i<cur.length by omega) ?_;(repeat (first | exact EntL.nil' rfl | (refine EntL.cons' rfl ?_ ?_;focus (first | exact EntC.ratsLe (by omega) | exact EntC.ratsNil | exact EntC.glNil | (refine EntC.int ?_;omega) | (refine EntC.glLen ?_;first | omega | simp) | exact EntC.of_eq rfl | (refine EntC.q rfl ?_;omega) | exact Z0 _ | exact Z2 _ | exact EntC.z0 (k:=0) | exact EntC.z1 (k:=0) | exact EntC.z2 (k:=0) | exact EntC.z0 | exact EntC.z1 | exact EntC.z2))));done) | (exact blk_ok rfl (EntL.of_eq rfl) (by simp [q0,q1,q2,q3,pfC_in p0,pfC_in p1,pfC_in p2,pfC_in p3])) | (refine blk_ok rfl ?_ rfl;focus ((repeat (first | exact EntL.nil' rfl | (refine EntL.cons' rfl ?_ ?_;focus (first | exact EntC.ratsLe (by omega) | exact EntC.ratsNil | exact EntC.glNil | (refine EntC.int ?_;omega) | (refine EntC.glLen ?_;first | omega | simp) | exact EntC.of_eq rfl | (refine EntC.q rfl ?_;omega) | exact Z0 _ | exact Z2 _ | exact EntC.z0 (k:=0) | exact EntC.z1 (k:=0) | exact EntC.z2 (k:=0) | exact EntC.z0 | exact EntC.z1 | exact EntC.z2))));done)))))
 ·have bi:=binLt (k:= .i64) (decide_eq_false (show ¬(i:Int)<((n+1:Nat):Int) by omega))
  have he:cur=R:=by rw [hcur,hR];exact tab_congr fun q hq=>if_pos (by omega)
  subst he
  repeat (first
   | refine aw_seq ?_ | refine aw_block ?_ | refine aw_condT rfl ?_ | refine aw_condF rfl ?_
   | ((first | refine aw_plainK (by kernel_rfl) ?_ | refine aw_drawK (by kernel_rfl) (by kernel_rfl) (by kernel_rfl) ?_)
      repeat (first
       | refine v_move (hl:=?_)
       | refine v_assign (hl:=?_)
       | refine v_store (hl:=?_)
       | refine v_bin (hl:=?_)
       | refine v_indexAddr (hl:=?_)
       | refine v_max (hl:=?_)
       | refine v_min (hl:=?_)
       | refine v_len (hl:=?_)
       | refine v_lenS (hl:=?_))
      apply RunK.nil;try refine And.intro (by kernel_rfl) ?_)
   | refine aw_skip ?_ | refine aw_exit ?_)
  refine aw_ret (And.intro (Or.inr rfl) (fin_g (ResIs.tmp rfl) (Ent.one' rfl (EntC.glLen (by omega))) ?_ ?_))
  ·repeat (first | exact nil_all | refine List.forall_mem_cons.2 ⟨⟨rfl,rfl,by simp [p0,p1,p2,p3,q0,q1,q2,q3]⟩,?_⟩)
  ·exact List.forall_mem_cons.2 ⟨.inl (blk_keep inferInstance),nil_all⟩
theorem b13 {g:FuncId} [hG:Fun Tryz.prog g] {n J:Nat} {h:Nat→Rat} {c0 c1 c2 c3:C} (p0:pfC c0=true) (q0:nlB c0=true) (p1:pfC c1=true) (q1:nlB c1=true) (p2:pfC c2=true) (q2:nlB c2=true) (p3:pfC c3=true) (q3:nlB c3=true) {k1 k2:Nat} (hn:n≤1000)
  (H: ∀i,i≤n→CtrM Tryz.prog Amb g [errV (i:Nat),.one (.ptr 901 0),.one (.ptr 902 0)] [(901,[c0],[c0]),(902,[c1,c2,c3],[c1,c2,c3])] (nm J (h i))) (hk:k1≠k2):
  CtrM Tryz.prog Amb 83 [errV (n:Nat),.one (.fn g [(k1,0),(k2,0)])] [(k1,[c0],[c0]),(k2,[c1,c2,c3],[c1,c2,c3])] (.one (ratT J (n+1) h)):=by
 have F:=(b130 p0 q0 p1 q1 p2 q2 p3 q3 hn H).freeze (g:=nmD J) inferInstance (by simp [p0,p1,p2,p3,q0,q1,q2,q3]) (by simp) (.inr ⟨rfl,List.forall_mem_cons.2 ⟨rfl,List.forall_mem_cons.2 ⟨rfl,nil_all⟩⟩⟩) (by simp [p0,p1,p2,p3,q0,q1,q2,q3])
 exact F.ren (fun k=>if k=901 then k1 else k2) (by
  intro p hp q hq hpq
  simp only [List.mem_cons,List.not_mem_nil,or_false] at hp hq
  rcases hp with rfl | rfl<;>rcases hq with rfl | rfl<;>first | rfl | (simp at hpq;omega)) (by simp only [List.all_cons,List.all_nil,Bool.and_true,Bool.and_self,p0,p1,p2,p3];exact rfl) rfl
end Go.Proofs.YtdgjkohkmdpcdaaGreatDoor
namespace Go.Proofs.YtdgjkohkmdpcdaaGreatDoor
open Go.RowKit
set_option linter.unusedVariables false
set_option linter.unusedSimpArgs false
set_option maxRecDepth 20000
set_option maxHeartbeats 4000000
theorem blk_up {j J:Nat} {σ:St} {ks:List Nat} {k:Nat} {l:List Rat} (h:j≤J) (hb:BlkOk σ ks (k,blkL (nmD j) l)):BlkOk σ ks (k,blkL (nmD J) l):=by
 have hl:(blkL (nmD J) l).length=(blkL (nmD j) l).length:=by rw [blkL_len (n:=3) inferInstance,blkL_len (n:=3) inferInstance]
 refine ⟨⟨hb.1.1.trans hl.symm,fun o c hc=>⟨?_,blkL_nl (n:=3) inferInstance _ c (List.mem_of_getElem? hc)⟩⟩,blkL_in ks l⟩
 have key: ∀(l:List Rat) (o:Nat) (c:C),(blkL (nmD J) l)[o]?=some c→ ∃d,(blkL (nmD j) l)[o]?=some d∧EntC d c:=by
  intro l
  induction l with
  | nil=>intro o c h;simp [blkL] at h
  | cons x l ih=>
    intro o c hc
    match o with
    | 0=>exact ⟨_,rfl,by cases hc;exact EntC.q rfl h⟩
    | 1=>exact ⟨_,rfl,by cases hc;exact EntC.q rfl h⟩
    | 2=>exact ⟨_,rfl,by cases hc;exact EntC.q rfl h⟩
    | o+3=>exact ih o c hc
 obtain ⟨d,hd,he⟩:=key l o c hc
 have h2:=(hb.1.2 o d hd).1
 exact fun W0 μ sz w x hx=>he W0 μ sz w x (h2 W0 μ sz w x hx)
theorem s_split1 {ja jb i:Nat} {l m:List Rat} {x y:Rat} (hx:l[((i:Nat):Int).toNat]?=some x) (hy:m[((i:Nat):Int).toNat]?=some y) (h1:ja≤10000000) (h2:jb≤10000000) (h0:y≠0):
  CtrM Tryz.prog Amb 84 [errV (i:Nat),.one (.ptr 901 0),.one (.ptr 902 0)] [(901,[rats ja l],[rats ja l]),(902,[rats jb m],[rats jb m])] (nm (ja+jb+2) (x/y)):=by
 have O1:=s_over (j:=ja) (k:=jb) (x:=x) (y:=y) (by omega) (by omega) h0
 apply ctr_body Tryz.func84 rfl rfl rfl rfl rfl
 case hin=>simp [inA,inC]
 intro W0 base D μ0 hA hD
 repeat (first
  | refine aw_seq ?_ | refine aw_block ?_ | refine aw_condT rfl ?_ | refine aw_condF rfl ?_
  | ((first | refine aw_plainK (by kernel_rfl) ?_ | refine aw_drawK (by kernel_rfl) (by kernel_rfl) (by kernel_rfl) ?_)
     repeat (first
      | refine v_move (hl:=?_)
      | refine v_load (hl:=?_)
      | refine v_store (hl:=?_)
      | refine v_alloc (hl:=?_)
      | refine v_indexAddr (hl:=?_)
      | refine v_loadF (hl:=?_)
      | refine v_idx hx (by omega) (hl:=?_)
      | refine v_idx hy (by omega) (hl:=?_)
      | refine v_callE hA (hc:=O1) (hl:=?_))
     apply RunK.nil;try refine And.intro (by kernel_rfl) ?_)
  | refine aw_skip ?_ | refine aw_exit ?_)
 refine aw_ret (And.intro (Or.inr rfl) ?_)
 exact f_ro (hb:=by repeat (first | exact nil_all | refine List.forall_mem_cons.2 ⟨⟨rfl,rfl,rfl⟩,?_⟩))
theorem s_part1 {ja jb i:Nat} {l m:List Rat} {x y:Rat} (hx:l[((i:Nat):Int).toNat]?=some x) (hy:m[((i:Nat):Int).toNat]?=some y) (h1:ja≤10000000) (h2:jb≤10000000) (h0:y≠0):
  CtrM Tryz.prog Amb 94 [errV (i:Nat),.one (.ptr 901 0),.one (.ptr 902 0)] [(901,[rats ja l],[rats ja l]),(902,[rats jb m],[rats jb m])] (nm (ja+jb+2) (x/y)):=by
 have O1:=s_over (j:=ja) (k:=jb) (x:=x) (y:=y) (by omega) (by omega) h0
 apply ctr_body Tryz.func94 rfl rfl rfl rfl rfl
 case hin=>simp [inA,inC]
 intro W0 base D μ0 hA hD
 repeat (first
  | refine aw_seq ?_ | refine aw_block ?_ | refine aw_condT rfl ?_ | refine aw_condF rfl ?_
  | ((first | refine aw_plainK (by kernel_rfl) ?_ | refine aw_drawK (by kernel_rfl) (by kernel_rfl) (by kernel_rfl) ?_)
     repeat (first
      | refine v_move (hl:=?_)
      | refine v_load (hl:=?_)
      | refine v_store (hl:=?_)
      | refine v_alloc (hl:=?_)
      | refine v_indexAddr (hl:=?_)
      | refine v_loadF (hl:=?_)
      | refine v_idx hx (by omega) (hl:=?_)
      | refine v_idx hy (by omega) (hl:=?_)
      | refine v_callE hA (hc:=O1) (hl:=?_))
     apply RunK.nil;try refine And.intro (by kernel_rfl) ?_)
  | refine aw_skip ?_ | refine aw_exit ?_)
 refine aw_ret (And.intro (Or.inr rfl) ?_)
 exact f_ro (hb:=by repeat (first | exact nil_all | refine List.forall_mem_cons.2 ⟨⟨rfl,rfl,rfl⟩,?_⟩))
theorem s_split2 {ja jb i n:Nat} {l m:List Rat} {x y:Rat} (hn:n≤1000) (hi:i≤n) (hx:l[((i:Nat):Int).toNat]?=some x) (hy:m[((n-i:Nat):Int).toNat]?=some y) (h1:ja≤10000000) (h2:jb≤10000000) (h0:y≠0):
  CtrM Tryz.prog Amb 86 [errV (i:Nat),.one (.ptr 901 0),.one (.ptr 902 0),.one (.ptr 903 0)] [(901,[rats ja l],[rats ja l]),(902,[rats jb m],[rats jb m]),(903,[.v (.int .i64 (n:Nat))],[.v (.int .i64 (n:Nat))])] (nm (ja+jb+2) (x/y)):=by
 have O1:=s_over (j:=ja) (k:=jb) (x:=x) (y:=y) (by omega) (by omega) h0
 have hd:=binSub (k:= .i64) (show (IntKind.i64).wrap ((n:Int)-(i:Int))=((n-i:Nat):Int) by rw [show ((n:Int)-(i:Int))=((n-i:Nat):Int) by omega];exact IntWalk.i64_in _ (by omega))
 apply ctr_body Tryz.func86 rfl rfl rfl rfl rfl
 case hin=>simp [inA,inC]
 intro W0 base D μ0 hA hD
 repeat (first
  | refine aw_seq ?_ | refine aw_block ?_ | refine aw_condT rfl ?_ | refine aw_condF rfl ?_
  | ((first | refine aw_plainK (by kernel_rfl) ?_ | refine aw_drawK (by kernel_rfl) (by kernel_rfl) (by kernel_rfl) ?_)
     repeat (first
      | refine v_move (hl:=?_)
      | refine v_load (hl:=?_)
      | refine v_store (hl:=?_)
      | refine v_alloc (hl:=?_)
      | refine v_bin (hl:=?_)
      | refine v_indexAddr (hl:=?_)
      | refine v_loadF (hl:=?_)
      | refine v_idx hx (by omega) (hl:=?_)
      | refine v_idx hy (by omega) (hl:=?_)
      | refine v_callE hA (hc:=O1) (hl:=?_))
     apply RunK.nil;try refine And.intro (by kernel_rfl) ?_)
  | refine aw_skip ?_ | refine aw_exit ?_)
 refine aw_ret (And.intro (Or.inr rfl) ?_)
 exact f_ro (hb:=by repeat (first | exact nil_all | refine List.forall_mem_cons.2 ⟨⟨rfl,rfl,rfl⟩,?_⟩))
abbrev cf (l:List Rat) (i:Nat):Rat:=l.getD i 0
theorem scheme_sz {j jt n a:Nat} {l:List Rat} {S u d:Rat} {M:Nat} (hl:l.length=n+1) (hr: ∀r∈l,RSz j r) (hM:Sz a M) (hS:S=((M:Int):Rat)) (hint: ∀r∈l,∃z:Int,((M:Int):Rat)*r=(z:Rat)) (hu: ∃z:Int,u=(z:Rat)∧Sz jt z.natAbs) (hd: ∃z:Int,d=(z:Rat)∧Sz jt z.natAbs):
  ∀k i,k+i≤n→RSz (a+j+n*(jt+1)+2) (casR u d (fun i=>S*cf l i) k i):=by
 intro k i hki
 obtain ⟨zu,rfl,hzu⟩:=hu
 obtain ⟨zd,rfl,hzd⟩:=hd
 have one: ∀x:Rat,x*(((1:Nat):Int):Rat)=x:=fun x=>by
  have:(((1:Nat):Int):Rat)=1:=rfl
  rw [this,Rat.mul_one]
 have h:=casR_ib (D:=1) (E:=1) (B:=4294967296^(a+j)) (U:=zu.natAbs) (V:=zd.natAbs) (u:=(zu:Rat)) (d:=(zd:Rat)) (f:=fun i=>S*cf l i) (n:=n) (fun i hi=>by
  have hlt:i<l.length:=by omega
  have hm:cf l i∈l:=by
   unfold cf
   rw [List.getD_eq_getElem?_getD,List.getElem?_eq_getElem hlt]
   exact List.getElem_mem hlt
  obtain ⟨z,hz⟩:=hint _ hm
  refine ⟨z,by show S*cf l i*_=_;rw [one,hS,hz],?_⟩
  have hb:=(hr _ hm).1
  have h1:(z:Rat)*(((cf l i).den:Int):Rat)=((M*(cf l i).num:Int):Rat):=by
   rw [←hz,Rat.intCast_mul,Rat.mul_assoc,show cf l i*(((cf l i).den:Int):Rat)=(((cf l i).num:Int):Rat) from rat_den _]
  have h2:z*(cf l i).den=M*(cf l i).num:=by rw [←Rat.intCast_mul] at h1;exact Rat.intCast_inj.1 h1
  have h3:z.natAbs*(cf l i).den=M*(cf l i).num.natAbs:=by
   have:=congrArg Int.natAbs h2
   rw [Int.natAbs_mul,Int.natAbs_mul] at this
   simpa using this
  have h4:z.natAbs≤M*(cf l i).num.natAbs:=by
   rw [←h3]
   exact Nat.le_mul_of_pos_right _ (cf l i).den_pos
  have h5:=toL_lt (M*(cf l i).num.natAbs)
  have h6:(toL (M*(cf l i).num.natAbs)).length≤a+j:=hM.mul hb
  have h7:(4294967296:Nat)^(toL (M*(cf l i).num.natAbs)).length≤4294967296^(a+j):=Nat.pow_le_pow_right (by decide) h6
  omega) ⟨zu,one _,Nat.le_refl _⟩ ⟨zd,one _,Nat.le_refl _⟩ k i hki
 have hUV:Sz (jt+1) (zu.natAbs+zd.natAbs):=hzu.plus hzd
 refine h.rsz (by rw [Nat.one_pow];decide) (length_toL_le _ _ (by rw [Nat.one_pow];exact Nat.one_lt_pow (by omega) (by decide))) ?_
 have h1:Sz (a+j+1) (4294967296^(a+j)):=length_toL_le _ _ (Nat.pow_lt_pow_right (by decide) (by omega))
 refine (h1.mul (hUV.pow k)).mono ?_
 have:=Nat.mul_le_mul_right (jt+1) (show k≤n by omega)
 omega
end Go.Proofs.YtdgjkohkmdpcdaaGreatDoor
namespace Go.Proofs.YtdgjkohkmdpcdaaGreatDoor
open Go.RowKit
set_option linter.unusedVariables false
set_option linter.unusedSimpArgs false
set_option maxRecDepth 20000
set_option maxHeartbeats 4000000
section
variable {P:Program} {X:Ctx} {ops l:List Oper} {σ:St} {K:List Eff→St→Prop} {s:Nat→AV} {z:Nat→Nat}
variable {dst:Option Tmp} {ty:TypeId} {pos:String} {af:Array Edge} {gd:Option (Nat×Bool)}
theorem run_build0 {P:Program} (w:World) (t e:TypeId) (ie:TypeInfo) (hu:P.underlying t=some (.slice e)) (hie:P.info? e=some ie):
  (Instr.buildSlice t 0 #[]).run P w= .ok (.slice (some ⟨w.heap.size,0,none⟩) 0 0) (w.alloc (.cells #[] e)):=by
 simp [Instr.buildSlice,run_underlying hu,sizeOf,typeInfo,hie,Instr.fill,newRow]
 congr 2
 exact Array.ext (by simp) (fun i h1 h2=>by simp at h2)
theorem sim_build0 {t e:TypeId} {agg:Bool} {n bytes:Nat} {zv:Value} [S:Sle P t e agg n bytes zv] {id:Nat} (hd: ∀t,dst=some t→t<X.n):
  Sim P X ⟨dst,.buildSlice t 0 #[],ty,pos,af,gd⟩ s z ⟨.one (.gl id 0 n),[],[],[]⟩:=by
 refine Sim.of0 fun W=>?_
 replace hd: ∀t,dst=some t→t<(X.at W).n:=hd
 generalize X.at W=X at hd⊢
 intro σ hs hsz _ hal a w hcn K Q hK
 obtain ⟨μ,hcn⟩:=hcn
 obtain ⟨inf,hi,hz,hsize,hby⟩:=S.info
 have hrun:(execOp a.eval ⟨dst,.buildSlice t 0 #[],ty,pos,af,gd⟩).run P w= .ok (.value (.slice (some ⟨w.heap.size,0,none⟩) 0 0)) (w.alloc (.cells #[] e)):=by
  simp [execOp,run_build0 w t e inf S.hu hi]
 unfold Oper.wp
 rw [hrun]
 have hkp:Kp w (w.alloc (.cells #[] e)):=(Below.refl _ _).alloc (Nat.le_refl _) _
 refine hK _ _ ⟨μ,?_⟩
 refine cn_put (cn_kp hcn hkp) (d:=dst) hd (v:= .slice (some ⟨w.heap.size,0,none⟩) 0 0) (av:= .one (.gl id 0 n)) ⟨_,0,rfl,Nat.le_refl _,fun _=>rfl,fun h=>absurd rfl h⟩
theorem v_build0 {d:Nat} {t e:TypeId} {agg:Bool} {n bytes:Nat} {zv:Value} [S:Sle P t e agg n bytes zv] (hg:gOk ops σ.s gd:=by first | exact trivial | exact rfl) (hd:dB X.n (some d)=true:=by exact rfl)
  (hl:RunK P X ops l (σ.app (some d) ⟨.one (.gl d 0 n),[],[],[]⟩) (fun es σ'=>K (⟨.one (.gl d 0 n),[],[],[]⟩::es) σ')):RunK P X ops (⟨some d,.buildSlice t 0 #[],ty,pos,af,gd⟩::l) σ K:=
 .of (fun _ _ hl=>Run.step hg (sim_build0 (dB_ok hd)) (fun p hp=>by cases hp) alOk_nil hl) hl
end
theorem blkL_ns {α:Type} {n:Nat} {f:α→List D} (hf:Elm n f) (ks:List Nat) (l:List α):((blkL f l).all fun c=>nlB c&&inC ks c)=true:=List.all_eq_true.2 fun c hc=>by
 obtain ⟨d,hd,rfl⟩:=List.mem_map.1 hc
 obtain ⟨a,_,hda⟩:=List.mem_flatMap.1 hd
 rw [List.all_eq_true.1 (hf.nl a) d hda,pfC_in (toC_pf d)]
 rfl
theorem r_between {j k m:Nat} {x y t:Rat} (h1:j≤10000000) (h2:k≤10000000) (h3:m≤10000000):
  Ctr Tryz.prog Amb 87 [nm j x,nm k y,nm m t] (nm (j+(k+j+3+m+2)+3) (x+(y-x)*t)):=by
 have S1:=r_sub (j:=k) (k:=j) (x:=y) (y:=x) (by omega) (by omega)
 have M1:=r_mul (j:=k+j+3) (k:=m) (x:=y-x) (y:=t) (by omega) (by omega)
 have A1:=r_add (j:=j) (k:=k+j+3+m+2) (x:=x) (y:=(y-x)*t) (by omega) (by omega)
 refine ctr_body Tryz.func87 rfl rfl rfl rfl rfl rfl ?_
 intro W0 base D μ0 hA hD
 repeat (first
  | refine aw_seq ?_ | refine aw_block ?_ | refine aw_condT rfl ?_ | refine aw_condF rfl ?_
  | ((first | refine aw_plainK (by kernel_rfl) ?_ | refine aw_drawK (by kernel_rfl) (by kernel_rfl) (by kernel_rfl) ?_)
     repeat (first
      | refine v_load (hl:=?_)
      | refine v_store (hl:=?_)
      | refine v_box (hl:=?_)
      | refine v_alloc (hl:=?_)
      | refine v_callE hA (hc:=S1) (hl:=?_)
      | refine v_callE hA (hc:=M1) (hl:=?_)
      | refine v_callE hA (hc:=A1) (hl:=?_))
     apply RunK.nil;try refine And.intro (by kernel_rfl) ?_)
  | refine aw_skip ?_ | refine aw_exit ?_)
 refine aw_ret (And.intro (Or.inr rfl) ?_)
 exact f_one
theorem t_split {j jt N J:Nat} {l:List Rat} {t:Rat} (hl:l.length=N+1) (hN:N≤1000) (hj:j≤J) (hJ:J≤1000000) (hjt:jt≤1000000) (hr: ∀k i,k+i≤N→RSz J (casR t (1-t) (cf l) k i)):
  Ctr Tryz.prog Amb 17 [.one (rats j l),nm jt t] (.tup [.one (ratT J (N+1) (lowR t (cf l))),.one (ratT J (N+1) (uppR t (cf l) N))]):=by
 obtain ⟨n,hn⟩: ∃n,n=N+1:=⟨_,rfl⟩
 have hln:l.length=n:=by omega
 obtain ⟨L,hL⟩: ∃L,L=tab n (lowR t (cf l)):=⟨_,rfl⟩
 obtain ⟨U,hU⟩: ∃U,U=tab n (uppR t (cf l) N):=⟨_,rfl⟩
 unfold ratT
 rw [←hn,←hL,←hU]
 have hl0:l=tab n (casI t (1-t) (cf l) N 0 0):=by rw [hn,casI_start,←hl];exact (tab_of 0 l).symm
 obtain ⟨f,hf⟩: ∃f,f=cf l:=⟨_,rfl⟩
 rw [←hf] at hr hL hU hl0
 clear hf
 have hn0:0<n:=by omega
 refine ctr_body Tryz.func17 rfl rfl rfl rfl rfl rfl ?_
 intro W0 base D μ0 hA hD
 repeat (first
  | refine aw_seq ?_ | refine aw_block ?_ | refine aw_condT rfl ?_ | refine aw_condF rfl ?_
  | ((first | refine aw_plainK (by kernel_rfl) ?_ | refine aw_drawK (by kernel_rfl) (by kernel_rfl) (by kernel_rfl) ?_)
     repeat (first
      | refine v_move (hl:=?_)
      | refine v_assign (hl:=?_)
      | refine v_load (hl:=?_)
      | refine v_store (hl:=?_)
      | refine v_box (hl:=?_)
      | refine v_bin (hl:=?_)
      | refine v_indexAddr (hl:=?_)
      | refine v_max (hl:=?_)
      | refine v_min (hl:=?_)
      | refine v_len (hl:=?_)
      | refine v_lenS (hl:=?_)
      | refine v_loadF (hl:=?_)
      | refine v_buildL (hl:=?_)
      | refine v_make (cap:=l.length) (by omega) (by omega) (by omega) (hl:=?_))
     apply RunK.nil;try refine And.intro (by kernel_rfl) ?_)
  | refine aw_skip ?_ | refine aw_exit ?_)
 refine aw_plainT 2 (by simp only [List.take_succ_cons,List.take_zero,List.drop_succ_cons,List.drop_zero];exact ⟨rfl,rfl⟩) (by kernel_rfl) ?_
 refine v_build0 (hl:=?_)
 refine v_move (hl:=?_)
 apply RunK.nil
 refine v_app (la:=([]:List Rat)) (f:=nmD j) (k:=18) (ss:= [(3,.one (.ptr 3 0)),(6,errV (l.length:Nat)),(7,.one (.gl 15 l.length 3)),(8,.one (.gl 17 l.length 3))]) (bs:= [(3,nmC jt t),(15,blkL (nmD J) (List.replicate l.length 0)),(17,blkL (nmD J) (List.replicate l.length 0))]) (ns:=blkL (nmD j) l) (hns:=blkL_ns inferInstance _ l) hD ?_ ?_ ?_
 ·exact ⟨by simp;omega,by simp;omega⟩
 ·refine wk_mk ?_ ?_ rfl
  ·repeat (first | exact nil_all | (refine List.forall_mem_cons.2 ⟨?_,?_⟩;focus (first | exact Ent.of_eq rfl | (refine Ent.one' rfl ?_;(first | exact EntC.ratsLe (by omega) | exact EntC.ratsNil | exact EntC.glNil | (refine EntC.int ?_;omega) | (refine EntC.glLen ?_;first | omega | simp) | exact EntC.of_eq rfl | (refine EntC.q rfl ?_;omega) | exact Z0 _ | exact Z2 _ | exact EntC.z0 (k:=0) | exact EntC.z1 (k:=0) | exact EntC.z2 (k:=0) | exact EntC.z0 | exact EntC.z1 | exact EntC.z2)) | (refine Ent.agg' rfl ?_;(repeat (first | exact EntL.nil' rfl | (refine EntL.cons' rfl ?_ ?_;focus (first | exact EntC.ratsLe (by omega) | exact EntC.ratsNil | exact EntC.glNil | (refine EntC.int ?_;omega) | (refine EntC.glLen ?_;first | omega | simp) | exact EntC.of_eq rfl | (refine EntC.q rfl ?_;omega) | exact Z0 _ | exact Z2 _ | exact EntC.z0 (k:=0) | exact EntC.z1 (k:=0) | exact EntC.z2 (k:=0) | exact EntC.z0 | exact EntC.z1 | exact EntC.z2))));done))))
  ·repeat (first | exact nil_all | (refine List.forall_mem_cons.2 ⟨?_,?_⟩;focus (first | exact blk_keep inferInstance | (refine blk_zeros inferInstance ?_;(repeat (first | exact EntL.nil' rfl | (refine EntL.cons' rfl ?_ ?_;focus (first | exact EntC.ratsLe (by omega) | exact EntC.ratsNil | exact EntC.glNil | (refine EntC.int ?_;omega) | (refine EntC.glLen ?_;first | omega | simp) | exact EntC.of_eq rfl | (refine EntC.q rfl ?_;omega) | exact Z0 _ | exact Z2 _ | exact EntC.z0 (k:=0) | exact EntC.z1 (k:=0) | exact EntC.z2 (k:=0) | exact EntC.z0 | exact EntC.z1 | exact EntC.z2))));done) | (refine blk_ok rfl ?_ rfl;focus ((repeat (first | exact EntL.nil' rfl | (refine EntL.cons' rfl ?_ ?_;focus (first | exact EntC.ratsLe (by omega) | exact EntC.ratsNil | exact EntC.glNil | (refine EntC.int ?_;omega) | (refine EntC.glLen ?_;first | omega | simp) | exact EntC.of_eq rfl | (refine EntC.q rfl ?_;omega) | exact Z0 _ | exact Z2 _ | exact EntC.z0 (k:=0) | exact EntC.z1 (k:=0) | exact EntC.z2 (k:=0) | exact EntC.z0 | exact EntC.z1 | exact EntC.z2))));done)))))
 repeat (refine tl_run rfl ?_;refine v_assign (hl:=?_);apply RunK.nil)
 refine tl_nil ?_
 repeat (first
  | refine aw_seq ?_ | refine aw_block ?_ | refine aw_condT rfl ?_ | refine aw_condF rfl ?_
  | ((first | refine aw_plainK (by kernel_rfl) ?_ | refine aw_drawK (by kernel_rfl) (by kernel_rfl) (by kernel_rfl) ?_)
     repeat (first
      | refine v_move (hl:=?_)
      | refine v_assign (hl:=?_)
      | refine v_load (hl:=?_)
      | refine v_store (hl:=?_)
      | refine v_box (hl:=?_)
      | refine v_bin (hl:=?_)
      | refine v_indexAddr (hl:=?_)
      | refine v_max (hl:=?_)
      | refine v_min (hl:=?_)
      | refine v_len (hl:=?_)
      | refine v_lenS (hl:=?_)
      | refine v_loadF (hl:=?_)
      | refine v_buildL (hl:=?_))
     apply RunK.nil;try refine And.intro (by kernel_rfl) ?_)
  | refine aw_skip ?_ | refine aw_exit ?_)
 have hm1:=binSub (k:= .i64) (show (IntKind.i64).wrap ((n:Int)-1)=(N:Int) by rw [show ((n:Int)-1)=(N:Int) by omega];exact IntWalk.i64_in _ (by omega))
 rw [hln]
 refine aw_loop (fun m σ=> ∃(k:Nat) (a b row:List Rat),m=n-k∧k≤n∧a=tab n (fun q=>if q<k then lowR t f q else 0)∧b=tab n (fun q=>if N<q+k then uppR t f N q else 0)∧row=tab n (casI t (1-t) f N k 0)∧Wk ⟨W0,base,D,69,[],μ0⟩ σ [(3,.one (.ptr 3 0)),(6,errV (n:Nat)),(7,.one (.gl 15 n 3)),(8,.one (.gl 17 n 3)),(9,.one (.gl 18 n 3)),(10,errV (k:Nat))] [(3,nmC jt t),(15,blkL (nmD J) a),(17,blkL (nmD J) b),(18,blkL (nmD J) row)]) (n:=n) ⟨0,List.replicate n 0,List.replicate n 0,l,by omega,by omega,tab_rep.trans (tab_congr fun q _=>(if_neg (Nat.not_lt_zero q)).symm),tab_rep.trans (tab_congr fun q hq=>(if_neg (by omega)).symm),hl0,?_⟩ ?_
 ·refine wk_mk ?_ ?_ rfl
  ·repeat (first | exact nil_all | (refine List.forall_mem_cons.2 ⟨?_,?_⟩;focus (first | exact Ent.of_eq rfl | (refine Ent.one' rfl ?_;(first | exact EntC.ratsLe (by omega) | exact EntC.ratsNil | exact EntC.glNil | (refine EntC.int ?_;omega) | (refine EntC.glLen ?_;first | omega | simp) | exact EntC.of_eq rfl | (refine EntC.q rfl ?_;omega) | exact Z0 _ | exact Z2 _ | exact EntC.z0 (k:=0) | exact EntC.z1 (k:=0) | exact EntC.z2 (k:=0) | exact EntC.z0 | exact EntC.z1 | exact EntC.z2)) | (refine Ent.agg' rfl ?_;(repeat (first | exact EntL.nil' rfl | (refine EntL.cons' rfl ?_ ?_;focus (first | exact EntC.ratsLe (by omega) | exact EntC.ratsNil | exact EntC.glNil | (refine EntC.int ?_;omega) | (refine EntC.glLen ?_;first | omega | simp) | exact EntC.of_eq rfl | (refine EntC.q rfl ?_;omega) | exact Z0 _ | exact Z2 _ | exact EntC.z0 (k:=0) | exact EntC.z1 (k:=0) | exact EntC.z2 (k:=0) | exact EntC.z0 | exact EntC.z1 | exact EntC.z2))));done))))
  ·repeat (first | exact nil_all | (refine List.forall_mem_cons.2 ⟨?_,?_⟩;focus (first | exact blk_keep inferInstance | (exact blk_up hj (blk_apps (la:= []) inferInstance)) | (refine blk_ok rfl ?_ rfl;focus ((repeat (first | exact EntL.nil' rfl | (refine EntL.cons' rfl ?_ ?_;focus (first | exact EntC.ratsLe (by omega) | exact EntC.ratsNil | exact EntC.glNil | (refine EntC.int ?_;omega) | (refine EntC.glLen ?_;first | omega | simp) | exact EntC.of_eq rfl | (refine EntC.q rfl ?_;omega) | exact Z0 _ | exact Z2 _ | exact EntC.z0 (k:=0) | exact EntC.z1 (k:=0) | exact EntC.z2 (k:=0) | exact EntC.z0 | exact EntC.z1 | exact EntC.z2))));done)))))
 intro m σ hI
 obtain ⟨k,a,b,row,hm,hk0,ha,hb,hrow,hw⟩:=hI
 refine aw_wk hw ?_
 clear hw hl0
 have hal:a.length=n:=by rw [ha];simp
 have hbl:b.length=n:=by rw [hb];simp
 have hrl:row.length=n:=by rw [hrow];simp
 by_cases hk:k<n
 ·have bk:=binLt (k:= .i64) (decide_eq_true (show (k:Int)<(n:Int) by omega))
  have hnk:=binSub (k:= .i64) (show (IntKind.i64).wrap ((N:Int)-(k:Int))=((N-k:Nat):Int) by rw [show ((N:Int)-(k:Int))=((N-k:Nat):Int) by omega];exact IntWalk.i64_in _ (by omega))
  have hx:row[((0:Nat):Int).toNat]?=some (lowR t f k):=by rw [hrow,show lowR t f k=casI t (1-t) f N k 0 0 from (casI_at (by omega) (Nat.le_refl _)).symm];exact tab_at (by omega)
  have hy:row[((N-k:Nat):Int).toNat]?=some (uppR t f N (N-k)):=by
   have e:uppR t f N (N-k)=casI t (1-t) f N k 0 (N-k):=by rw [casI_at (by omega) (Nat.zero_le _)];unfold uppR;rw [show N-(N-k)=k by omega]
   rw [hrow,e];exact tab_at (by omega)
  have lt0:(0:Int)≤((0:Nat):Int)∧((0:Nat):Int)<(n:Nat):=by omega
  have lt1:(0:Int)≤((k:Nat):Int)∧((k:Nat):Int)<(n:Nat):=by omega
  have lt2:(0:Int)≤((N-k:Nat):Int)∧((N-k:Nat):Int)<(n:Nat):=by omega
  have st0:((0:Nat):Int).toNat*3+3≤(blkL (nmD J) row).length:=by rw [blkL_len (n:=3) inferInstance,Int.toNat_natCast];omega
  have st2:((N-k:Nat):Int).toNat*3+3≤(blkL (nmD J) row).length:=by rw [blkL_len (n:=3) inferInstance,Int.toNat_natCast];omega
  have sa:((k:Nat):Int).toNat*3+3≤(blkL (nmD J) a).length:=by rw [blkL_len (n:=3) inferInstance,Int.toNat_natCast];omega
  have sb:((N-k:Nat):Int).toNat*3+3≤(blkL (nmD J) b).length:=by rw [blkL_len (n:=3) inferInstance,Int.toNat_natCast];omega
  have ld0:=rdL_row (f:=nmD J) (n:=3) inferInstance hx
  have ld2:=rdL_row (f:=nmD J) (n:=3) inferInstance hy
  have hta:a.set k (lowR t f k)=tab n (fun q=>if q<k+1 then lowR t f q else 0):=by
   rw [ha]
   refine tab_set hk (if_pos (by omega)) fun q hq hqk=>?_
   by_cases h1:q<k
   ·rw [if_pos h1,if_pos (by omega)]
   ·rw [if_neg h1,if_neg (by omega)]
  have htb:b.set (N-k) (uppR t f N (N-k))=tab n (fun q=>if N<q+(k+1) then uppR t f N q else 0):=by
   rw [hb]
   refine tab_set (by omega) (if_pos (by omega)) fun q hq hqk=>?_
   by_cases h1:N<q+k
   ·rw [if_pos h1,if_pos (by omega)]
   ·rw [if_neg h1,if_neg (by omega)]
  generalize lowR t f k=x at*
  generalize uppR t f N (N-k)=y at*
  have hdn:=binSub (k:= .i64) (show (IntKind.i64).wrap ((n:Int)-(k:Int))=((n-k:Nat):Int) by rw [show ((n:Int)-(k:Int))=((n-k:Nat):Int) by omega];exact IntWalk.i64_in _ (by omega))
  have hkn:=binAdd (k:= .i64) (show (IntKind.i64).wrap ((k:Int)+1)=((k+1:Nat):Int) from IntWalk.i64_in _ (by omega))
  repeat (first
   | refine aw_seq ?_ | refine aw_block ?_ | refine aw_condT rfl ?_ | refine aw_condF rfl ?_
   | ((first | refine aw_plainK (by kernel_rfl) ?_ | refine aw_drawK (by kernel_rfl) (by kernel_rfl) (by kernel_rfl) ?_)
      repeat (first
       | refine v_storeG (k:=15) sa (hl:=?_)
       | refine v_storeG (k:=17) sb (hl:=?_)
       | refine v_loadG (k:=18) st0 ld0 (hl:=?_)
       | refine v_loadG (k:=18) st2 ld2 (hl:=?_)
       | refine v_move (hl:=?_)
       | refine v_assign (hl:=?_)
       | refine v_load (hl:=?_)
       | refine v_store (hl:=?_)
       | refine v_box (hl:=?_)
       | refine v_bin (hl:=?_)
       | refine v_indexAddr (hl:=?_)
       | refine v_max (hl:=?_)
       | refine v_min (hl:=?_)
       | refine v_len (hl:=?_)
       | refine v_lenS (hl:=?_)
       | refine v_loadF (hl:=?_)
       | refine v_buildL (hl:=?_)
       | refine v_idxG lt0 (hl:=?_)
       | refine v_idxG lt1 (hl:=?_)
       | refine v_idxG lt2 (hl:=?_))
      apply RunK.nil;try refine And.intro (by kernel_rfl) ?_)
   | refine aw_skip ?_ | refine aw_exit ?_)
  refine aw_loop (fun c σ=> ∃(i:Nat) (row:List Rat),c=N-k-i∧i≤N-k∧row=tab n (casI t (1-t) f N k i)∧Wk ⟨W0,base,D,69,[],μ0⟩ σ [(3,.one (.ptr 3 0)),(6,errV (n:Nat)),(7,.one (.gl 15 n 3)),(8,.one (.gl 17 n 3)),(9,.one (.gl 18 n 3)),(10,errV (k:Nat)),(11,errV (i:Nat))] [(3,nmC jt t),(15,blkL (nmD J) (a.set k x)),(17,blkL (nmD J) (b.set (N-k) y)),(18,blkL (nmD J) row)]) (n:=N-k) ⟨0,row,by omega,by omega,hrow,?_⟩ ?_
  ·refine wk_mk ?_ ?_ rfl
   ·repeat (first | exact nil_all | (refine List.forall_mem_cons.2 ⟨?_,?_⟩;focus (first | exact Ent.of_eq rfl | (refine Ent.one' rfl ?_;(first | exact EntC.ratsLe (by omega) | exact EntC.ratsNil | exact EntC.glNil | (refine EntC.int ?_;omega) | (refine EntC.glLen ?_;first | omega | simp) | exact EntC.of_eq rfl | (refine EntC.q rfl ?_;omega) | exact Z0 _ | exact Z2 _ | exact EntC.z0 (k:=0) | exact EntC.z1 (k:=0) | exact EntC.z2 (k:=0) | exact EntC.z0 | exact EntC.z1 | exact EntC.z2)) | (refine Ent.agg' rfl ?_;(repeat (first | exact EntL.nil' rfl | (refine EntL.cons' rfl ?_ ?_;focus (first | exact EntC.ratsLe (by omega) | exact EntC.ratsNil | exact EntC.glNil | (refine EntC.int ?_;omega) | (refine EntC.glLen ?_;first | omega | simp) | exact EntC.of_eq rfl | (refine EntC.q rfl ?_;omega) | exact Z0 _ | exact Z2 _ | exact EntC.z0 (k:=0) | exact EntC.z1 (k:=0) | exact EntC.z2 (k:=0) | exact EntC.z0 | exact EntC.z1 | exact EntC.z2))));done))))
   ·repeat (first | exact nil_all | (refine List.forall_mem_cons.2 ⟨?_,?_⟩;focus (first | exact blk_keep inferInstance | (refine blk_set inferInstance (i:=k) (show k<a.length by omega) ?_;(repeat (first | exact EntL.nil' rfl | (refine EntL.cons' rfl ?_ ?_;focus (first | exact EntC.ratsLe (by omega) | exact EntC.ratsNil | exact EntC.glNil | (refine EntC.int ?_;omega) | (refine EntC.glLen ?_;first | omega | simp) | exact EntC.of_eq rfl | (refine EntC.q rfl ?_;omega) | exact Z0 _ | exact Z2 _ | exact EntC.z0 (k:=0) | exact EntC.z1 (k:=0) | exact EntC.z2 (k:=0) | exact EntC.z0 | exact EntC.z1 | exact EntC.z2))));done) | (refine blk_set inferInstance (i:=N-k) (show N-k<b.length by omega) ?_;(repeat (first | exact EntL.nil' rfl | (refine EntL.cons' rfl ?_ ?_;focus (first | exact EntC.ratsLe (by omega) | exact EntC.ratsNil | exact EntC.glNil | (refine EntC.int ?_;omega) | (refine EntC.glLen ?_;first | omega | simp) | exact EntC.of_eq rfl | (refine EntC.q rfl ?_;omega) | exact Z0 _ | exact Z2 _ | exact EntC.z0 (k:=0) | exact EntC.z1 (k:=0) | exact EntC.z2 (k:=0) | exact EntC.z0 | exact EntC.z1 | exact EntC.z2))));done) | (refine blk_ok rfl ?_ rfl;focus ((repeat (first | exact EntL.nil' rfl | (refine EntL.cons' rfl ?_ ?_;focus (first | exact EntC.ratsLe (by omega) | exact EntC.ratsNil | exact EntC.glNil | (refine EntC.int ?_;omega) | (refine EntC.glLen ?_;first | omega | simp) | exact EntC.of_eq rfl | (refine EntC.q rfl ?_;omega) | exact Z0 _ | exact Z2 _ | exact EntC.z0 (k:=0) | exact EntC.z1 (k:=0) | exact EntC.z2 (k:=0) | exact EntC.z0 | exact EntC.z1 | exact EntC.z2))));done)))))
  clear hx hy ld0 ld2 hrow hrl st0 st2 lt0 lt2 row
  generalize a.set k x=a' at*
  generalize b.set (N-k) y=b' at*
  clear hal hbl sa sb ha hb a b
  intro c σ hI
  obtain ⟨i,row,hc,hi0,hrow,hw⟩:=hI
  refine aw_wk hw ?_
  clear hw
  have hrl:row.length=n:=by rw [hrow];simp
  have hin:=binAdd (k:= .i64) (show (IntKind.i64).wrap ((i:Int)+1)=((i+1:Nat):Int) from IntWalk.i64_in _ (by omega))
  by_cases hi:i<N-k
  ·have bi:=binLt (k:= .i64) (decide_eq_true (show ((i+1:Nat):Int)<((n-k:Nat):Int) by omega))
   have hx:row[((i:Nat):Int).toNat]?=some (casR t (1-t) f k i):=by rw [hrow,←casI_at (u:=t) (d:=1-t) (f:=f) (n:=N) (k:=k) (i:=i) (q:=i) (by omega) (by omega)];exact tab_at (by omega)
   have hy:row[((i+1:Nat):Int).toNat]?=some (casR t (1-t) f k (i+1)):=by rw [hrow,←casI_at (u:=t) (d:=1-t) (f:=f) (n:=N) (k:=k) (i:=i) (q:=i+1) (by omega) (by omega)];exact tab_at (by omega)
   have lt1:(0:Int)≤((i:Nat):Int)∧((i:Nat):Int)<(n:Nat):=by omega
   have lt2:(0:Int)≤((i+1:Nat):Int)∧((i+1:Nat):Int)<(n:Nat):=by omega
   have st1:((i:Nat):Int).toNat*3+3≤(blkL (nmD J) row).length:=by rw [blkL_len (n:=3) inferInstance,Int.toNat_natCast];omega
   have st2:((i+1:Nat):Int).toNat*3+3≤(blkL (nmD J) row).length:=by rw [blkL_len (n:=3) inferInstance,Int.toNat_natCast];omega
   have ld1:=rdL_row (f:=nmD J) (n:=3) inferInstance hx
   have ld2:=rdL_row (f:=nmD J) (n:=3) inferInstance hy
   have B1:=r_between (j:=J) (k:=J) (m:=jt) (x:=casR t (1-t) f k i) (y:=casR t (1-t) f k (i+1)) (t:=t) (by omega) (by omega) (by omega)
   have hz:RSz J (casR t (1-t) f (k+1) i):=hr (k+1) i (by omega)
   have he:casR t (1-t) f (k+1) i=casR t (1-t) f k i+(casR t (1-t) f k (i+1)-casR t (1-t) f k i)*t:=by
    show (1-t)*casR t (1-t) f k i+t*casR t (1-t) f k (i+1)=_
    grind
   have ht:=casI_set (u:=t) (d:=1-t) (f:=f) (n:=N) (k:=k) (i:=i) (by omega) (show casR t (1-t) f k i+(casR t (1-t) f k (i+1)-casR t (1-t) f k i)*t=_ from he.symm)
   rw [←hn,←hrow] at ht
   rw [he] at hz
   clear he
   generalize casR t (1-t) f k i=x at*
   generalize casR t (1-t) f k (i+1)=y at*
   repeat (first
    | refine aw_seq ?_ | refine aw_block ?_ | refine aw_condT rfl ?_ | refine aw_condF rfl ?_
    | ((first | refine aw_plainK (by kernel_rfl) ?_ | refine aw_drawK (by kernel_rfl) (by kernel_rfl) (by kernel_rfl) ?_)
       repeat (first
        | refine v_storeG (k:=18) st1 (hl:=?_)
        | refine v_loadG (k:=18) st1 ld1 (hl:=?_)
        | refine v_loadG (k:=18) st2 ld2 (hl:=?_)
        | refine v_move (hl:=?_)
        | refine v_assign (hl:=?_)
        | refine v_load (hl:=?_)
        | refine v_store (hl:=?_)
        | refine v_box (hl:=?_)
        | refine v_bin (hl:=?_)
        | refine v_indexAddr (hl:=?_)
        | refine v_max (hl:=?_)
        | refine v_min (hl:=?_)
        | refine v_len (hl:=?_)
        | refine v_lenS (hl:=?_)
        | refine v_loadF (hl:=?_)
        | refine v_buildL (hl:=?_)
        | refine v_idxG lt1 (hl:=?_)
        | refine v_idxG lt2 (hl:=?_)
        | refine v_callE hA (hc:=B1) (hl:=?_))
       apply RunK.nil;try refine And.intro (by kernel_rfl) ?_)
    | refine aw_skip ?_ | refine aw_exit ?_)
   refine ⟨c-1,by omega,i+1,row.set i (x+(y-x)*t),by omega,by omega,ht,?_⟩
   refine wk_mk ?_ ?_ rfl
   ·repeat (first | exact nil_all | (refine List.forall_mem_cons.2 ⟨?_,?_⟩;focus (first | exact Ent.of_eq rfl | (refine Ent.one' rfl ?_;(first | exact EntC.ratsLe (by omega) | exact EntC.ratsNil | exact EntC.glNil | (refine EntC.int ?_;omega) | (refine EntC.glLen ?_;first | omega | simp) | exact EntC.qs hz | exact EntC.of_eq rfl | (refine EntC.q rfl ?_;omega) | exact Z0 _ | exact Z2 _ | exact EntC.z0 (k:=0) | exact EntC.z1 (k:=0) | exact EntC.z2 (k:=0) | exact EntC.z0 | exact EntC.z1 | exact EntC.z2)) | (refine Ent.agg' rfl ?_;(repeat (first | exact EntL.nil' rfl | (refine EntL.cons' rfl ?_ ?_;focus (first | exact EntC.ratsLe (by omega) | exact EntC.ratsNil | exact EntC.glNil | (refine EntC.int ?_;omega) | (refine EntC.glLen ?_;first | omega | simp) | exact EntC.qs hz | exact EntC.of_eq rfl | (refine EntC.q rfl ?_;omega) | exact Z0 _ | exact Z2 _ | exact EntC.z0 (k:=0) | exact EntC.z1 (k:=0) | exact EntC.z2 (k:=0) | exact EntC.z0 | exact EntC.z1 | exact EntC.z2))));done))))
   ·repeat (first | exact nil_all | (refine List.forall_mem_cons.2 ⟨?_,?_⟩;focus (first | exact blk_keep inferInstance | (refine blk_set inferInstance (i:=i) (show i<row.length by omega) ?_;(repeat (first | exact EntL.nil' rfl | (refine EntL.cons' rfl ?_ ?_;focus (first | exact EntC.ratsLe (by omega) | exact EntC.ratsNil | exact EntC.glNil | (refine EntC.int ?_;omega) | (refine EntC.glLen ?_;first | omega | simp) | exact EntC.qs hz | exact EntC.of_eq rfl | (refine EntC.q rfl ?_;omega) | exact Z0 _ | exact Z2 _ | exact EntC.z0 (k:=0) | exact EntC.z1 (k:=0) | exact EntC.z2 (k:=0) | exact EntC.z0 | exact EntC.z1 | exact EntC.z2))));done) | (refine blk_ok rfl ?_ rfl;focus ((repeat (first | exact EntL.nil' rfl | (refine EntL.cons' rfl ?_ ?_;focus (first | exact EntC.ratsLe (by omega) | exact EntC.ratsNil | exact EntC.glNil | (refine EntC.int ?_;omega) | (refine EntC.glLen ?_;first | omega | simp) | exact EntC.qs hz | exact EntC.of_eq rfl | (refine EntC.q rfl ?_;omega) | exact Z0 _ | exact Z2 _ | exact EntC.z0 (k:=0) | exact EntC.z1 (k:=0) | exact EntC.z2 (k:=0) | exact EntC.z0 | exact EntC.z1 | exact EntC.z2))));done)))))
  ·have bi:=binLt (k:= .i64) (decide_eq_false (show ¬((i+1:Nat):Int)<((n-k:Nat):Int) by omega))
   obtain rfl:i=N-k:=by omega
   have hrow':row=tab n (casI t (1-t) f N (k+1) 0):=by
    rw [hrow,hn]
    by_cases hkN:k<N
    ·exact casI_step hkN
    ·have:k=N:=by omega
     subst this
     rw [Nat.sub_self]
     exact casI_last
   repeat (first
    | refine aw_seq ?_ | refine aw_block ?_ | refine aw_condT rfl ?_ | refine aw_condF rfl ?_
    | ((first | refine aw_plainK (by kernel_rfl) ?_ | refine aw_drawK (by kernel_rfl) (by kernel_rfl) (by kernel_rfl) ?_)
       repeat (first
        | refine v_move (hl:=?_)
        | refine v_assign (hl:=?_)
        | refine v_load (hl:=?_)
        | refine v_store (hl:=?_)
        | refine v_box (hl:=?_)
        | refine v_bin (hl:=?_)
        | refine v_indexAddr (hl:=?_)
        | refine v_max (hl:=?_)
        | refine v_min (hl:=?_)
        | refine v_len (hl:=?_)
        | refine v_lenS (hl:=?_)
        | refine v_loadF (hl:=?_)
        | refine v_buildL (hl:=?_))
       apply RunK.nil;try refine And.intro (by kernel_rfl) ?_)
    | refine aw_skip ?_ | refine aw_exit ?_)
   refine ⟨m-1,by omega,k+1,a',b',row,by omega,by omega,hta,htb,hrow',?_⟩
   refine wk_mk ?_ ?_ rfl
   ·repeat (first | exact nil_all | (refine List.forall_mem_cons.2 ⟨?_,?_⟩;focus (first | exact Ent.of_eq rfl | (refine Ent.one' rfl ?_;(first | exact EntC.ratsLe (by omega) | exact EntC.ratsNil | exact EntC.glNil | (refine EntC.int ?_;omega) | (refine EntC.glLen ?_;first | omega | simp) | exact EntC.of_eq rfl | (refine EntC.q rfl ?_;omega) | exact Z0 _ | exact Z2 _ | exact EntC.z0 (k:=0) | exact EntC.z1 (k:=0) | exact EntC.z2 (k:=0) | exact EntC.z0 | exact EntC.z1 | exact EntC.z2)) | (refine Ent.agg' rfl ?_;(repeat (first | exact EntL.nil' rfl | (refine EntL.cons' rfl ?_ ?_;focus (first | exact EntC.ratsLe (by omega) | exact EntC.ratsNil | exact EntC.glNil | (refine EntC.int ?_;omega) | (refine EntC.glLen ?_;first | omega | simp) | exact EntC.of_eq rfl | (refine EntC.q rfl ?_;omega) | exact Z0 _ | exact Z2 _ | exact EntC.z0 (k:=0) | exact EntC.z1 (k:=0) | exact EntC.z2 (k:=0) | exact EntC.z0 | exact EntC.z1 | exact EntC.z2))));done))))
   ·repeat (first | exact nil_all | (refine List.forall_mem_cons.2 ⟨?_,?_⟩;focus (first | exact blk_keep inferInstance | (refine blk_ok rfl ?_ rfl;focus ((repeat (first | exact EntL.nil' rfl | (refine EntL.cons' rfl ?_ ?_;focus (first | exact EntC.ratsLe (by omega) | exact EntC.ratsNil | exact EntC.glNil | (refine EntC.int ?_;omega) | (refine EntC.glLen ?_;first | omega | simp) | exact EntC.of_eq rfl | (refine EntC.q rfl ?_;omega) | exact Z0 _ | exact Z2 _ | exact EntC.z0 (k:=0) | exact EntC.z1 (k:=0) | exact EntC.z2 (k:=0) | exact EntC.z0 | exact EntC.z1 | exact EntC.z2))));done)))))
 ·have bk:=binLt (k:= .i64) (decide_eq_false (show ¬(k:Int)<(n:Int) by omega))
  have he1:a=L:=by rw [ha,hL];exact tab_congr fun q hq=>if_pos (by omega)
  have he2:b=U:=by rw [hb,hU];exact tab_congr fun q hq=>if_pos (by omega)
  subst he1
  subst he2
  repeat (first
   | refine aw_seq ?_ | refine aw_block ?_ | refine aw_condT rfl ?_ | refine aw_condF rfl ?_
   | ((first | refine aw_plainK (by kernel_rfl) ?_ | refine aw_drawK (by kernel_rfl) (by kernel_rfl) (by kernel_rfl) ?_)
      repeat (first
       | refine v_move (hl:=?_)
       | refine v_assign (hl:=?_)
       | refine v_load (hl:=?_)
       | refine v_store (hl:=?_)
       | refine v_box (hl:=?_)
       | refine v_bin (hl:=?_)
       | refine v_indexAddr (hl:=?_)
       | refine v_max (hl:=?_)
       | refine v_min (hl:=?_)
       | refine v_len (hl:=?_)
       | refine v_lenS (hl:=?_)
       | refine v_loadF (hl:=?_)
       | refine v_buildL (hl:=?_))
      apply RunK.nil;try refine And.intro (by kernel_rfl) ?_)
   | refine aw_skip ?_ | refine aw_exit ?_)
  refine aw_freeze 15 hD (ss:= [(4,.one (rats J a)),(5,.one (.gl 17 b.length 3))]) (bs:= [(17,blkL (nmD J) b)]) ?_ ?_
  ·rw [hbl,←hal]
   refine fk_mk ?_ ?_ rfl
   ·repeat (first | exact nil_all | (refine List.forall_mem_cons.2 ⟨?_,?_⟩;focus (first | exact fz_blk inferInstance | refine FzA.ent ?_;first | exact Ent.of_eq rfl | (refine Ent.one' rfl ?_;(first | exact EntC.ratsLe (by omega) | exact EntC.ratsNil | exact EntC.glNil | (refine EntC.int ?_;omega) | (refine EntC.glLen ?_;first | omega | simp) | exact EntC.of_eq rfl | (refine EntC.q rfl ?_;omega) | exact Z0 _ | exact Z2 _ | exact EntC.z0 (k:=0) | exact EntC.z1 (k:=0) | exact EntC.z2 (k:=0) | exact EntC.z0 | exact EntC.z1 | exact EntC.z2)) | (refine Ent.agg' rfl ?_;(repeat (first | exact EntL.nil' rfl | (refine EntL.cons' rfl ?_ ?_;focus (first | exact EntC.ratsLe (by omega) | exact EntC.ratsNil | exact EntC.glNil | (refine EntC.int ?_;omega) | (refine EntC.glLen ?_;first | omega | simp) | exact EntC.of_eq rfl | (refine EntC.q rfl ?_;omega) | exact Z0 _ | exact Z2 _ | exact EntC.z0 (k:=0) | exact EntC.z1 (k:=0) | exact EntC.z2 (k:=0) | exact EntC.z0 | exact EntC.z1 | exact EntC.z2))));done))))
   ·repeat (first | exact nil_all | (refine List.forall_mem_cons.2 ⟨?_,?_⟩;focus (first | exact blk_keep inferInstance | (refine blk_ok rfl ?_ rfl;focus ((repeat (first | exact EntL.nil' rfl | (refine EntL.cons' rfl ?_ ?_;focus (first | exact EntC.ratsLe (by omega) | exact EntC.ratsNil | exact EntC.glNil | (refine EntC.int ?_;omega) | (refine EntC.glLen ?_;first | omega | simp) | exact EntC.of_eq rfl | (refine EntC.q rfl ?_;omega) | exact Z0 _ | exact Z2 _ | exact EntC.z0 (k:=0) | exact EntC.z1 (k:=0) | exact EntC.z2 (k:=0) | exact EntC.z0 | exact EntC.z1 | exact EntC.z2))));done)))))
  refine aw_freeze 17 hD (ss:= [(4,.one (rats J a)),(5,.one (rats J b))]) (bs:= []) ?_ ?_
  ·refine fk_mk ?_ ?_ rfl
   ·repeat (first | exact nil_all | (refine List.forall_mem_cons.2 ⟨?_,?_⟩;focus (first | exact fz_blk inferInstance | refine FzA.ent ?_;first | exact Ent.of_eq rfl | (refine Ent.one' rfl ?_;(first | exact EntC.ratsLe (by omega) | exact EntC.ratsNil | exact EntC.glNil | (refine EntC.int ?_;omega) | (refine EntC.glLen ?_;first | omega | simp) | exact EntC.of_eq rfl | (refine EntC.q rfl ?_;omega) | exact Z0 _ | exact Z2 _ | exact EntC.z0 (k:=0) | exact EntC.z1 (k:=0) | exact EntC.z2 (k:=0) | exact EntC.z0 | exact EntC.z1 | exact EntC.z2)) | (refine Ent.agg' rfl ?_;(repeat (first | exact EntL.nil' rfl | (refine EntL.cons' rfl ?_ ?_;focus (first | exact EntC.ratsLe (by omega) | exact EntC.ratsNil | exact EntC.glNil | (refine EntC.int ?_;omega) | (refine EntC.glLen ?_;first | omega | simp) | exact EntC.of_eq rfl | (refine EntC.q rfl ?_;omega) | exact Z0 _ | exact Z2 _ | exact EntC.z0 (k:=0) | exact EntC.z1 (k:=0) | exact EntC.z2 (k:=0) | exact EntC.z0 | exact EntC.z1 | exact EntC.z2))));done))))
   ·repeat (first | exact nil_all | (refine List.forall_mem_cons.2 ⟨?_,?_⟩;focus (first | exact blk_keep inferInstance | (refine blk_ok rfl ?_ rfl;focus ((repeat (first | exact EntL.nil' rfl | (refine EntL.cons' rfl ?_ ?_;focus (first | exact EntC.ratsLe (by omega) | exact EntC.ratsNil | exact EntC.glNil | (refine EntC.int ?_;omega) | (refine EntC.glLen ?_;first | omega | simp) | exact EntC.of_eq rfl | (refine EntC.q rfl ?_;omega) | exact Z0 _ | exact Z2 _ | exact EntC.z0 (k:=0) | exact EntC.z1 (k:=0) | exact EntC.z2 (k:=0) | exact EntC.z0 | exact EntC.z1 | exact EntC.z2))));done)))))
  refine aw_ret (And.intro (Or.inr rfl) ?_)
  exact f_two
end Go.Proofs.YtdgjkohkmdpcdaaGreatDoor
