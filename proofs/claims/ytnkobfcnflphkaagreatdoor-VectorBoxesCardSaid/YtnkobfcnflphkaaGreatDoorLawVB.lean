/-
  VectorBoxes, by contracts.
-/
import Derived.Test.YtnkobfcnflphkaaGreatDoorHo
namespace Go.Proofs.YtnkobfcnflphkaaGreatDoor
open Go.RowKit
set_option linter.unusedVariables false
set_option linter.unusedSimpArgs false
set_option maxRecDepth 20000
set_option maxHeartbeats 4000000
namespace vboxes
theorem light' {l:List Int} {b:Bool} (h:decide ((l.length:Int)≤500)=b):Ctr Tryz.prog Amb 9 [.one (.ints l)] (.one (.v (.bool b))):=h▸d_light l
theorem same_v {j k:Nat} {x:Rat} :Ctr Tryz.prog Amb 19 [nm j x,nm k x] (.one (.v (.bool true))):=r_same' (decide_eq_true rfl)
theorem boxes {L:List P3} (hl:L.length≤6) (hr: ∀p∈L,RS3 2 p): ∃(j1 j2:Nat) (a b c d e f:Rat) (E:Int),j1≤5∧j2≤5∧a≤b∧c≤d∧e≤f∧
  Ctr Tryz.prog Amb 13 [.one (pts 2 L)] (.tup [bx j1 a b c d e f,errV E])∧Ctr Tryz.prog Amb 14 [.one (pts 2 L)] (.tup [bx j2 a b c d e f,errV E]):=by
 cases L with
 | nil=>exact ⟨0,0,0,0,0,0,0,0,1,by decide,by decide,by decide,by decide,by decide,v_boxNil,t_boxNil⟩
 | cons x t=>
   have hlm: ∀(f:P3→Rat),mnA (f x) (t.map f)≤mxA (f x) (t.map f):=fun f=>Rat.le_trans (mnA_le (.inl Rat.le_refl)) (le_mxA (.inl Rat.le_refl))
   have htl:t.length≤6:=by rw [List.length_cons] at hl;omega
   have h1:=v_boxOf (j:=2) (x:=x) (t:=t) (by omega) (by decide)
   have h2:=t_boxOf (j:=2) (x:=x) (t:=t) (by omega) (by decide) hr
   rw [mnF_eq,mxF_eq] at h2
   exact ⟨2+2+1,2,_,_,_,_,_,_,0,by decide,by decide,hlm (·.1),hlm (·.2.1),hlm (·.2.2),h1,h2⟩
theorem meets {j k:Nat} {a b c d e f a' b' c' d' e' f':Rat} (hj:j≤1000000) (hk:k≤1000000) (h1:a≤b) (h2:c≤d) (h3:e≤f) (h4:a'≤b') (h5:c'≤d') (h6:e'≤f'):
  Ctr Tryz.prog Amb 17 [bx j a b c d e f,bx k a' b' c' d' e' f'] (.one (.v (.bool (meB a b a' b'&&meB c d c' d'&&meB e f e' f'))))∧
  Ctr Tryz.prog Amb 18 [bx j a b c d e f,bx k a' b' c' d' e' f'] (.one (.v (.bool (meB a b a' b'&&meB c d c' d'&&meB e f e' f')))):=by
 obtain ⟨_,_,_,s0⟩:=s_meet' (a:=a) (b:=b) (c:=a') (d:=b') hj hk
 obtain ⟨_,_,_,s1⟩:=s_meet' (a:=c) (b:=d) (c:=c') (d:=d') hj hk
 obtain ⟨_,_,_,s2⟩:=s_meet' (a:=e) (b:=f) (c:=e') (d:=f') hj hk
 obtain ⟨_,_,_,t0⟩:=t_meet' (a:=a) (b:=b) (c:=a') (d:=b') hj hk h1 h4
 obtain ⟨_,_,_,t1⟩:=t_meet' (a:=c) (b:=d) (c:=c') (d:=d') hj hk h2 h5
 obtain ⟨_,_,_,t2⟩:=t_meet' (a:=e) (b:=f) (c:=e') (d:=f') hj hk h3 h6
 exact ⟨v_meets0 s0 s1 s2,w_meets0 t0 t1 t2⟩
theorem pt_rs3 (l:List Int) (n:Nat):RS3 2 (pX l n,pY l n,pZ l n):=⟨numb_rsz l _,numb_rsz l _,numb_rsz l _⟩
theorem span_le (l:List Int) (n:Nat):(spanD l n).1≤(spanD l n).2.1:=by
 have:=spanD_le l n
 grind
theorem law {l:List Int} {n:Int} (hb: ∀x∈l,-9223372036854775808≤x∧x<9223372036854775808) (hn1:0≤n) (hn2:n<256):
  Ctr Tryz.prog Amb 3 [.one (.ints l),.one (.v (.int .u8 n))] (.one (.v (.bool true))):=by
 by_cases hL:(l.length:Int)≤500
 ·have hl:l.length≤1000000:=by omega
  have D1:=light' (decide_eq_true hL)
  obtain ⟨m,hm,hm6⟩: ∃m:Nat,n.tmod 6=(m:Int)∧m<6:=⟨(n % 6).toNat,by rw [Int.tmod_eq_emod_of_nonneg hn1];omega,by omega⟩
  have bR:binR .rem .u8 n 6=some (.int .u8 ((m:Nat):Int)):=by
   rw [binRem (by decide),hm]
  have cW:(IntKind.i64).wrap ((m:Nat):Int)=((m:Nat):Int):=IntWalk.i64_in _ (by omega)
  clear hm
  refine ctr_body Tryz.func3 rfl rfl rfl rfl rfl rfl ?_
  intro W0 base D μ0 hA hD
  repeat (first
   | refine aw_seq ?_ | refine aw_block ?_ | refine aw_condT rfl ?_ | refine aw_condF rfl ?_
   | ((first | refine aw_plainK (by kernel_rfl) ?_ | refine aw_drawK (by kernel_rfl) (by kernel_rfl) (by kernel_rfl) ?_)
      repeat (first
       | refine v_skip (hl:=?_)
       | refine v_move (hl:=?_)
       | refine v_assign (hl:=?_)
       | refine v_load (hl:=?_)
       | refine v_store (hl:=?_)
       | refine v_alloc (hl:=?_)
       | refine v_buildS (hl:=?_)
       | refine v_buildA (hl:=?_)
       | refine v_extract (hl:=?_)
       | refine v_bin (hl:=?_)
       | refine v_not (hl:=?_)
       | refine v_pickT (hl:=?_)
       | refine v_pickF (hl:=?_)
       | refine v_convert (hl:=?_)
       | refine v_eqBool (hl:=?_)
       | refine v_max (hl:=?_)
       | refine v_min (hl:=?_)
       | refine v_len (hl:=?_)
       | refine v_loadF (hl:=?_)
       | refine v_buildL (hl:=?_)
       | refine v_callE hA (hc:=D1) (hl:=?_)
       | refine v_callN hA (hc:=d_roll l) (hl:=?_))
      apply RunK.nil;try refine And.intro (by kernel_rfl) ?_)
   | refine aw_skip ?_ | refine aw_exit ?_)
  refine aw_loop (fun c σ=> ∃(i:Nat) (done:List P3) (ps:Nat),c=m-i∧i≤m∧done.length=i∧ps≤l.length∧(∀p∈done,RS3 2 p)∧Wk ⟨W0,base,D,99,[],μ0⟩ σ [(1,.one (.v (.int .u8 n))),(5,.one (.ptr 21 0)),(6,.one (.gl 900 done.length 9)),(7,errV (i:Nat))] [(900,blkL (ptD 2) done),(21,diceC l ps)]) (n:=m) ⟨0,[],0,by omega,by omega,rfl,Nat.zero_le _,fun p hp=>(by cases hp),?_⟩ ?_
  ·refine wk_mk ?_ ?_ rfl
   ·repeat (first | exact nil_all | (refine List.forall_mem_cons.2 ⟨?_,?_⟩;focus (first | exact Ent.of_eq rfl | (refine Ent.one' rfl ?_;(first | exact EntC.ratsLe (by omega) | exact EntC.ratsNil | exact EntC.glNil | (refine EntC.int ?_;omega) | (refine EntC.glLen ?_;first | omega | simp) | exact EntC.of_eq rfl | (refine EntC.q rfl ?_;omega) | exact Z0 _ | exact Z2 _ | exact EntC.z0 (k:=0) | exact EntC.z1 (k:=0) | exact EntC.z2 (k:=0) | exact EntC.z0 | exact EntC.z1 | exact EntC.z2)) | (refine Ent.agg' rfl ?_;(repeat (first | exact EntL.nil' rfl | (refine EntL.cons' rfl ?_ ?_;focus (first | exact EntC.ratsLe (by omega) | exact EntC.ratsNil | exact EntC.glNil | (refine EntC.int ?_;omega) | (refine EntC.glLen ?_;first | omega | simp) | exact EntC.of_eq rfl | (refine EntC.q rfl ?_;omega) | exact Z0 _ | exact Z2 _ | exact EntC.z0 (k:=0) | exact EntC.z1 (k:=0) | exact EntC.z2 (k:=0) | exact EntC.z0 | exact EntC.z1 | exact EntC.z2))));done))))
   ·repeat (first | exact nil_all | (refine List.forall_mem_cons.2 ⟨?_,?_⟩;focus (first | exact blk_keep inferInstance | (refine blk_ok rfl ?_ rfl;focus ((repeat (first | exact EntL.nil' rfl | (refine EntL.cons' rfl ?_ ?_;focus (first | exact EntC.ratsLe (by omega) | exact EntC.ratsNil | exact EntC.glNil | (refine EntC.int ?_;omega) | (refine EntC.glLen ?_;first | omega | simp) | exact EntC.of_eq rfl | (refine EntC.q rfl ?_;omega) | exact Z0 _ | exact Z2 _ | exact EntC.z0 (k:=0) | exact EntC.z1 (k:=0) | exact EntC.z2 (k:=0) | exact EntC.z0 | exact EntC.z1 | exact EntC.z2))));done)))))
  clear D1
  intro c σ hI
  obtain ⟨i,done,ps,hc,hi0,hdl,hps,hdr,hw⟩:=hI
  refine aw_wk hw ?_
  clear hw
  by_cases hi:i<m
  ·have bi:=binLt (k:= .i64) (decide_eq_true (show (i:Int)<((m:Nat):Int) by omega))
   have hin:=binAdd (k:= .i64) (show (IntKind.i64).wrap ((i:Int)+1)=((i+1:Nat):Int) from IntWalk.i64_in _ (by omega))
   have X1:=d_point (k:=21) (n:=ps) hb hl hps
   have hp2:=pN_bd l ps hps
   have hr3:=pt_rs3 l ps
   generalize pX l ps=x at*
   generalize pY l ps=y at*
   generalize pZ l ps=z at*
   generalize pN l ps=ps' at*
   repeat (first
    | refine aw_seq ?_ | refine aw_block ?_ | refine aw_condT rfl ?_ | refine aw_condF rfl ?_
    | ((first | refine aw_plainK (by kernel_rfl) ?_ | refine aw_drawK (by kernel_rfl) (by kernel_rfl) (by kernel_rfl) ?_)
       repeat (first
        | refine v_skip (hl:=?_)
        | refine v_move (hl:=?_)
        | refine v_assign (hl:=?_)
        | refine v_load (hl:=?_)
        | refine v_store (hl:=?_)
        | refine v_alloc (hl:=?_)
        | refine v_buildS (hl:=?_)
        | refine v_buildA (hl:=?_)
        | refine v_extract (hl:=?_)
        | refine v_bin (hl:=?_)
        | refine v_not (hl:=?_)
        | refine v_pickT (hl:=?_)
        | refine v_pickF (hl:=?_)
        | refine v_convert (hl:=?_)
        | refine v_eqBool (hl:=?_)
        | refine v_max (hl:=?_)
        | refine v_min (hl:=?_)
        | refine v_len (hl:=?_)
        | refine v_loadF (hl:=?_)
        | refine v_buildL (hl:=?_))
       apply RunK.nil;try refine And.intro (by kernel_rfl) ?_)
    | refine aw_skip ?_ | refine aw_exit ?_)
   try refine aw_seq ?_
   refine aw_plainT 4 (by simp only [List.take_succ_cons,List.take_zero,List.drop_succ_cons,List.drop_zero];exact ⟨rfl,rfl⟩) (by kernel_rfl) ?_
   repeat (first
    | refine v_skip (hl:=?_)
    | refine v_move (hl:=?_)
    | refine v_assign (hl:=?_)
    | refine v_load (hl:=?_)
    | refine v_store (hl:=?_)
    | refine v_alloc (hl:=?_)
    | refine v_buildS (hl:=?_)
    | refine v_buildA (hl:=?_)
    | refine v_extract (hl:=?_)
    | refine v_bin (hl:=?_)
    | refine v_not (hl:=?_)
    | refine v_pickT (hl:=?_)
    | refine v_pickF (hl:=?_)
    | refine v_convert (hl:=?_)
    | refine v_eqBool (hl:=?_)
    | refine v_max (hl:=?_)
    | refine v_min (hl:=?_)
    | refine v_len (hl:=?_)
    | refine v_loadF (hl:=?_)
    | refine v_buildL (hl:=?_)
    | refine v_callM hA (hc:=X1) (hl:=?_))
   apply RunK.nil
   refine v_app (k:=900) (ss:= [(1,.one (.v (.int .u8 n))),(5,.one (.ptr 21 0)),(7,errV (i:Nat))]) (bs:= [(21,diceC l ps')]) (ns:=(ptC 2 x 2 y 2 z)) hD ?_ ?_ ?_
   ·exact ⟨by omega,by omega⟩
   ·refine wk_mk ?_ ?_ rfl
    ·repeat (first | exact nil_all | (refine List.forall_mem_cons.2 ⟨?_,?_⟩;focus (first | exact Ent.of_eq rfl | (refine Ent.one' rfl ?_;(first | exact EntC.ratsLe (by omega) | exact EntC.ratsNil | exact EntC.glNil | (refine EntC.int ?_;omega) | (refine EntC.glLen ?_;first | omega | simp) | exact EntC.of_eq rfl | (refine EntC.q rfl ?_;omega) | exact Z0 _ | exact Z2 _ | exact EntC.z0 (k:=0) | exact EntC.z1 (k:=0) | exact EntC.z2 (k:=0) | exact EntC.z0 | exact EntC.z1 | exact EntC.z2)) | (refine Ent.agg' rfl ?_;(repeat (first | exact EntL.nil' rfl | (refine EntL.cons' rfl ?_ ?_;focus (first | exact EntC.ratsLe (by omega) | exact EntC.ratsNil | exact EntC.glNil | (refine EntC.int ?_;omega) | (refine EntC.glLen ?_;first | omega | simp) | exact EntC.of_eq rfl | (refine EntC.q rfl ?_;omega) | exact Z0 _ | exact Z2 _ | exact EntC.z0 (k:=0) | exact EntC.z1 (k:=0) | exact EntC.z2 (k:=0) | exact EntC.z0 | exact EntC.z1 | exact EntC.z2))));done))))
    ·repeat (first | exact nil_all | (refine List.forall_mem_cons.2 ⟨?_,?_⟩;focus (first | exact blk_keep inferInstance | (refine blk_ok rfl ?_ rfl;focus ((repeat (first | exact EntL.nil' rfl | (refine EntL.cons' rfl ?_ ?_;focus (first | exact EntC.ratsLe (by omega) | exact EntC.ratsNil | exact EntC.glNil | (refine EntC.int ?_;omega) | (refine EntC.glLen ?_;first | omega | simp) | exact EntC.of_eq rfl | (refine EntC.q rfl ?_;omega) | exact Z0 _ | exact Z2 _ | exact EntC.z0 (k:=0) | exact EntC.z1 (k:=0) | exact EntC.z2 (k:=0) | exact EntC.z0 | exact EntC.z1 | exact EntC.z2))));done)))))
   repeat (refine tl_run rfl ?_;(first | refine v_assign (hl:=?_) | refine v_move (hl:=?_) | refine v_store (hl:=?_));apply RunK.nil)
   refine tl_nil ?_
   repeat (first
    | refine aw_seq ?_ | refine aw_block ?_ | refine aw_condT rfl ?_ | refine aw_condF rfl ?_
    | ((first | refine aw_plainK (by kernel_rfl) ?_ | refine aw_drawK (by kernel_rfl) (by kernel_rfl) (by kernel_rfl) ?_)
       repeat (first
        | refine v_skip (hl:=?_)
        | refine v_move (hl:=?_)
        | refine v_assign (hl:=?_)
        | refine v_load (hl:=?_)
        | refine v_store (hl:=?_)
        | refine v_alloc (hl:=?_)
        | refine v_buildS (hl:=?_)
        | refine v_buildA (hl:=?_)
        | refine v_extract (hl:=?_)
        | refine v_bin (hl:=?_)
        | refine v_not (hl:=?_)
        | refine v_pickT (hl:=?_)
        | refine v_pickF (hl:=?_)
        | refine v_convert (hl:=?_)
        | refine v_eqBool (hl:=?_)
        | refine v_max (hl:=?_)
        | refine v_min (hl:=?_)
        | refine v_len (hl:=?_)
        | refine v_loadF (hl:=?_)
        | refine v_buildL (hl:=?_))
       apply RunK.nil;try refine And.intro (by kernel_rfl) ?_)
    | refine aw_skip ?_ | refine aw_exit ?_)
   refine ⟨c-1,by omega,i+1,done++ [(x,y,z)],ps',by omega,by omega,by simp;omega,hp2,fun p hp=>?_,?_⟩
   ·rcases List.mem_append.1 hp with h | h
    ·exact hdr p h
    ·rw [List.mem_singleton.1 h];exact hr3
   refine wk_mk ?_ ?_ rfl
   ·repeat (first | exact nil_all | (refine List.forall_mem_cons.2 ⟨?_,?_⟩;focus (first | exact Ent.of_eq rfl | (refine Ent.one' rfl ?_;(first | exact EntC.ratsLe (by omega) | exact EntC.ratsNil | exact EntC.glNil | (refine EntC.int ?_;omega) | (refine EntC.glLen ?_;first | omega | simp) | exact EntC.of_eq rfl | (refine EntC.q rfl ?_;omega) | exact Z0 _ | exact Z2 _ | exact EntC.z0 (k:=0) | exact EntC.z1 (k:=0) | exact EntC.z2 (k:=0) | exact EntC.z0 | exact EntC.z1 | exact EntC.z2)) | (refine Ent.agg' rfl ?_;(repeat (first | exact EntL.nil' rfl | (refine EntL.cons' rfl ?_ ?_;focus (first | exact EntC.ratsLe (by omega) | exact EntC.ratsNil | exact EntC.glNil | (refine EntC.int ?_;omega) | (refine EntC.glLen ?_;first | omega | simp) | exact EntC.of_eq rfl | (refine EntC.q rfl ?_;omega) | exact Z0 _ | exact Z2 _ | exact EntC.z0 (k:=0) | exact EntC.z1 (k:=0) | exact EntC.z2 (k:=0) | exact EntC.z0 | exact EntC.z1 | exact EntC.z2))));done))))
   ·repeat (first | exact nil_all | (refine List.forall_mem_cons.2 ⟨?_,?_⟩;focus (first | exact blk_keep inferInstance | (refine blk_app inferInstance ?_;(repeat (first | exact EntL.nil' rfl | (refine EntL.cons' rfl ?_ ?_;focus (first | exact EntC.ratsLe (by omega) | exact EntC.ratsNil | exact EntC.glNil | (refine EntC.int ?_;omega) | (refine EntC.glLen ?_;first | omega | simp) | exact EntC.of_eq rfl | (refine EntC.q rfl ?_;omega) | exact Z0 _ | exact Z2 _ | exact EntC.z0 (k:=0) | exact EntC.z1 (k:=0) | exact EntC.z2 (k:=0) | exact EntC.z0 | exact EntC.z1 | exact EntC.z2))));done) | (refine blk_ok rfl ?_ rfl;focus ((repeat (first | exact EntL.nil' rfl | (refine EntL.cons' rfl ?_ ?_;focus (first | exact EntC.ratsLe (by omega) | exact EntC.ratsNil | exact EntC.glNil | (refine EntC.int ?_;omega) | (refine EntC.glLen ?_;first | omega | simp) | exact EntC.of_eq rfl | (refine EntC.q rfl ?_;omega) | exact Z0 _ | exact Z2 _ | exact EntC.z0 (k:=0) | exact EntC.z1 (k:=0) | exact EntC.z2 (k:=0) | exact EntC.z0 | exact EntC.z1 | exact EntC.z2))));done)))))
  ·obtain rfl:i=m:=by omega
   have bi:=binLt (k:= .i64) (decide_eq_false (show ¬(i:Int)<((i:Nat):Int) by omega))
   repeat (first
    | refine aw_seq ?_ | refine aw_block ?_ | refine aw_condT rfl ?_ | refine aw_condF rfl ?_
    | ((first | refine aw_plainK (by kernel_rfl) ?_ | refine aw_drawK (by kernel_rfl) (by kernel_rfl) (by kernel_rfl) ?_)
       repeat (first
        | refine v_skip (hl:=?_)
        | refine v_move (hl:=?_)
        | refine v_assign (hl:=?_)
        | refine v_load (hl:=?_)
        | refine v_store (hl:=?_)
        | refine v_alloc (hl:=?_)
        | refine v_buildS (hl:=?_)
        | refine v_buildA (hl:=?_)
        | refine v_extract (hl:=?_)
        | refine v_bin (hl:=?_)
        | refine v_not (hl:=?_)
        | refine v_pickT (hl:=?_)
        | refine v_pickF (hl:=?_)
        | refine v_convert (hl:=?_)
        | refine v_eqBool (hl:=?_)
        | refine v_max (hl:=?_)
        | refine v_min (hl:=?_)
        | refine v_len (hl:=?_)
        | refine v_loadF (hl:=?_)
        | refine v_buildL (hl:=?_))
       apply RunK.nil;try refine And.intro (by kernel_rfl) ?_)
    | refine aw_skip ?_ | refine aw_exit ?_)
   refine aw_freeze 900 hD (ss:= [(5,.one (.ptr 21 0)),(6,.one (pts 2 done))]) (bs:= [(21,diceC l ps)]) ?_ ?_
   ·refine fk_mk ?_ ?_ rfl
    ·repeat (first | exact nil_all | (refine List.forall_mem_cons.2 ⟨?_,?_⟩;focus (first | exact fz_blk inferInstance | refine FzA.ent ?_;first | exact Ent.of_eq rfl | (refine Ent.one' rfl ?_;(first | exact EntC.ratsLe (by omega) | exact EntC.ratsNil | exact EntC.glNil | (refine EntC.int ?_;omega) | (refine EntC.glLen ?_;first | omega | simp) | exact EntC.of_eq rfl | (refine EntC.q rfl ?_;omega) | exact Z0 _ | exact Z2 _ | exact EntC.z0 (k:=0) | exact EntC.z1 (k:=0) | exact EntC.z2 (k:=0) | exact EntC.z0 | exact EntC.z1 | exact EntC.z2)) | (refine Ent.agg' rfl ?_;(repeat (first | exact EntL.nil' rfl | (refine EntL.cons' rfl ?_ ?_;focus (first | exact EntC.ratsLe (by omega) | exact EntC.ratsNil | exact EntC.glNil | (refine EntC.int ?_;omega) | (refine EntC.glLen ?_;first | omega | simp) | exact EntC.of_eq rfl | (refine EntC.q rfl ?_;omega) | exact Z0 _ | exact Z2 _ | exact EntC.z0 (k:=0) | exact EntC.z1 (k:=0) | exact EntC.z2 (k:=0) | exact EntC.z0 | exact EntC.z1 | exact EntC.z2))));done))))
    ·repeat (first | exact nil_all | (refine List.forall_mem_cons.2 ⟨?_,?_⟩;focus (first | exact blk_keep inferInstance | (refine blk_ok rfl ?_ rfl;focus ((repeat (first | exact EntL.nil' rfl | (refine EntL.cons' rfl ?_ ?_;focus (first | exact EntC.ratsLe (by omega) | exact EntC.ratsNil | exact EntC.glNil | (refine EntC.int ?_;omega) | (refine EntC.glLen ?_;first | omega | simp) | exact EntC.of_eq rfl | (refine EntC.q rfl ?_;omega) | exact Z0 _ | exact Z2 _ | exact EntC.z0 (k:=0) | exact EntC.z1 (k:=0) | exact EntC.z2 (k:=0) | exact EntC.z0 | exact EntC.z1 | exact EntC.z2))));done)))))
   clear bi bR cW
   obtain ⟨j1,j2,a,b,c,d,e,f,E,hj1,hj2,ho1,ho2,ho3,B1,B2⟩:=boxes (L:=done) (by omega) hdr
   clear hdr
   repeat (first
    | refine aw_seq ?_ | refine aw_block ?_ | refine aw_condT rfl ?_ | refine aw_condF rfl ?_
    | ((first | refine aw_plainK (by kernel_rfl) ?_ | refine aw_drawK (by kernel_rfl) (by kernel_rfl) (by kernel_rfl) ?_)
       repeat (first
        | refine v_skip (hl:=?_)
        | refine v_move (hl:=?_)
        | refine v_assign (hl:=?_)
        | refine v_load (hl:=?_)
        | refine v_store (hl:=?_)
        | refine v_alloc (hl:=?_)
        | refine v_buildS (hl:=?_)
        | refine v_buildA (hl:=?_)
        | refine v_extract (hl:=?_)
        | refine v_bin (hl:=?_)
        | refine v_not (hl:=?_)
        | refine v_pickT (hl:=?_)
        | refine v_pickF (hl:=?_)
        | refine v_convert (hl:=?_)
        | refine v_eqBool (hl:=?_)
        | refine v_max (hl:=?_)
        | refine v_min (hl:=?_)
        | refine v_len (hl:=?_)
        | refine v_loadF (hl:=?_)
        | refine v_buildL (hl:=?_)
        | refine v_callE hA (hc:=B1) (hl:=?_)
        | refine v_callE hA (hc:=B2) (hl:=?_))
       apply RunK.nil;try refine And.intro (by kernel_rfl) ?_)
    | refine aw_skip ?_ | refine aw_exit ?_)
   refine aw_wk (ss:= [(5,.one (.ptr 21 0)),(8,.one (.ptr 8 0)),(9,errV E),(10,.one (.ptr 10 0)),(11,errV E)]) (bs:= [(21,diceC l ps),(8,bxC j1 a b j1 c d j1 e f),(10,bxC j2 a b j2 c d j2 e f)]) ?_ ?_
   ·refine wk_mk ?_ ?_ rfl
    ·repeat (first | exact nil_all | (refine List.forall_mem_cons.2 ⟨?_,?_⟩;focus (first | exact Ent.of_eq rfl | (refine Ent.one' rfl ?_;(first | exact EntC.ratsLe (by omega) | exact EntC.ratsNil | exact EntC.glNil | (refine EntC.int ?_;omega) | (refine EntC.glLen ?_;first | omega | simp) | exact EntC.of_eq rfl | (refine EntC.q rfl ?_;omega) | exact Z0 _ | exact Z2 _ | exact EntC.z0 (k:=0) | exact EntC.z1 (k:=0) | exact EntC.z2 (k:=0) | exact EntC.z0 | exact EntC.z1 | exact EntC.z2)) | (refine Ent.agg' rfl ?_;(repeat (first | exact EntL.nil' rfl | (refine EntL.cons' rfl ?_ ?_;focus (first | exact EntC.ratsLe (by omega) | exact EntC.ratsNil | exact EntC.glNil | (refine EntC.int ?_;omega) | (refine EntC.glLen ?_;first | omega | simp) | exact EntC.of_eq rfl | (refine EntC.q rfl ?_;omega) | exact Z0 _ | exact Z2 _ | exact EntC.z0 (k:=0) | exact EntC.z1 (k:=0) | exact EntC.z2 (k:=0) | exact EntC.z0 | exact EntC.z1 | exact EntC.z2))));done))))
    ·repeat (first | exact nil_all | (refine List.forall_mem_cons.2 ⟨?_,?_⟩;focus (first | exact blk_keep inferInstance | (exact blk_ok (by kernel_rfl) (EntL.of_eq (by kernel_rfl)) (by kernel_rfl)) | (refine blk_ok rfl ?_ rfl;focus ((repeat (first | exact EntL.nil' rfl | (refine EntL.cons' rfl ?_ ?_;focus (first | exact EntC.ratsLe (by omega) | exact EntC.ratsNil | exact EntC.glNil | (refine EntC.int ?_;omega) | (refine EntC.glLen ?_;first | omega | simp) | exact EntC.of_eq rfl | (refine EntC.q rfl ?_;omega) | exact Z0 _ | exact Z2 _ | exact EntC.z0 (k:=0) | exact EntC.z1 (k:=0) | exact EntC.z2 (k:=0) | exact EntC.z0 | exact EntC.z1 | exact EntC.z2))));done)))))
   clear B1 B2
   have N1:=d_span (k:=21) (n:=ps) hb hl hps
   have q1:=span_le l ps
   have hps1:=spanD_bd l ps hps
   generalize (spanD l ps).1=c0 at*
   generalize (spanD l ps).2.1=c1 at*
   generalize (spanD l ps).2.2=p1 at*
   have N2:=d_span (k:=21) (n:=p1) hb hl hps1
   have q2:=span_le l p1
   have hps2:=spanD_bd l p1 hps1
   generalize (spanD l p1).1=c2 at*
   generalize (spanD l p1).2.1=c3 at*
   generalize (spanD l p1).2.2=p2 at*
   have N3:=d_span (k:=21) (n:=p2) hb hl hps2
   have q3:=span_le l p2
   have hps3:=spanD_bd l p2 hps2
   generalize (spanD l p2).1=c4 at*
   generalize (spanD l p2).2.1=c5 at*
   generalize (spanD l p2).2.2=p3 at*
   repeat (first
    | refine aw_seq ?_ | refine aw_block ?_ | refine aw_condT rfl ?_ | refine aw_condF rfl ?_
    | ((first | refine aw_plainK (by kernel_rfl) ?_ | refine aw_drawK (by kernel_rfl) (by kernel_rfl) (by kernel_rfl) ?_)
       repeat (first
        | refine v_skip (hl:=?_)
        | refine v_move (hl:=?_)
        | refine v_assign (hl:=?_)
        | refine v_load (hl:=?_)
        | refine v_store (hl:=?_)
        | refine v_alloc (hl:=?_)
        | refine v_buildS (hl:=?_)
        | refine v_buildA (hl:=?_)
        | refine v_extract (hl:=?_)
        | refine v_bin (hl:=?_)
        | refine v_not (hl:=?_)
        | refine v_pickT (hl:=?_)
        | refine v_pickF (hl:=?_)
        | refine v_convert (hl:=?_)
        | refine v_eqBool (hl:=?_)
        | refine v_max (hl:=?_)
        | refine v_min (hl:=?_)
        | refine v_len (hl:=?_)
        | refine v_loadF (hl:=?_)
        | refine v_buildL (hl:=?_)
        | refine v_callM hA (hc:=N1) (hl:=?_)
        | refine v_callM hA (hc:=N2) (hl:=?_)
        | refine v_callM hA (hc:=N3) (hl:=?_))
       apply RunK.nil;try refine And.intro (by kernel_rfl) ?_)
    | refine aw_skip ?_ | refine aw_exit ?_)
   refine aw_wk (ss:= [(5,.one (.ptr 21 0)),(8,.one (.ptr 8 0)),(9,errV E),(10,.one (.ptr 10 0)),(11,errV E),(12,.one (.ptr 12 0))]) (bs:= [(21,diceC l p3),(8,bxC j1 a b j1 c d j1 e f),(10,bxC j2 a b j2 c d j2 e f),(12,bxC 5 c0 c1 5 c2 c3 5 c4 c5)]) ?_ ?_
   ·refine wk_mk ?_ ?_ rfl
    ·repeat (first | exact nil_all | (refine List.forall_mem_cons.2 ⟨?_,?_⟩;focus (first | exact Ent.of_eq rfl | (refine Ent.one' rfl ?_;(first | exact EntC.ratsLe (by omega) | exact EntC.ratsNil | exact EntC.glNil | (refine EntC.int ?_;omega) | (refine EntC.glLen ?_;first | omega | simp) | exact EntC.of_eq rfl | (refine EntC.q rfl ?_;omega) | exact Z0 _ | exact Z2 _ | exact EntC.z0 (k:=0) | exact EntC.z1 (k:=0) | exact EntC.z2 (k:=0) | exact EntC.z0 | exact EntC.z1 | exact EntC.z2)) | (refine Ent.agg' rfl ?_;(repeat (first | exact EntL.nil' rfl | (refine EntL.cons' rfl ?_ ?_;focus (first | exact EntC.ratsLe (by omega) | exact EntC.ratsNil | exact EntC.glNil | (refine EntC.int ?_;omega) | (refine EntC.glLen ?_;first | omega | simp) | exact EntC.of_eq rfl | (refine EntC.q rfl ?_;omega) | exact Z0 _ | exact Z2 _ | exact EntC.z0 (k:=0) | exact EntC.z1 (k:=0) | exact EntC.z2 (k:=0) | exact EntC.z0 | exact EntC.z1 | exact EntC.z2))));done))))
    ·repeat (first | exact nil_all | (refine List.forall_mem_cons.2 ⟨?_,?_⟩;focus (first | exact blk_keep inferInstance | (exact blk_ok (by kernel_rfl) (EntL.of_eq (by kernel_rfl)) (by kernel_rfl)) | (refine blk_ok rfl ?_ rfl;focus ((repeat (first | exact EntL.nil' rfl | (refine EntL.cons' rfl ?_ ?_;focus (first | exact EntC.ratsLe (by omega) | exact EntC.ratsNil | exact EntC.glNil | (refine EntC.int ?_;omega) | (refine EntC.glLen ?_;first | omega | simp) | exact EntC.of_eq rfl | (refine EntC.q rfl ?_;omega) | exact Z0 _ | exact Z2 _ | exact EntC.z0 (k:=0) | exact EntC.z1 (k:=0) | exact EntC.z2 (k:=0) | exact EntC.z0 | exact EntC.z1 | exact EntC.z2))));done)))))
   clear N1 N2 N3
   obtain ⟨M1,M2⟩:=meets (j:=j2) (k:=5) (a:=a) (b:=b) (c:=c) (d:=d) (e:=e) (f:=f) (a':=c0) (b':=c1) (c':=c2) (d':=c3) (e':=c4) (f':=c5) (by omega) (by decide) ho1 ho2 ho3 q1 q2 q3
   generalize (meB a b c0 c1&&meB c d c2 c3&&meB e f c4 c5)=mm at M1 M2
   have X1:=d_point (k:=21) (n:=p3) hb hl hps3
   have hp4:=pN_bd l p3 hps3
   generalize pX l p3=x0 at*
   generalize pY l p3=x1 at*
   generalize pZ l p3=x2 at*
   generalize pN l p3=p4 at*
   have X2:=d_point (k:=21) (n:=p4) hb hl hp4
   have hp5:=pN_bd l p4 hp4
   generalize pX l p4=y0 at*
   generalize pY l p4=y1 at*
   generalize pZ l p4=y2 at*
   generalize pN l p4=p5 at*
   have X3:=d_point (k:=21) (n:=p5) hb hl hp5
   generalize pX l p5=z0 at*
   generalize pY l p5=z1 at*
   generalize pZ l p5=z2 at*
   generalize pN l p5=p6 at*
   repeat (first
    | refine aw_seq ?_ | refine aw_block ?_ | refine aw_condT rfl ?_ | refine aw_condF rfl ?_
    | ((first | refine aw_plainK (by kernel_rfl) ?_ | refine aw_drawK (by kernel_rfl) (by kernel_rfl) (by kernel_rfl) ?_)
       repeat (first
        | refine v_skip (hl:=?_)
        | refine v_move (hl:=?_)
        | refine v_assign (hl:=?_)
        | refine v_load (hl:=?_)
        | refine v_store (hl:=?_)
        | refine v_alloc (hl:=?_)
        | refine v_buildS (hl:=?_)
        | refine v_buildA (hl:=?_)
        | refine v_extract (hl:=?_)
        | refine v_bin (hl:=?_)
        | refine v_not (hl:=?_)
        | refine v_pickT (hl:=?_)
        | refine v_pickF (hl:=?_)
        | refine v_convert (hl:=?_)
        | refine v_eqBool (hl:=?_)
        | refine v_max (hl:=?_)
        | refine v_min (hl:=?_)
        | refine v_len (hl:=?_)
        | refine v_loadF (hl:=?_)
        | refine v_buildL (hl:=?_)
        | refine v_callM hA (hc:=X1) (hl:=?_)
        | refine v_callM hA (hc:=X2) (hl:=?_)
        | refine v_callM hA (hc:=X3) (hl:=?_))
       apply RunK.nil;try refine And.intro (by kernel_rfl) ?_)
    | refine aw_skip ?_ | refine aw_exit ?_)
   refine aw_wk (ss:= [(8,.one (.ptr 8 0)),(9,errV E),(10,.one (.ptr 10 0)),(11,errV E),(12,.one (.ptr 12 0)),(13,.one (.ptr 13 0)),(14,.one (.ptr 14 0)),(15,.one (.ptr 15 0))]) (bs:= [(8,bxC j1 a b j1 c d j1 e f),(10,bxC j2 a b j2 c d j2 e f),(12,bxC 5 c0 c1 5 c2 c3 5 c4 c5),(13,ptC 2 x0 2 x1 2 x2),(14,ptC 2 y0 2 y1 2 y2),(15,ptC 2 z0 2 z1 2 z2)]) ?_ ?_
   ·refine wk_mk ?_ ?_ rfl
    ·repeat (first | exact nil_all | (refine List.forall_mem_cons.2 ⟨?_,?_⟩;focus (first | exact Ent.of_eq rfl | (refine Ent.one' rfl ?_;(first | exact EntC.ratsLe (by omega) | exact EntC.ratsNil | exact EntC.glNil | (refine EntC.int ?_;omega) | (refine EntC.glLen ?_;first | omega | simp) | exact EntC.of_eq rfl | (refine EntC.q rfl ?_;omega) | exact Z0 _ | exact Z2 _ | exact EntC.z0 (k:=0) | exact EntC.z1 (k:=0) | exact EntC.z2 (k:=0) | exact EntC.z0 | exact EntC.z1 | exact EntC.z2)) | (refine Ent.agg' rfl ?_;(repeat (first | exact EntL.nil' rfl | (refine EntL.cons' rfl ?_ ?_;focus (first | exact EntC.ratsLe (by omega) | exact EntC.ratsNil | exact EntC.glNil | (refine EntC.int ?_;omega) | (refine EntC.glLen ?_;first | omega | simp) | exact EntC.of_eq rfl | (refine EntC.q rfl ?_;omega) | exact Z0 _ | exact Z2 _ | exact EntC.z0 (k:=0) | exact EntC.z1 (k:=0) | exact EntC.z2 (k:=0) | exact EntC.z0 | exact EntC.z1 | exact EntC.z2))));done))))
    ·repeat (first | exact nil_all | (refine List.forall_mem_cons.2 ⟨?_,?_⟩;focus (first | exact blk_keep inferInstance | (exact blk_ok (by kernel_rfl) (EntL.of_eq (by kernel_rfl)) (by kernel_rfl)) | (refine blk_ok rfl ?_ rfl;focus ((repeat (first | exact EntL.nil' rfl | (refine EntL.cons' rfl ?_ ?_;focus (first | exact EntC.ratsLe (by omega) | exact EntC.ratsNil | exact EntC.glNil | (refine EntC.int ?_;omega) | (refine EntC.glLen ?_;first | omega | simp) | exact EntC.of_eq rfl | (refine EntC.q rfl ?_;omega) | exact Z0 _ | exact Z2 _ | exact EntC.z0 (k:=0) | exact EntC.z1 (k:=0) | exact EntC.z2 (k:=0) | exact EntC.z0 | exact EntC.z1 | exact EntC.z2))));done)))))
   clear X1 X2 X3
   have bE:=binEq (k:= .i64) (decide_eq_true (rfl:E=E))
   have S1:=v_segment (a:=x0) (b:=x1) (c:=x2) (x:=y0) (y:=y1) (z:=y2) (u:=z0) (v:=z1) (w:=z2)
   have S2:=w_segment (a:=x0) (b:=x1) (c:=x2) (x:=y0) (y:=y1) (z:=y2) (u:=z0) (v:=z1) (w:=z2)
   have S3:=v_segment (a:=x0) (b:=x1) (c:=x2) (x:=x0) (y:=x1) (z:=x2) (u:=z0) (v:=z1) (w:=z2)
   have S4:=w_segment (a:=x0) (b:=x1) (c:=x2) (x:=x0) (y:=x1) (z:=x2) (u:=z0) (v:=z1) (w:=z2)
   generalize segQ x0 x1 x2 y0 y1 y2 z0 z1 z2=s1 at S1 S2
   generalize segQ x0 x1 x2 x0 x1 x2 z0 z1 z2=s2 at S3 S4
   have SB:=w_sameBox (j:=j1) (k:=j2) (a:=a) (b:=b) (c:=c) (d:=d) (e:=e) (f:=f)
   have E1:=same_v (j:=1000) (k:=1000) (x:=s1)
   have E2:=same_v (j:=1000) (k:=1000) (x:=s2)
   repeat (first
    | refine aw_seq ?_ | refine aw_block ?_ | refine aw_condT rfl ?_ | refine aw_condF rfl ?_
    | ((first | refine aw_plainK (by kernel_rfl) ?_ | refine aw_drawK (by kernel_rfl) (by kernel_rfl) (by kernel_rfl) ?_)
       repeat (first
        | refine v_skip (hl:=?_)
        | refine v_move (hl:=?_)
        | refine v_assign (hl:=?_)
        | refine v_load (hl:=?_)
        | refine v_store (hl:=?_)
        | refine v_alloc (hl:=?_)
        | refine v_buildS (hl:=?_)
        | refine v_buildA (hl:=?_)
        | refine v_extract (hl:=?_)
        | refine v_bin (hl:=?_)
        | refine v_not (hl:=?_)
        | refine v_pickT (hl:=?_)
        | refine v_pickF (hl:=?_)
        | refine v_convert (hl:=?_)
        | refine v_eqB (hl:=?_)
        | refine v_max (hl:=?_)
        | refine v_min (hl:=?_)
        | refine v_len (hl:=?_)
        | refine v_loadF (hl:=?_)
        | refine v_buildL (hl:=?_)
        | refine v_callE hA (hc:=SB) (hl:=?_)
        | refine v_callE hA (hc:=M1) (hl:=?_)
        | refine v_callE hA (hc:=M2) (hl:=?_)
        | refine v_callE hA (hc:=S1) (hl:=?_)
        | refine v_callE hA (hc:=S2) (hl:=?_)
        | refine v_callE hA (hc:=S3) (hl:=?_)
        | refine v_callE hA (hc:=S4) (hl:=?_)
        | refine v_callE hA (hc:=E1) (hl:=?_)
        | refine v_callE hA (hc:=E2) (hl:=?_)
        | refine v_callE hA (hc:=awake_ok) (hl:=?_))
       apply RunK.nil;try refine And.intro (by kernel_rfl) ?_)
    | refine aw_skip ?_ | refine aw_exit ?_)
   refine aw_ret (And.intro (Or.inr rfl) ?_)
   exact f_one
 ·have D1:=light' (decide_eq_false hL)
  refine ctr_body Tryz.func3 rfl rfl rfl rfl rfl rfl ?_
  intro W0 base D μ0 hA hD
  repeat (first
   | refine aw_seq ?_ | refine aw_block ?_ | refine aw_condT rfl ?_ | refine aw_condF rfl ?_
   | ((first | refine aw_plainK (by kernel_rfl) ?_ | refine aw_drawK (by kernel_rfl) (by kernel_rfl) (by kernel_rfl) ?_)
      repeat (first
       | refine v_skip (hl:=?_)
       | refine v_move (hl:=?_)
       | refine v_assign (hl:=?_)
       | refine v_load (hl:=?_)
       | refine v_store (hl:=?_)
       | refine v_alloc (hl:=?_)
       | refine v_buildS (hl:=?_)
       | refine v_buildA (hl:=?_)
       | refine v_extract (hl:=?_)
       | refine v_bin (hl:=?_)
       | refine v_not (hl:=?_)
       | refine v_pickT (hl:=?_)
       | refine v_pickF (hl:=?_)
       | refine v_convert (hl:=?_)
       | refine v_eqBool (hl:=?_)
       | refine v_max (hl:=?_)
       | refine v_min (hl:=?_)
       | refine v_len (hl:=?_)
       | refine v_loadF (hl:=?_)
       | refine v_buildL (hl:=?_)
       | refine v_callE hA (hc:=D1) (hl:=?_)
       | refine v_callE hA (hc:=awake_ok) (hl:=?_))
      apply RunK.nil;try refine And.intro (by kernel_rfl) ?_)
   | refine aw_skip ?_ | refine aw_exit ?_)
  refine aw_ret (And.intro (Or.inr rfl) ?_)
  exact f_one
end vboxes
end Go.Proofs.YtnkobfcnflphkaaGreatDoor
