/-
  KnotsCheck, by contracts.
-/
import Derived.Test.YtkmalkcgkcpcmaaGreatDoorIb
import Derived.Test.YtkmalkcgkcpcmaaGreatDoorId
import Derived.Test.YtkmalkcgkcpcmaaGreatDoorIc
import Derived.Test.YtkmalkcgkcpcmaaGreatDoorGs
import Derived.Test.YtkmalkcgkcpcmaaGreatDoorIg
namespace Go.Proofs.YtkmalkcgkcpcmaaGreatDoor
open Go.RowKit
set_option linter.unusedVariables false
set_option linter.unusedSimpArgs false
set_option maxRecDepth 20000
set_option maxHeartbeats 4000000
namespace kcheck
theorem light' {l:List Int} {b:Bool} (h:decide ((l.length:Int)≤500)=b):Ctr Tryz.prog Amb 10 [.one (.ints l)] (.one (.v (.bool b))):=h▸d_light l
theorem awake8:Ctr Tryz.prog Amb 11 [] (.one (.v (.bool true))):=s_awake8 (by
 have h:=s_clamped (l:=kn7) (j:=2) (p:=2) (by decide) (by decide)
 rwa [show ((runL kn7).all fun x=>okR kn7.length 2 x.1)=true by decide+kernel] at h)
theorem law {l:List Int} {i j m n:Int} (hb: ∀x∈l,-9223372036854775808≤x∧x<9223372036854775808) (hi1: -9223372036854775808≤i) (hi2:i<9223372036854775808) (hj1: -9223372036854775808≤j) (hj2:j<9223372036854775808) (hm1: -9223372036854775808≤m) (hm2:m<9223372036854775808) (hn1: -9223372036854775808≤n) (hn2:n<9223372036854775808):
  Ctr Tryz.prog Amb 3 [.one (.ints l),.one (.v (.int .i64 i)),.one (.v (.int .i64 j)),.one (.v (.int .i64 m)),.one (.v (.int .i64 n))] (.one (.v (.bool true))):=by
 have hA8:=awake8
 by_cases hL:(l.length:Int)≤500
 ·have hl:l.length≤1000000:=by omega
  have D1:=light' (decide_eq_true hL)
  have M1:=d_made hb hl
  have hp:=mdP_bd l
  obtain ⟨k1,k2⟩:2*mdP l+2≤(mdK l).length∧(mdK l).length≤2*mdP l+2+6:=knR_low (l:=l) (p:=mdP l) (inner:=6) (n:=(nxt l 0 5).2)
  have C1:=s_checkB (j:=50) (p:=mdP l) (l:=mdK l) (by decide) (by omega) (by omega) (s_clamped (by omega) (by omega))
  rw [made_chk] at C1
  generalize mdK l=K at*
  generalize mdP l=p at*
  have P1:=s_poles (j:=50) (p:=p) (l:=K) (by omega) (by omega)
  have P2:=t_poles8 (j:=50) (p:=p) (l:=K) (by omega) (by omega)
  have b0:=binNe (k:= .i64) (decide_eq_false (show ¬((0:Int)≠0) from fun h=>h rfl))
  have b1:=binNe (k:= .i64) (decide_eq_false (show ¬(((K.length-p-1:Nat):Int)≠((K.length-p-1:Nat):Int)) from fun h=>h rfl))
  obtain ⟨v0,A1,A2⟩:=both_chk (j:=50) (p:=i) (l:=K) (by decide) (by omega)
  have b2:=binNe (k:= .i64) (decide_eq_false (show ¬(v0≠v0) from fun h=>h rfl))
  have N1:=d_mod (n:=j) (m:=((K.length:Nat):Int)) hj1 hj2 (by omega) (by omega)
  obtain ⟨q,hq⟩: ∃q:Nat,j % ((K.length:Nat):Int)=(q:Int):=⟨(j % ((K.length:Nat):Int)).toNat,by have:=Int.emod_nonneg j (show ((K.length:Nat):Int)≠0 by omega);omega⟩
  have hqK:q<K.length:=by have:=Int.emod_lt_of_pos j (show (0:Int)<((K.length:Nat):Int) by omega);omega
  rw [hq] at N1
  have N2:=d_mod (n:=j) (m:=((K.length+1:Nat):Int)) hj1 hj2 (by omega) (by omega)
  obtain ⟨c,hc⟩: ∃c:Nat,j % ((K.length+1:Nat):Int)=(c:Int):=⟨(j % ((K.length+1:Nat):Int)).toNat,by have:=Int.emod_nonneg j (show ((K.length+1:Nat):Int)≠0 by omega);omega⟩
  have hcK:c≤K.length:=by have:=Int.emod_lt_of_pos j (show (0:Int)<((K.length+1:Nat):Int) by omega);omega
  rw [hc] at N2
  have aK:=binAdd (k:= .i64) (show (IntKind.i64).wrap (((K.length:Nat):Int)+1)=((K.length+1:Nat):Int) from IntWalk.i64_in _ (by omega))
  have R1:=d_rat (n:=m) (d:=1) hm1 hm2 (by decide) (by decide)
  generalize ratM m 1=u at*
  have N3:=d_mod (n:=n) (m:=10) hn1 hn2 (by decide) (by decide)
  obtain ⟨M,hM⟩: ∃M:Nat,36+n % 10=(M:Int):=⟨(36+n % 10).toNat,by omega⟩
  have hMb:36≤M∧M≤45:=by omega
  have aM:binR .add .i64 36 (n % 10)=some (.int .i64 (M:Int)):=binAdd (k:= .i64) (by rw [hM];exact IntWalk.i64_in _ (by omega))
  generalize n % 10=n' at*
  obtain ⟨X,hX⟩: ∃X,X=K.set q u:=⟨_,rfl⟩
  have hXl:X.length=K.length:=by rw [hX,List.length_set]
  obtain ⟨vx,X1,X2⟩:=both_chk (j:=50) (p:=((p:Nat):Int)) (l:=X) (by decide) (by omega)
  have e1:=binEq (k:= .i64) (decide_eq_true (rfl:vx=vx))
  obtain ⟨Y,hY⟩: ∃Y,Y=(K.take c).drop 0:=⟨_,rfl⟩
  have hYl:Y.length=c:=by rw [hY,List.drop_zero,List.length_take];omega
  obtain ⟨vy,Y1,Y2⟩:=both_chk (j:=50) (p:=((p:Nat):Int)) (l:=Y) (by decide) (by omega)
  have e2:=binEq (k:= .i64) (decide_eq_true (rfl:vy=vy))
  refine ctr_body Tryz.func3 rfl rfl rfl rfl rfl rfl ?_
  intro W0 base D μ0 hA hD
  repeat (first | refine aw_seq ?_ | refine aw_block ?_ | refine aw_condT rfl ?_ | refine aw_condF rfl ?_ | refine aw_pa ?_ | refine aw_da ?_ | refine aw_skip ?_ | refine aw_exit ?_)
  try refine aw_seq ?_
  refine aw_plainK (by kernel_rfl) ?_
  repeat (first
   | refine v_build0 (hl:=?_)
   | refine v_skip (hl:=?_)
   | refine v_move (hl:=?_)
   | refine v_assign (hl:=?_)
   | refine v_load (hl:=?_)
   | refine v_store (hl:=?_)
   | refine v_buildS (hl:=?_)
   | refine v_buildA (hl:=?_)
   | refine v_extract (hl:=?_)
   | refine v_bin (hl:=?_)
   | refine v_indexAddr (hl:=?_)
   | refine v_not (hl:=?_)
   | refine v_pickT (hl:=?_)
   | refine v_pickF (hl:=?_)
   | refine v_eqBool (hl:=?_)
   | refine v_max (hl:=?_)
   | refine v_min (hl:=?_)
   | refine v_len (hl:=?_)
   | refine v_lenS (hl:=?_)
   | refine v_loadF (hl:=?_)
   | refine v_buildL (hl:=?_)
   | refine v_call hA (hc:=OLD) (hl:=?_))
  refine v_app0 (f:=nmD 50) (la:=K) ⟨_,rfl⟩ (by omega) (by omega) (by omega) inferInstance (hl:=?_)
  repeat (first
   | refine v_skip (hl:=?_)
   | refine v_move (hl:=?_)
   | refine v_assign (hl:=?_)
   | refine v_load (hl:=?_)
   | refine v_store (hl:=?_)
   | refine v_buildS (hl:=?_)
   | refine v_buildA (hl:=?_)
   | refine v_extract (hl:=?_)
   | refine v_bin (hl:=?_)
   | refine v_indexAddr (hl:=?_)
   | refine v_not (hl:=?_)
   | refine v_pickT (hl:=?_)
   | refine v_pickF (hl:=?_)
   | refine v_eqBool (hl:=?_)
   | refine v_max (hl:=?_)
   | refine v_min (hl:=?_)
   | refine v_len (hl:=?_)
   | refine v_lenS (hl:=?_)
   | refine v_loadF (hl:=?_)
   | refine v_buildL (hl:=?_)
   | refine v_call hA (hc:=OLD) (hl:=?_))
  apply RunK.nil
  refine aw_wk (ss:= [(2,.one (.v (.int .i64 j))),(3,.one (.v (.int .i64 m))),(4,.one (.v (.int .i64 n))),(11,.one (rats 50 K)),(12,errV (p:Nat)),(13,.one (.gl 51 K.length 3))]) (bs:= [(51,blkL (nmD 50) K)]) ?_ ?_
  ·exact wk_a
  have lt1:(0:Int)≤((q:Nat):Int)∧((q:Nat):Int)<(K.length:Nat):=by omega
  have hbl:(blkL (nmD 50) K).length=K.length*3:=by rw [blkL_len (n:=3) inferInstance]
  have st1:((q:Nat):Int).toNat*3+3≤(blkL (nmD 50) K).length:=by rw [hbl,Int.toNat_natCast];omega
  try refine aw_seq ?_
  refine aw_plainK (by kernel_rfl) ?_
  repeat (first
   | refine v_storeG (k:=51) st1 (hl:=?_)
   | refine v_skip (hl:=?_)
   | refine v_move (hl:=?_)
   | refine v_assign (hl:=?_)
   | refine v_load (hl:=?_)
   | refine v_store (hl:=?_)
   | refine v_buildS (hl:=?_)
   | refine v_buildA (hl:=?_)
   | refine v_extract (hl:=?_)
   | refine v_bin (hl:=?_)
   | refine v_indexAddr (hl:=?_)
   | refine v_not (hl:=?_)
   | refine v_pickT (hl:=?_)
   | refine v_pickF (hl:=?_)
   | refine v_eqBool (hl:=?_)
   | refine v_max (hl:=?_)
   | refine v_min (hl:=?_)
   | refine v_len (hl:=?_)
   | refine v_lenS (hl:=?_)
   | refine v_loadF (hl:=?_)
   | refine v_buildL (hl:=?_)
   | refine v_call hA (hc:=OLD) (hl:=?_)
   | refine v_callE hA (hc:=N1) (hl:=?_)
   | refine v_callE hA (hc:=R1) (hl:=?_)
   | refine v_idxG lt1 (hl:=?_))
  apply RunK.nil
  refine aw_wk (ss:= [(2,.one (.v (.int .i64 j))),(4,.one (.v (.int .i64 n))),(11,.one (rats 50 K)),(12,errV (p:Nat)),(13,.one (.gl 51 X.length 3))]) (bs:= [(51,blkL (nmD 50) X)]) ?_ ?_
  ·rw [hX]
   refine wk_mk ?_ ?_ (by kernel_rfl)
   ·repeat (first | exact nil_all | (refine List.forall_mem_cons.2 ⟨?_,?_⟩;focus (first | exact Ent.of_eq (by with_reducible rfl) | exact Ent.one' rfl (EntC.glLen (by rw [List.length_set])) | exact Ent.of_eq (by kernel_rfl))))
   ·refine List.forall_mem_cons.2 ⟨blk_set inferInstance (i:=q) (show q<K.length by omega) (cs:=nmC 2 u) (.cons (EntC.q rfl (by decide)) (.cons (EntC.q rfl (by decide)) (.cons (EntC.q rfl (by decide)) .nil))) (hz:=by exact rfl) (hm:=by kernel_rfl),?_⟩
    repeat (first | exact nil_all | refine List.forall_mem_cons.2 ⟨blk_ok (by kernel_rfl) (EntL.of_eq (by kernel_rfl)) (by kernel_rfl),?_⟩)
  refine aw_freeze 51 hD (ss:= [(2,.one (.v (.int .i64 j))),(4,.one (.v (.int .i64 n))),(11,.one (rats 50 K)),(12,errV (p:Nat)),(13,.one (rats 50 X))]) (bs:= []) ?_ ?_
  ·exact fz_a
  try refine aw_seq ?_
  refine aw_plainT 8 (by simp only [List.take_succ_cons,List.take_zero,List.drop_succ_cons,List.drop_zero];exact ⟨rfl,rfl⟩) (by kernel_rfl) ?_
  repeat (first
   | refine v_build0 (hl:=?_)
   | refine v_skip (hl:=?_)
   | refine v_move (hl:=?_)
   | refine v_assign (hl:=?_)
   | refine v_load (hl:=?_)
   | refine v_store (hl:=?_)
   | refine v_buildS (hl:=?_)
   | refine v_buildA (hl:=?_)
   | refine v_extract (hl:=?_)
   | refine v_bin (hl:=?_)
   | refine v_indexAddr (hl:=?_)
   | refine v_not (hl:=?_)
   | refine v_pickT (hl:=?_)
   | refine v_pickF (hl:=?_)
   | refine v_eqBool (hl:=?_)
   | refine v_max (hl:=?_)
   | refine v_min (hl:=?_)
   | refine v_len (hl:=?_)
   | refine v_lenS (hl:=?_)
   | refine v_loadF (hl:=?_)
   | refine v_buildL (hl:=?_)
   | refine v_call hA (hc:=OLD) (hl:=?_)
   | refine v_callE hA (hc:=N2) (hl:=?_)
   | refine v_part (la:=K) (f:=nmD 50) (a:=0) (b:=c) (by omega) (by omega) .none (.some rfl rfl) (hl:=?_))
  apply RunK.nil
  rw [←hY]
  refine v_app (k:=60) (f:=nmD 50) (la:= []) (ss:= [(4,.one (.v (.int .i64 n))),(12,errV (p:Nat)),(13,.one (rats 50 X))]) (bs:= []) (ns:=blkL (nmD 50) Y) (hns:=blkL_ns inferInstance _ Y) hD ?_ ?_ ?_
  ·exact ⟨by simp;omega,by simp;omega⟩
  ·exact wk_a
  repeat (refine tl_run rfl ?_;(first | refine v_assign (hl:=?_) | refine v_move (hl:=?_) | refine v_store (hl:=?_));apply RunK.nil)
  refine tl_nil ?_
  have hYl0:([]:List Rat).length+Y.length=Y.length:=by simp
  refine aw_wk (ss:= [(4,.one (.v (.int .i64 n))),(12,errV (p:Nat)),(13,.one (rats 50 X)),(14,.one (.gl 60 Y.length 3))]) (bs:= [(60,blkL (nmD 50) Y)]) ?_ ?_
  ·refine wk_mk ?_ ?_ rfl
   ·repeat (first | exact nil_all | (refine List.forall_mem_cons.2 ⟨?_,?_⟩;focus (first | exact Ent.of_eq rfl | exact Ent.one' rfl (EntC.glLen hYl0))))
   ·exact List.forall_mem_cons.2 ⟨blk_apps (la:=([]:List Rat)) inferInstance,nil_all⟩
  refine aw_freeze 60 hD (ss:= [(4,.one (.v (.int .i64 n))),(12,errV (p:Nat)),(13,.one (rats 50 X)),(14,.one (rats 50 Y))]) (bs:= []) ?_ ?_
  ·exact fz_a
  clear M1 D1 C1 P1 P2 A1 A2 N1 N2 R1 hX hY
  repeat (first | refine aw_seq ?_ | refine aw_block ?_ | refine aw_condT rfl ?_ | refine aw_condF rfl ?_ | refine aw_pa ?_ | refine aw_da ?_ | refine aw_skip ?_ | refine aw_exit ?_)
  refine aw_loop (fun k σ=> ∃(r:Nat) (Z:List Rat),k=M-r∧r≤M∧Z.length=r∧Wk ⟨W0,base,D,126,[],μ0⟩ σ [(4,.one (.v (.int .i64 n))),(12,errV (p:Nat)),(13,.one (rats 50 X)),(14,.one (rats 50 Y)),(15,.one (.gl 900 Z.length 3)),(16,errV (r:Nat))] [(900,blkL (nmD 2) Z)]) (n:=M) ⟨0,[],by omega,by omega,rfl,?_⟩ ?_
  ·exact wk_a
  intro k σ hI
  obtain ⟨r,Z,hk,hr0,hZ,hw⟩:=hI
  refine aw_wk hw ?_
  clear hw
  by_cases hr:r<M
  ·have bi:=binLt (k:= .i64) (decide_eq_true (show (r:Int)<(M:Int) by omega))
   have hin:=binAdd (k:= .i64) (show (IntKind.i64).wrap ((r:Int)+1)=((r+1:Nat):Int) from IntWalk.i64_in _ (by omega))
   have J1:=r_int (n:=(r:Int)) (by rw [decide_eq_true (show-9223372036854775808≤(r:Int) by omega),decide_eq_true (show (r:Int)<9223372036854775808 by omega)];rfl)
   generalize ((r:Int):Rat)=x at*
   repeat (first
    | refine aw_seq ?_ | refine aw_block ?_ | refine aw_condT rfl ?_ | refine aw_condF rfl ?_
    | ((first | refine aw_plainK (by kernel_rfl) ?_ | refine aw_drawK (by kernel_rfl) (by kernel_rfl) (by kernel_rfl) ?_)
       repeat (first
        | refine v_skip (hl:=?_)
        | refine v_move (hl:=?_)
        | refine v_assign (hl:=?_)
        | refine v_load (hl:=?_)
        | refine v_store (hl:=?_)
        | refine v_buildS (hl:=?_)
        | refine v_buildA (hl:=?_)
        | refine v_extract (hl:=?_)
        | refine v_bin (hl:=?_)
        | refine v_indexAddr (hl:=?_)
        | refine v_not (hl:=?_)
        | refine v_pickT (hl:=?_)
        | refine v_pickF (hl:=?_)
        | refine v_eqBool (hl:=?_)
        | refine v_max (hl:=?_)
        | refine v_min (hl:=?_)
        | refine v_len (hl:=?_)
        | refine v_lenS (hl:=?_)
        | refine v_loadF (hl:=?_)
        | refine v_buildL (hl:=?_)
        | refine v_callE hA (hc:=N3) (hl:=?_))
       apply RunK.nil;try refine And.intro (by kernel_rfl) ?_)
    | refine aw_skip ?_ | refine aw_exit ?_)
   try refine aw_seq ?_
   refine aw_plainT 4 (by simp only [List.take_succ_cons,List.take_zero,List.drop_succ_cons,List.drop_zero];exact ⟨rfl,rfl⟩) (by kernel_rfl) ?_
   repeat (first
    | refine v_skip (hl:=?_)
    | refine v_move (hl:=?_)
    | refine v_assign (hl:=?_)
    | refine v_load (hl:=?_)
    | refine v_store (hl:=?_)
    | refine v_buildS (hl:=?_)
    | refine v_buildA (hl:=?_)
    | refine v_extract (hl:=?_)
    | refine v_bin (hl:=?_)
    | refine v_indexAddr (hl:=?_)
    | refine v_not (hl:=?_)
    | refine v_pickT (hl:=?_)
    | refine v_pickF (hl:=?_)
    | refine v_eqBool (hl:=?_)
    | refine v_max (hl:=?_)
    | refine v_min (hl:=?_)
    | refine v_len (hl:=?_)
    | refine v_lenS (hl:=?_)
    | refine v_loadF (hl:=?_)
    | refine v_buildL (hl:=?_)
    | refine v_callE hA (hc:=J1) (hl:=?_))
   apply RunK.nil
   refine v_app (k:=900) (ss:= [(4,.one (.v (.int .i64 n))),(12,errV (p:Nat)),(13,.one (rats 50 X)),(14,.one (rats 50 Y)),(16,errV (r:Nat))]) (bs:= []) (ns:=(nmC 2 x)) hD ?_ ?_ ?_
   ·exact ⟨by omega,by omega⟩
   ·exact wk_a
   repeat (refine tl_run rfl ?_;(first | refine v_assign (hl:=?_) | refine v_move (hl:=?_) | refine v_store (hl:=?_));apply RunK.nil)
   refine tl_nil ?_
   repeat (first | refine aw_seq ?_ | refine aw_block ?_ | refine aw_condT rfl ?_ | refine aw_condF rfl ?_ | refine aw_pa ?_ | refine aw_da ?_ | refine aw_skip ?_ | refine aw_exit ?_)
   refine ⟨k-1,by omega,r+1,Z++ [x],by omega,by omega,by simp [hZ],?_⟩
   exact wk_a
  obtain rfl:r=M:=by omega
  have bi:=binLt (k:= .i64) (decide_eq_false (show ¬(r:Int)<(r:Int) by omega))
  repeat (first
   | refine aw_seq ?_ | refine aw_block ?_ | refine aw_condT rfl ?_ | refine aw_condF rfl ?_
   | ((first | refine aw_plainK (by kernel_rfl) ?_ | refine aw_drawK (by kernel_rfl) (by kernel_rfl) (by kernel_rfl) ?_)
      repeat (first
       | refine v_skip (hl:=?_)
       | refine v_move (hl:=?_)
       | refine v_assign (hl:=?_)
       | refine v_load (hl:=?_)
       | refine v_store (hl:=?_)
       | refine v_buildS (hl:=?_)
       | refine v_buildA (hl:=?_)
       | refine v_extract (hl:=?_)
       | refine v_bin (hl:=?_)
       | refine v_indexAddr (hl:=?_)
       | refine v_not (hl:=?_)
       | refine v_pickT (hl:=?_)
       | refine v_pickF (hl:=?_)
       | refine v_eqBool (hl:=?_)
       | refine v_max (hl:=?_)
       | refine v_min (hl:=?_)
       | refine v_len (hl:=?_)
       | refine v_lenS (hl:=?_)
       | refine v_loadF (hl:=?_)
       | refine v_buildL (hl:=?_)
       | refine v_callE hA (hc:=N3) (hl:=?_))
      apply RunK.nil;try refine And.intro (by kernel_rfl) ?_)
   | refine aw_skip ?_ | refine aw_exit ?_)
  refine aw_freeze 900 hD (ss:= [(12,errV (p:Nat)),(13,.one (rats 50 X)),(14,.one (rats 50 Y)),(15,.one (rats 2 Z)),(17,errV 0)]) (bs:= []) ?_ ?_
  ·exact fz_a
  clear N3 aM bi
  refine aw_loop (fun k σ=> ∃(t:Nat) (Z:List Rat),k=p-t∧t≤p∧Z.length=r+2*t∧Wk ⟨W0,base,D,126,[],μ0⟩ σ [(12,errV (p:Nat)),(13,.one (rats 50 X)),(14,.one (rats 50 Y)),(15,.one (rats 2 Z)),(17,errV (t:Nat))] []) (n:=p) ⟨0,Z,by omega,by omega,by omega,?_⟩ ?_
  ·exact wk_a
  clear hZ hk hr0 hr Z k
  intro k σ hI
  obtain ⟨t,Z,hk,ht0,hZ,hw⟩:=hI
  refine aw_wk hw ?_
  clear hw
  by_cases ht:t<p
  ·have bi:=binLt (k:= .i64) (decide_eq_true (show (t:Int)<(p:Int) by omega))
   have hin:=binAdd (k:= .i64) (show (IntKind.i64).wrap ((t:Int)+1)=((t+1:Nat):Int) from IntWalk.i64_in _ (by omega))
   have s1:=binSub (k:= .i64) (show (IntKind.i64).wrap ((Z.length:Int)-1)=((Z.length-1:Nat):Int) by rw [show (Z.length:Int)-1=((Z.length-1:Nat):Int) by omega];exact IntWalk.i64_in _ (by omega))
   obtain ⟨x,hx,hx'⟩:=get_at (l:=Z) (i:=Z.length-1) (by omega)
   repeat (first
    | refine aw_seq ?_ | refine aw_block ?_ | refine aw_condT rfl ?_ | refine aw_condF rfl ?_
    | ((first | refine aw_plainK (by kernel_rfl) ?_ | refine aw_drawK (by kernel_rfl) (by kernel_rfl) (by kernel_rfl) ?_)
       repeat (first
        | refine v_skip (hl:=?_)
        | refine v_move (hl:=?_)
        | refine v_assign (hl:=?_)
        | refine v_load (hl:=?_)
        | refine v_store (hl:=?_)
        | refine v_buildS (hl:=?_)
        | refine v_buildA (hl:=?_)
        | refine v_extract (hl:=?_)
        | refine v_bin (hl:=?_)
        | refine v_indexAddr (hl:=?_)
        | refine v_not (hl:=?_)
        | refine v_pickT (hl:=?_)
        | refine v_pickF (hl:=?_)
        | refine v_eqBool (hl:=?_)
        | refine v_max (hl:=?_)
        | refine v_min (hl:=?_)
        | refine v_len (hl:=?_)
        | refine v_lenS (hl:=?_)
        | refine v_loadF (hl:=?_)
        | refine v_buildL (hl:=?_))
       apply RunK.nil;try refine And.intro (by kernel_rfl) ?_)
    | refine aw_skip ?_ | refine aw_exit ?_)
   refine aw_drawT 11 (by simp only [List.take_succ_cons,List.take_zero,List.drop_succ_cons,List.drop_zero];exact ⟨rfl,rfl⟩) (by kernel_rfl) (by kernel_rfl) (by kernel_rfl) (by kernel_rfl) (by kernel_rfl) ?_
   refine v_buildS (hl:=?_)
   refine v_buildX (hl:=?_)
   refine v_move (hl:=?_)
   refine v_appX (f:=nmD 2) (la:=Z) (k:=87) (off:=0) (len:=1) (cap:=1) (os:= [.v (.bool false),.v (.slice none 0 0),.v (.slice none 0 0)]) ⟨_,rfl⟩ rfl (by omega) (Nat.le_refl _) (fun i c h=>by rw [Nat.zero_mul,Nat.zero_add];exact rowX_laid i c h) (by intro h;cases h) (hl:=?_)
   repeat (first
    | refine v_skip (hl:=?_)
    | refine v_move (hl:=?_)
    | refine v_assign (hl:=?_)
    | refine v_load (hl:=?_)
    | refine v_store (hl:=?_)
    | refine v_buildS (hl:=?_)
    | refine v_buildA (hl:=?_)
    | refine v_extract (hl:=?_)
    | refine v_bin (hl:=?_)
    | refine v_indexAddr (hl:=?_)
    | refine v_not (hl:=?_)
    | refine v_pickT (hl:=?_)
    | refine v_pickF (hl:=?_)
    | refine v_eqBool (hl:=?_)
    | refine v_max (hl:=?_)
    | refine v_min (hl:=?_)
    | refine v_len (hl:=?_)
    | refine v_lenS (hl:=?_)
    | refine v_loadF (hl:=?_)
    | refine v_buildL (hl:=?_)
    | refine v_call hA (hc:=OLD) (hl:=?_)
    | refine v_idx hx (by omega) (hl:=?_))
   apply RunK.nil
   refine And.intro (by kernel_rfl) ?_
   obtain ⟨os,hos⟩: ∃os:List C,os= [.v (.bool false),.v (.slice none 0 0),.v (.slice none 0 0)]++blkL (nmD 2) Z:=⟨_,rfl⟩
   have hol:os.length=(1+Z.length)*3:=by rw [hos,List.length_append,blkL_len (n:=3) (f:=nmD 2) inferInstance];show 3+Z.length*3=_;omega
   have q9: ∀cs:List C,(cs.all fun c=>nlB c&&inC [] c)=true→ ∀c∈cs,nl c∧inC ([]:List Nat) c=true:=fun cs h c hc=>by
    have:=List.all_eq_true.1 h c hc
    rw [Bool.and_eq_true] at this
    exact ⟨nlB_ok this.1,this.2⟩
   have hin9: ∀c∈os++nmC 2 x,nl c∧inC ([]:List Nat) c=true:=fun c hc=>by
    rw [hos] at hc
    rcases List.mem_append.1 hc with h | h
    ·rcases List.mem_append.1 h with h | h
     ·exact q9 _ rfl c h
     ·exact ⟨blkL_nl (n:=3) (f:=nmD 2) inferInstance Z c h,List.all_eq_true.1 (blkL_in _ Z) c h⟩
    ·exact q9 _ rfl c h
   refine tl_stp rfl (stp_append (k:=89) (len:=1+Z.length) (m:=1) (os:=os) (ns:=nmC 2 x) (ss:= [(12,errV (p:Nat)),(13,.one (rats 50 X)),(14,.one (rats 50 Y)),(17,errV (t:Nat))]) (bs:= []) ⟨_,rfl⟩ hD (show 97<126 by decide) rfl .gl rfl (by first | exact srcs_new | exact .ls) hol ?_ ?_ (by omega) (by omega) ?_ rfl hin9 (show 89∉([]:List Nat) from List.not_mem_nil)) ?_
   ·rw [←hol,hos];exact Nat.le_refl _
   ·rw [hos];exact rowX_laid
   ·exact wk_a
   repeat (refine tl_run rfl ?_;(first | refine v_assign (hl:=?_) | refine v_move (hl:=?_) | refine v_store (hl:=?_));apply RunK.nil)
   refine tl_nil ?_
   obtain ⟨W,hW⟩: ∃W,W=(0:Rat)::Z++ [x]:=⟨_,rfl⟩
   have hWl:1+Z.length+1=W.length:=by rw [hW];simp;omega
   refine aw_wk (ss:= [(12,errV (p:Nat)),(13,.one (rats 50 X)),(14,.one (rats 50 Y)),(17,errV (t:Nat)),(15,.one (.gl 89 W.length 3))]) (bs:= [(89,blkL (nmD 2) W)]) ?_ ?_
   ·refine wk_mk ?_ ?_ rfl
    ·repeat (first | exact nil_all | (refine List.forall_mem_cons.2 ⟨?_,?_⟩;focus (first | exact Ent.of_eq rfl | exact Ent.one' rfl (EntC.glLen hWl))))
    ·refine List.forall_mem_cons.2 ⟨?_,nil_all⟩
     have e:blkL (nmD 2) W=nmC 2 0++blkL (nmD 2) Z++nmC 2 x:=by rw [hW,show blkL (nmD 2) ((0:Rat)::Z++ [x])=blkL (nmD 2) (0::Z)++(nmD 2 x).map toC by simp [blkL]];rfl
     rw [e]
     refine blk_more (os:=os++nmC 2 x) (by rw [hos];exact entL_append (entL_append (.cons EntC.z0 (.cons EntC.z1 (.cons EntC.z2 .nil))) entL_self) entL_self) (fun c hc=>blkL_nl (n:=3) (f:=nmD 2) inferInstance W c (by rw [e];exact hc)) (by rw [←e];exact blkL_in _ W)
   refine aw_freeze 89 hD (ss:= [(12,errV (p:Nat)),(13,.one (rats 50 X)),(14,.one (rats 50 Y)),(17,errV (t:Nat)),(15,.one (rats 2 W))]) (bs:= []) ?_ ?_
   ·exact fz_a
   repeat (first | refine aw_seq ?_ | refine aw_block ?_ | refine aw_condT rfl ?_ | refine aw_condF rfl ?_ | refine aw_pa ?_ | refine aw_da ?_ | refine aw_skip ?_ | refine aw_exit ?_)
   refine ⟨k-1,by omega,t+1,W,by omega,by omega,by omega,?_⟩
   exact wk_a
  obtain rfl:t=p:=by omega
  have bi:=binLt (k:= .i64) (decide_eq_false (show ¬(t:Int)<(t:Int) by omega))
  obtain ⟨vz,Z1,Z2⟩:=both_chk (j:=2) (p:=((t:Nat):Int)) (l:=Z) (by decide) (by omega)
  have e3:=binEq (k:= .i64) (decide_eq_true (rfl:vz=vz))
  repeat (first | refine aw_seq ?_ | refine aw_block ?_ | refine aw_condT rfl ?_ | refine aw_condF rfl ?_ | refine aw_pa ?_ | refine aw_da ?_ | refine aw_skip ?_ | refine aw_exit ?_)
  refine aw_ret (And.intro (Or.inr rfl) ?_)
  exact f_one
 ·have D1:=light' (decide_eq_false hL)
  refine ctr_body Tryz.func3 rfl rfl rfl rfl rfl rfl ?_
  intro W0 base D μ0 hA hD
  repeat (first | refine aw_seq ?_ | refine aw_block ?_ | refine aw_condT rfl ?_ | refine aw_condF rfl ?_ | refine aw_pa ?_ | refine aw_da ?_ | refine aw_skip ?_ | refine aw_exit ?_)
  refine aw_ret (And.intro (Or.inr rfl) ?_)
  exact f_one
end kcheck
end Go.Proofs.YtkmalkcgkcpcmaaGreatDoor
