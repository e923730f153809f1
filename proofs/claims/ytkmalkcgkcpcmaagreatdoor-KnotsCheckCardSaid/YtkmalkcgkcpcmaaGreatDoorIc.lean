/-
  Several texts in one: Nr, Ns, Nt, Nu.
-/
import Derived.Test.YtkmalkcgkcpcmaaGreatDoorHy
import Derived.Test.YtkmalkcgkcpcmaaGreatDoorIb
import Derived.Test.YtkmalkcgkcpcmaaGreatDoorIa
namespace Go.Proofs.YtkmalkcgkcpcmaaGreatDoor
open Go.RowKit
set_option linter.unusedVariables false
set_option linter.unusedSimpArgs false
set_option maxRecDepth 20000
set_option maxHeartbeats 4000000
def tms (t:Rat):List Rat→Nat
 | []=>0
 | x::l=>(if x=t then 1 else 0)+tms t l
theorem tms_le (t:Rat): ∀l:List Rat,tms t l≤l.length
 | []=>Nat.le_refl _
 | x::l=>by
   have:=tms_le t l
   unfold tms
   rw [List.length_cons]
   split<;>omega
theorem drop_at {l:List Rat} {i:Nat} {x:Rat} (h:l[i]?=some x):l.drop i=x::l.drop (i+1):=by
 obtain ⟨hi,hx⟩:=List.getElem?_eq_some_iff.1 h
 rw [←hx]
 exact List.drop_eq_getElem_cons hi
theorem t_times8 {j jt:Nat} {l:List Rat} {t:Rat} (hl:l.length≤1000000):Ctr Tryz.prog Amb 23 [.one (rats j l),nm jt t] (errV (tms t l:Nat)):=by
 obtain ⟨T,hT⟩: ∃T,T=tms t l:=⟨_,rfl⟩
 have hTl:=tms_le t l
 rw [←hT] at hTl⊢
 refine ctr_body Tryz.func23 rfl rfl rfl rfl rfl rfl ?_
 intro W0 base D μ0 hA hD
 repeat (first | refine aw_seq ?_ | refine aw_block ?_ | refine aw_condT rfl ?_ | refine aw_condF rfl ?_ | refine aw_pa ?_ | refine aw_da ?_ | refine aw_skip ?_ | refine aw_exit ?_)
 refine aw_loop (fun m σ=> ∃i c:Nat,m=l.length-i∧i≤l.length∧c+tms t (l.drop i)=T∧Wk ⟨W0,base,D,22,[],μ0⟩ σ [(0,.one (rats j l)),(3,.one (.ptr 3 0)),(5,errV (c:Nat)),(6,errV (i:Nat))] [(3,nmC jt t)]) (n:=l.length) ⟨0,0,rfl,Nat.zero_le _,by rw [hT,Nat.zero_add];rfl,?_⟩ ?_
 ·exact wk_a
 intro m σ hI
 obtain ⟨i,c,hm,hi0,hS,hw⟩:=hI
 refine aw_wk hw ?_
 clear hw
 by_cases hi:i<l.length
 ·have bi:=binLt (k:= .i64) (decide_eq_true (show (i:Int)<(l.length:Int) by omega))
  have hin:=binAdd (k:= .i64) (show (IntKind.i64).wrap ((i:Int)+1)=((i+1:Nat):Int) from IntWalk.i64_in _ (by omega))
  have hcn:=binAdd (k:= .i64) (show (IntKind.i64).wrap ((c:Int)+1)=((c+1:Nat):Int) from IntWalk.i64_in _ (by omega))
  obtain ⟨x,hx,hx'⟩:=get_at hi
  rw [drop_at hx'] at hS
  unfold tms at hS
  have S1:=r_same (j:=j) (k:=jt) (x:=x) (y:=t)
  by_cases hxt:x=t
  ·rw [decide_eq_true hxt] at S1
   rw [if_pos hxt] at hS
   by_cases hii:i=c
   ·subst hii
    repeat (first | refine aw_seq ?_ | refine aw_block ?_ | refine aw_condT rfl ?_ | refine aw_condF rfl ?_ | refine aw_pa ?_ | refine aw_da ?_ | refine aw_skip ?_ | refine aw_exit ?_)
    refine ⟨l.length-(i+1),by omega,i+1,i+1,rfl,by omega,by omega,?_⟩
    exact wk_a
   ·repeat (first | refine aw_seq ?_ | refine aw_block ?_ | refine aw_condT rfl ?_ | refine aw_condF rfl ?_ | refine aw_pa ?_ | refine aw_da ?_ | refine aw_skip ?_ | refine aw_exit ?_)
    refine ⟨l.length-(i+1),by omega,i+1,c+1,rfl,by omega,by omega,?_⟩
    exact wk_a
  ·rw [decide_eq_false hxt] at S1
   rw [if_neg hxt] at hS
   clear hcn
   repeat (first | refine aw_seq ?_ | refine aw_block ?_ | refine aw_condT rfl ?_ | refine aw_condF rfl ?_ | refine aw_pa ?_ | refine aw_da ?_ | refine aw_skip ?_ | refine aw_exit ?_)
   refine ⟨l.length-(i+1),by omega,i+1,c,rfl,by omega,by omega,?_⟩
   exact wk_a
 ·have bi:=binLt (k:= .i64) (decide_eq_false (show ¬(i:Int)<(l.length:Int) by omega))
  rw [List.drop_eq_nil_of_le (by omega)] at hS
  have hcT:c=T:=by simpa [tms] using hS
  subst hcT
  repeat (first | refine aw_seq ?_ | refine aw_block ?_ | refine aw_condT rfl ?_ | refine aw_condF rfl ?_ | refine aw_pa ?_ | refine aw_da ?_ | refine aw_skip ?_ | refine aw_exit ?_)
  refine aw_ret (And.intro (Or.inr rfl) ?_)
  exact f_one
def dstF:Option Rat→List Rat→List Rat
 | _,[]=> []
 | o,x::l=>if o=some x then dstF (some x) l else x::dstF (some x) l
def dstR (l:List Rat):List Rat:=dstF none l
theorem t_distinct8 {j:Nat} {l:List Rat} (hl:l.length≤1000000) (hne:0<l.length):Ctr Tryz.prog Amb 26 [.one (rats j l)] (.one (rats j (dstR l))):=by
 obtain ⟨R,hR⟩: ∃R,R=dstR l:=⟨_,rfl⟩
 rw [←hR]
 refine ctr_body Tryz.func26 rfl rfl rfl rfl rfl rfl ?_
 intro W0 base D μ0 hA hD
 repeat (first | refine aw_seq ?_ | refine aw_block ?_ | refine aw_condT rfl ?_ | refine aw_condF rfl ?_ | refine aw_pa ?_ | refine aw_da ?_ | refine aw_skip ?_ | refine aw_exit ?_)
 refine aw_loop (fun m σ=> ∃(i:Nat) (done:List Rat),m=l.length-i∧i≤l.length∧done.length≤i∧done++dstF (if i=0 then none else l[i-1]?) (l.drop i)=R∧Wk ⟨W0,base,D,34,[],μ0⟩ σ [(0,.one (rats j l)),(3,.one (.gl 900 done.length 3)),(4,errV (i:Nat))] [(900,blkL (nmD j) done)]) (n:=l.length) ⟨0,[],rfl,Nat.zero_le _,Nat.le_refl _,hR.symm,?_⟩ ?_
 ·exact wk_a
 intro m σ hI
 obtain ⟨i,done,hm,hi0,hdl,hS,hw⟩:=hI
 refine aw_wk hw ?_
 clear hw
 by_cases hi:i<l.length
 ·have bi:=binLt (k:= .i64) (decide_eq_true (show (i:Int)<(l.length:Int) by omega))
  have hin:=binAdd (k:= .i64) (show (IntKind.i64).wrap ((i:Int)+1)=((i+1:Nat):Int) from IntWalk.i64_in _ (by omega))
  obtain ⟨x,hx,hx'⟩:=get_at hi
  rw [drop_at hx'] at hS
  have hnext:(if i+1=0 then none else l[i+1-1]?)=some x:=by rw [if_neg (by omega),Nat.add_sub_cancel];exact hx'
  unfold dstF at hS
  have hkeep: ∀ {b:Bool},True:=fun {b} =>trivial
  by_cases h0:i=0
  ·subst h0
   have b0:=binEq (k:= .i64) (decide_eq_true (show ((0:Nat):Int)=0 from rfl))
   rw [if_pos rfl,if_neg (by simp)] at hS
   repeat (first | refine aw_seq ?_ | refine aw_block ?_ | refine aw_condT rfl ?_ | refine aw_condF rfl ?_ | refine aw_pa ?_ | refine aw_da ?_ | refine aw_skip ?_ | refine aw_exit ?_)
   try refine aw_seq ?_
   refine aw_plainT 6 (by simp only [List.take_succ_cons,List.take_zero,List.drop_succ_cons,List.drop_zero];exact ⟨rfl,rfl⟩) (by kernel_rfl) ?_
   repeat (first
    | refine v_skip (hl:=?_)
    | refine v_move (hl:=?_)
    | refine v_assign (hl:=?_)
    | refine v_load (hl:=?_)
    | refine v_bin (hl:=?_)
    | refine v_indexAddr (hl:=?_)
    | refine v_not (hl:=?_)
    | refine v_pickT (hl:=?_)
    | refine v_pickF (hl:=?_)
    | refine v_eqBool (hl:=?_)
    | refine v_max (hl:=?_)
    | refine v_min (hl:=?_)
    | refine v_len (hl:=?_)
    | refine v_lenS (hl:=?_)
    | refine v_loadF (hl:=?_)
    | refine v_buildL (hl:=?_)
    | refine v_idx hx (by omega) (hl:=?_))
   apply RunK.nil
   refine v_app (k:=900) (ss:= [(0,.one (rats j l)),(4,errV (0:Nat))]) (bs:= []) (ns:=(nmC j x)) hD ?_ ?_ ?_
   ·exact ⟨by omega,by omega⟩
   ·exact wk_a
   repeat (refine tl_run rfl ?_;(first | refine v_assign (hl:=?_) | refine v_move (hl:=?_) | refine v_store (hl:=?_));apply RunK.nil)
   refine tl_nil ?_
   repeat (first | refine aw_seq ?_ | refine aw_block ?_ | refine aw_condT rfl ?_ | refine aw_condF rfl ?_ | refine aw_pa ?_ | refine aw_da ?_ | refine aw_skip ?_ | refine aw_exit ?_)
   refine ⟨l.length-(0+1),by omega,0+1,done++ [x],rfl,by omega,by rw [List.length_append];show done.length+1≤0+1;omega,by rw [hnext,List.append_assoc];exact hS,?_⟩
   exact wk_a
  ·have b0:=binEq (k:= .i64) (decide_eq_false (show ¬(i:Int)=0 by omega))
   have s1:=binSub (k:= .i64) (show (IntKind.i64).wrap ((i:Int)-1)=((i-1:Nat):Int) by rw [show ((i:Int)-1)=((i-1:Nat):Int) by omega];exact IntWalk.i64_in _ (by omega))
   obtain ⟨y,hy,hy'⟩:=get_at (l:=l) (i:=i-1) (by omega)
   rw [if_neg h0,hy'] at hS
   have S1:=r_same (j:=j) (k:=j) (x:=x) (y:=y)
   by_cases hxy:x=y
   ·rw [decide_eq_true hxy] at S1
    rw [if_pos (by rw [hxy])] at hS
    repeat (first | refine aw_seq ?_ | refine aw_block ?_ | refine aw_condT rfl ?_ | refine aw_condF rfl ?_ | refine aw_pa ?_ | refine aw_da ?_ | refine aw_skip ?_ | refine aw_exit ?_)
    refine ⟨l.length-(i+1),by omega,i+1,done,rfl,by omega,by omega,by rw [hnext];exact hS,?_⟩
    exact wk_a
   ·rw [decide_eq_false hxy] at S1
    rw [if_neg (fun h=>hxy (Option.some.inj h).symm)] at hS
    repeat (first | refine aw_seq ?_ | refine aw_block ?_ | refine aw_condT rfl ?_ | refine aw_condF rfl ?_ | refine aw_pa ?_ | refine aw_da ?_ | refine aw_skip ?_ | refine aw_exit ?_)
    try refine aw_seq ?_
    refine aw_plainT 6 (by simp only [List.take_succ_cons,List.take_zero,List.drop_succ_cons,List.drop_zero];exact ⟨rfl,rfl⟩) (by kernel_rfl) ?_
    repeat (first
     | refine v_skip (hl:=?_)
     | refine v_move (hl:=?_)
     | refine v_assign (hl:=?_)
     | refine v_load (hl:=?_)
     | refine v_bin (hl:=?_)
     | refine v_indexAddr (hl:=?_)
     | refine v_not (hl:=?_)
     | refine v_pickT (hl:=?_)
     | refine v_pickF (hl:=?_)
     | refine v_eqBool (hl:=?_)
     | refine v_max (hl:=?_)
     | refine v_min (hl:=?_)
     | refine v_len (hl:=?_)
     | refine v_lenS (hl:=?_)
     | refine v_loadF (hl:=?_)
     | refine v_buildL (hl:=?_)
     | refine v_idx hx (by omega) (hl:=?_))
    apply RunK.nil
    refine v_app (k:=900) (ss:= [(0,.one (rats j l)),(4,errV (i:Nat))]) (bs:= []) (ns:=(nmC j x)) hD ?_ ?_ ?_
    ·exact ⟨by omega,by omega⟩
    ·exact wk_a
    repeat (refine tl_run rfl ?_;(first | refine v_assign (hl:=?_) | refine v_move (hl:=?_) | refine v_store (hl:=?_));apply RunK.nil)
    refine tl_nil ?_
    repeat (first | refine aw_seq ?_ | refine aw_block ?_ | refine aw_condT rfl ?_ | refine aw_condF rfl ?_ | refine aw_pa ?_ | refine aw_da ?_ | refine aw_skip ?_ | refine aw_exit ?_)
    refine ⟨l.length-(i+1),by omega,i+1,done++ [x],rfl,by omega,by rw [List.length_append];show done.length+1≤i+1;omega,by rw [hnext,List.append_assoc];exact hS,?_⟩
    exact wk_a
 ·have bi:=binLt (k:= .i64) (decide_eq_false (show ¬(i:Int)<(l.length:Int) by omega))
  rw [List.drop_eq_nil_of_le (by omega)] at hS
  have hcT:done=R:=by simpa [dstF] using hS
  subst hcT
  repeat (first | refine aw_seq ?_ | refine aw_block ?_ | refine aw_condT rfl ?_ | refine aw_condF rfl ?_ | refine aw_pa ?_ | refine aw_da ?_ | refine aw_skip ?_ | refine aw_exit ?_)
  refine aw_freeze 900 hD (ss:= [(2,.one (rats j done))]) (bs:= []) ?_ ?_
  ·exact fz_a
  refine aw_ret (And.intro (Or.inr rfl) ?_)
  exact f_one
end Go.Proofs.YtkmalkcgkcpcmaaGreatDoor
namespace Go.Proofs.YtkmalkcgkcpcmaaGreatDoor
open Go.RowKit
set_option linter.unusedVariables false
set_option linter.unusedSimpArgs false
set_option maxRecDepth 20000
set_option maxHeartbeats 4000000
def ascF:Option Rat→List Rat→Bool
 | _,[]=>true
 | none,x::r=>ascF (some x) r
 | some y,x::r=>if cmpR x y<0 then false else ascF (some x) r
def okC (p m i n:Nat):Bool:=if i=0∨i=m-1 then decide (n=p+1) else decide (n≤p)
def okA (l:List Rat) (p m:Nat):Nat→List Rat→Bool
 | _,[]=>true
 | i,x::r=>okC p m i (tms x l)&&okA l p m (i+1) r
def refC (l:List Rat) (p:Nat):Int:=if l.length<2*p+2 then 5 else if 40<l.length-p-1 then 2 else if ascF none l then (if okA l p (dstR l).length 0 (dstR l) then (if (dstR l).length<2 then 5 else 0) else 5) else 5
theorem dstF_len: ∀ {r:List Rat} {o:Option Rat},(dstF o r).length≤r.length
 | [],_=>Nat.le_refl _
 | x::r,o=>by
   unfold dstF
   have:=dstF_len (r:=r) (o:=some x)
   split
   ·rw [List.length_cons];omega
   ·rw [List.length_cons,List.length_cons];omega
theorem t_checkB {j p:Nat} {l:List Rat} (hj:j≤100000) (hl:l.length≤1000000) (hp:1≤p∧p≤6):
  Ctr Tryz.prog Amb 16 [.one (rats j l),errV (p:Nat)] (errV (refC l p)):=by
 have p1:=binLt (k:= .i64) (decide_eq_false (show ¬((p:Nat):Int)<1 by omega))
 have p2:=binGt (k:= .i64) (decide_eq_false (show ¬((p:Nat):Int)>6 by omega))
 have m1:binR .mul .i64 2 ((p:Nat):Int)=some (.int .i64 ((2*p:Nat):Int)):=by
  show some (Value.int .i64 ((IntKind.i64).wrap (2*((p:Nat):Int))))=_
  rw [show (2*((p:Nat):Int))=((2*p:Nat):Int) by omega,show (IntKind.i64).wrap ((2*p:Nat):Int)=((2*p:Nat):Int) from IntWalk.i64_in _ (by omega)]
 have a1:=binAdd (k:= .i64) (show (IntKind.i64).wrap (((2*p:Nat):Int)+2)=((2*p+2:Nat):Int) by rw [show (((2*p:Nat):Int)+2)=((2*p+2:Nat):Int) by omega];exact IntWalk.i64_in _ (by omega))
 obtain ⟨C,hC⟩: ∃C,C=refC l p:=⟨_,rfl⟩
 rw [←hC]
 unfold refC at hC
 by_cases h1:l.length<2*p+2
 ·have b1:=binLt (k:= .i64) (decide_eq_true (show (l.length:Int)<((2*p+2:Nat):Int) by omega))
  rw [if_pos h1] at hC
  subst hC
  refine ctr_body Tryz.func16 rfl rfl rfl rfl rfl rfl ?_
  intro W0 base D μ0 hA hD
  repeat (first | refine aw_seq ?_ | refine aw_block ?_ | refine aw_condT rfl ?_ | refine aw_condF rfl ?_ | refine aw_pa ?_ | refine aw_da ?_ | refine aw_skip ?_ | refine aw_exit ?_)
  refine aw_ret (And.intro (Or.inr rfl) ?_)
  exact f_one
 rw [if_neg h1] at hC
 have b1:=binLt (k:= .i64) (decide_eq_false (show ¬(l.length:Int)<((2*p+2:Nat):Int) by omega))
 have P1:=t_poles8 (j:=j) (p:=p) hl (by omega)
 by_cases h2:40<l.length-p-1
 ·have b2:=binGt (k:= .i64) (decide_eq_true (show ((l.length-p-1:Nat):Int)>40 by omega))
  rw [if_pos h2] at hC
  subst hC
  refine ctr_body Tryz.func16 rfl rfl rfl rfl rfl rfl ?_
  intro W0 base D μ0 hA hD
  repeat (first | refine aw_seq ?_ | refine aw_block ?_ | refine aw_condT rfl ?_ | refine aw_condF rfl ?_ | refine aw_pa ?_ | refine aw_da ?_ | refine aw_skip ?_ | refine aw_exit ?_)
  refine aw_ret (And.intro (Or.inr rfl) ?_)
  exact f_one
 rw [if_neg h2] at hC
 have b2:=binGt (k:= .i64) (decide_eq_false (show ¬((l.length-p-1:Nat):Int)>40 by omega))
 have D1:=t_distinct8 (j:=j) hl (by omega)
 have hM:=dstF_len (r:=l) (o:=none)
 obtain ⟨d,hd⟩: ∃d,d=dstR l:=⟨_,rfl⟩
 have hdl:d.length≤l.length:=by rw [hd];exact hM
 rw [←hd] at D1 hC
 obtain ⟨x0,hx0,hx0'⟩:=get_at (l:=l) (i:=0) (by omega)
 have hasc:ascF none l=ascF l[0]? (l.drop 1):=by
  have e:=drop_at hx0'
  rw [hx0']
  conv=>lhs;rw [show l=x0::l.drop (0+1) from e]
  rfl
 rw [hasc] at hC
 clear hM hd hx0 hx0' hasc
 refine ctr_body Tryz.func16 rfl rfl rfl rfl rfl rfl ?_
 intro W0 base D μ0 hA hD
 repeat (first | refine aw_seq ?_ | refine aw_block ?_ | refine aw_condT rfl ?_ | refine aw_condF rfl ?_ | refine aw_pa ?_ | refine aw_da ?_ | refine aw_skip ?_ | refine aw_exit ?_)
 refine aw_loop (fun m σ=> ∃i:Nat,m=l.length-i∧1≤i∧i≤l.length∧(if ascF l[i-1]? (l.drop i) then (if okA l p d.length 0 d then (if d.length<2 then 5 else 0) else 5) else 5)=C∧Wk ⟨W0,base,D,96,[],μ0⟩ σ [(0,.one (rats j l)),(1,errV (p:Nat)),(5,errV (i:Nat))] []) (n:=l.length-1) ⟨1,rfl,Nat.le_refl _,by omega,hC.symm,?_⟩ ?_
 ·exact wk_a
 clear hC p1 p2 m1 a1 b1 P1 b2
 intro m σ hI
 obtain ⟨i,hm,hi1,hi0,hC,hw⟩:=hI
 refine aw_wk hw ?_
 clear hw
 by_cases hi:i<l.length
 ·have bi:=binLt (k:= .i64) (decide_eq_true (show (i:Int)<(l.length:Int) by omega))
  have hin:=binAdd (k:= .i64) (show (IntKind.i64).wrap ((i:Int)+1)=((i+1:Nat):Int) from IntWalk.i64_in _ (by omega))
  have s1:=binSub (k:= .i64) (show (IntKind.i64).wrap ((i:Int)-1)=((i-1:Nat):Int) by rw [show ((i:Int)-1)=((i-1:Nat):Int) by omega];exact IntWalk.i64_in _ (by omega))
  obtain ⟨x,hx,hx'⟩:=get_at (l:=l) (i:=i) hi
  obtain ⟨y,hy,hy'⟩:=get_at (l:=l) (i:=i-1) (by omega)
  have C1:=r_cmp (j:=j) (k:=j) (x:=x) (y:=y) (by omega) (by omega)
  rw [drop_at hx',hy'] at hC
  unfold ascF at hC
  by_cases h:cmpR x y<0
  ·have bl:=binLt (k:= .i64) (decide_eq_true h)
   rw [if_pos h] at hC
   replace hC:5=C:=hC
   subst hC
   repeat (first | refine aw_seq ?_ | refine aw_block ?_ | refine aw_condT rfl ?_ | refine aw_condF rfl ?_ | refine aw_pa ?_ | refine aw_da ?_ | refine aw_skip ?_ | refine aw_exit ?_)
   refine aw_ret (And.intro (Or.inr rfl) ?_)
   exact f_one
  ·have bl:=binLt (k:= .i64) (decide_eq_false h)
   rw [if_neg h] at hC
   repeat (first | refine aw_seq ?_ | refine aw_block ?_ | refine aw_condT rfl ?_ | refine aw_condF rfl ?_ | refine aw_pa ?_ | refine aw_da ?_ | refine aw_skip ?_ | refine aw_exit ?_)
   refine ⟨l.length-(i+1),by omega,i+1,rfl,by omega,by omega,by rw [Nat.add_sub_cancel,hx'];exact hC,?_⟩
   exact wk_a
 have bi:=binLt (k:= .i64) (decide_eq_false (show ¬(i:Int)<(l.length:Int) by omega))
 rw [List.drop_eq_nil_of_le (by omega)] at hC
 have hC2:(if okA l p d.length 0 d then (if d.length<2 then 5 else 0) else 5)=C:=by
  rw [show ascF l[i-1]? []=true by cases l[i-1]?<;>rfl] at hC
  exact hC
 clear hC
 repeat (first | refine aw_seq ?_ | refine aw_block ?_ | refine aw_condT rfl ?_ | refine aw_condF rfl ?_ | refine aw_pa ?_ | refine aw_da ?_ | refine aw_skip ?_ | refine aw_exit ?_)
 refine aw_loop (fun m σ=> ∃i:Nat,m=d.length-i∧i≤d.length∧(if okA l p d.length i (d.drop i) then (if d.length<2 then 5 else 0) else 5)=C∧Wk ⟨W0,base,D,96,[],μ0⟩ σ [(0,.one (rats j l)),(1,errV (p:Nat)),(6,.one (rats j d)),(7,errV (i:Nat))] []) (n:=d.length) ⟨0,rfl,Nat.zero_le _,hC2,?_⟩ ?_
 ·exact wk_a
 clear hC2 bi D1 hi hi0 hi1 hm
 clear i
 intro m σ hI
 obtain ⟨i,hm,hi0,hC,hw⟩:=hI
 refine aw_wk hw ?_
 clear hw
 by_cases hi:i<d.length
 ·have bi:=binLt (k:= .i64) (decide_eq_true (show (i:Int)<(d.length:Int) by omega))
  have hin:=binAdd (k:= .i64) (show (IntKind.i64).wrap ((i:Int)+1)=((i+1:Nat):Int) from IntWalk.i64_in _ (by omega))
  have s1:=binSub (k:= .i64) (show (IntKind.i64).wrap ((d.length:Int)-1)=((d.length-1:Nat):Int) by rw [show ((d.length:Int)-1)=((d.length-1:Nat):Int) by omega];exact IntWalk.i64_in _ (by omega))
  have a1:=binAdd (k:= .i64) (show (IntKind.i64).wrap ((p:Int)+1)=((p+1:Nat):Int) from IntWalk.i64_in _ (by omega))
  obtain ⟨x,hx,hx'⟩:=get_at (l:=d) (i:=i) hi
  have T1:=t_times8 (j:=j) (jt:=j) (l:=l) (t:=x) hl
  have hdrop:d.drop i=x::d.drop (i+1):=drop_at hx'
  rw [hdrop] at hC
  unfold okA at hC
  generalize tms x l=n at*
  by_cases hend:i=0∨i=d.length-1
  ·by_cases hnp:n=p+1
   ·have hok:okC p d.length i n=true:=by unfold okC;rw [if_pos hend];exact decide_eq_true hnp
    rw [hok,Bool.true_and] at hC
    have c1:=binNe (k:= .i64) (decide_eq_false (show ¬((n:Nat):Int)≠((p+1:Nat):Int) by omega))
    have c2:=binGt (k:= .i64) (decide_eq_false (show ¬((n:Nat):Int)>((p+1:Nat):Int) by omega))
    by_cases h0:i=0
    ·have e0:=binEq (k:= .i64) (decide_eq_true (show ((i:Nat):Int)=0 by omega))
     have g0:=binGt (k:= .i64) (decide_eq_false (show ¬((i:Nat):Int)>0 by omega))
     repeat (first | refine aw_seq ?_ | refine aw_block ?_ | refine aw_condT rfl ?_ | refine aw_condF rfl ?_ | refine aw_pa ?_ | refine aw_da ?_ | refine aw_skip ?_ | refine aw_exit ?_)
     refine ⟨d.length-(i+1),by omega,i+1,rfl,by omega,hC,?_⟩
     exact wk_a
    ·have e0:=binEq (k:= .i64) (decide_eq_false (show ¬((i:Nat):Int)=0 by omega))
     have e1:=binEq (k:= .i64) (decide_eq_true (show ((i:Nat):Int)=((d.length-1:Nat):Int) by omega))
     have g0:=binGt (k:= .i64) (decide_eq_true (show ((i:Nat):Int)>0 by omega))
     have g1:=binLt (k:= .i64) (decide_eq_false (show ¬((i:Nat):Int)<((d.length-1:Nat):Int) by omega))
     repeat (first | refine aw_seq ?_ | refine aw_block ?_ | refine aw_condT rfl ?_ | refine aw_condF rfl ?_ | refine aw_pa ?_ | refine aw_da ?_ | refine aw_skip ?_ | refine aw_exit ?_)
     refine ⟨d.length-(i+1),by omega,i+1,rfl,by omega,hC,?_⟩
     exact wk_a
   ·have hok:okC p d.length i n=false:=by unfold okC;rw [if_pos hend];exact decide_eq_false hnp
    rw [hok,Bool.false_and] at hC
    replace hC:5=C:=hC
    subst hC
    have c1:=binNe (k:= .i64) (decide_eq_true (show ((n:Nat):Int)≠((p+1:Nat):Int) by omega))
    by_cases h0:i=0
    ·have e0:=binEq (k:= .i64) (decide_eq_true (show ((i:Nat):Int)=0 by omega))
     repeat (first | refine aw_seq ?_ | refine aw_block ?_ | refine aw_condT rfl ?_ | refine aw_condF rfl ?_ | refine aw_pa ?_ | refine aw_da ?_ | refine aw_skip ?_ | refine aw_exit ?_)
     refine aw_ret (And.intro (Or.inr rfl) ?_)
     exact f_one
    ·have e0:=binEq (k:= .i64) (decide_eq_false (show ¬((i:Nat):Int)=0 by omega))
     have e1:=binEq (k:= .i64) (decide_eq_true (show ((i:Nat):Int)=((d.length-1:Nat):Int) by omega))
     repeat (first | refine aw_seq ?_ | refine aw_block ?_ | refine aw_condT rfl ?_ | refine aw_condF rfl ?_ | refine aw_pa ?_ | refine aw_da ?_ | refine aw_skip ?_ | refine aw_exit ?_)
     refine aw_ret (And.intro (Or.inr rfl) ?_)
     exact f_one
  ·have e0:=binEq (k:= .i64) (decide_eq_false (show ¬((i:Nat):Int)=0 by omega))
   have e1:=binEq (k:= .i64) (decide_eq_false (show ¬((i:Nat):Int)=((d.length-1:Nat):Int) by omega))
   have g0:=binGt (k:= .i64) (decide_eq_true (show ((i:Nat):Int)>0 by omega))
   have g1:=binLt (k:= .i64) (decide_eq_true (show ((i:Nat):Int)<((d.length-1:Nat):Int) by omega))
   by_cases hnp:n≤p
   ·have hok:okC p d.length i n=true:=by unfold okC;rw [if_neg hend];exact decide_eq_true hnp
    rw [hok,Bool.true_and] at hC
    have c2:=binGt (k:= .i64) (decide_eq_false (show ¬((n:Nat):Int)>((p+1:Nat):Int) by omega))
    have c3:=binGt (k:= .i64) (decide_eq_false (show ¬((n:Nat):Int)>((p:Nat):Int) by omega))
    repeat (first | refine aw_seq ?_ | refine aw_block ?_ | refine aw_condT rfl ?_ | refine aw_condF rfl ?_ | refine aw_pa ?_ | refine aw_da ?_ | refine aw_skip ?_ | refine aw_exit ?_)
    refine ⟨d.length-(i+1),by omega,i+1,rfl,by omega,hC,?_⟩
    exact wk_a
   ·have hok:okC p d.length i n=false:=by unfold okC;rw [if_neg hend];exact decide_eq_false hnp
    rw [hok,Bool.false_and] at hC
    replace hC:5=C:=hC
    subst hC
    have c3:=binGt (k:= .i64) (decide_eq_true (show ((n:Nat):Int)>((p:Nat):Int) by omega))
    by_cases hn2:n≤p+1
    ·have c2:=binGt (k:= .i64) (decide_eq_false (show ¬((n:Nat):Int)>((p+1:Nat):Int) by omega))
     repeat (first | refine aw_seq ?_ | refine aw_block ?_ | refine aw_condT rfl ?_ | refine aw_condF rfl ?_ | refine aw_pa ?_ | refine aw_da ?_ | refine aw_skip ?_ | refine aw_exit ?_)
     refine aw_ret (And.intro (Or.inr rfl) ?_)
     exact f_one
    ·have c2:=binGt (k:= .i64) (decide_eq_true (show ((n:Nat):Int)>((p+1:Nat):Int) by omega))
     repeat (first | refine aw_seq ?_ | refine aw_block ?_ | refine aw_condT rfl ?_ | refine aw_condF rfl ?_ | refine aw_pa ?_ | refine aw_da ?_ | refine aw_skip ?_ | refine aw_exit ?_)
     refine aw_ret (And.intro (Or.inr rfl) ?_)
     exact f_one
 ·have bi:=binLt (k:= .i64) (decide_eq_false (show ¬(i:Int)<(d.length:Int) by omega))
  rw [List.drop_eq_nil_of_le (by omega)] at hC
  replace hC:(if d.length<2 then (5:Int) else 0)=C:=hC
  by_cases h:d.length<2
  ·have b3:=binLt (k:= .i64) (decide_eq_true (show (d.length:Int)<2 by omega))
   rw [if_pos h] at hC
   subst hC
   repeat (first | refine aw_seq ?_ | refine aw_block ?_ | refine aw_condT rfl ?_ | refine aw_condF rfl ?_ | refine aw_pa ?_ | refine aw_da ?_ | refine aw_skip ?_ | refine aw_exit ?_)
   refine aw_ret (And.intro (Or.inr rfl) ?_)
   exact f_one
  ·have b3:=binLt (k:= .i64) (decide_eq_false (show ¬(d.length:Int)<2 by omega))
   rw [if_neg h] at hC
   subst hC
   repeat (first | refine aw_seq ?_ | refine aw_block ?_ | refine aw_condT rfl ?_ | refine aw_condF rfl ?_ | refine aw_pa ?_ | refine aw_da ?_ | refine aw_skip ?_ | refine aw_exit ?_)
   refine aw_ret (And.intro (Or.inr rfl) ?_)
   exact f_one
end Go.Proofs.YtkmalkcgkcpcmaaGreatDoor
namespace Go.Proofs.YtkmalkcgkcpcmaaGreatDoor
open Go.RowKit
set_option linter.unusedVariables false
set_option linter.unusedSimpArgs false
set_option maxRecDepth 20000
set_option maxHeartbeats 1000000
theorem srtA_iff {l:List Rat} : ∀ {n:Nat},srtA l n=true↔ ∀i,i<n→ ¬cmpR (l.getD (i+1) 0) (l.getD i 0)<0
 | 0=>⟨fun _ i h=>absurd h (Nat.not_lt_zero i),fun _=>rfl⟩
 | n+1=>by
   unfold srtA
   by_cases h:cmpR (l.getD (n+1) 0) (l.getD n 0)<0
   ·rw [if_pos h]
    exact ⟨fun h=>(by cases h),fun hh=>absurd h (hh n (Nat.lt_succ_self n))⟩
   ·rw [if_neg h,srtA_iff (n:=n)]
    constructor
    ·intro hh i hi
     by_cases he:i=n
     ·subst he;exact h
     ·exact hh i (by omega)
    ·intro hh i hi
     exact hh i (by omega)
theorem ascF_iff: ∀ {r:List Rat} {y:Rat},ascF (some y) r=true↔ ∀i,i<r.length→ ¬cmpR ((y::r).getD (i+1) 0) ((y::r).getD i 0)<0
 | [],y=>⟨fun _ i h=>absurd h (Nat.not_lt_zero i),fun _=>rfl⟩
 | x::r,y=>by
   unfold ascF
   by_cases h:cmpR x y<0
   ·rw [if_pos h]
    exact ⟨fun h=>(by cases h),fun hh=>absurd h (hh 0 (Nat.zero_lt_succ _))⟩
   ·rw [if_neg h,ascF_iff (r:=r)]
    constructor
    ·intro hh i hi
     cases i with
     | zero=>exact h
     | succ i=>exact hh i (by rw [List.length_cons] at hi;omega)
    ·intro hh i hi
     exact hh (i+1) (by rw [List.length_cons];omega)
theorem srt_asc {l:List Rat} (h:0<l.length):srt l=ascF none l:=by
 cases l with
 | nil=>cases h
 | cons y r=>
   show srtA (y::r) r.length=ascF (some y) r
   rw [Bool.eq_iff_iff,srtA_iff,ascF_iff]
def gr:List Rat→List (Rat×Nat)
 | []=> []
 | x::l=>match gr l with
   | []=> [(x,1)]
   | (y,c)::g=>if x=y then (y,c+1)::g else (x,1)::(y,c)::g
theorem gr_nil {l:List Rat} (h:gr l= []):l= []:=by
 cases l with
 | nil=>rfl
 | cons x l=>
   unfold gr at h
   split at h
   ·cases h
   ·split at h<;>cases h
theorem gr_head {x:Rat} {l:List Rat} {y:Rat} {c:Nat} {g:List (Rat×Nat)} (h:gr (x::l)=(y,c)::g):y=x:=by
 unfold gr at h
 split at h
 ·cases h;rfl
 ·split at h
  ·rename_i hxy
   cases h
   exact hxy.symm
  ·cases h;rfl
theorem gr_cons0 {x:Rat} {l:List Rat} (h:gr l= []):gr (x::l)= [(x,1)]:=by
 show (match gr l with | []=> [(x,1)] | (y,c)::g=>if x=y then (y,c+1)::g else (x,1)::(y,c)::g)=_
 rw [h]
theorem gr_consE {x:Rat} {l:List Rat} {c:Nat} {g:List (Rat×Nat)} (h:gr l=(x,c)::g):gr (x::l)=(x,c+1)::g:=by
 show (match gr l with | []=> [(x,1)] | (y,c)::g=>if x=y then (y,c+1)::g else (x,1)::(y,c)::g)=_
 rw [h]
 exact if_pos rfl
theorem gr_consN {x y:Rat} {l:List Rat} {c:Nat} {g:List (Rat×Nat)} (h:gr l=(y,c)::g) (hxy:x≠y):gr (x::l)=(x,1)::(y,c)::g:=by
 show (match gr l with | []=> [(x,1)] | (y,c)::g=>if x=y then (y,c+1)::g else (x,1)::(y,c)::g)=_
 rw [h]
 exact if_neg hxy
def totG:List (Rat×Nat)→Nat
 | []=>0
 | (_,c)::g=>c+totG g
theorem gr_tot: ∀ {l:List Rat},totG (gr l)=l.length
 | []=>rfl
 | x::l=>by
   have ih:=gr_tot (l:=l)
   cases hg:gr l with
   | nil=>rw [gr_cons0 hg];rw [gr_nil hg];rfl
   | cons a g=>
     obtain ⟨y,c⟩:=a
     rw [hg] at ih
     have ih:c+totG g=l.length:=ih
     by_cases hxy:x=y
     ·subst hxy
      rw [gr_consE hg,List.length_cons]
      show c+1+totG g=_
      omega
     ·rw [gr_consN hg hxy,List.length_cons]
      show 1+(c+totG g)=_
      omega
theorem gr_pos: ∀ {l:List Rat},∀a∈gr l,1≤a.2
 | [],a,h=>by cases h
 | x::l,a,h=>by
   have ih:=gr_pos (l:=l)
   cases hg:gr l with
   | nil=>
     rw [gr_cons0 hg] at h
     rw [List.mem_singleton.1 h]
     exact Nat.le_refl 1
   | cons b g=>
     obtain ⟨y,c⟩:=b
     rw [hg] at ih
     by_cases hxy:x=y
     ·subst hxy
      rw [gr_consE hg] at h
      rcases List.mem_cons.1 h with rfl | h
      ·exact Nat.le_add_left 1 c
      ·exact ih a (List.mem_cons_of_mem _ h)
     ·rw [gr_consN hg hxy] at h
      rcases List.mem_cons.1 h with rfl | h
      ·exact Nat.le_refl 1
      ·exact ih a h
theorem dstF_gr: ∀ {l:List Rat} {o:Option Rat},dstF o l=match gr l with | []=> [] | (y,_)::g=>if o=some y then g.map (·.1) else y::g.map (·.1)
 | [],_=>rfl
 | x::l,o=>by
   have ih:=dstF_gr (l:=l) (o:=some x)
   show (if o=some x then dstF (some x) l else x::dstF (some x) l)=_
   rw [ih]
   cases hg:gr l with
   | nil=>
     rw [gr_cons0 hg]
     rfl
   | cons b g=>
     obtain ⟨y,c⟩:=b
     by_cases hxy:x=y
     ·subst hxy
      rw [gr_consE hg]
      simp
     ·rw [gr_consN hg hxy]
      have: ¬(some x=some y):=fun h=>hxy (Option.some.inj h)
      simp [this,hxy]
theorem dstR_gr {l:List Rat} :dstR l=(gr l).map (·.1):=by
 unfold dstR
 rw [dstF_gr]
 cases gr l with
 | nil=>rfl
 | cons b g=>obtain ⟨y,c⟩:=b;rfl
def rg:Nat→List (Rat×Nat)→List (Nat×Nat)
 | _,[]=> []
 | s,(_,c)::g=>(s,s+c)::rg (s+c) g
theorem runA_gr {l:List Rat} : ∀ {n i f:Nat} {h:i+n=l.length} {hf:f≤i},(runA l n i f h hf).map (·.1)=match gr (l.drop i) with | []=> [] | (_,c)::g=>(f,i+c)::rg (i+c) g
 | 0,i,f,h,hf=>by
   rw [List.drop_eq_nil_of_le (by omega)]
   rfl
 | n+1,i,f,h,hf=>by
   obtain ⟨x,hx,hx'⟩:=get_at (l:=l) (i:=i) (by omega)
   rw [drop_at hx']
   by_cases hq:i+1<l.length∧l.getD i 0=l.getD (i+1) 0
   ·obtain ⟨y,hy,hy'⟩:=get_at (l:=l) (i:=i+1) hq.1
    have hxy:x=y:=by
     have h1:=hq.2
     rw [getD_eq0 hx',getD_eq0 hy'] at h1
     exact h1
    subst hxy
    rw [runA_eq hq,runA_gr (n:=n)]
    have hd:=drop_at hy'
    cases hg:gr (l.drop (i+1)) with
    | nil=>rw [gr_nil hg] at hd;cases hd
    | cons b g=>
      obtain ⟨z,c⟩:=b
      have hz:z=x:=by rw [hd] at hg;exact gr_head hg
      subst hz
      rw [gr_consE hg]
      show (f,i+1+c)::rg (i+1+c) g=(f,i+(c+1))::rg (i+(c+1)) g
      rw [show i+1+c=i+(c+1) by omega]
   ·rw [runA_ne hq,List.map_cons,runA_gr (n:=n)]
    cases hg:gr (l.drop (i+1)) with
    | nil=>rw [gr_cons0 hg];rfl
    | cons b g=>
      obtain ⟨z,c⟩:=b
      have hlt:i+1<l.length:=by
       by_cases hh:i+1<l.length
       ·exact hh
       ·rw [List.drop_eq_nil_of_le (by omega)] at hg;cases hg
      obtain ⟨y,hy,hy'⟩:=get_at (l:=l) (i:=i+1) hlt
      have hz:z=y:=by rw [drop_at hy'] at hg;exact gr_head hg
      have hxy:x≠z:=fun e=>hq ⟨hlt,by rw [getD_eq0 hx',getD_eq0 hy',e,hz]⟩
      rw [gr_consN hg hxy]
      rfl
theorem runL_gr {l:List Rat} :(runL l).map (·.1)=rg 0 (gr l):=by
 unfold runL
 rw [runA_gr,List.drop_zero]
 cases gr l with
 | nil=>rfl
 | cons b g=>obtain ⟨y,c⟩:=b;rfl
def sumG (t:Rat):List (Rat×Nat)→Nat
 | []=>0
 | (y,c)::g=>(if y=t then c else 0)+sumG t g
theorem tms_gr {t:Rat} : ∀ {l:List Rat},tms t l=sumG t (gr l)
 | []=>rfl
 | x::l=>by
   have ih:=tms_gr (t:=t) (l:=l)
   show (if x=t then 1 else 0)+tms t l=_
   rw [ih]
   cases hg:gr l with
   | nil=>rw [gr_cons0 hg];rfl
   | cons b g=>
     obtain ⟨y,c⟩:=b
     by_cases hxy:x=y
     ·subst hxy
      rw [gr_consE hg]
      show _+((if x=t then c else 0)+sumG t g)=(if x=t then c+1 else 0)+sumG t g
      split<;>omega
     ·rw [gr_consN hg hxy]
      rfl
def incG:List (Rat×Nat)→Prop
 | []=>True
 | (y,_)::g=>(∀a∈g,y<a.1)∧incG g
theorem gr_inc: ∀ {l:List Rat} {o:Option Rat},ascF o l=true→incG (gr l)∧ ∀y,o=some y→ ∀a∈gr l,y≤a.1
 | [],o,_=>⟨trivial,fun _ _ a h=>by cases h⟩
 | x::l,o,h=>by
   have hx:(∀y,o=some y→y≤x)∧ascF (some x) l=true:=by
    cases o with
    | none=>exact ⟨fun y e=>(by cases e),h⟩
    | some y=>
      unfold ascF at h
      by_cases hc:cmpR x y<0
      ·rw [if_pos hc] at h;cases h
      ·rw [if_neg hc] at h
       refine ⟨fun z e=>?_,h⟩
       cases e
       have: ¬x<y:=fun hh=>hc (Int.not_le.1 fun h0=>cmp_ge.1 h0 hh)
       exact Rat.not_lt.1 this
   obtain ⟨ih1,ih2⟩:=gr_inc (l:=l) (o:=some x) hx.2
   have ih2:=ih2 x rfl
   cases hg:gr l with
   | nil=>
     rw [gr_cons0 hg]
     refine ⟨⟨fun a h=>(by cases h),trivial⟩,fun y e a ha=>?_⟩
     rw [List.mem_singleton.1 ha]
     exact hx.1 y e
   | cons b g=>
     obtain ⟨z,c⟩:=b
     rw [hg] at ih1 ih2
     by_cases hxy:x=z
     ·subst hxy
      rw [gr_consE hg]
      refine ⟨ih1,fun y e a ha=>?_⟩
      rcases List.mem_cons.1 ha with rfl | ha
      ·exact hx.1 y e
      ·exact Rat.le_trans (hx.1 y e) (ih2 a (List.mem_cons_of_mem _ ha))
     ·rw [gr_consN hg hxy]
      have hlt: ∀a∈(z,c)::g,x<a.1:=fun a ha=>by
       have h1:=ih2 _ (List.mem_cons_self (a:=(z,c)) (l:=g))
       have h1:x≤z:=h1
       rcases List.mem_cons.1 ha with rfl | ha
       ·show x<z
        grind
       ·have h2:=ih1.1 a ha
        grind
      refine ⟨⟨hlt,ih1⟩,fun y e a ha=>?_⟩
      rcases List.mem_cons.1 ha with rfl | ha
      ·exact hx.1 y e
      ·exact Rat.le_trans (hx.1 y e) (Rat.le_of_lt (hlt a ha))
theorem sumG_0 {t:Rat} : ∀ {g:List (Rat×Nat)},(∀a∈g,a.1≠t)→sumG t g=0
 | [],_=>rfl
 | (y,c)::g,h=>by
   show (if y=t then c else 0)+sumG t g=0
   rw [if_neg (h _ List.mem_cons_self),sumG_0 (g:=g) fun a ha=>h a (List.mem_cons_of_mem _ ha)]
theorem sumG_at: ∀ {g:List (Rat×Nat)},incG g→ ∀a∈g,sumG a.1 g=a.2
 | [],_,a,h=>by cases h
 | (y,c)::g,hi,a,h=>by
   show (if y=a.1 then c else 0)+sumG a.1 g=a.2
   rcases List.mem_cons.1 h with rfl | h
   ·show (if y=y then c else 0)+sumG y g=c
    rw [if_pos rfl,sumG_0 fun b hb e=>by have:=hi.1 b hb;rw [e] at this;exact absurd this (Rat.lt_irrefl)]
    rfl
   ·have:=hi.1 a h
    rw [if_neg (fun e=>by rw [e] at this;exact absurd this (Rat.lt_irrefl)),sumG_at hi.2 a h,Nat.zero_add]
theorem all_ok {l:List Rat} {p M n:Nat} : ∀ {g:List (Rat×Nat)} {s i:Nat},s+totG g=n→i+g.length=M→(i=0↔s=0)→(∀a∈g,1≤a.2)→(∀a∈g,tms a.1 l=a.2)→((rg s g).all fun x=>okR n p x)=okA l p M i (g.map (·.1))
 | [],_,_,_,_,_,_,_=>rfl
 | (y,c)::g,s,i,hs,hi,h0,hp,ht=>by
   have hs':s+(c+totG g)=n:=hs
   have hi':i+(g.length+1)=M:=by rw [←hi];rfl
   have hc:1≤c:=hp _ List.mem_cons_self
   have hty:tms y l=c:=ht _ List.mem_cons_self
   show (okR n p (s,s+c)&&(rg (s+c) g).all fun x=>okR n p x)=(okC p M i (tms y l)&&okA l p M (i+1) (g.map (·.1)))
   have hg0:totG g=0↔g.length=0:=by
    cases g with
    | nil=>exact ⟨fun _=>rfl,fun _=>rfl⟩
    | cons b g=>
      obtain ⟨z,d⟩:=b
      have hz:=hp (z,d) (List.mem_cons_of_mem _ List.mem_cons_self)
      have hz:1≤d:=hz
      constructor
      ·intro h
       have h:d+totG g=0:=h
       omega
      ·intro h;rw [List.length_cons] at h;omega
   have key:okR n p (s,s+c)=okC p M i c:=by
    have ec:(s,s+c).2-(s,s+c).1=c:=Nat.add_sub_cancel_left s c
    unfold okR okC
    rw [ec]
    by_cases he:i=0∨i=M-1
    ·rw [if_pos he,if_neg]
     rintro ⟨h1,h2⟩
     have h1:0<s:=h1
     have h2:s+c<n:=h2
     rcases he with h | h<;>omega
    ·rw [if_neg he,if_pos]
     show 0<s∧s+c<n
     constructor<;>omega
   rw [hty,key,all_ok (n:=n) (M:=M) (g:=g) (s:=s+c) (i:=i+1) (by omega) (by omega) (by omega) (fun a ha=>hp a (List.mem_cons_of_mem _ ha)) fun a ha=>ht a (List.mem_cons_of_mem _ ha)]
theorem all_map {α β:Type} {f:α→β} {q:β→Bool} : ∀ {l:List α},(l.map f).all q=l.all fun x=>q (f x)
 | []=>rfl
 | x::l=>by rw [List.map_cons,List.all_cons,List.all_cons,all_map]
theorem chk_eq {l:List Rat} {p:Nat} (hp:1≤p):chkB l p ((runL l).all fun x=>okR l.length p x.1)=refC l p:=by
 unfold chkB refC
 by_cases h1:l.length<2*p+2
 ·rw [if_pos h1,if_pos h1]
 rw [if_neg h1,if_neg h1]
 by_cases h2:40<l.length-p-1
 ·rw [if_pos h2,if_pos h2]
 rw [if_neg h2,if_neg h2,srt_asc (by omega)]
 cases ha:ascF none l with
 | false=>rfl
 | true=>
   rw [Bool.true_and,if_pos rfl]
   have e1:((runL l).all fun x=>okR l.length p x.1)=(rg 0 (gr l)).all fun x=>okR l.length p x:=by rw [←runL_gr,all_map]
   obtain ⟨hinc,_⟩:=gr_inc ha
   rw [e1,all_ok (l:=l) (p:=p) (M:=(gr l).length) (i:=0) (by rw [Nat.zero_add];exact gr_tot) (Nat.zero_add _) (by omega) gr_pos fun a hm=>by rw [tms_gr];exact sumG_at hinc a hm]
   rw [dstR_gr,List.length_map]
   cases hk:okA l p (gr l).length 0 ((gr l).map (·.1)) with
   | false=>rfl
   | true=>
     rw [if_pos rfl,if_pos rfl,if_neg]
     intro hM
     have htot:=gr_tot (l:=l)
     cases hg:gr l with
     | nil=>rw [hg] at htot;have htot:0=l.length:=htot;omega
     | cons b g=>
       obtain ⟨y,c⟩:=b
       rw [hg] at hM htot hk
       have hg1:g= []:=by
        cases g with
        | nil=>rfl
        | cons d g=>rw [List.length_cons,List.length_cons] at hM;omega
       subst hg1
       have htot:c+0=l.length:=htot
       have hty:tms y l=c:=by
        rw [tms_gr,hg]
        show (if y=y then c else 0)+0=c
        rw [if_pos rfl];rfl
       have hk:(okC p 1 0 (tms y l)&&true)=true:=hk
       rw [hty,Bool.and_true] at hk
       unfold okC at hk
       rw [if_pos (.inl rfl)] at hk
       have:=of_decide_eq_true hk
       omega
end Go.Proofs.YtkmalkcgkcpcmaaGreatDoor
namespace Go.Proofs.YtkmalkcgkcpcmaaGreatDoor
open Go.RowKit
set_option linter.unusedVariables false
set_option linter.unusedSimpArgs false
set_option maxRecDepth 20000
set_option maxHeartbeats 1000000
def rep:List (Rat×Nat)→List Rat
 | []=> []
 | (y,c)::g=>List.replicate c y++rep g
theorem rep_app: ∀ {g h:List (Rat×Nat)},rep (g++h)=rep g++rep h
 | [],_=>rfl
 | (y,c)::g,h=>by
   show List.replicate c y++rep (g++h)=(List.replicate c y++rep g)++rep h
   rw [rep_app (g:=g),List.append_assoc]
theorem rep_len: ∀ {g:List (Rat×Nat)},(rep g).length=totG g
 | []=>rfl
 | (y,c)::g=>by
   show (List.replicate c y++rep g).length=c+totG g
   rw [List.length_append,List.length_replicate,rep_len (g:=g)]
theorem gr_one {y:Rat} {L:List Rat} {g:List (Rat×Nat)} (h:gr L=g) (hd: ∀a∈g.head?,y≠a.1): ∀ {c:Nat},gr (List.replicate (c+1) y++L)=(y,c+1)::g
 | 0=>by
   show gr (y::L)=_
   cases g with
   | nil=>exact gr_cons0 h
   | cons b g=>
     obtain ⟨z,d⟩:=b
     exact gr_consN h (hd (z,d) rfl)
 | c+1=>by
   show gr (y::(List.replicate (c+1) y++L))=_
   exact gr_consE (gr_one h hd (c:=c))
theorem gr_rep: ∀ {g:List (Rat×Nat)},incG g→(∀a∈g,1≤a.2)→gr (rep g)=g
 | [],_,_=>rfl
 | (y,c)::g,hi,hp=>by
   have h1:1≤c:=hp _ List.mem_cons_self
   obtain ⟨d,rfl⟩: ∃d,c=d+1:=⟨c-1,by omega⟩
   refine gr_one (gr_rep hi.2 fun a ha=>hp a (List.mem_cons_of_mem _ ha)) fun a ha e=>?_
   have hm:a∈g:=by
    cases g with
    | nil=>cases ha
    | cons b g=>cases ha;exact List.mem_cons_self
   have:=hi.1 a hm
   rw [e] at this
   exact absurd this Rat.lt_irrefl
theorem cmp_nlt {x y:Rat} (h:y≤x): ¬cmpR x y<0:=Int.not_lt.2 (cmp_ge.2 (Rat.not_lt.2 h))
theorem asc_one {y:Rat} {L:List Rat} (h:ascF (some y) L=true): ∀ {c:Nat} {x:Rat},x≤y→ascF (some x) (List.replicate (c+1) y++L)=true
 | 0,x,hx=>by
   show (if cmpR y x<0 then false else ascF (some y) L)=true
   rw [if_neg (cmp_nlt hx)]
   exact h
 | c+1,x,hx=>by
   show (if cmpR y x<0 then false else ascF (some y) (List.replicate (c+1) y++L))=true
   rw [if_neg (cmp_nlt hx)]
   exact asc_one h (c:=c) Rat.le_refl
theorem asc_rep: ∀ {g:List (Rat×Nat)} {x:Rat},incG g→(∀a∈g,1≤a.2)→(∀a∈g,x≤a.1)→ascF (some x) (rep g)=true
 | [],_,_,_,_=>rfl
 | (y,c)::g,x,hi,hp,hx=>by
   have h1:1≤c:=hp _ List.mem_cons_self
   obtain ⟨d,rfl⟩: ∃d,c=d+1:=⟨c-1,by omega⟩
   exact asc_one (asc_rep hi.2 (fun a ha=>hp a (List.mem_cons_of_mem _ ha)) fun a ha=>Rat.le_of_lt (hi.1 a ha)) (hx _ List.mem_cons_self)
theorem srt_rep {y:Rat} {c:Nat} {g:List (Rat×Nat)} (hi:incG ((y,c)::g)) (hp: ∀a∈(y,c)::g,1≤a.2):srt (rep ((y,c)::g))=true:=by
 have h1:1≤c:=hp _ List.mem_cons_self
 obtain ⟨d,rfl⟩: ∃d,c=d+1:=⟨c-1,by omega⟩
 have hl:0<(rep ((y,d+1)::g)).length:=by
  rw [rep_len]
  show 0<d+1+totG g
  omega
 rw [srt_asc hl]
 have hL:ascF (some y) (rep g)=true:=asc_rep hi.2 (fun a ha=>hp a (List.mem_cons_of_mem _ ha)) fun a ha=>Rat.le_of_lt (hi.1 a ha)
 cases d with
 | zero=>exact hL
 | succ d=>exact asc_one hL (c:=d) Rat.le_refl
theorem all_mid {p n:Nat} {z:Rat} : ∀ {mid:List (Rat×Nat)} {s:Nat},0<s→s+totG (mid++ [(z,p+1)])=n→(∀a∈mid,a.2≤p)→((rg s (mid++ [(z,p+1)])).all fun x=>okR n p x)=true
 | [],s,hs,hn,_=>by
   have hn:s+(p+1+0)=n:=hn
   show (okR n p (s,s+(p+1))&&true)=true
   rw [Bool.and_true]
   unfold okR
   rw [if_neg (by rintro ⟨_,h⟩;have h:s+(p+1)<n:=h;omega)]
   exact decide_eq_true (Nat.add_sub_cancel_left s (p+1))
 | (y,c)::mid,s,hs,hn,hm=>by
   have hn:s+(c+totG (mid++ [(z,p+1)]))=n:=hn
   have hc:c≤p:=hm _ List.mem_cons_self
   have ht:p+1≤totG (mid++ [(z,p+1)]):=by
    have: ∀m:List (Rat×Nat),totG (m++ [(z,p+1)])=totG m+(p+1):=by
     intro m
     induction m with
     | nil=>show p+1+0=0+(p+1);omega
     | cons b m ih=>obtain ⟨w,e⟩:=b;show e+totG (m++ [(z,p+1)])=e+totG m+(p+1);rw [ih];omega
    rw [this];omega
   show (okR n p (s,s+c)&&(rg (s+c) (mid++ [(z,p+1)])).all fun x=>okR n p x)=true
   rw [all_mid (by omega) (by omega) fun a ha=>hm a (List.mem_cons_of_mem _ ha),Bool.and_true]
   unfold okR
   rw [if_pos (show 0<s∧s+c<n by constructor<;>omega)]
   exact decide_eq_true (show s+c-s≤p by omega)
inductive KInv (p:Nat) (t:Rat):List (Rat×Nat)→Prop
 | first:KInv p t [(t,p+1)]
 | more {t0:Rat} {mid:List (Rat×Nat)} {c:Nat} (h1:1≤c) (h2:c≤p) (hm: ∀a∈mid,1≤a.2∧a.2≤p) (hi:incG ((t0,p+1)::(mid++ [(t,c)]))):KInv p t ((t0,p+1)::(mid++ [(t,c)]))
theorem incG_snoc {t u:Rat} {d e:Nat} : ∀ {g:List (Rat×Nat)},incG (g++ [(t,d)])→t<u→incG (g++ [(t,d)]++ [(u,e)])
 | [],_,h=>⟨fun a ha=>by rw [List.mem_singleton.1 ha];exact h,⟨fun a ha=>(by cases ha),trivial⟩⟩
 | (y,c)::g,hi,h=>by
   refine ⟨fun a ha=>?_,incG_snoc hi.2 h⟩
   have hyt:y<t:=hi.1 (t,d) (List.mem_append.2 (.inr List.mem_cons_self))
   rcases List.mem_append.1 ha with ha | ha
   ·exact hi.1 a ha
   ·rw [List.mem_singleton.1 ha]
    show y<u
    grind
theorem incG_last {t:Rat} {d e:Nat} : ∀ {g:List (Rat×Nat)},incG (g++ [(t,d)])→incG (g++ [(t,e)])
 | [],_=>⟨fun a ha=>(by cases ha),trivial⟩
 | (y,c)::g,hi=>by
   refine ⟨fun a ha=>?_,incG_last hi.2⟩
   rcases List.mem_append.1 ha with ha | ha
   ·exact hi.1 a (List.mem_append.2 (.inl ha))
   ·rw [List.mem_singleton.1 ha]
    exact hi.1 (t,d) (List.mem_append.2 (.inr List.mem_cons_self))
theorem KInv.new {p:Nat} {t u:Rat} {g:List (Rat×Nat)} (h:KInv p t g) (htu:t<u) (hp:1≤p):KInv p u (g++ [(u,1)]):=by
 cases h with
 | first=>exact .more (mid:= []) (Nat.le_refl 1) hp (fun a ha=>by cases ha) ⟨fun a ha=>by rw [List.mem_singleton.1 ha];exact htu,⟨fun a ha=>(by cases ha),trivial⟩⟩
 | more h1 h2 hm hi=>
   rename_i t0 mid c
   have:(t0,p+1)::(mid++ [(t,c)])++ [(u,1)]=(t0,p+1)::((mid++ [(t,c)])++ [(u,1)]):=rfl
   rw [this]
   refine .more (Nat.le_refl 1) hp (fun a ha=>?_) ?_
   ·rcases List.mem_append.1 ha with ha | ha
    ·exact hm a ha
    ·rw [List.mem_singleton.1 ha];exact ⟨h1,h2⟩
   ·exact incG_snoc (g:=(t0,p+1)::mid) hi htu
theorem KInv.done {p:Nat} {t u:Rat} {g:List (Rat×Nat)} (h:KInv p t g) (htu:t<u): ∃t0 mid,g++ [(u,p+1)]=(t0,p+1)::(mid++ [(u,p+1)])∧(∀a∈mid,1≤a.2∧a.2≤p)∧incG ((t0,p+1)::(mid++ [(u,p+1)])):=by
 cases h with
 | first=>exact ⟨t,[],rfl,fun a ha=>(by cases ha),fun a ha=>by rw [List.mem_singleton.1 ha];exact htu,fun a ha=>(by cases ha),trivial⟩
 | more h1 h2 hm hi=>
   rename_i t0 mid c
   refine ⟨t0,mid++ [(t,c)],rfl,fun a ha=>?_,incG_snoc (g:=(t0,p+1)::mid) hi htu⟩
   rcases List.mem_append.1 ha with ha | ha
   ·exact hm a ha
   ·rw [List.mem_singleton.1 ha];exact ⟨h1,h2⟩
theorem rep_last {t0 t:Rat} {p c:Nat} {mid:List (Rat×Nat)} :rep ((t0,p+1)::(mid++ [(t,c)]))++ [t]=rep ((t0,p+1)::(mid++ [(t,c+1)])):=by
 show (List.replicate (p+1) t0++rep (mid++ [(t,c)]))++ [t]=List.replicate (p+1) t0++rep (mid++ [(t,c+1)])
 rw [rep_app,rep_app,List.append_assoc,List.append_assoc]
 congr 2
 show (List.replicate c t++ [])++ [t]=List.replicate (c+1) t++ []
 rw [List.append_nil,List.append_nil,←List.replicate_succ']
theorem rep_tail {t0 t:Rat} {p:Nat} {mid:List (Rat×Nat)} (hp:1≤p):(rep ((t0,p+1)::(mid++ [(t,p)]))).getD ((rep ((t0,p+1)::(mid++ [(t,p)]))).length-p) 0=t:=by
 have e:rep ((t0,p+1)::(mid++ [(t,p)]))=(List.replicate (p+1) t0++rep mid)++List.replicate p t:=by
  show List.replicate (p+1) t0++rep (mid++ [(t,p)])=_
  rw [rep_app,List.append_assoc]
  congr 2
  show List.replicate p t++ []=_
  rw [List.append_nil]
 rw [e,List.length_append,List.length_replicate,Nat.add_sub_cancel,List.getD_eq_getElem?_getD,List.getElem?_append_right (Nat.le_refl _),Nat.sub_self,List.getElem?_replicate,if_pos (by omega)]
 rfl
theorem knT_gt {l:List Int} {p n:Nat} {t:Rat} {ks:List Rat} (h:(knC l p t ks n).1=true):t<(knT l p t ks n).1:=by
 rw [knT_cond h]
 obtain ⟨x1,_,_⟩:=nxt_bd l (knC l p t ks n).2 (m:=3) (by decide)
 obtain ⟨y1,_,_⟩:=nxt_bd l (nxt l (knC l p t ks n).2 3).2 (m:=2) (by decide)
 generalize (nxt l (nxt l (knC l p t ks n).2 3).2 2).1=b at*
 generalize (nxt l (knC l p t ks n).2 3).1=a at*
 have h1:(0:Rat)<((1+a:Int):Rat)/((1+b:Int):Rat):=by
  rw [Rat.div_def]
  refine Rat.mul_pos ?_ (Rat.inv_pos.2 ?_)
  ·exact_mod_cast (show (0:Int)<1+a by omega)
  ·exact_mod_cast (show (0:Int)<1+b by omega)
 show t<t+_
 grind
theorem knL_inv {l:List Int} {p:Nat} (hp:1≤p): ∀ {m:Nat} {s:Rat×List Rat×Nat} {g:List (Rat×Nat)},KInv p s.1 g→s.2.1=rep g→ ∃g',KInv p (knL l p m s).1 g'∧(knL l p m s).2.1=rep g'
 | 0,s,g,h,hr=>⟨g,h,hr⟩
 | m+1,s,g,h,hr=>by
   obtain ⟨t,ks,n⟩:=s
   have h:KInv p t g:=h
   have hr:ks=rep g:=hr
   show ∃g',KInv p (knL l p m ((knT l p t ks n).1,ks++ [(knT l p t ks n).1],(knT l p t ks n).2)).1 g'∧_=_
   by_cases hc:(knC l p t ks n).1=true
   ·have hgt:=knT_gt hc
    refine knL_inv hp (h.new hgt hp) ?_
    show ks++ [_]=_
    rw [rep_app,hr]
    rfl
   ·have ht:(knT l p t ks n).1=t:=by rw [knT_not hc]
    have hlen: ¬ks.length=p+1:=fun e=>hc (by unfold knC;rw [if_pos e])
    have hne: ¬t=ks.getD (ks.length-p) 0:=fun e=>hc (by
     unfold knC
     rw [if_neg hlen]
     split
     ·rfl
     ·exact decide_eq_true e)
    cases h with
    | first=>
      exfalso
      apply hlen
      rw [hr,rep_len]
      rfl
    | @more t0 mid c h1 h2 hm hi=>
      have hcp:c<p:=by
       rcases Nat.lt_or_ge c p with hh | hh
       ·exact hh
       ·exfalso
        have:c=p:=by omega
        subst this
        rw [hr] at hne
        exact hne (rep_tail hp).symm
      refine knL_inv hp (s:=((knT l p t ks n).1,ks++ [(knT l p t ks n).1],(knT l p t ks n).2)) (g:=(t0,p+1)::(mid++ [(t,c+1)])) ?_ ?_
      ·show KInv p (knT l p t ks n).1 _
       rw [ht]
       exact .more (by omega) (by omega) hm (incG_last (g:=(t0,p+1)::mid) hi)
      ·show ks++ [(knT l p t ks n).1]=_
       rw [ht,hr]
       exact rep_last
theorem knR_groups {l:List Int} {p inner n:Nat} (hp:1≤p): ∃t0 u mid,knR l p inner n=rep ((t0,p+1)::(mid++ [(u,p+1)]))∧(∀a∈mid,1≤a.2∧a.2≤p)∧incG ((t0,p+1)::(mid++ [(u,p+1)])):=by
 obtain ⟨g,hk,hr⟩:=knL_inv (l:=l) (p:=p) hp (m:=(nxt l (nxt l n 4).2 (inner+1:Nat)).1.toNat) (s:=((((nxt l n 4).1-2:Int):Rat),List.replicate (p+1) (((nxt l n 4).1-2:Int):Rat),(nxt l (nxt l n 4).2 (inner+1:Nat)).2)) KInv.first (by show _=List.replicate (p+1) _++ [];rw [List.append_nil])
 have hlt:(knS l p inner n).1<(knS l p inner n).1+((1:Int):Rat):=by
  have e:((1:Int):Rat)=1:=rfl
  rw [e]
  grind
 obtain ⟨t0,mid,he,hm,hi⟩:=KInv.done (t:=(knS l p inner n).1) hk hlt
 refine ⟨t0,_,mid,?_,hm,hi⟩
 rw [←he,rep_app]
 show (knS l p inner n).2.1++List.replicate (p+1) _=rep g++(List.replicate (p+1) _++ [])
 rw [List.append_nil]
 congr 1
theorem rep_ok {p:Nat} {t0 u:Rat} {mid:List (Rat×Nat)} (hp:1≤p) (hm: ∀a∈mid,1≤a.2∧a.2≤p) (hi:incG ((t0,p+1)::(mid++ [(u,p+1)]))):srt (rep ((t0,p+1)::(mid++ [(u,p+1)])))=true∧((runL (rep ((t0,p+1)::(mid++ [(u,p+1)])))).all fun x=>okR (rep ((t0,p+1)::(mid++ [(u,p+1)]))).length p x.1)=true:=by
 have hpos: ∀a∈(t0,p+1)::(mid++ [(u,p+1)]),1≤a.2:=fun a ha=>by
  rcases List.mem_cons.1 ha with rfl | ha
  ·exact Nat.le_add_left 1 p
  ·rcases List.mem_append.1 ha with ha | ha
   ·exact (hm a ha).1
   ·rw [List.mem_singleton.1 ha];exact Nat.le_add_left 1 p
 refine ⟨srt_rep hi hpos,?_⟩
 have e1: ∀l:List Rat,((runL l).all fun x=>okR l.length p x.1)=(rg 0 (gr l)).all fun x=>okR l.length p x:=fun l=>by rw [←runL_gr,all_map]
 rw [e1,gr_rep hi hpos,rep_len]
 show (okR _ p (0,0+(p+1))&&(rg (0+(p+1)) (mid++ [(u,p+1)])).all fun x=>okR _ p x)=true
 rw [all_mid (by omega) (by rw [Nat.zero_add];rfl) fun a ha=>(hm a ha).2,Bool.and_true]
 unfold okR
 rw [if_neg (fun h=>absurd h.1 (Nat.lt_irrefl 0))]
 exact decide_eq_true (Nat.add_sub_cancel_left 0 (p+1))
theorem made_chk {l:List Int} :chkB (mdK l) (mdP l) ((runL (mdK l)).all fun x=>okR (mdK l).length (mdP l) x.1)=0:=by
 have hp:=mdP_bd l
 obtain ⟨k1,k2⟩:=knR_low (l:=l) (p:=mdP l) (inner:=6) (n:=(nxt l 0 5).2)
 obtain ⟨t0,u,mid,he,hm,hi⟩:=knR_groups (l:=l) (p:=mdP l) (inner:=6) (n:=(nxt l 0 5).2) hp.1
 obtain ⟨h1,h2⟩:=rep_ok hp.1 hm hi
 have e:mdK l=knR l (mdP l) 6 (nxt l 0 5).2:=rfl
 rw [←e] at he k1 k2
 rw [←he] at h1 h2
 unfold chkB
 rw [if_neg (by omega),if_neg (by omega),h1,h2]
 rfl
end Go.Proofs.YtkmalkcgkcpcmaaGreatDoor
