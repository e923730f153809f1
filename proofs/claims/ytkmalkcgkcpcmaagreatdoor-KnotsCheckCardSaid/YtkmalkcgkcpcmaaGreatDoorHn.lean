/-
  Several texts in one: Nb, Nc, Nd, Ne, Nf.
-/
import Derived.Test.YtkmalkcgkcpcmaaGreatDoorHy
namespace Go.Proofs.YtkmalkcgkcpcmaaGreatDoor
open Go.RowKit
set_option linter.unusedVariables false
set_option linter.unusedSimpArgs false
set_option maxRecDepth 20000
set_option maxHeartbeats 4000000
theorem get_at {l:List Rat} {i:Nat} (h:i<l.length): ∃x,l[((i:Nat):Int).toNat]?=some x∧l[i]?=some x:=⟨_,by rw [Int.toNat_natCast];exact List.getElem?_eq_getElem h,List.getElem?_eq_getElem h⟩
theorem cmp_ge {x y:Rat} :cmpR x y≥0↔ ¬x<y:=by
 unfold cmpR
 by_cases h:x<y
 ·rw [if_pos h];simp [h]
 ·rw [if_neg h]
  split<;>simp [h]
abbrev errV (n:Int):AV:= .one (.v (.int .i64 n))
end Go.Proofs.YtkmalkcgkcpcmaaGreatDoor
namespace Go.Proofs.YtkmalkcgkcpcmaaGreatDoor
open Go.RowKit
set_option linter.unusedVariables false
set_option linter.unusedSimpArgs false
set_option maxRecDepth 20000
set_option maxHeartbeats 4000000
theorem c_make {n d:Int} (h:(decide (-9223372036854775808≤n)&&decide (n<9223372036854775808)&&decide (1≤d)&&decide (d<9223372036854775808))=true):Ctr Tryz.prog Amb 76 [errV n,errV d] (.tup [nm 2 ((n:Rat)/(d:Rat)),errV 0]):=by
 simp only [Bool.and_eq_true,decide_eq_true_eq] at h
 obtain ⟨⟨⟨h1,h2⟩,h3⟩,h4⟩:=h
 have e:ratOf (decide (n<0) !=decide (d<0)) n.natAbs d.natAbs=(n:Rat)/(d:Rat):=by
  rw [decide_eq_false (show ¬d<0 by omega),Bool.bne_false]
  unfold ratOf
  rw [sg_self,Rat.mkRat_eq_div]
  congr 1
  have:((d.natAbs:Nat):Int)=d:=by omega
  rw [←Rat.intCast_natCast,this]
 refine ctr_2 fun W0 μ sz w u v ht hu hv=>?_
 cases hu
 cases hv
 refine (make_any n d h1 h2 (by omega) h4 (by omega) w ht).mono ?_
 rintro e' w' ⟨r,rfl,k2,k3⟩
 rw [e] at k2
 refine ⟨_,rfl,k3,[r,.int .i64 0],rfl,rfl,fun i a b ha hb=>?_⟩
 match i with
 | 0=>simp at ha hb;subst ha;subst hb;exact nm_cv k2 (by rw [←e];exact rsz_rof (length_toL_le _ _ (by omega)) (length_toL_le _ _ (by omega)) (by omega))
 | 1=>simp at ha hb;subst ha;subst hb;rfl
 | i+2=>simp at ha
def smR (l:List Rat) (i:Nat):Nat→Rat
 | 0=>0
 | q+1=>smR l i q+l.getD (i+(q+1)) 0
def grevR (l:List Rat) (p:Nat):List Rat:=(List.range (l.length-p-1)).map fun i=>smR l i p*(((1:Int):Rat)/((p:Int):Rat))
theorem getD_at {l:List Rat} {i:Nat} (h:i<l.length):l[((i:Nat):Int).toNat]?=some (l.getD i 0):=by
 rw [Int.toNat_natCast,List.getD_eq_getElem?_getD,List.getElem?_eq_getElem h];rfl
theorem t_poles8 {j p:Nat} {l:List Rat} (hl:l.length≤1000000) (hp:p+1≤l.length):Ctr Tryz.prog Amb 15 [.one (rats j l),errV (p:Nat)] (errV ((l.length-p-1:Nat):Int)):=by
 have b1:=binSub (k:= .i64) (show (IntKind.i64).wrap ((l.length:Int)-p)=((l.length-p:Nat):Int) by rw [show ((l.length:Int)-p)=((l.length-p:Nat):Int) by omega];exact IntWalk.i64_in _ (by omega))
 have b2:=binSub (k:= .i64) (show (IntKind.i64).wrap (((l.length-p:Nat):Int)-1)=((l.length-p-1:Nat):Int) by rw [show (((l.length-p:Nat):Int)-1)=((l.length-p-1:Nat):Int) by omega];exact IntWalk.i64_in _ (by omega))
 refine ctr_body Tryz.func15 rfl rfl rfl rfl rfl rfl ?_
 intro W0 base D μ0 hA hD
 repeat (first | refine aw_seq ?_ | refine aw_block ?_ | refine aw_condT rfl ?_ | refine aw_condF rfl ?_ | refine aw_pa ?_ | refine aw_da ?_ | refine aw_skip ?_ | refine aw_exit ?_)
 refine aw_ret (And.intro (Or.inr rfl) ?_)
 exact f_one
theorem s_poles {j p:Nat} {l:List Rat} (hl:l.length≤1000000) (hp:p+1≤l.length):Ctr Tryz.prog Amb 14 [.one (rats j l),errV (p:Nat)] (errV ((l.length-p-1:Nat):Int)):=by
 have b1:=binSub (k:= .i64) (show (IntKind.i64).wrap ((l.length:Int)-p)=((l.length-p:Nat):Int) by rw [show ((l.length:Int)-p)=((l.length-p:Nat):Int) by omega];exact IntWalk.i64_in _ (by omega))
 have b2:=binSub (k:= .i64) (show (IntKind.i64).wrap (((l.length-p:Nat):Int)-1)=((l.length-p-1:Nat):Int) by rw [show (((l.length-p:Nat):Int)-1)=((l.length-p-1:Nat):Int) by omega];exact IntWalk.i64_in _ (by omega))
 refine ctr_body Tryz.func14 rfl rfl rfl rfl rfl rfl ?_
 intro W0 base D μ0 hA hD
 repeat (first | refine aw_seq ?_ | refine aw_block ?_ | refine aw_condT rfl ?_ | refine aw_condF rfl ?_ | refine aw_pa ?_ | refine aw_da ?_ | refine aw_skip ?_ | refine aw_exit ?_)
 refine aw_ret (And.intro (Or.inr rfl) ?_)
 exact f_one
end Go.Proofs.YtkmalkcgkcpcmaaGreatDoor
namespace Go.Proofs.YtkmalkcgkcpcmaaGreatDoor
open Go.RowKit
set_option linter.unusedVariables false
set_option linter.unusedSimpArgs false
set_option maxRecDepth 20000
set_option maxHeartbeats 4000000
theorem s_permitted {p:Nat} (hp:1≤p∧p≤6):Ctr Tryz.prog Amb 53 [errV (p:Nat)] (.one (.v (.bool true))):=by
 have b1:=binGe (k:= .i64) (decide_eq_true (show (p:Int)≥1 by omega))
 have b2:=binLe (k:= .i64) (decide_eq_true (show (p:Int)≤6 by omega))
 refine ctr_body Tryz.func53 rfl rfl rfl rfl rfl rfl ?_
 intro W0 base D μ0 hA hD
 repeat (first | refine aw_seq ?_ | refine aw_block ?_ | refine aw_condT rfl ?_ | refine aw_condF rfl ?_ | refine aw_pa ?_ | refine aw_da ?_ | refine aw_skip ?_ | refine aw_exit ?_)
 refine aw_ret (And.intro (Or.inr rfl) ?_)
 exact f_one
theorem s_greville {j p:Nat} {l:List Rat} (hj:j≤10000) (hl:l.length≤1000000) (hp:1≤p∧p≤6) (hlp:p+1≤l.length):
  Ctr Tryz.prog Amb 31 [.one (rats j l),errV (p:Nat)] (.one (rats (p*(j+3)+4) (grevR l p))):=by
 have P0:=s_permitted hp
 have P1:=s_poles (j:=j) hl hlp
 have F1:=c_make (n:=1) (d:=(p:Int)) (by rw [decide_eq_true (show (1:Int)≤p by omega),decide_eq_true (show (p:Int)<9223372036854775808 by omega)];rfl)
 obtain ⟨N,hN⟩: ∃N,N=l.length-p-1:=⟨_,rfl⟩
 obtain ⟨R,hR⟩: ∃R,R=grevR l p:=⟨_,rfl⟩
 rw [←hR]
 unfold grevR at hR
 rw [←hN] at P1 hR
 generalize ((1:Int):Rat)/((p:Int):Rat)=t at*
 have hsz: ∀q,q≤p→q*(j+3)≤10000000:=fun q hq=>Nat.le_trans (Nat.mul_le_mul (show q≤100 by omega) (show j+3≤100000 by omega)) (by decide)
 refine ctr_body Tryz.func31 rfl rfl rfl rfl rfl rfl ?_
 intro W0 base D μ0 hA hD
 repeat (first | refine aw_seq ?_ | refine aw_block ?_ | refine aw_condT rfl ?_ | refine aw_condF rfl ?_ | refine aw_pa ?_ | refine aw_da ?_ | refine aw_skip ?_ | refine aw_exit ?_)
 refine aw_loop (fun n σ=> ∃(i:Nat) (done:List Rat),n=N-i∧i≤N∧done=(List.range i).map (fun i=>smR l i p*t)∧Wk ⟨W0,base,D,51,[],μ0⟩ σ [(0,.one (rats j l)),(1,errV (p:Nat)),(5,.one (.ptr 5 0)),(7,.one (.gl 900 done.length 3)),(22,errV (N:Nat)),(23,errV (i:Nat))] [(900,blkL (nmD (p*(j+3)+4)) done),(5,nmC 2 t)]) (n:=N) ⟨0,[],by omega,by omega,by simp,?_⟩ ?_
 ·exact wk_a
 intro n σ hI
 obtain ⟨i,done,hn,hi0,hdone,hw⟩:=hI
 refine aw_wk hw ?_
 clear hw
 have hlen:done.length=i:=by rw [hdone];simp
 by_cases hi:i<N
 ·have bi:=binLt (k:= .i64) (decide_eq_true (show (i:Int)<(N:Int) by omega))
  have hin:=binAdd (k:= .i64) (show (IntKind.i64).wrap ((i:Int)+1)=((i+1:Nat):Int) from IntWalk.i64_in _ (by omega))
  have hip:=binAdd (k:= .i64) (show (IntKind.i64).wrap (((i+1:Nat):Int)+(p:Int))=((i+1+p:Nat):Int) from IntWalk.i64_in _ (by omega))
  obtain ⟨m,hm⟩: ∃m,m=(l.take (i+1+p)).drop (i+1):=⟨_,rfl⟩
  have hml:m.length=p:=by rw [hm,List.length_drop,List.length_take];omega
  have hmg: ∀q,q<p→m[((q:Nat):Int).toNat]?=some (l.getD (i+(q+1)) 0):=fun q hq=>by
   rw [Int.toNat_natCast,hm,List.getElem?_drop,List.getElem?_take,if_pos (by omega),show i+1+q=i+(q+1) by omega,List.getD_eq_getElem?_getD,List.getElem?_eq_getElem (by omega)];rfl
  repeat (first | refine aw_seq ?_ | refine aw_block ?_ | refine aw_condT rfl ?_ | refine aw_condF rfl ?_ | refine aw_pa ?_ | refine aw_da ?_ | refine aw_skip ?_ | refine aw_exit ?_)
  rw [←hm]
  refine aw_loop (fun b σ=> ∃(q:Nat),b=p-q∧q≤p∧Wk ⟨W0,base,D,51,[],μ0⟩ σ [(0,.one (rats j l)),(1,errV (p:Nat)),(5,.one (.ptr 5 0)),(7,.one (.gl 900 done.length 3)),(22,errV (N:Nat)),(23,errV (i:Nat)),(9,.one (.ptr 9 0)),(33,.one (rats j m)),(34,errV (p:Nat)),(35,errV (q:Nat))] [(900,blkL (nmD (p*(j+3)+4)) done),(5,nmC 2 t),(9,nmC (q*(j+3)) (smR l i q))]) (n:=p) ⟨0,by omega,by omega,?_⟩ ?_
  ·exact wk_a
  intro b σ hI
  obtain ⟨q,hb,hq0,hw⟩:=hI
  refine aw_wk hw ?_
  clear hw
  by_cases hq:q<p
  ·have bq:=binLt (k:= .i64) (decide_eq_true (show (q:Int)<(p:Int) by omega))
   have hin2:=binAdd (k:= .i64) (show (IntKind.i64).wrap ((q:Int)+1)=((q+1:Nat):Int) from IntWalk.i64_in _ (by omega))
   have hx:=hmg q hq
   have h5:=hsz q hq0
   have A3:=c_add (j:=q*(j+3)) (k:=j) (x:=smR l i q) (y:=l.getD (i+(q+1)) 0) (by omega) (by omega)
   repeat (first | refine aw_seq ?_ | refine aw_block ?_ | refine aw_condT rfl ?_ | refine aw_condF rfl ?_ | refine aw_pa ?_ | refine aw_da ?_ | refine aw_skip ?_ | refine aw_exit ?_)
   have e5:q*(j+3)+j+3=(q+1)*(j+3):=by rw [Nat.add_mul];omega
   refine ⟨b-1,by omega,q+1,by omega,by omega,?_⟩
   rw [←e5]
   exact wk_a
  ·obtain rfl:q=p:=by omega
   have bq:=binLt (k:= .i64) (decide_eq_false (show ¬(q:Int)<(q:Int) by omega))
   have h5:=hsz q hq0
   have M3:=c_mul (j:=q*(j+3)) (k:=2) (x:=smR l i q) (y:=t) (by omega) (by omega)
   repeat (first | refine aw_seq ?_ | refine aw_block ?_ | refine aw_condT rfl ?_ | refine aw_condF rfl ?_ | refine aw_pa ?_ | refine aw_da ?_ | refine aw_skip ?_ | refine aw_exit ?_)
   try refine aw_seq ?_
   refine aw_plainT 5 (by simp only [List.take_succ_cons,List.take_zero,List.drop_succ_cons,List.drop_zero];exact ⟨rfl,rfl⟩) (by kernel_rfl) ?_
   repeat (first
    | refine v_move (hl:=?_)
    | refine v_assign (hl:=?_)
    | refine v_load (hl:=?_)
    | refine v_store (hl:=?_)
    | refine v_alloc (hl:=?_)
    | refine v_extract (hl:=?_)
    | refine v_bin (hl:=?_)
    | refine v_indexAddr (hl:=?_)
    | refine v_not (hl:=?_)
    | refine v_max (hl:=?_)
    | refine v_min (hl:=?_)
    | refine v_len (hl:=?_)
    | refine v_lenS (hl:=?_)
    | refine v_loadF (hl:=?_)
    | refine v_buildL (hl:=?_)
    | refine v_callE hA (hc:=M3) (hl:=?_))
   apply RunK.nil
   refine v_app (k:=900) (ss:= [(0,.one (rats j l)),(1,errV (q:Nat)),(5,.one (.ptr 5 0)),(22,errV (N:Nat)),(23,errV (i:Nat))]) (bs:= [(5,nmC 2 t)]) (ns:=(nmC (q*(j+3)+2+2) (smR l i q*t))) hD ?_ ?_ ?_
   ·exact ⟨by omega,by omega⟩
   ·exact wk_a
   repeat (refine tl_run rfl ?_;(first | refine v_assign (hl:=?_) | refine v_move (hl:=?_) | refine v_store (hl:=?_));apply RunK.nil)
   refine tl_nil ?_
   repeat (first | refine aw_seq ?_ | refine aw_block ?_ | refine aw_condT rfl ?_ | refine aw_condF rfl ?_ | refine aw_pa ?_ | refine aw_da ?_ | refine aw_skip ?_ | refine aw_exit ?_)
   refine ⟨n-1,by omega,i+1,done++ [smR l i q*t],by omega,by omega,?_,?_⟩
   ·rw [hdone,List.range_succ,List.map_append];rfl
   ·exact wk_a
 ·have bi:=binLt (k:= .i64) (decide_eq_false (show ¬(i:Int)<(N:Int) by omega))
  have he:done=R:=by rw [hdone,hR,show i=N by omega]
  subst he
  repeat (first | refine aw_seq ?_ | refine aw_block ?_ | refine aw_condT rfl ?_ | refine aw_condF rfl ?_ | refine aw_pa ?_ | refine aw_da ?_ | refine aw_skip ?_ | refine aw_exit ?_)
  refine aw_freeze 900 hD (ss:= [(4,.one (rats (p*(j+3)+4) done))]) (bs:= []) ?_ ?_
  ·exact fz_a
  refine aw_ret (And.intro (Or.inr rfl) ?_)
  exact f_one
end Go.Proofs.YtkmalkcgkcpcmaaGreatDoor
namespace Go.Proofs.YtkmalkcgkcpcmaaGreatDoor
open Go.RowKit
set_option linter.unusedVariables false
set_option linter.unusedSimpArgs false
set_option maxRecDepth 20000
set_option maxHeartbeats 4000000
end Go.Proofs.YtkmalkcgkcpcmaaGreatDoor
namespace Go.Proofs.YtkmalkcgkcpcmaaGreatDoor
open Go.RowKit
set_option linter.unusedVariables false
set_option linter.unusedSimpArgs false
set_option maxRecDepth 20000
set_option maxHeartbeats 4000000
def RevI (l cur:List Rat) (i:Nat):Prop:=cur.length=l.length∧ ∀q,q<l.length→cur[q]?=if q<i∨l.length≤q+i then l[l.length-1-q]? else l[q]?
theorem RevI.start (l:List Rat):RevI l l 0:=⟨rfl,fun q hq=>by rw [if_neg (by omega)]⟩
theorem RevI.step {l cur:List Rat} {i j:Nat} {x y:Rat} (h:RevI l cur i) (hj:j+i+1=l.length) (hij:i<j) (hx:cur[i]?=some x) (hy:cur[j]?=some y):RevI l ((cur.set i y).set j x) (i+1):=by
 refine ⟨by rw [List.length_set,List.length_set];exact h.1,fun q hq=>?_⟩
 have e1:=h.2 i (by omega)
 rw [if_neg (by omega),hx] at e1
 have e2:=h.2 j (by omega)
 rw [if_neg (by omega),hy] at e2
 by_cases hqj:q=j
 ·subst hqj
  rw [List.getElem?_set_self (by rw [List.length_set,h.1];omega),if_pos (by omega),show l.length-1-q=i by omega,←e1]
 ·rw [List.getElem?_set_ne (Ne.symm hqj)]
  by_cases hqi:q=i
  ·subst hqi
   rw [List.getElem?_set_self (by rw [h.1];omega),if_pos (by omega),show l.length-1-q=j by omega,←e2]
  ·rw [List.getElem?_set_ne (Ne.symm hqi),h.2 q hq]
   by_cases hc:q<i∨l.length≤q+i
   ·rw [if_pos hc,if_pos (by omega)]
   ·rw [if_neg hc,if_neg (by omega)]
theorem RevI.done {l cur:List Rat} {i:Nat} (h:RevI l cur i) (hi:l.length≤2*i+1):cur=l.reverse:=by
 refine List.ext_getElem? fun q=>?_
 by_cases hq:q<l.length
 ·rw [h.2 q hq,List.getElem?_reverse hq]
  by_cases hc:q<i∨l.length≤q+i
  ·rw [if_pos hc]
  ·rw [if_neg hc,show l.length-1-q=q by omega]
 ·rw [List.getElem?_eq_none (by rw [h.1];omega),List.getElem?_eq_none (by simp;omega)]
end Go.Proofs.YtkmalkcgkcpcmaaGreatDoor
