/-
  Several texts in one: Sn, So.
-/
import Derived.Test.YtkmalkcgkcpcmaaGreatDoorGk
import Derived.Test.YtkmalkcgkcpcmaaGreatDoorEw
namespace Go.Proofs.YtkmalkcgkcpcmaaGreatDoor
open Go.RowKit
set_option linter.unusedVariables false
set_option linter.unusedSimpArgs false
set_option maxRecDepth 20000
set_option maxHeartbeats 4000000
abbrev diceC (l:List Int) (n:Nat):List C:= [.ints l,.v (.int .i64 (n:Nat))]
def nxt (l:List Int) (n:Nat) (m:Int):Int×Nat:=match l[n]? with | some x=>(x % m,n+1) | none=>(0,n)
theorem nxt_bd (l:List Int) (n:Nat) {m:Int} (hm:0<m):0≤(nxt l n m).1∧(nxt l n m).1<m∧(n≤l.length→(nxt l n m).2≤l.length):=by
 unfold nxt
 cases h:l[n]? with
 | none=>exact ⟨Int.le_refl _,hm,fun h=>h⟩
 | some x=>
   have:=(List.getElem?_eq_some_iff.1 h).1
   exact ⟨Int.emod_nonneg _ (by omega),Int.emod_lt_of_pos _ hm,fun _=>this⟩
theorem emod_neg {n m:Int} (hm:0<m) (h:n.tmod m<0):n % m=n.tmod m+m:=by
 have h3: -m<n.tmod m:=Int.lt_tmod_of_pos n hm
 have h4:n=m*n.tdiv m+n.tmod m:=(Int.mul_tdiv_add_tmod n m).symm
 have h5:n=(n.tmod m+m)+m*(n.tdiv m-1):=by rw [Int.mul_sub];omega
 rw [h5,Int.add_mul_emod_self_left]
 rw [←h5]
 exact Int.emod_eq_of_lt (by omega) (by omega)
theorem emod_pos {n m:Int} (hm:0<m) (h: ¬n.tmod m<0):n % m=n.tmod m:=by
 have h3:=Int.tmod_lt_of_pos n hm
 have h4:n=n.tmod m+m*n.tdiv m:=by have:=Int.mul_tdiv_add_tmod n m;omega
 rw [h4,Int.add_mul_emod_self_left,←h4]
 exact Int.emod_eq_of_lt (by omega) h3
theorem d_mod {n m:Int} (h1: -9223372036854775808≤n) (h2:n<9223372036854775808) (hm:0<m) (hm2:m<1000000):Ctr Tryz.prog Amb 18 [.one (.v (.int .i64 n)),.one (.v (.int .i64 m))] (.one (.v (.int .i64 (n % m)))):=by
 have hr:(IntKind.i64).wrap (n.tmod m+m)=n.tmod m+m:=by
  have h3:=Int.tmod_lt_of_pos n hm
  have h4: -m<n.tmod m:=Int.lt_tmod_of_pos n hm
  exact IntWalk.i64_in _ (by omega)
 have hs:=binAdd (k:= .i64) hr
 refine ctr_body Tryz.func18 rfl rfl rfl rfl rfl rfl ?_
 intro W0 base D μ0 hA hD
 repeat (first
  | refine aw_seq ?_ | refine aw_block ?_ | refine aw_condT rfl ?_ | refine aw_condF rfl ?_
  | (refine aw_plainK (by kernel_rfl) ?_
     repeat (first
      | refine v_move (hl:=?_)
      | refine v_assign (hl:=?_)
      | refine v_bin (hc:=(binRem (show m≠0 by omega))) (hl:=?_)
      | refine v_bin (hl:=?_))
     apply RunK.nil)
  | refine aw_skip ?_ | refine aw_exit ?_)
 refine aw_cond rfl (fun h=>?_) (fun h=>?_)
 ·repeat (first
   | refine aw_seq ?_ | refine aw_block ?_ | refine aw_condT rfl ?_ | refine aw_condF rfl ?_
   | (refine aw_plainK (by kernel_rfl) ?_
      repeat (first
       | refine v_move (hl:=?_)
       | refine v_assign (hl:=?_)
       | refine v_bin (hl:=?_))
      apply RunK.nil)
   | refine aw_skip ?_ | refine aw_exit ?_)
  refine aw_ret (And.intro (Or.inr rfl) ?_)
  exact f_one (hE:=(Ent.of_eq (by rw [emod_neg hm (of_decide_eq_true h)];rfl)))
 ·repeat (first
   | refine aw_seq ?_ | refine aw_block ?_ | refine aw_condT rfl ?_ | refine aw_condF rfl ?_
   | (refine aw_plainK (by kernel_rfl) ?_
      repeat (first
       | refine v_move (hl:=?_)
       | refine v_assign (hl:=?_)
       | refine v_bin (hl:=?_))
      apply RunK.nil)
   | refine aw_skip ?_ | refine aw_exit ?_)
  refine aw_ret (And.intro (Or.inr rfl) ?_)
  exact f_one (hE:=(Ent.of_eq (by rw [emod_pos hm (of_decide_eq_false h)];rfl)))
theorem d_light (l:List Int):Ctr Tryz.prog Amb 10 [.one (.ints l)] (.one (.v (.bool (decide ((l.length:Int)≤500))))):=by
 refine ctr_body Tryz.func10 rfl rfl rfl rfl rfl rfl ?_
 intro W0 base D μ0 hA hD
 repeat (first
  | refine aw_seq ?_ | refine aw_block ?_ | refine aw_condT rfl ?_ | refine aw_condF rfl ?_
  | (refine aw_plainK (by kernel_rfl) ?_
     repeat (first
      | refine v_move (hl:=?_)
      | refine v_assign (hl:=?_)
      | refine v_bin (hl:=?_)
      | refine v_max (hl:=?_)
      | refine v_min (hl:=?_)
      | refine v_len (hl:=?_))
     apply RunK.nil)
  | refine aw_skip ?_ | refine aw_exit ?_)
 refine aw_ret (And.intro (Or.inr rfl) ?_)
 exact f_one
theorem d_next0 {l:List Int} {n:Nat} {m:Int} (hb: ∀x∈l,-9223372036854775808≤x∧x<9223372036854775808) (hl:l.length≤1000000) (hn:n≤l.length) (hm:0<m) (hm2:m<1000000):
  CtrM Tryz.prog Amb 51 [.one (.ptr 900 0),.one (.v (.int .i64 m))] [(900,diceC l n,diceC l (nxt l n m).2)] (.one (.v (.int .i64 (nxt l n m).1))):=by
 apply ctr_body Tryz.func51 rfl rfl rfl rfl rfl
 case hin=>simp [inA,inC]
 intro W0 base D μ0 hA hD
 unfold nxt
 cases hx:l[n]? with
 | none=>
   have hge:decide ((n:Int)≥(l.length:Int))=true:=decide_eq_true (by have:=List.getElem?_eq_none_iff.1 hx;omega)
   have hge':=binGe (k:= .i64) hge
   repeat (first
    | refine aw_seq ?_ | refine aw_block ?_ | refine aw_condT rfl ?_ | refine aw_condF rfl ?_
    | ((first | refine aw_plainK (by kernel_rfl) ?_ | refine aw_drawK (by kernel_rfl) (by kernel_rfl) (by kernel_rfl) ?_)
       repeat (first
        | refine v_move (hl:=?_)
        | refine v_assign (hl:=?_)
        | refine v_load (hl:=?_)
        | refine v_fieldAddr (hl:=?_)
        | refine v_store (hl:=?_)
        | refine v_bin (hl:=?_)
        | refine v_indexAddr (hl:=?_)
        | refine v_nilCheck (hl:=?_)
        | refine v_nilCheckFn (hl:=?_)
        | refine v_max (hl:=?_)
        | refine v_min (hl:=?_)
        | refine v_len (hl:=?_))
       apply RunK.nil;try refine And.intro (by kernel_rfl) ?_)
    | refine aw_skip ?_ | refine aw_exit ?_)
   refine aw_ret (And.intro (Or.inr rfl) ?_)
   exact f_oneM
 | some x=>
   have hlt:=(List.getElem?_eq_some_iff.1 hx).1
   have hge:decide ((n:Int)≥(l.length:Int))=false:=decide_eq_false (by omega)
   have hge':=binGe (k:= .i64) hge
   have hup:(IntKind.i64).wrap ((n:Int)+1)=((n+1:Nat):Int):=IntWalk.i64_in _ (by omega)
   have hup':=binAdd (k:= .i64) hup
   have hdn:(IntKind.i64).wrap (((n+1:Nat):Int)-1)=(n:Int):=by rw [show ((n+1:Nat):Int)-1=n by omega];exact IntWalk.i64_in _ (by omega)
   have hdn':=binSub (k:= .i64) hdn
   have hxb:=hb x (List.mem_of_getElem? hx)
   have hix:l[((n:Nat):Int).toNat]?=some x:=by simpa using hx
   repeat (first
    | refine aw_seq ?_ | refine aw_block ?_ | refine aw_condT rfl ?_ | refine aw_condF rfl ?_
    | ((first | refine aw_plainK (by kernel_rfl) ?_ | refine aw_drawK (by kernel_rfl) (by kernel_rfl) (by kernel_rfl) ?_)
       repeat (first
        | refine v_move (hl:=?_)
        | refine v_assign (hl:=?_)
        | refine v_load (hl:=?_)
        | refine v_fieldAddr (hl:=?_)
        | refine v_store (hl:=?_)
        | refine v_bin (hl:=?_)
        | refine v_indexAddr (hl:=?_)
        | refine v_nilCheck (hl:=?_)
        | refine v_nilCheckFn (hl:=?_)
        | refine v_max (hl:=?_)
        | refine v_min (hl:=?_)
        | refine v_loadInt (hl:=?_)
        | refine v_len (hl:=?_)
        | refine v_call hA (hc:=d_mod hxb.1 hxb.2 hm hm2) (hl:=?_)
        | (apply u_indexInts;(case hg=>first | exact trivial | exact rfl);(case hd=>exact rfl);(case hx=>exact rfl);(case hy=>exact rfl);(case hi=>omega);(case hc=>exact hix)))
       apply RunK.nil;try refine And.intro (by kernel_rfl) ?_)
    | refine aw_skip ?_ | refine aw_exit ?_)
   refine aw_ret (And.intro (Or.inr rfl) ?_)
   exact f_oneM
theorem d_next {l:List Int} {n k:Nat} {m:Int} (hb: ∀x∈l,-9223372036854775808≤x∧x<9223372036854775808) (hl:l.length≤1000000) (hn:n≤l.length) (hm:0<m) (hm2:m<1000000):
  CtrM Tryz.prog Amb 51 [.one (.ptr k 0),.one (.v (.int .i64 m))] [(k,diceC l n,diceC l (nxt l n m).2)] (.one (.v (.int .i64 (nxt l n m).1))):=
 (d_next0 hb hl hn hm hm2).at1 k rfl rfl
theorem d_roll (l:List Int):CtrN Tryz.prog Amb 50 [.one (.ints l)] (diceC l 0):=by
 refine ctrN_body 5 Tryz.func50 rfl rfl rfl rfl rfl ?_
 intro W0 base D μ0 hA hD
 repeat (first
  | refine aw_seq ?_ | refine aw_block ?_ | refine aw_condT rfl ?_ | refine aw_condF rfl ?_
  | (refine aw_plainK (by kernel_rfl) ?_
     repeat (first
      | refine v_move (hl:=?_)
      | refine v_assign (hl:=?_)
      | refine v_box (hl:=?_)
      | refine v_buildS (hl:=?_)
      | refine v_buildA (hl:=?_))
     apply RunK.nil)
  | refine aw_skip ?_ | refine aw_exit ?_)
 refine aw_ret (And.intro (Or.inr rfl) (And.intro f_one (fun q hq=>?_)))
 obtain rfl:=List.mem_singleton.1 hq
 refine ⟨rfl,fun i c h=>?_⟩
 match i,h with
 | 0,h=>exact ⟨EntC.of_eq (Option.some.inj h),by cases h;trivial⟩
 | 1,h=>exact ⟨EntC.of_eq (Option.some.inj h),by cases h;exact noLB_ok rfl⟩
end Go.Proofs.YtkmalkcgkcpcmaaGreatDoor
namespace Go.Proofs.YtkmalkcgkcpcmaaGreatDoor
open Go.RowKit
set_option linter.unusedVariables false
set_option linter.unusedSimpArgs false
set_option maxRecDepth 20000
set_option maxHeartbeats 4000000
def ratM (n d:Int):Rat:=((n % 41-20:Int):Rat)/((d % 8+1:Int):Rat)
theorem d_rat {n d:Int} (h1: -9223372036854775808≤n) (h2:n<9223372036854775808) (h3: -9223372036854775808≤d) (h4:d<9223372036854775808):
  Ctr Tryz.prog Amb 17 [.one (.v (.int .i64 n)),.one (.v (.int .i64 d))] (nm 2 (ratM n d)):=by
 have hs:(IntKind.i64).wrap (n % 41-20)=n % 41-20:=IntWalk.i64_in _ (by omega)
 have hs':=binSub (k:= .i64) hs
 have hp:(IntKind.i64).wrap (d % 8+1)=d % 8+1:=IntWalk.i64_in _ (by omega)
 have hp':=binAdd (k:= .i64) hp
 have hs2:(IntKind.i64).wrap (n % 41)=n % 41:=IntWalk.i64_in _ (by omega)
 have hp2:(IntKind.i64).wrap (d % 8)=d % 8:=IntWalk.i64_in _ (by omega)
 have M1:=d_mod (n:=n) (m:=41) h1 h2 (by decide) (by decide)
 have M2:=d_mod (n:=d) (m:=8) h3 h4 (by decide) (by decide)
 have hfr:(decide (-9223372036854775808≤n % 41-20)&&decide (n % 41-20<9223372036854775808)&&decide (1≤d % 8+1)&&decide (d % 8+1<9223372036854775808))=true:=by
  rw [decide_eq_true (show-9223372036854775808≤n % 41-20 by omega),decide_eq_true (show n % 41-20<9223372036854775808 by omega),decide_eq_true (show 1≤d % 8+1 by omega),decide_eq_true (show d % 8+1<9223372036854775808 by omega)];rfl
 have R1:=r_frac hfr
 unfold ratM
 refine ctr_body Tryz.func17 rfl rfl rfl rfl rfl rfl ?_
 intro W0 base D μ0 hA hD
 repeat (first
  | refine aw_seq ?_ | refine aw_block ?_ | refine aw_condT rfl ?_ | refine aw_condF rfl ?_
  | (refine aw_plainK (by kernel_rfl) ?_
     repeat (first
      | refine v_move (hl:=?_)
      | refine v_store (hl:=?_)
      | refine v_alloc (hl:=?_)
      | refine v_bin (hl:=?_)
      | refine v_call hA (hc:=M1) (hl:=?_)
      | refine v_call hA (hc:=M2) (hl:=?_)
      | refine v_call hA (hc:=R1) (hl:=?_))
     apply RunK.nil)
  | refine aw_skip ?_ | refine aw_exit ?_)
 refine aw_ret (And.intro (Or.inr rfl) ?_)
 exact f_one
end Go.Proofs.YtkmalkcgkcpcmaaGreatDoor
