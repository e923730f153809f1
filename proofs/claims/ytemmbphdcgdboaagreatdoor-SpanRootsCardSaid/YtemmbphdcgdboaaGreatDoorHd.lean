/-
  Several texts in one: Re0, Re.
-/
import Derived.Test.YtemmbphdcgdboaaGreatDoorHc
namespace Go.Proofs.YtemmbphdcgdboaaGreatDoor
set_option linter.unusedVariables false
set_option maxHeartbeats 4000000
theorem fx_sub {k L H:Nat} (h:L≤H):fx k H-fx k L=fx k (H-L):=by
 have hp:=pow2_pos k
 have h1:=fx_mul k H
 have h2:=fx_mul k L
 have h3:=fx_mul k (H-L)
 have e:((H:Nat):Rat)=((H-L:Nat):Rat)+(L:Rat):=by rw [←natR_add];congr 1;omega
 have g1:fx k H-fx k L≤fx k (H-L):=le_of_mul hp (by grind)
 have g2:fx k (H-L)≤fx k H-fx k L:=le_of_mul hp (by grind)
 grind
theorem fx_gap {k L H:Nat} (h:L≤H):cmpR (fx k H-fx k L) (fx k 1)>0↔1<H-L:=by
 rw [fx_sub h]
 show 0<_↔_
 rw [cmp_pos]
 exact fx_lt
theorem fx_sqc {r:Rat} (hr:0≤r) (k M:Nat):cmpR (fx k M*fx k M) r≤0↔M*M≤nR r k:=by rw [cmp_le0];exact fx_sq_le hr k M
def topN (r:Rat) (k:Nat):Nat:=(r.floor.toNat+1)*2^k
theorem floor_nn {r:Rat} (hr:0≤r):((r.floor:Int):Rat)=((r.floor.toNat:Nat):Rat):=by
 have h1:(0:Int)≤r.floor:=Rat.le_floor_iff.2 hr
 have h2:(((r.floor.toNat:Nat):Int):Rat)=(r.floor:Rat):=by rw [Int.toNat_of_nonneg h1]
 exact h2.symm
theorem top_fx {r:Rat} (hr:0≤r) (k:Nat):((r.floor:Int):Rat)+1=fx k (topN r k):=by
 have hp:=pow2_pos k
 have h:=fx_mul k (topN r k)
 rw [floor_nn hr]
 have e:((topN r k:Nat):Rat)=(((r.floor.toNat:Nat):Rat)+1)*((2^k:Nat):Rat):=by
  unfold topN
  rw [natR_mul,natR_add]
  rfl
 rw [e] at h
 have g1:((r.floor.toNat:Nat):Rat)+1≤fx k (topN r k):=le_of_mul hp (by grind)
 have g2:fx k (topN r k)≤((r.floor.toNat:Nat):Rat)+1:=le_of_mul hp (by grind)
 grind
theorem top_gt {r:Rat} (hr:0≤r) (k:Nat):nR r k<topN r k*topN r k:=by
 obtain ⟨h1,h2⟩:=nR_ok hr k
 have hp:=pow2_pos k
 have hf:r<((r.floor.toNat:Nat):Rat)+1:=by
  have h3:r<((r.floor+1:Int):Rat):=Rat.lt_floor_add_one r
  rw [Rat.intCast_add,floor_nn hr] at h3
  exact h3
 have hz:=natR_nn r.floor.toNat
 have h4:((nR r k:Nat):Rat)<((topN r k*topN r k:Nat):Rat):=by
  have e:((topN r k:Nat):Rat)=(((r.floor.toNat:Nat):Rat)+1)*((2^k:Nat):Rat):=by
   unfold topN
   rw [natR_mul,natR_add]
   rfl
  rw [natR_mul,e]
  generalize ((r.floor.toNat:Nat):Rat)=f at*
  generalize ((2^k:Nat):Rat)=p at*
  have h5:0<p*p:=Rat.mul_pos hp hp
  have h6:=Rat.mul_pos (a:=f+1-r) (b:=p*p) (by grind) h5
  have h7:=Rat.mul_nonneg (a:=(f+1)*f) (b:=p*p) (Rat.mul_nonneg (by grind) hz) (Rat.le_of_lt h5)
  have h8:(f+1)*p*((f+1)*p)=(f+1)*f*(p*p)+(f+1-r)*(p*p)+r*p*p:=by grind
  rw [h8]
  grind
 exact natR_lt.1 h4
theorem top_lt' {r:Rat} {k n:Nat} (hr:0≤r) (hk:k≤4096) (hn:bitsN r.num.natAbs≤10000) (h:14100≤32*n):topN r k<4294967296^n:=by
 rw [show (4294967296:Nat)^n=2^(32*n) by rw [Nat.pow_mul]]
 have h1:r.floor.toNat≤r.num.natAbs:=by
  have h2:((r.floor.toNat:Nat):Rat)≤r:=by rw [←floor_nn hr];exact Rat.floor_le r
  have hd:((1:Nat):Rat)≤(r.den:Rat):=natR_le.2 r.den_pos
  have one:((1:Nat):Rat)=1:=rfl
  rw [one] at hd
  have h3:=Rat.mul_nonneg hr (show 0≤(r.den:Rat)-1 by grind)
  have h4:=rat_den r
  have h5:(r.num:Rat)=((r.num.natAbs:Nat):Rat):=by
   have h6:=Rat.num_nonneg.2 hr
   have e:r.num=((r.num.natAbs:Nat):Int):=by omega
   conv=>lhs;rw [e]
   rfl
  exact natR_le.1 (by grind)
 obtain ⟨B,hB⟩: ∃B,B=10000:=⟨_,rfl⟩
 rw [←hB] at hn
 have h2:r.num.natAbs<2^B:=by
  by_cases h0:r.num.natAbs=0
  ·rw [h0];exact Nat.two_pow_pos _
  ·exact Nat.lt_of_lt_of_le (bitsN_spec h0).2.1 (Nat.pow_le_pow_right (by decide) hn)
 have h3:r.floor.toNat+1≤2^B:=by
  generalize 2^B=P at*
  omega
 have h4:topN r k≤2^B*2^k:=Nat.mul_le_mul_right _ h3
 rw [←Nat.pow_add] at h4
 exact Nat.lt_of_le_of_lt h4 (Nat.pow_lt_pow_right (by decide) (by omega))
theorem top_lt {r:Rat} {k:Nat} (hr:0≤r) (hk:k≤4096) (hn:bitsN r.num.natAbs≤10000):topN r k<4294967296^1000:=top_lt' (n:=1000) hr hk hn (by decide)
theorem root_done {r:Rat} {k L H:Nat} (h1:L*L≤nR r k) (h2:nR r k<H*H) (h3:L<H) (h4: ¬1<H-L):fx k L=rootR r k:=by
 have e:H=L+1:=by omega
 subst e
 unfold rootR
 rw [isq_uniq h1 h2]
theorem half_step (i:Nat):fx i 1*((1:Int)/(2:Int):Rat)=fx (i+1) 1:=by
 have h1:=fx_mul i 1
 have h2:=fx_mul (i+1) 1
 have hp:=pow2_pos i
 have hq:=pow2_pos (i+1)
 have e:((2^(i+1):Nat):Rat)=((2^i:Nat):Rat)*2:=by rw [Nat.pow_succ,natR_mul];rfl
 have one:((1:Nat):Rat)=1:=rfl
 have hh:(((1:Int):Rat)/((2:Int):Rat))*2=1:=by decide+kernel
 rw [one] at h1 h2
 rw [e] at h2 hq
 generalize ((2^i:Nat):Rat)=p at*
 generalize ((1:Int):Rat)/((2:Int):Rat)=t at*
 have g:(fx i 1*t)*(p*2)=fx (i+1) 1*(p*2):=by rw [h2];grind
 have g1:fx i 1*t≤fx (i+1) 1:=le_of_mul hq (by rw [g];exact Rat.le_refl)
 have g2:fx (i+1) 1≤fx i 1*t:=le_of_mul hq (by rw [g];exact Rat.le_refl)
 exact Rat.le_antisymm g1 g2
theorem fx01:fx 0 1=1:=by decide+kernel
theorem unit_eq (k:Nat):twoPow (-(k:Int))=fx k 1:=by
 rw [twoPow_fx (Int.le_refl _)]
 have e:((k:Int)+ -(k:Int)).toNat=0:=by omega
 rw [e]
theorem unit_sz {i:Nat} (h:i≤4096):RSz 129 (fx i 1):=fx_sz (by omega) (by decide)
theorem root_mx (a:Rat) (k:Nat):rootR (mx a 0) k=rootR a k:=by
 rcases mx_cases a 0 with ⟨e,h⟩ | ⟨e,h⟩
 ·rw [e]
 ·rw [e,rootR_neg (show ¬0<a by grind),rootR_neg (by grind)]
theorem mx_nn (a:Rat):0≤mx a 0:=by
 rcases mx_cases a 0 with ⟨e,h⟩ | ⟨e,h⟩<;>rw [e]
 ·exact h
 ·exact Rat.le_refl
end Go.Proofs.YtemmbphdcgdboaaGreatDoor
namespace Go.Proofs.YtemmbphdcgdboaaGreatDoor
open Go.RowKit
set_option linter.unusedVariables false
set_option linter.unusedSimpArgs false
set_option maxRecDepth 20000
set_option maxHeartbeats 4000000
abbrev z3:List C:= [.v (.bool false),.v (.slice none 0 0),.v (.slice none 0 0)]
abbrev unS (k:Int) (i:Nat):List (Nat×AV):= [(0,.one (.v (.int .i64 k))),(2,.one (.ptr 2 0)),(3,.one (.ptr 3 0)),(4,.one (.v (.int .i64 (i:Nat))))]
theorem t_unit {k:Int} :Ctr Tryz.prog Amb 89 [.one (.v (.int .i64 k))] (nm 129 (twoPow (-(scaleQ k:Int)))):=by
 obtain ⟨m,hm⟩: ∃m:Int,(if 4096<k then 4096 else k)=m:=⟨_,rfl⟩
 obtain ⟨K,hK⟩: ∃K,K=scaleQ k:=⟨_,rfl⟩
 have hK1:K≤4096:=by rw [hK];exact scaleQ_le k
 have hmK:(K:Int)=if 0<m then m else 0:=by
  rw [hK];unfold scaleQ
  split at hm<;>split<;>omega
 have I1:=r_int (n:=1) rfl
 rw [show ((1:Int):Rat)=fx 0 1 from fx01.symm] at I1
 have F1:=r_frac (n:=1) (d:=2) rfl
 rw [←hK,unit_eq]
 clear hK
 refine ctr_body Tryz.func89 rfl rfl rfl rfl rfl rfl ?_
 intro W0 base D μ0 hA
 repeat (first
  | refine aw_seq ?_ | refine aw_block ?_ | refine aw_condT rfl ?_ | refine aw_condF rfl ?_
  | ((first | refine aw_plainK (by kernel_rfl) ?_ | refine aw_drawK (by kernel_rfl) (by kernel_rfl) (by kernel_rfl) ?_)
     repeat (first
      | refine v_move (hl:=?_)
      | refine v_assign (hl:=?_)
      | refine v_load (hl:=?_)
      | refine v_store (hl:=?_)
      | refine v_alloc (hl:=?_)
      | refine v_bin (hl:=?_)
      | refine v_max (hl:=?_)
      | refine v_min (hl:=?_)
      | refine v_len (hl:=?_)
      | refine v_callE hA (hc:=I1) (hl:=?_))
     apply RunK.nil;try refine And.intro (by kernel_rfl) ?_)
  | refine aw_skip ?_ | refine aw_exit ?_)
 refine aw_loop (fun n σ=> ∃i,n+i=K∧Wk ⟨W0,base,D,16,[],μ0⟩ σ (unS k i) [(2,z3),(3,nmC 129 (fx i 1))]) (n:=K) ⟨0,by omega,?_⟩ ?_
 ·refine wk_mk ?_ ?_ rfl
  ·repeat (first | exact nil_all | refine List.forall_mem_cons.2 ⟨Ent.of_eq rfl,?_⟩)
  ·repeat (first | exact nil_all | (refine List.forall_mem_cons.2 ⟨blk_ok rfl ?_ rfl,?_⟩;focus ((repeat (first | exact EntL.nil' rfl | (refine EntL.cons' rfl ?_ ?_;focus (first | exact EntC.of_eq rfl | (refine EntC.q rfl ?_;omega) | exact Z0 _ | exact Z2 _ | exact EntC.z0 (k:=0) | exact EntC.z1 (k:=0) | exact EntC.z2 (k:=0) | exact EntC.z0 | exact EntC.z1 | exact EntC.z2))));done)))
 intro n σ hI
 obtain ⟨i,h1,hw⟩:=hI
 refine aw_wk hw ?_
 clear hw
 by_cases hi:i<K
 ·have bi:=binLt (k:= .i64) (decide_eq_true (show (i:Int)<m by split at hmK<;>omega))
  have hin:(IntKind.i64).wrap ((i:Int)+1)=((i+1:Nat):Int):=IntWalk.i64_in _ (by omega)
  have hin':=binAdd (k:= .i64) hin
  have M1:=r_mul (j:=129) (k:=2) (x:=fx i 1) (y:=((1:Int):Rat)/((2:Int):Rat)) (by omega) (by omega)
  rw [half_step] at M1
  have hs:RSz 129 (fx (i+1) 1):=unit_sz (by omega)
  repeat (first
   | refine aw_seq ?_ | refine aw_block ?_ | refine aw_condT rfl ?_ | refine aw_condF rfl ?_
   | ((first | refine aw_plainK (by kernel_rfl) ?_ | refine aw_drawK (by kernel_rfl) (by kernel_rfl) (by kernel_rfl) ?_)
      repeat (first
       | refine v_move (hl:=?_)
       | refine v_assign (hl:=?_)
       | refine v_load (hl:=?_)
       | refine v_store (hl:=?_)
       | refine v_alloc (hl:=?_)
       | refine v_bin (hl:=?_)
       | refine v_max (hl:=?_)
       | refine v_min (hl:=?_)
       | refine v_len (hl:=?_)
       | refine v_callE hA (hc:=F1) (hl:=?_)
       | refine v_callE hA (hc:=M1) (hl:=?_))
      apply RunK.nil;try refine And.intro (by kernel_rfl) ?_)
   | refine aw_skip ?_ | refine aw_exit ?_)
  refine ⟨n-1,by omega,i+1,by omega,?_⟩
  refine wk_mk ?_ ?_ rfl
  ·repeat (first | exact nil_all | refine List.forall_mem_cons.2 ⟨Ent.of_eq rfl,?_⟩)
  ·repeat (first | exact nil_all | (refine List.forall_mem_cons.2 ⟨blk_ok rfl ?_ rfl,?_⟩;focus ((repeat (first | exact EntL.nil' rfl | (refine EntL.cons' rfl ?_ ?_;focus (first | exact EntC.qs hs | exact EntC.of_eq rfl | (refine EntC.q rfl ?_;omega) | exact Z0 _ | exact Z2 _ | exact EntC.z0 (k:=0) | exact EntC.z1 (k:=0) | exact EntC.z2 (k:=0) | exact EntC.z0 | exact EntC.z1 | exact EntC.z2))));done)))
 ·have bi:=binLt (k:= .i64) (decide_eq_false (show ¬(i:Int)<m by split at hmK<;>omega))
  obtain rfl:i=K:=by omega
  repeat (first
   | refine aw_seq ?_ | refine aw_block ?_ | refine aw_condT rfl ?_ | refine aw_condF rfl ?_
   | ((first | refine aw_plainK (by kernel_rfl) ?_ | refine aw_drawK (by kernel_rfl) (by kernel_rfl) (by kernel_rfl) ?_)
      repeat (first
       | refine v_move (hl:=?_)
       | refine v_assign (hl:=?_)
       | refine v_load (hl:=?_)
       | refine v_store (hl:=?_)
       | refine v_alloc (hl:=?_)
       | refine v_bin (hl:=?_)
       | refine v_max (hl:=?_)
       | refine v_min (hl:=?_)
       | refine v_len (hl:=?_))
      apply RunK.nil;try refine And.intro (by kernel_rfl) ?_)
   | refine aw_skip ?_ | refine aw_exit ?_)
  refine aw_ret (And.intro (Or.inr rfl) ?_)
  exact f_one
abbrev rtS (k:Int):List (Nat×AV):= [(1,.one (.v (.int .i64 k))),(2,.one (.ptr 2 0)),(4,.one (.ptr 4 0)),(5,.one (.ptr 5 0)),(6,.one (.ptr 6 0)),(7,.one (.ptr 7 0))]
abbrev rtB (j:Nat) (r x y:Rat) (K:Nat):List (Nat×List C):= [(2,nmC j r),(4,z3),(5,nmC 1000 x),(6,nmC 1000 y),(7,nmC 129 (fx K 1))]
theorem t_root {j:Nat} {r:Rat} {k:Int} (hr:0≤r) (hj:j≤900) (hn:bitsN r.num.natAbs≤10000):Ctr Tryz.prog Amb 88 [nm j r,.one (.v (.int .i64 k))] (nm 1000 (rootR r (scaleQ k))):=by
 obtain ⟨K,hK⟩: ∃K,K=scaleQ k:=⟨_,rfl⟩
 have hK1:K≤4096:=by rw [hK];exact scaleQ_le k
 have I1:=r_int (n:=1) rfl
 rw [show ((1:Int):Rat)=1 from rfl] at I1
 have F1:=r_floor (j:=j) (x:=r) (by omega)
 have A1:=r_add (j:=j+2) (k:=2) (x:=((r.floor:Int):Rat)) (y:=1) (by omega) (by omega)
 rw [top_fx hr K] at A1
 have U1:=t_unit (k:=k)
 rw [←hK,unit_eq] at U1
 have hlt0:=top_lt hr hK1 hn
 have hgt0:=top_gt hr K
 have hdone:=fun L H=>root_done (r:=r) (k:=K) (L:=L) (H:=H)
 have hsq:=fun M=>fx_sqc hr K M
 rw [←hK]
 obtain ⟨T,hT⟩: ∃T,T=topN r K:=⟨_,rfl⟩
 rw [←hT] at A1 hlt0 hgt0
 clear hT hn
 generalize nR r K=N at*
 obtain ⟨R,hR⟩: ∃R,R=rootR r K:=⟨_,rfl⟩
 rw [←hR]
 simp only [←hR] at hdone
 clear hR
 have hT0:0<T:=by
  rcases Nat.eq_zero_or_pos T with h | h
  ·subst h;omega
  ·exact h
 refine ctr_body Tryz.func88 rfl rfl rfl rfl rfl rfl ?_
 intro W0 base D μ0 hA
 repeat (first
  | refine aw_seq ?_ | refine aw_block ?_ | refine aw_condT rfl ?_ | refine aw_condF rfl ?_
  | ((first | refine aw_plainK (by kernel_rfl) ?_ | refine aw_drawK (by kernel_rfl) (by kernel_rfl) (by kernel_rfl) ?_)
     repeat (first
      | refine v_move (hl:=?_)
      | refine v_load (hl:=?_)
      | refine v_store (hl:=?_)
      | refine v_box (hl:=?_)
      | refine v_alloc (hl:=?_)
      | refine v_buildS (hl:=?_)
      | refine v_buildA (hl:=?_)
      | refine v_bin (hl:=?_)
      | refine v_callE hA (hc:=I1) (hl:=?_)
      | refine v_callE hA (hc:=F1) (hl:=?_)
      | refine v_callE hA (hc:=A1) (hl:=?_)
      | refine v_callE hA (hc:=U1) (hl:=?_))
     apply RunK.nil;try refine And.intro (by kernel_rfl) ?_)
  | refine aw_skip ?_ | refine aw_exit ?_)
 refine aw_loop (fun n σ=> ∃L H x y,n=H-L∧L<H∧H≤T∧L*L≤N∧N<H*H∧x=fx K L∧y=fx K H∧Wk ⟨W0,base,D,36,[],μ0⟩ σ (rtS k) (rtB j r x y K)) (n:=T-0) ⟨0,T,0,fx K T,rfl,hT0,Nat.le_refl _,by omega,hgt0,(fx0 K).symm,rfl,?_⟩ ?_
 ·refine wk_mk ?_ ?_ rfl
  ·repeat (first | exact nil_all | refine List.forall_mem_cons.2 ⟨Ent.of_eq rfl,?_⟩)
  ·repeat (first | exact nil_all | (refine List.forall_mem_cons.2 ⟨blk_ok rfl ?_ rfl,?_⟩;focus ((repeat (first | exact EntL.nil' rfl | (refine EntL.cons' rfl ?_ ?_;focus (first | exact EntC.of_eq rfl | (refine EntC.q rfl ?_;omega) | exact Z0 _ | exact Z2 _ | exact EntC.z0 (k:=0) | exact EntC.z1 (k:=0) | exact EntC.z2 (k:=0) | exact EntC.z0 | exact EntC.z1 | exact EntC.z2))));done)))
 intro n σ hI
 obtain ⟨L,H,x,y,h1,h2,h3,h4,h5,rfl,rfl,hw⟩:=hI
 refine aw_wk hw ?_
 clear hw A1 U1 F1 I1
 have S1:=r_sub (j:=1000) (k:=1000) (x:=fx K H) (y:=fx K L) (by omega) (by omega)
 have C1:=r_cmp (j:=1000+1000+3) (k:=129) (x:=fx K H-fx K L) (y:=fx K 1) (by omega) (by omega)
 by_cases hi:1<H-L
 ·have bc:=binGt (k:= .i64) (decide_eq_true ((fx_gap (k:=K) (Nat.le_of_lt h2)).2 hi))
  have M1:=r_mid (j:=1000) (k:=1000) (x:=fx K L) (y:=fx K H) (by omega) (by omega)
  have D1:=r_down (j:=1000+1000+4) (x:=(fx K L+fx K H)*ratOf false 1 2) (s:=k) (by omega)
  rw [←hK,down_mid] at D1
  obtain ⟨M,hM⟩: ∃M,M=(L+H)/2:=⟨_,rfl⟩
  rw [←hM] at D1
  have hM1:L<M:=by omega
  have hM2:M<H:=by omega
  clear hM
  have hMs:RSz 1000 (fx K M):=fx_sz (by omega) (Nat.lt_of_le_of_lt (show M≤T by omega) hlt0)
  have Q1:=r_mul (j:=1000+1000+4+132) (k:=1000+1000+4+132) (x:=fx K M) (y:=fx K M) (by omega) (by omega)
  have C2:=r_cmp (j:=1000+1000+4+132+(1000+1000+4+132)+2) (k:=j) (x:=fx K M*fx K M) (y:=r) (by omega) (by omega)
  by_cases hq:M*M≤N
  ·have bd:=binLe (k:= .i64) (decide_eq_true ((hsq M).2 hq))
   repeat (first
    | refine aw_seq ?_ | refine aw_block ?_ | refine aw_condT rfl ?_ | refine aw_condF rfl ?_
    | ((first | refine aw_plainK (by kernel_rfl) ?_ | refine aw_drawK (by kernel_rfl) (by kernel_rfl) (by kernel_rfl) ?_)
       repeat (first
        | refine v_move (hl:=?_)
        | refine v_load (hl:=?_)
        | refine v_store (hl:=?_)
        | refine v_box (hl:=?_)
        | refine v_alloc (hl:=?_)
        | refine v_buildS (hl:=?_)
        | refine v_buildA (hl:=?_)
        | refine v_bin (hl:=?_)
        | refine v_callE hA (hc:=S1) (hl:=?_)
        | refine v_callE hA (hc:=C1) (hl:=?_)
        | refine v_callE hA (hc:=M1) (hl:=?_)
        | refine v_callE hA (hc:=D1) (hl:=?_)
        | refine v_callE hA (hc:=Q1) (hl:=?_)
        | refine v_callE hA (hc:=C2) (hl:=?_))
       apply RunK.nil;try refine And.intro (by kernel_rfl) ?_)
    | refine aw_skip ?_ | refine aw_exit ?_)
   refine ⟨H-M,by omega,M,H,fx K M,fx K H,rfl,hM2,h3,hq,h5,rfl,rfl,?_⟩
   refine wk_mk ?_ ?_ rfl
   ·repeat (first | exact nil_all | refine List.forall_mem_cons.2 ⟨Ent.of_eq rfl,?_⟩)
   ·repeat (first | exact nil_all | (refine List.forall_mem_cons.2 ⟨blk_ok rfl ?_ rfl,?_⟩;focus ((repeat (first | exact EntL.nil' rfl | (refine EntL.cons' rfl ?_ ?_;focus (first | exact EntC.qs hMs | exact EntC.of_eq rfl | (refine EntC.q rfl ?_;omega) | exact Z0 _ | exact Z2 _ | exact EntC.z0 (k:=0) | exact EntC.z1 (k:=0) | exact EntC.z2 (k:=0) | exact EntC.z0 | exact EntC.z1 | exact EntC.z2))));done)))
  ·have bd:=binLe (k:= .i64) (decide_eq_false fun h=>hq ((hsq M).1 h))
   repeat (first
    | refine aw_seq ?_ | refine aw_block ?_ | refine aw_condT rfl ?_ | refine aw_condF rfl ?_
    | ((first | refine aw_plainK (by kernel_rfl) ?_ | refine aw_drawK (by kernel_rfl) (by kernel_rfl) (by kernel_rfl) ?_)
       repeat (first
        | refine v_move (hl:=?_)
        | refine v_load (hl:=?_)
        | refine v_store (hl:=?_)
        | refine v_box (hl:=?_)
        | refine v_alloc (hl:=?_)
        | refine v_buildS (hl:=?_)
        | refine v_buildA (hl:=?_)
        | refine v_bin (hl:=?_)
        | refine v_callE hA (hc:=S1) (hl:=?_)
        | refine v_callE hA (hc:=C1) (hl:=?_)
        | refine v_callE hA (hc:=M1) (hl:=?_)
        | refine v_callE hA (hc:=D1) (hl:=?_)
        | refine v_callE hA (hc:=Q1) (hl:=?_)
        | refine v_callE hA (hc:=C2) (hl:=?_))
       apply RunK.nil;try refine And.intro (by kernel_rfl) ?_)
    | refine aw_skip ?_ | refine aw_exit ?_)
   refine ⟨M-L,by omega,L,M,fx K L,fx K M,rfl,hM1,by omega,h4,by omega,rfl,rfl,?_⟩
   refine wk_mk ?_ ?_ rfl
   ·repeat (first | exact nil_all | refine List.forall_mem_cons.2 ⟨Ent.of_eq rfl,?_⟩)
   ·repeat (first | exact nil_all | (refine List.forall_mem_cons.2 ⟨blk_ok rfl ?_ rfl,?_⟩;focus ((repeat (first | exact EntL.nil' rfl | (refine EntL.cons' rfl ?_ ?_;focus (first | exact EntC.qs hMs | exact EntC.of_eq rfl | (refine EntC.q rfl ?_;omega) | exact Z0 _ | exact Z2 _ | exact EntC.z0 (k:=0) | exact EntC.z1 (k:=0) | exact EntC.z2 (k:=0) | exact EntC.z0 | exact EntC.z1 | exact EntC.z2))));done)))
 ·have bc:=binGt (k:= .i64) (decide_eq_false fun h=>hi ((fx_gap (k:=K) (Nat.le_of_lt h2)).1 h))
  have hd:=hdone L H h4 h5 h2 hi
  repeat (first
   | refine aw_seq ?_ | refine aw_block ?_ | refine aw_condT rfl ?_ | refine aw_condF rfl ?_
   | ((first | refine aw_plainK (by kernel_rfl) ?_ | refine aw_drawK (by kernel_rfl) (by kernel_rfl) (by kernel_rfl) ?_)
      repeat (first
       | refine v_move (hl:=?_)
       | refine v_load (hl:=?_)
       | refine v_store (hl:=?_)
       | refine v_box (hl:=?_)
       | refine v_alloc (hl:=?_)
       | refine v_buildS (hl:=?_)
       | refine v_buildA (hl:=?_)
       | refine v_bin (hl:=?_)
       | refine v_callE hA (hc:=S1) (hl:=?_)
       | refine v_callE hA (hc:=C1) (hl:=?_))
      apply RunK.nil;try refine And.intro (by kernel_rfl) ?_)
   | refine aw_skip ?_ | refine aw_exit ?_)
  rw [←hd]
  refine aw_ret (And.intro (Or.inr rfl) ?_)
  exact f_one
theorem t_rootS {j1 j2:Nat} {a b:Rat} {k:Int} (h1:j1≤800) (h2:j2≤900) (n1:bitsN a.num.natAbs≤10000) (n2:bitsN b.num.natAbs≤10000):
  Ctr Tryz.prog Amb 42 [sp j1 a j2 b,.one (.v (.int .i64 k))] (if sgnR b<0 then .tup [sp 0 0 0 0,.one (.v (.int .i64 7))] else .tup [sp 1000 (rootR a (scaleQ k)) 3000 (rootH b (scaleQ k)),.one (.v (.int .i64 0))]):=by
 by_cases hb:sgnR b<0
 ·have bp:=binLt (k:= .i64) (decide_eq_true hb)
  rw [if_pos hb]
  refine ctr_body Tryz.func42 rfl rfl rfl rfl rfl rfl ?_
  intro W0 base D μ0 hA
  repeat (first
   | refine aw_seq ?_ | refine aw_block ?_ | refine aw_condT rfl ?_ | refine aw_condF rfl ?_
   | ((first | refine aw_plainK (by kernel_rfl) ?_ | refine aw_drawK (by kernel_rfl) (by kernel_rfl) (by kernel_rfl) ?_)
      repeat (first
       | refine v_move (hl:=?_)
       | refine v_assign (hl:=?_)
       | refine v_load (hl:=?_)
       | refine v_fieldAddr (hl:=?_)
       | refine v_store (hl:=?_)
       | refine v_box (hl:=?_)
       | refine v_alloc (hl:=?_)
       | refine v_buildS (hl:=?_)
       | refine v_buildA (hl:=?_)
       | refine v_bin (hl:=?_)
       | refine v_call hA (hc:=r_sign) (hl:=?_))
      apply RunK.nil;try refine And.intro (by kernel_rfl) ?_)
   | refine aw_skip ?_ | refine aw_exit ?_)
  refine aw_ret (And.intro (Or.inr rfl) ?_)
  exact f_two
 have bp:=binLt (k:= .i64) (decide_eq_false hb)
 rw [if_neg hb]
 have hb0:0≤b:=sgr_ge.1 (by omega)
 have X1:=r_max (j:=j1) (k:=0) (x:=a) (y:=0) (by omega) (by omega)
 have hnm:bitsN (mx a 0).num.natAbs≤10000:=by
  rcases mx_cases a 0 with ⟨e,_⟩ | ⟨e,_⟩<;>rw [e]
  ·exact n1
  ·decide
 have R1:=t_root (j:=j1+0+1) (r:=mx a 0) (k:=k) (mx_nn a) (by omega) hnm
 rw [root_mx] at R1
 have R2:=t_root (j:=j2) (r:=b) (k:=k) hb0 (by omega) n2
 have U1:=t_unit (k:=k)
 have hle:=rootR_sq hb0 (scaleQ k)
 unfold rootH
 generalize twoPow (-(scaleQ k:Int))=e at*
 generalize rootR a (scaleQ k)=t at*
 generalize rootR b (scaleQ k)=u at*
 generalize mx a 0=a' at*
 clear hnm
 have M1:=r_mul (j:=1000) (k:=1000) (x:=u) (y:=u) (by omega) (by omega)
 have C1:=r_cmp (j:=1000+1000+2) (k:=j2) (x:=u*u) (y:=b) (by omega) (by omega)
 have hc:cmpR (u*u) b<0↔ ¬u*u=b:=by
  rw [ord_neg]
  have:=cmp_pos (x:=b) (y:=u*u)
  constructor
  ·intro h h0
   have:=this.1 (by omega)
   rw [h0] at this
   exact Rat.lt_irrefl this
  ·intro h
   have:=this.2 (by grind)
   omega
 by_cases hsq:u*u=b
 ·have bq:=binLt (k:= .i64) (decide_eq_false (fun h=>(hc.1 h) hsq))
  rw [if_pos hsq]
  refine ctr_body Tryz.func42 rfl rfl rfl rfl rfl rfl ?_
  intro W0 base D μ0 hA
  repeat (first
   | refine aw_seq ?_ | refine aw_block ?_ | refine aw_condT rfl ?_ | refine aw_condF rfl ?_
   | ((first | refine aw_plainK (by kernel_rfl) ?_ | refine aw_drawK (by kernel_rfl) (by kernel_rfl) (by kernel_rfl) ?_)
      repeat (first
       | refine v_move (hl:=?_)
       | refine v_assign (hl:=?_)
       | refine v_load (hl:=?_)
       | refine v_fieldAddr (hl:=?_)
       | refine v_store (hl:=?_)
       | refine v_box (hl:=?_)
       | refine v_alloc (hl:=?_)
       | refine v_buildS (hl:=?_)
       | refine v_buildA (hl:=?_)
       | refine v_bin (hl:=?_)
       | refine v_call hA (hc:=r_sign) (hl:=?_)
       | refine v_call hA (hc:=X1) (hl:=?_)
       | refine v_callE hA (hc:=R1) (hl:=?_)
       | refine v_callE hA (hc:=R2) (hl:=?_)
       | refine v_callE hA (hc:=M1) (hl:=?_)
       | refine v_callE hA (hc:=C1) (hl:=?_))
      apply RunK.nil;try refine And.intro (by kernel_rfl) ?_)
   | refine aw_skip ?_ | refine aw_exit ?_)
  refine aw_ret (And.intro (Or.inr rfl) ?_)
  exact f_two
 ·have bq:=binLt (k:= .i64) (decide_eq_true (hc.2 hsq))
  have A1:=r_add (j:=1000) (k:=129) (x:=u) (y:=e) (by omega) (by omega)
  rw [if_neg hsq]
  refine ctr_body Tryz.func42 rfl rfl rfl rfl rfl rfl ?_
  intro W0 base D μ0 hA
  repeat (first
   | refine aw_seq ?_ | refine aw_block ?_ | refine aw_condT rfl ?_ | refine aw_condF rfl ?_
   | ((first | refine aw_plainK (by kernel_rfl) ?_ | refine aw_drawK (by kernel_rfl) (by kernel_rfl) (by kernel_rfl) ?_)
      repeat (first
       | refine v_move (hl:=?_)
       | refine v_assign (hl:=?_)
       | refine v_load (hl:=?_)
       | refine v_fieldAddr (hl:=?_)
       | refine v_store (hl:=?_)
       | refine v_box (hl:=?_)
       | refine v_alloc (hl:=?_)
       | refine v_buildS (hl:=?_)
       | refine v_buildA (hl:=?_)
       | refine v_bin (hl:=?_)
       | refine v_call hA (hc:=r_sign) (hl:=?_)
       | refine v_call hA (hc:=X1) (hl:=?_)
       | refine v_callE hA (hc:=R1) (hl:=?_)
       | refine v_callE hA (hc:=R2) (hl:=?_)
       | refine v_callE hA (hc:=M1) (hl:=?_)
       | refine v_callE hA (hc:=C1) (hl:=?_)
       | refine v_callE hA (hc:=U1) (hl:=?_)
       | refine v_callE hA (hc:=A1) (hl:=?_))
      apply RunK.nil;try refine And.intro (by kernel_rfl) ?_)
   | refine aw_skip ?_ | refine aw_exit ?_)
  refine aw_ret (And.intro (Or.inr rfl) ?_)
  exact f_two
end Go.Proofs.YtemmbphdcgdboaaGreatDoor
