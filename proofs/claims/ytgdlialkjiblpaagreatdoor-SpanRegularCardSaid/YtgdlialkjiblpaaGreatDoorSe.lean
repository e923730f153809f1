/-
  span.digits, powerOfTwo, aboveRoot.
-/
import Derived.Test.YtgdlialkjiblpaaGreatDoorGs
import Derived.Test.YtgdlialkjiblpaaGreatDoorEw
namespace Go.Proofs.YtgdlialkjiblpaaGreatDoor
open Go.RowKit
set_option linter.unusedVariables false
set_option linter.unusedSimpArgs false
set_option maxHeartbeats 400000 in
theorem sdigits_any (v:Value) (n:Nat) (w:World) (h:M w v n) (hl:(toL n).length≤1099511627776):
  Calls Tryz.prog 167 #[v] w fun e w'=>e= .returned (.int .i64 (bitsN n))∧w=w':=by
 obtain ⟨ao,cap,rfl,h1,h2,h3,h4⟩:=h
 unfold maxLen at h2
 rcases Nat.eq_zero_or_pos (toL n).length with h0 | h0
 ·have hn:n=0:=(toL_nil_iff n).1 (List.eq_nil_of_length_eq_zero h0)
  have he:((((toL n).length:Nat):Int)==0)=true:=beq_iff_eq.2 (by omega)
  have HB:=Lib.hid (show (0:Int)=((bitsN n:Nat):Int) by rw [hn];rfl)
  clear hn h3 h4 h0
  go_enter Tryz.func167,Tryz.ntmps167
  go_wp2
  go_ret
  exact ⟨ret_int HB.out,rfl⟩
 ·have he:((((toL n).length:Nat):Int)==0)=false:=beq_eq_false_iff_ne.2 (by omega)
  obtain ⟨b,off,x,rfl,hcell,hx,HX⟩:=h4.at h3 ((toL n).length-1) (by omega)
  have hb:=bitsN_toL n h0
  rw [←HX.out] at hb
  have hle:=bitLen_le32 hx
  have HLEN:=Lib.hid (Tryz.bits_Len32 (x:Int) w (by omega) (by omega))
  rw [Int.toNat_natCast] at HLEN
  have HB:=Lib.hid hb
  obtain ⟨l,hll⟩: ∃l,l=(toL n).length:=⟨_,rfl⟩
  obtain ⟨bl,hbl⟩: ∃bl,bl=Lib.bitLen x:=⟨_,rfl⟩
  rw [←hll] at h1 hl h0 he hcell HB⊢
  rw [←hbl] at hle HLEN HB
  clear hb h3 h4 hll hbl HX
  go_enter Tryz.func167,Tryz.ntmps167
  go_wp2_with (go_at_call 156;refine HLEN.out.mono ?_;rintro e w1 ⟨rfl,rfl⟩)
  go_ret
  exact ⟨ret_int (by rw [HB.out];omega),rfl⟩
set_option maxRecDepth 20000
set_option maxHeartbeats 4000000
theorem s_digits1 {j:Nat} {x:Rat} (hj:j≤100000000):Ctr Tryz.prog Amb 167 [.one (.q x j 1)] (.one (.v (.int .i64 (bitsN x.num.natAbs)))):=
 ctr_1 fun W0 μ sz w u ht hu=>by
  obtain ⟨h1,h2⟩:=hu
  exact (sdigits_any u _ w h1 (by omega)).mono fun e w' ⟨k1,k2⟩=>⟨_,k1,k2▸Below.refl _ _,rfl⟩
theorem s_digits2 {j:Nat} {x:Rat} (hj:j≤100000000):Ctr Tryz.prog Amb 167 [.one (.q x j 2)] (.one (.v (.int .i64 (bitsN (dnOf x))))):=
 ctr_1 fun W0 μ sz w u ht hu=>by
  obtain ⟨h1,h2⟩:=hu
  exact (sdigits_any u _ w h1 (by omega)).mono fun e w' ⟨k1,k2⟩=>⟨_,k1,k2▸Below.refl _ _,rfl⟩
def twoPow (n:Int):Rat:=if n<0 then 1/((2^n.natAbs:Nat):Rat) else ((2^n.natAbs:Nat):Rat)
theorem natRat_num (n:Nat):((n:Nat):Rat).num=n:=by simp
theorem natRat_den (n:Nat):((n:Nat):Rat).den=1:=by simp
theorem EntC.n0 {n k:Nat} :EntC (.v (.bool false)) (.q ((n:Nat):Rat) k 0):=fun _ _ _ _ _ h=>⟨by rw [natRat_num,decide_eq_false (by omega)];exact h,Nat.zero_le _⟩
theorem EntC.n2 {n k:Nat} :EntC (.v (.slice none 0 0)) (.q ((n:Nat):Rat) k 2):=fun _ _ _ w x h=>by
 have h:x= .slice none 0 0:=h
 subst h
 have e:toL (dnOf ((n:Nat):Rat))= []:=by unfold dnOf;rw [natRat_den];simp [toL]
 exact ⟨by rw [e];exact rd_nil w,by rw [e];exact Nat.zero_le _⟩
def lkL:List (Nat×AV)→Nat→AV
 | [],_=> .junk
 | p::r,t=>match Nat.beq p.1 t with | true=>p.2 | false=>lkL r t
theorem lkL_cv {X:Ctx} {μ:Nat→Nat×Nat} {σ:St} {a:Act} {w:World} (h:Cn X μ σ a w): ∀ {l:List (Nat×AV)},(∀p∈l,σ.s p.1=p.2)→ ∀t,cv X.W0 μ σ.sz w (a.tmps.getD t undef) (lkL l t)
 | [],_,t=>trivial
 | p::r,hl,t=>by
   unfold lkL
   split
   ·rename_i hb
    rw [←Nat.eq_of_beq_eq_true hb,←hl p List.mem_cons_self]
    exact h.slot p.1
   ·exact lkL_cv h (fun q hq=>hl q (List.mem_cons_of_mem _ hq)) t
theorem cn_forget {X:Ctx} {μ:Nat→Nat×Nat} {σ:St} {a:Act} {w:World} (h:Cn X μ σ a w) (l:List (Nat×AV)) (m':Nat→Nat→C) (z':Nat→Nat) (hm:σ.m=m') (hz:σ.sz=z') (hl: ∀p∈l,σ.s p.1=p.2):Cn X μ ⟨lkL l,m',z'⟩ a w:=by
 subst hm hz
 exact ⟨h.w0,h.kd,h.defers,h.size,lkL_cv h hl,h.blk,h.inj,h.own,h.par⟩
abbrev powS (n:Int):St:=(stL (argS 0 [AV.one (C.v (Value.int IntKind.i64 n))]) (List.map (fun p:Nat×List C×List C=>(p.1,p.2.1)) [])).app (some 2) { out:=AV.one (C.ptr 2 0),rd:= [],wr:= [],al:= [(2,List.map C.v (Value.agg #[Value.bool false,Value.slice none 0 0,Value.slice none 0 0]).cells.toList)] }
theorem s_pow {n:Int} (h1: -20000≤n) (h2:n≤20000):Ctr Tryz.prog Amb 100 [.one (.v (.int .i64 n))] (nm 1000 (twoPow n)):=by
 have hw:(IntKind.i64).wrap (0-n)= -n:=by rw [show 0-n= -n by omega];exact IntWalk.i64_in _ (by omega)
 obtain ⟨m,hm⟩: ∃m:Nat,m=n.natAbs:=⟨_,rfl⟩
 have hmm:(if n< -n then-n else n)=(m:Int):=by split<;>omega
 obtain ⟨N,hN⟩: ∃N:Rat,N=((2^m:Nat):Rat):=⟨_,rfl⟩
 have hNn:N.num=((2^m:Nat):Int):=by rw [hN];exact natRat_num _
 have hne:N≠0:=by
  intro h
  have h3:N.num=0:=by rw [h];rfl
  rw [hNn] at h3
  have:=Nat.two_pow_pos m
  omega
 have Z0: ∀k,EntC (.v (.bool false)) (.q N k 0):=fun k=>hN▸EntC.n0
 have Z2: ∀k,EntC (.v (.slice none 0 0)) (.q N k 2):=fun k=>hN▸EntC.n2
 have hpow:twoPow n=if n<0 then 1/N else N:=by unfold twoPow;rw [←hm,←hN]
 rw [hpow]
 clear hpow
 refine ctr_body Tryz.func100 rfl rfl rfl rfl rfl rfl ?_
 intro W0 base D μ0 hA hD
 refine aw_seq ?_
 refine aw_plainK (by kernel_rfl) ?_
 repeat (first
  | refine v_move (hl:=?_)
  | refine v_assign (hl:=?_)
  | refine v_load (hl:=?_)
  | refine v_store (hl:=?_)
  | refine v_alloc (hl:=?_)
  | refine v_buildS (hl:=?_)
  | refine v_buildA (hl:=?_)
  | refine v_extract (hl:=?_)
  | refine v_bin (hl:=?_)
  | refine v_indexAddr (hl:=?_)
  | refine v_neg' (hl:=?_)
  | refine v_max (hl:=?_)
  | refine v_min (hl:=?_)
  | refine v_len (hl:=?_))
 apply RunK.nil
 refine aw_seq ?_
 refine aw_plainK (by kernel_rfl) ?_
 repeat (first
  | refine v_move (hl:=?_)
  | refine v_assign (hl:=?_)
  | refine v_load (hl:=?_)
  | refine v_store (hl:=?_)
  | refine v_alloc (hl:=?_)
  | refine v_buildS (hl:=?_)
  | refine v_buildA (hl:=?_)
  | refine v_extract (hl:=?_)
  | refine v_bin (hl:=?_)
  | refine v_indexAddr (hl:=?_)
  | refine v_neg' (hl:=?_)
  | refine v_max (hl:=?_)
  | refine v_min (hl:=?_)
  | refine v_len (hl:=?_))
 apply RunK.nil
 intro a w hc
 obtain ⟨W,hW,μ,hc⟩:=hc
 have hs:a.tmps.size=32:=hc.size
 have e3:a.eval (.tmp 3)= .int .i64 (m:Int):=hc.slot 3
 have e0:a.eval (.tmp 0)= .int .i64 n:=hc.slot 0
 have q1:(IntKind.i64).wrap ((m:Int).tdiv 32)=((m/32:Nat):Int):=by
  rw [show (m:Int).tdiv 32=((m/32:Nat):Int) from rfl];exact IntWalk.i64_in _ (by omega)
 have q1':(IntKind.i64).wrap ((m:Int)/32)=((m/32:Nat):Int):=q1
 have q2:(IntKind.i64).wrap (((m/32:Nat):Int)+1)=((m/32+1:Nat):Int):=IntWalk.i64_in _ (by omega)
 have q3:(m:Int).tmod 32=((m % 32:Nat):Int):=rfl
 have hlt:2^(m % 32)<4294967296:=(show 2^(m % 32)<2^32 from Nat.pow_lt_pow_right (by decide) (Nat.mod_lt _ (by decide)))
 obtain ⟨p,hp⟩: ∃p,p=2^(m % 32):=⟨_,rfl⟩
 rw [←hp] at hlt
 have q4:(IntKind.u32).wrap (1*2^min ((m % 32:Nat):Int).toNat 32)=(p:Int):=by
  rw [Int.toNat_natCast,Nat.min_eq_left (by omega),Int.one_mul]
  have e:(2:Int)^(m % 32)=((2^(m % 32):Nat):Int):=by simp
  rw [e,←hp]
  exact IntWalk.u32_in _ (by omega)
 obtain ⟨d,hd⟩: ∃d,d=m/32:=⟨_,rfl⟩
 rw [←hd] at q1 q1' q2
 obtain ⟨r,hr⟩: ∃r,r=m % 32:=⟨_,rfl⟩
 rw [←hr] at q3 q4 hp
 have hdm:d≤625:=by omega
 have hr32:r<32:=by omega
 have hrn: ¬(r:Int)<0:=by omega
 obtain ⟨i0,hi,hz0,hz1,hz2⟩:=info_parts infoU32
 obtain ⟨g,hg⟩: ∃g,g=w.heap.size:=⟨_,rfl⟩
 refine wp_seq (wp_region_lit ?_)
 refine wl_val rfl (v:= .int .i64 (m:Int)) (w':=w) (by simp [execOp,e3]) ?_
 refine wl_val rfl (v:= .int .i64 (d:Int)) (w':=w) (by simp only [execOp,ev_put,put_size,hs];simp [Act.eval,eqGuard,binOp,Op.intDiv];first | exact q1 | exact q1') ?_
 refine wl_val rfl (v:= .int .i64 ((d+1:Nat):Int)) (w':=w) (by simp only [execOp,ev_put,put_size,hs];simp [Act.eval,eqGuard,binOp,Op.intArith];exact q2) ?_
 refine wpList_make_full w rfl _ _ 25 rfl w.heap.size 122 i0 (.int .u32 0) 1 undU32s hi hz0 hz1 .i64 .i64 _ _ (d+1) (by simp only [ev_put,put_size,hs];rfl) (by simp only [ev_put,put_size,hs];rfl) rfl rfl (by rw [hz2];omega) (by unfold maxLen;omega) (Nat.le_refl _) ?_
 intro w1 hown hgr
 rw [←hg] at hown⊢
 have O1:=Own.of_make hown
 have K1:Kp w w1:=(Below.refl w.heap.size w).grown hgr (Nat.le_refl _) (by intro j hj;cases hj)
 have hsz:(sizeOf 122).run Tryz.prog w1= .ok 1 w1:=by simp [sizeOf,typeInfo,hi,hz1]
 refine wl_val rfl (v:= .slice (some ⟨g,0,none⟩) (d+1) (d+1)) (w':=w1) (by simp only [execOp,ev_put,put_size,hs];rfl) ?_
 refine wpList_nil ?_
 refine wp_seq (wp_region_lit ?_)
 refine wl_val rfl (v:= .slice (some ⟨g,0,none⟩) (d+1) (d+1)) (w':=w1) (by simp only [execOp,ev_put,put_size,hs];rfl) ?_
 refine wl_val rfl (v:= .int .i64 (m:Int)) (w':=w1) (by simp only [execOp,ev_put,put_size,hs,e3];rfl) ?_
 refine wl_val rfl (v:= .int .i64 (d:Int)) (w':=w1) (by simp only [execOp,ev_put,put_size,hs];simp [Act.eval,eqGuard,binOp,Op.intDiv];first | exact q1 | exact q1') ?_
 refine wl_val rfl (v:= .int .i64 (m:Int)) (w':=w1) (by simp only [execOp,ev_put,put_size,hs,e3];rfl) ?_
 refine wl_val rfl (v:= .int .i64 (r:Int)) (w':=w1) (by simp only [execOp,ev_put,put_size,hs];simp [Act.eval,eqGuard,binOp,Op.intDiv,q3]) ?_
 refine wl_val rfl (v:= .int .u32 (p:Int)) (w':=w1) (by
  simp only [execOp,ev_put,put_size,hs]
  simp [Act.eval,eqGuard,binOp,Op.shift,hrn]
  have:=q4
  simp at this⊢
  rw [Nat.min_eq_left (by omega:r≤32)] at this
  exact this) ?_
 refine wl_val rfl (v:= .pointer (some ⟨g,d,none⟩)) (w':=w1) (by
  simp only [execOp,ev_put,put_size,hs]
  simp [Instr.indexAt,run_underlying undU32s w1,asIntOf,hsz,Addr.add_lit]) ?_
 have hcell:=O1.cell d (by simp)
 have hfz:=O1.frozen d
 refine wl_skip rfl (w':=w1.setCell ⟨g,d,none⟩ (.int .u32 (p:Int))) (by
  simp only [execOp,ev_put,put_size,hs]
  have hst:=run_store Tryz.prog w1 ⟨g,d,none⟩ (.int .u32 (p:Int)) .plain rfl
  simp [hcell,hfz] at hst
  simp [Instr.storeAt,Instr.sureAddr,storeVar,Value.cells,hsz,storeCells,Addr.add_mid,hst]) ?_
 refine wpList_nil ?_
 have O2:=O1.set d p
 have K2:Kp w (w1.setCell ⟨g,d,none⟩ (.int .u32 (p:Int))):=K1.setCell (by simp [hg]) _
 obtain ⟨w2,hw2⟩: ∃w2,w2=w1.setCell ⟨g,d,none⟩ (.int .u32 (p:Int)):=⟨_,rfl⟩
 rw [←hw2] at O2 K2⊢
 obtain ⟨hone,hlim⟩:=one_limb m
 rw [←hd,←hr,←hp] at hone hlim
 have hrd:Rd w2 (.slice (some ⟨g,0,none⟩) (d+1) (d+1)) (toL (2^m)):=by
  have:=O2.rd hlim (d+1) (by simp) (d+1) (Nat.le_refl _) (by unfold maxLen;omega)
  rw [List.take_of_length_le (by simp)] at this
  rw [hone]
  exact this
 have hlen:(toL (2^m)).length≤700:=by rw [hone];simp;omega
 have c0:=cn_kp hc K2
 have c1:=cn_put c0 (d:=some 10) (dB_ok rfl) (v:= .int .i64 (m:Int)) (av:= .junk) trivial
 have c2:=cn_put c1 (d:=some 11) (dB_ok rfl) (v:= .int .i64 (d:Int)) (av:= .junk) trivial
 have c3:=cn_put c2 (d:=some 12) (dB_ok rfl) (v:= .int .i64 ((d+1:Nat):Int)) (av:= .junk) trivial
 have c4:=cn_put c3 (d:=some 13) (dB_ok rfl) (v:= .slice (some ⟨g,0,none⟩) (d+1) (d+1)) (av:= .junk) trivial
 have c5:=cn_put c4 (d:=some 4) (dB_ok rfl) (v:= .slice (some ⟨g,0,none⟩) (d+1) (d+1)) (av:= .one (.q N 700 1)) ⟨by rw [hNn];exact hrd,by rw [hNn];exact hlen⟩
 have c6:=cn_put c5 (d:=some 14) (dB_ok rfl) (v:= .slice (some ⟨g,0,none⟩) (d+1) (d+1)) (av:= .junk) trivial
 have c7:=cn_put c6 (d:=some 15) (dB_ok rfl) (v:= .int .i64 (m:Int)) (av:= .junk) trivial
 have c8:=cn_put c7 (d:=some 16) (dB_ok rfl) (v:= .int .i64 (d:Int)) (av:= .junk) trivial
 have c9:=cn_put c8 (d:=some 17) (dB_ok rfl) (v:= .int .i64 (m:Int)) (av:= .junk) trivial
 have c10:=cn_put c9 (d:=some 18) (dB_ok rfl) (v:= .int .i64 (r:Int)) (av:= .junk) trivial
 have c11:=cn_put c10 (d:=some 19) (dB_ok rfl) (v:= .int .u32 (p:Int)) (av:= .junk) trivial
 have c12:=cn_put c11 (d:=some 20) (dB_ok rfl) (v:= .pointer (some ⟨g,d,none⟩)) (av:= .junk) trivial
 have c13:=cn_put c12 (d:=none) (dB_ok rfl) (v:=undef) (av:= .junk) trivial
 have c14:=cn_forget c13 [(0,.one (.v (.int .i64 n))),(2,.one (.ptr 2 0)),(3,.one (.v (.int .i64 (m:Int)))),(4,.one (.q N 700 1))] (powS n).m (powS n).sz rfl rfl (by
  intro p hp
  simp only [List.mem_cons,List.not_mem_nil,or_false] at hp
  rcases hp with rfl | rfl | rfl | rfl<;>rfl)
 refine (show Aw Tryz.prog _ _ _ _ from ?_) _ _ ⟨W,hW,μ,c14⟩
 clear c0 c1 c2 c3 c4 c5 c6 c7 c8 c9 c10 c11 c12 c13 c14 hc hrd O1 O2 hone hlim K1 K2
 have hI:((1:Int):Rat)=1:=rfl
 have I1:=c_int (n:=1) rfl
 rw [hI] at I1
 by_cases h0:n<0
 ·have hb:=binLt (k:= .i64) (decide_eq_true h0)
  have Q1:=c_quo (j:=2) (k:=700) (x:=1) (y:=N) (by omega) (by omega) hne
  rw [if_pos h0]
  repeat (first
   | refine aw_seq ?_ | refine aw_block ?_ | refine aw_condT rfl ?_ | refine aw_condF rfl ?_
   | ((first | refine aw_plainK (by kernel_rfl) ?_ | refine aw_drawK (by kernel_rfl) (by kernel_rfl) (by kernel_rfl) ?_)
      repeat (first
       | refine v_move (hl:=?_)
       | refine v_assign (hl:=?_)
       | refine v_load (hl:=?_)
       | refine v_store (hl:=?_)
       | refine v_alloc (hl:=?_)
       | refine v_buildS (hl:=?_)
       | refine v_buildA (hl:=?_)
       | refine v_extract (hl:=?_)
       | refine v_bin (hl:=?_)
       | refine v_indexAddr (hl:=?_)
       | refine v_neg' (hl:=?_)
       | refine v_max (hl:=?_)
       | refine v_min (hl:=?_)
       | refine v_len (hl:=?_)
       | refine v_call hA (hc:=I1) (hl:=?_)
       | refine v_call hA (hc:=Q1) (hl:=?_))
      apply RunK.nil;try refine And.intro (by kernel_rfl) ?_)
   | refine aw_skip ?_ | refine aw_exit ?_)
  refine aw_ret (And.intro (Or.inr rfl) ?_)
  exact f_one
 ·have hb:=binLt (k:= .i64) (decide_eq_false h0)
  rw [if_neg h0]
  repeat (first
   | refine aw_seq ?_ | refine aw_block ?_ | refine aw_condT rfl ?_ | refine aw_condF rfl ?_
   | ((first | refine aw_plainK (by kernel_rfl) ?_ | refine aw_drawK (by kernel_rfl) (by kernel_rfl) (by kernel_rfl) ?_)
      repeat (first
       | refine v_move (hl:=?_)
       | refine v_assign (hl:=?_)
       | refine v_load (hl:=?_)
       | refine v_store (hl:=?_)
       | refine v_alloc (hl:=?_)
       | refine v_buildS (hl:=?_)
       | refine v_buildA (hl:=?_)
       | refine v_extract (hl:=?_)
       | refine v_bin (hl:=?_)
       | refine v_indexAddr (hl:=?_)
       | refine v_neg' (hl:=?_)
       | refine v_max (hl:=?_)
       | refine v_min (hl:=?_)
       | refine v_len (hl:=?_))
      apply RunK.nil;try refine And.intro (by kernel_rfl) ?_)
   | refine aw_skip ?_ | refine aw_exit ?_)
  refine aw_ret (And.intro (Or.inr rfl) ?_)
  exact f_one
def aboveE (x:Rat) (k:Int):Int:=
 let h:=((bitsN x.num.natAbs:Int)+1-(if (1:Int)<(bitsN (dnOf x):Int) then (bitsN (dnOf x):Int) else 1)+1).fdiv 2
 if-k<h then h else-k
theorem s_above {j:Nat} {x:Rat} {k:Int} (hj:j≤100000000) (h1:0≤k) (h2:k≤10000) (hn:bitsN x.num.natAbs≤10000) (hd:bitsN (dnOf x)≤10000):Ctr Tryz.prog Amb 134 [nm j x,.one (.v (.int .i64 k))] (nm 1000 (twoPow (aboveE x k))):=by
 have D1:=s_digits1 (x:=x) hj
 have D2:=s_digits2 (x:=x) hj
 obtain ⟨a,ha⟩: ∃a:Int,a=(bitsN x.num.natAbs:Int):=⟨_,rfl⟩
 obtain ⟨d,hdd⟩: ∃d:Int,d=(bitsN (dnOf x):Int):=⟨_,rfl⟩
 have a1:0≤a∧a≤10000:=by omega
 have d1:0≤d∧d≤10000:=by omega
 unfold aboveE
 simp only []
 rw [←ha] at D1⊢
 rw [←hdd] at D2⊢
 obtain ⟨m,hm⟩: ∃m:Int,(if (1:Int)<d then d else 1)=m:=⟨_,rfl⟩
 rw [hm]
 have m1:1≤m∧m≤10000:=by split at hm<;>omega
 obtain ⟨h,hh⟩: ∃h:Int,(a+1-m+1).fdiv 2=h:=⟨_,rfl⟩
 have hh1: -10000≤h∧h≤10002:=by
  rw [Int.fdiv_eq_ediv_of_nonneg _ (by decide)] at hh
  omega
 have hh2:(a+1-m+1).fdiv (2^min (1:Int).toNat (IntKind.i64).bits)=h:=hh
 rw [hh]
 obtain ⟨r,hr⟩: ∃r:Int,(if-k<h then h else-k)=r:=⟨_,rfl⟩
 rw [hr]
 have r1: -10000≤r∧r≤10002:=by split at hr<;>omega
 have w0:(IntKind.i64).wrap (0-k)= -k:=by rw [show 0-k= -k by omega];exact IntWalk.i64_in _ (by omega)
 have w1:(IntKind.i64).wrap (a+1)=a+1:=IntWalk.i64_in _ (by omega)
 have w2:(IntKind.i64).wrap (a+1-m)=a+1-m:=IntWalk.i64_in _ (by omega)
 have w3:(IntKind.i64).wrap (a+1-m+1)=a+1-m+1:=IntWalk.i64_in _ (by omega)
 have b1:=binAdd (k:= .i64) w1
 have b2:=binSub (k:= .i64) w2
 have b3:=binAdd (k:= .i64) w3
 have P1:=s_pow (n:=r) (by omega) (by omega)
 clear ha hdd
 refine ctr_body Tryz.func134 rfl rfl rfl rfl rfl rfl ?_
 intro W0 base D μ0 hA hD
 repeat (first
  | refine aw_seq ?_ | refine aw_block ?_ | refine aw_condT rfl ?_ | refine aw_condF rfl ?_
  | ((first | refine aw_plainK (by kernel_rfl) ?_ | refine aw_drawK (by kernel_rfl) (by kernel_rfl) (by kernel_rfl) ?_)
     repeat (first
      | refine v_move (hl:=?_)
      | refine v_assign (hl:=?_)
      | refine v_load (hl:=?_)
      | refine v_fieldAddr (hl:=?_)
      | refine v_store (hl:=?_)
      | refine v_box (hl:=?_)
      | refine v_alloc (hl:=?_)
      | refine v_bin (hl:=?_)
      | refine v_neg' (hl:=?_)
      | refine v_max (hl:=?_)
      | refine v_min (hl:=?_)
      | refine v_shr (hl:=?_)
      | refine v_len (hl:=?_)
      | refine v_call hA (hc:=D1) (hl:=?_)
      | refine v_call hA (hc:=D2) (hl:=?_)
      | refine v_call hA (hc:=P1) (hl:=?_))
     apply RunK.nil;try refine And.intro (by kernel_rfl) ?_)
  | refine aw_skip ?_ | refine aw_exit ?_)
 refine aw_ret (And.intro (Or.inr rfl) ?_)
 exact f_one
end Go.Proofs.YtgdlialkjiblpaaGreatDoor
