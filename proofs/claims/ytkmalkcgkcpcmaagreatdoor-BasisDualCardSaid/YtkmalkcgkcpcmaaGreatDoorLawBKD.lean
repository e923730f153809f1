/-
  BasisDual, by contracts.
-/
import Derived.Test.YtkmalkcgkcpcmaaGreatDoorIh
namespace Go.Proofs.YtkmalkcgkcpcmaaGreatDoor
open Nat renaming le_refl→Yi
open List renaming replicate→Yj
open Go.RowKit
set_option linter.unusedVariables false
set_option linter.unusedSimpArgs false
set_option maxRecDepth 20000
set_option maxHeartbeats 4000000
namespace bdual
theorem light' {l:List Int} {b:Bool} (h:decide ((l.length:Int)≤500)=b):Ctr Tryz.prog Amb 10 [.one (.ints l)] (.one (.v (.bool b))):=h▸Qq l
theorem same_e {j k:Nat} {x y:Rat} (h:x=y):Ctr Tryz.prog Amb 34 [nm j x,nm k y] (.one (.v (.bool true))):=by
 have:=Lt (j:=j) (k:=k) (x:=x) (y:=y)
 rwa [decide_eq_true h] at this
theorem WF {a b:Rat} {i:Int} (h:a≤b):a≤a+Eh i*(b-a)∧a+Eh i*(b-a)≤b:=by
 obtain ⟨h1,h2⟩:=M9 i
 generalize Eh i=r at*
 have k1:0≤r*(b-a):=Rat.mul_nonneg h1 (by grind)
 have k2:0≤(1-r)*(b-a):=Rat.mul_nonneg h2 (by grind)
 constructor<;>grind
theorem law {l:List Int} {j i m:Int} (hb: ∀x∈l,-9223372036854775808≤x∧x<9223372036854775808) (hj1: -9223372036854775808≤j) (hj2:j<9223372036854775808) (hi1: -9223372036854775808≤i) (hi2:i<9223372036854775808) (hm1: -9223372036854775808≤m) (hm2:m<9223372036854775808):
  Ctr Tryz.prog Amb 9 [.one (.ints l),.one (.v (.int .i64 j)),.one (.v (.int .i64 i)),.one (.v (.int .i64 m))] (.one (.v (.bool true))):=by
 have hA9:=UI
 by_cases hL:(l.length:Int)≤500
 ·have D1:=light' (decide_eq_true hL)
  have hl:l.length≤1000000:=by omega
  have M1:=Qp hb hl
  have hp:=II l
  obtain ⟨k1,k2⟩:=Jk l
  obtain ⟨t0,u0,mid,hk⟩:=Nl l
  have hCl:(RD l).length=(JY l).length-EJ l-1:=by unfold RD;simp
  generalize RD l=C at*
  generalize JY l=K at*
  generalize EJ l=p at*
  have N1:=KH (n:=j) (m:=((C.length:Nat):Int)) hj1 hj2 (by omega) (by omega)
  obtain ⟨n,hn⟩: ∃n:Nat,j % ((C.length:Nat):Int)=(n:Int):=⟨(j % ((C.length:Nat):Int)).toNat,by have:=Int.emod_nonneg j (show ((C.length:Nat):Int)≠0 by omega);omega⟩
  have hnC:n<C.length:=by have:=Int.emod_lt_of_pos j (show (0:Int)<((C.length:Nat):Int) by omega);omega
  rw [hn] at N1
  obtain ⟨q,hq,hnq,hqn,hqne⟩:=Ts (n:=n) hk (by omega)
  obtain ⟨hpq,hq2,hlt⟩:=hk.in_mid (i:=q) (by omega) hqne
  have hd:=hk.hd hpq hq2 hlt
  have hJ: ∀jt,jt≤145→gwt (45+1) (jt+1) (2+1) p≤1000000:=fun jt h=>Nat.le_trans (G3 (Yi _) (show jt+1≤146 by omega) (Yi _) p) (Nat.le_trans (Gx (show p≤4 by omega)) (by decide))
  have hAl:((K.take (n+p+1)).drop (n+1)).length=p:=by rw [List.length_drop,List.length_take];omega
  have B1:=Ee (j:=45) (jc:=2) (jt:=45) (p:=p) (i:=q) (l:=K) (c:=C) (args:=(K.take (n+p+1)).drop (n+1)) (by decide) (by decide) (hJ 45 (by decide)) (by omega) (by omega) hpq hq2 hlt hCl hAl hd
  rw [UD hd hpq hnq hqn (by omega)] at B1
  have ht:=WF (a:=K.getD q 0) (b:=K.getD (q+1) 0) (i:=i) (Rat.le_of_lt hlt)
  have W1:=KF (j1:=45) (j2:=45) (a:=K.getD q 0) (b:=K.getD (q+1) 0) hi1 hi2 (by decide) (by decide)
  replace W1:Ctr Tryz.prog Amb 32 [.agg [.q (K.getD q 0) 45 0,.q (K.getD q 0) 45 1,.q (K.getD q 0) 45 2,.q (K.getD (q+1) 0) 45 0,.q (K.getD (q+1) 0) 45 1,.q (K.getD (q+1) 0) 45 2],.one (.v (.int .i64 i))] (nm 145 (K.getD q 0+Eh i*(K.getD (q+1) 0-K.getD q 0))):=W1
  obtain ⟨t,htt⟩: ∃t,t=K.getD q 0+Eh i*(K.getD (q+1) 0-K.getD q 0):=⟨_,rfl⟩
  rw [←htt] at ht W1
  have h0t:t0≤t:=by
   have:=hk.mono (i:=0) (j:=q) (by omega) (by omega)
   rw [hk.first (Nat.zero_le p)] at this
   have:=ht.1
   grind
  have htu:t≤u0:=by
   have:=hk.mono (i:=q+1) (j:=K.length-1) (by omega) (by omega)
   rw [hk.last (i:=K.length-1) (by omega) (by omega)] at this
   have:=ht.2
   grind
  obtain ⟨e,he,hI⟩:=hk.ivR_in h0t htu
  obtain ⟨T,hT⟩: ∃T,T=Yj p t:=⟨_,rfl⟩
  have hTl:T.length=p:=by rw [hT,List.length_replicate]
  have S1:=SP (j:=45) (jt:=145) (jc:=2) (p:=p) (i:=e) (l:=K) (c:=C) (t:=t) (by decide) (by decide) (hJ 145 (by decide)) (by omega) (by omega) he.low he.high he.lt hI hCl (hk.hd he.low he.high he.lt)
  rw [←RY hk hpq hq2 hlt ht.1 ht.2 he,←hT] at S1
  have B2:=Ee (j:=45) (jc:=2) (jt:=145) (p:=p) (i:=q) (l:=K) (c:=C) (args:=T) (by decide) (by decide) (hJ 145 (by decide)) (by omega) (by omega) hpq hq2 hlt hCl hTl hd
  have B2':=Ctr.thaw (i:=4) (k:=900) B2 rfl rfl rfl
  have R1:=Wq (n:=m) (d:=3) hm1 hm2 (by decide) (by decide)
  have R2:=Wq (n:=i) (d:=2) hi1 hi2 (by decide) (by decide)
  generalize Vt m 3=u at*
  generalize Vt i 2=v at*
  have MD:=Wj (j:=2) (k:=2) (x:=u) (y:=v) (by decide) (by decide)
  have hfr:AD false 1 2+AD false 1 2=1:=by decide+kernel
  have X1:=Ctr.thaw (i:=4) (k:=900) (LV (jc:=2) (jf:=2) (C:=C) (X:=T) (f:=u) hk (by omega) (by omega) (by decide) (by decide) hpq hq2 hlt hCl hTl) rfl rfl rfl
  have X2:=Ctr.thaw (i:=4) (k:=900) (LV (jc:=2) (jf:=2) (C:=C) (X:=T) (f:=v) hk (by omega) (by omega) (by decide) (by decide) hpq hq2 hlt hCl hTl) rfl rfl rfl
  have X3:=Ctr.thaw (i:=4) (k:=900) (LV (jc:=2) (jf:=2+2+4) (C:=C) (X:=T) (f:=(u+v)*AD false 1 2) hk (by omega) (by omega) (by decide) (by decide) hpq hq2 hlt hCl hTl) rfl rfl rfl
  have hT1l:((T.take T.length).drop 1).length+1=p:=by rw [List.length_drop,List.length_take];omega
  have hmid:=V3 (K:=K) (C:=C) (i:=q) (a:=u) (b:=v) (T:=(T.take T.length).drop 1) hfr hT1l
  rw [hmid] at X3
  have hset:T.set 0 u=u::(T.take T.length).drop 1:=by
   rw [List.take_length]
   cases T with
   | nil=>have h0:(0:Nat)=p:=hTl;omega
   | cons a T=>rfl
  obtain ⟨Y,hY⟩: ∃Y,Y=T.set 0 u:=⟨_,rfl⟩
  have hYl:Y.length=p:=by rw [hY,List.length_set,hTl]
  have hYd:(Y.take Y.length).drop 1=(T.take T.length).drop 1:=by rw [List.take_length,hY,hset];rfl
  have hY0:Y[(0:Int).toNat]?=some u:=by rw [hY,hset];rfl
  have B3:=Ee (j:=45) (jc:=2) (jt:=145) (p:=p) (i:=q) (l:=K) (c:=C) (args:=(Y.take Y.length).drop 1++ [u]) (by decide) (by decide) (hJ 145 (by decide)) (by omega) (by omega) hpq hq2 hlt hCl (by rw [List.length_append,hYd];simpa using hT1l) hd
  rw [NX (y:=u::(T.take T.length).drop 1) (by rw [hYd];exact List.perm_append_singleton _ _) (by rw [List.length_append,hYd];simpa using hT1l) hd] at B3
  have hG:=hJ 145 (by decide)
  have hYdl:((Y.take Y.length).drop 1).length=p-1:=by rw [hYd];omega
  generalize Ep K p q C (u::(T.take T.length).drop 1)=ru at*
  generalize Ep K p q C (v::(T.take T.length).drop 1)=rv at*
  generalize Ep K p q C T=rt at*
  generalize gwt (45+1) (145+1) (2+1) p=G at*
  generalize gwt (45+1) (45+1) (2+1) p=G1 at*
  have MD2:=Wj (j:=G) (k:=G) (x:=ru) (y:=rv) (by omega) (by omega)
  have Z1:=same_e (j:=G1) (k:=2) (x:=C.getD n 0) (y:=C.getD n 0) rfl
  have Z2:=same_e (j:=G) (k:=G) (x:=rt) (y:=rt) rfl
  have Z3:=same_e (j:=G+G+4) (k:=G) (x:=(ru+rv)*AD false 1 2) (y:=(ru+rv)*AD false 1 2) rfl
  have Z4:=same_e (j:=G) (k:=G) (x:=ru) (y:=ru) rfl
  obtain ⟨Z,hZ⟩: ∃Z,Z=(Y.take Y.length).drop 1:=⟨_,rfl⟩
  rw [←hZ] at B3 hYdl
  have hcx:C[((n:Nat):Int).toNat]?=some (C.getD n 0):=by rw [Int.toNat_natCast,List.getD_eq_getElem?_getD,List.getElem?_eq_getElem hnC];rfl
  have hkx:K[((q:Nat):Int).toNat]?=some (K.getD q 0):=by rw [Int.toNat_natCast,List.getD_eq_getElem?_getD,List.getElem?_eq_getElem (by omega)];rfl
  have hky:K[((q+1:Nat):Int).toNat]?=some (K.getD (q+1) 0):=by rw [Int.toNat_natCast,List.getD_eq_getElem?_getD,List.getElem?_eq_getElem (by omega)];rfl
  clear hmid hYd htt h0t htu he hI hd hqne hJ hAl hT1l
  refine A0 Tryz.func9 rfl rfl rfl rfl rfl rfl ?_
  intro W0 base D μ0 hA hD
  repeat (first
   | refine Al ?_|refine Ae ?_|refine Ac rfl ?_|refine Ad rfl ?_
   | ((first|refine Am (by kernel_rfl) ?_|refine Av (by kernel_rfl) (by kernel_rfl) (by kernel_rfl) ?_)
      repeat (first
       | refine AW (hl:=?_)
       | refine Ap (hl:=?_)
       | refine Af (hl:=?_)
       | refine AG (hl:=?_)
       | refine An (hl:=?_)
       | refine Ar (hl:=?_)
       | refine AX (hl:=?_)
       | refine AY (hl:=?_)
       | refine At (hl:=?_)
       | refine AL (hl:=?_)
       | refine Ah (hl:=?_)
       | refine Cu (hl:=?_)
       | refine AJ (hl:=?_)
       | refine AK (hl:=?_)
       | refine AF (hl:=?_)
       | refine AN (hl:=?_)
       | refine AM (hl:=?_)
       | refine AO (hl:=?_)
       | refine AE (hl:=?_)
       | refine Au (hl:=?_)
       | refine Ay (hl:=?_)
       | refine Ao hA (hc:=D1) (hl:=?_)
       | refine Ao hA (hc:=M1) (hl:=?_)
       | refine Ao hA (hc:=N1) (hl:=?_))
      apply Ab.nil;try refine And.intro (by kernel_rfl) ?_)
   | refine Ai ?_|refine Aj ?_)
  refine CE (fun c σ=> ∃r:Nat,c=p+1-r∧r≤p+1∧Wk ⟨W0,base,D,209,[],μ0⟩ σ [(2,.one (.v (.int .i64 i))),(3,.one (.v (.int .i64 m))),(9,.one (AS 45 K)),(10,Ak (p:Nat)),(11,.one (AS 2 C)),(12,Ak (n:Nat)),(13,.one (.v (.int .i64 (pcR K n r)))),(14,Ak (n+r:Nat))] []) (n:=p+1) ⟨0,by omega,by omega,?_⟩ ?_
  ·exact BI
  clear M1 N1 D1
  intro c σ hI
  obtain ⟨r,hc,hr0,hw⟩:=hI
  refine Ch hw ?_
  clear hw
  have a1:=A5 (k:= .i64) (show (IntKind.i64).wrap (((n:Nat):Int)+((p:Nat):Int))=((n+p:Nat):Int) by rw [show ((n:Nat):Int)+((p:Nat):Int)=((n+p:Nat):Int) by omega];exact IntWalk.i64_in _ (by omega))
  by_cases hr:r<p+1
  ·have bi:=Iu (k:= .i64) (decide_eq_true (show ((n+r:Nat):Int)≤((n+p:Nat):Int) by omega))
   have hin:=A5 (k:= .i64) (show (IntKind.i64).wrap (((n+r:Nat):Int)+1)=((n+r+1:Nat):Int) from IntWalk.i64_in _ (by omega))
   obtain ⟨x,hx,hx'⟩:=Cr (l:=K) (i:=n+r) (by omega)
   obtain ⟨y,hy,hy'⟩:=Cr (l:=K) (i:=n+r+1) (by omega)
   have hpc:pcR K n (r+1)=if x=y then pcR K n r else ((n+r:Nat):Int):=by
    show (if K.getD (n+r) 0=K.getD (n+r+1) 0 then _ else _)=_
    rw [BR hx',BR hy']
   have S9:=Lt (j:=45) (k:=45) (x:=x) (y:=y)
   clear B1 W1 S1 B2 B2' R1 R2 MD X1 X2 X3 B3 MD2 Z1 Z2 Z3 Z4 hx' hy'
   by_cases hxy:x=y
   ·rw [decide_eq_true hxy] at S9
    rw [if_pos hxy] at hpc
    rw [←hpc]
    repeat (first
     | refine Al ?_|refine Ae ?_|refine Ac rfl ?_|refine Ad rfl ?_
     | ((first|refine Am (by kernel_rfl) ?_|refine Av (by kernel_rfl) (by kernel_rfl) (by kernel_rfl) ?_)
        repeat (first
         | refine AW (hl:=?_)
         | refine Ap (hl:=?_)
         | refine Af (hl:=?_)
         | refine AG (hl:=?_)
         | refine An (hl:=?_)
         | refine Ar (hl:=?_)
         | refine AX (hl:=?_)
         | refine AY (hl:=?_)
         | refine At (hl:=?_)
         | refine AL (hl:=?_)
         | refine Ah (hl:=?_)
         | refine Cu (hl:=?_)
         | refine AJ (hl:=?_)
         | refine AK (hl:=?_)
         | refine AF (hl:=?_)
         | refine AN (hl:=?_)
         | refine AM (hl:=?_)
         | refine AO (hl:=?_)
         | refine AE (hl:=?_)
         | refine Au (hl:=?_)
         | refine Ay (hl:=?_)
         | refine Ao hA (hc:=S9) (hl:=?_)
         | refine CT hx (by omega) (hl:=?_)
         | refine CT hy (by omega) (hl:=?_))
        apply Ab.nil;try refine And.intro (by kernel_rfl) ?_)
     | refine Ai ?_|refine Aj ?_)
    refine ⟨c-1,by omega,r+1,by omega,by omega,?_⟩
    exact BI
   ·rw [decide_eq_false hxy] at S9
    rw [if_neg hxy] at hpc
    repeat (first
     | refine Al ?_|refine Ae ?_|refine Ac rfl ?_|refine Ad rfl ?_
     | ((first|refine Am (by kernel_rfl) ?_|refine Av (by kernel_rfl) (by kernel_rfl) (by kernel_rfl) ?_)
        repeat (first
         | refine AW (hl:=?_)
         | refine Ap (hl:=?_)
         | refine Af (hl:=?_)
         | refine AG (hl:=?_)
         | refine An (hl:=?_)
         | refine Ar (hl:=?_)
         | refine AX (hl:=?_)
         | refine AY (hl:=?_)
         | refine At (hl:=?_)
         | refine AL (hl:=?_)
         | refine Ah (hl:=?_)
         | refine Cu (hl:=?_)
         | refine AJ (hl:=?_)
         | refine AK (hl:=?_)
         | refine AF (hl:=?_)
         | refine AN (hl:=?_)
         | refine AM (hl:=?_)
         | refine AO (hl:=?_)
         | refine AE (hl:=?_)
         | refine Au (hl:=?_)
         | refine Ay (hl:=?_)
         | refine Ao hA (hc:=S9) (hl:=?_)
         | refine CT hx (by omega) (hl:=?_)
         | refine CT hy (by omega) (hl:=?_))
        apply Ab.nil;try refine And.intro (by kernel_rfl) ?_)
     | refine Ai ?_|refine Aj ?_)
    refine ⟨c-1,by omega,r+1,by omega,by omega,?_⟩
    rw [hpc]
    exact BI
  obtain rfl:r=p+1:=by omega
  have bi:=Iu (k:= .i64) (decide_eq_false (show ¬((n+(p+1):Nat):Int)≤((n+p:Nat):Int) by omega))
  have a2:=A5 (k:= .i64) (show (IntKind.i64).wrap (((n:Nat):Int)+1)=((n+1:Nat):Int) from IntWalk.i64_in _ (by omega))
  have a3:=A5 (k:= .i64) (show (IntKind.i64).wrap (((n+p:Nat):Int)+1)=((n+p+1:Nat):Int) from IntWalk.i64_in _ (by omega))
  have a4:=A5 (k:= .i64) (show (IntKind.i64).wrap (((q:Nat):Int)+1)=((q+1:Nat):Int) from IntWalk.i64_in _ (by omega))
  rw [hq]
  repeat (first
   | refine Al ?_|refine Ae ?_|refine Ac rfl ?_|refine Ad rfl ?_
   | ((first|refine Am (by kernel_rfl) ?_|refine Av (by kernel_rfl) (by kernel_rfl) (by kernel_rfl) ?_)
      repeat (first
       | refine AW (hl:=?_)
       | refine Ap (hl:=?_)
       | refine Af (hl:=?_)
       | refine AG (hl:=?_)
       | refine An (hl:=?_)
       | refine Ar (hl:=?_)
       | refine AX (hl:=?_)
       | refine AY (hl:=?_)
       | refine At (hl:=?_)
       | refine AL (hl:=?_)
       | refine Ah (hl:=?_)
       | refine Cu (hl:=?_)
       | refine AJ (hl:=?_)
       | refine AK (hl:=?_)
       | refine AF (hl:=?_)
       | refine AN (hl:=?_)
       | refine AM (hl:=?_)
       | refine AO (hl:=?_)
       | refine AE (hl:=?_)
       | refine Au (hl:=?_)
       | refine Ay (hl:=?_)
       | refine Ao hA (hc:=B1) (hl:=?_)
       | refine Ao hA (hc:=Z1) (hl:=?_)
       | refine Gg (la:=K) (f:=nmD 45) (a:=n+1) (b:=n+p+1) (by omega) (by omega) (.some rfl rfl) (.some rfl rfl) (hl:=?_)
       | refine CT hcx (by omega) (hl:=?_))
      apply Ab.nil;try refine And.intro (by kernel_rfl) ?_)
   | refine Ai ?_|refine Aj ?_)
  refine Ch (ss:= [(2,.one (.v (.int .i64 i))),(3,.one (.v (.int .i64 m))),(9,.one (AS 45 K)),(10,Ak (p:Nat)),(11,.one (AS 2 C)),(13,Ak (q:Nat))]) (bs:= []) ?_ ?_
  ·exact BI
  generalize K.getD q 0=ka at*
  generalize K.getD (q+1) 0=kb at*
  repeat (first
   | refine Al ?_|refine Ae ?_|refine Ac rfl ?_|refine Ad rfl ?_
   | ((first|refine Am (by kernel_rfl) ?_|refine Av (by kernel_rfl) (by kernel_rfl) (by kernel_rfl) ?_)
      repeat (first
       | refine AW (hl:=?_)
       | refine Ap (hl:=?_)
       | refine Af (hl:=?_)
       | refine AG (hl:=?_)
       | refine An (hl:=?_)
       | refine Ar (hl:=?_)
       | refine AX (hl:=?_)
       | refine AY (hl:=?_)
       | refine At (hl:=?_)
       | refine AL (hl:=?_)
       | refine Ah (hl:=?_)
       | refine Cu (hl:=?_)
       | refine AJ (hl:=?_)
       | refine AK (hl:=?_)
       | refine AF (hl:=?_)
       | refine AN (hl:=?_)
       | refine AM (hl:=?_)
       | refine AO (hl:=?_)
       | refine AE (hl:=?_)
       | refine Au (hl:=?_)
       | refine Ay (hl:=?_)
       | refine Ao hA (hc:=W1) (hl:=?_)
       | refine CT hkx (by omega) (hl:=?_)
       | refine CT hky (by omega) (hl:=?_))
      apply Ab.nil;try refine And.intro (by kernel_rfl) ?_)
   | refine Ai ?_|refine Aj ?_)
  refine CE (fun c σ=> ∃(r:Nat) (done:List Rat),c=p-r∧r≤p∧done=Yj r t∧Wk ⟨W0,base,D,209,[],μ0⟩ σ [(2,.one (.v (.int .i64 i))),(3,.one (.v (.int .i64 m))),(9,.one (AS 45 K)),(10,Ak (p:Nat)),(11,.one (AS 2 C)),(13,Ak (q:Nat)),(17,.one (.ptr 17 0)),(18,.one (.gl 900 done.length 3)),(19,Ak (r:Nat))] [(17,nmC 145 t),(900,AA (nmD 145) done)]) (n:=p) ⟨0,[],by omega,by omega,rfl,?_⟩ ?_
  ·exact BI
  clear B1 W1 Z1 a1 a2 a3 a4 bi
  intro c σ hI
  obtain ⟨r,done,hc,hr0,hdone,hw⟩:=hI
  refine Ch hw ?_
  clear hw
  have hdl:done.length=r:=by rw [hdone,List.length_replicate]
  by_cases hr:r<p
  ·have bi:=Cc (k:= .i64) (decide_eq_true (show ((r:Nat):Int)<((p:Nat):Int) by omega))
   have hin:=A5 (k:= .i64) (show (IntKind.i64).wrap (((r:Nat):Int)+1)=((r+1:Nat):Int) from IntWalk.i64_in _ (by omega))
   have hnext:done++ [t]=Yj (r+1) t:=by rw [hdone,←List.replicate_succ']
   clear S1 B2 B2' R1 R2 MD X1 X2 X3 B3 MD2 Z2 Z3 Z4
   repeat (first
    | refine Al ?_|refine Ae ?_|refine Ac rfl ?_|refine Ad rfl ?_
    | ((first|refine Am (by kernel_rfl) ?_|refine Av (by kernel_rfl) (by kernel_rfl) (by kernel_rfl) ?_)
       repeat (first
        | refine AW (hl:=?_)
        | refine Ap (hl:=?_)
        | refine Af (hl:=?_)
        | refine AG (hl:=?_)
        | refine An (hl:=?_)
        | refine Ar (hl:=?_)
        | refine AX (hl:=?_)
        | refine AY (hl:=?_)
        | refine At (hl:=?_)
        | refine AL (hl:=?_)
        | refine Ah (hl:=?_)
        | refine Cu (hl:=?_)
        | refine AJ (hl:=?_)
        | refine AK (hl:=?_)
        | refine AF (hl:=?_)
        | refine AN (hl:=?_)
        | refine AM (hl:=?_)
        | refine AO (hl:=?_)
        | refine AE (hl:=?_)
        | refine Au (hl:=?_)
        | refine Ay (hl:=?_))
       apply Ab.nil;try refine And.intro (by kernel_rfl) ?_)
    | refine Ai ?_|refine Aj ?_)
   try refine Al ?_
   refine CW 3 (by simp only [List.take_succ_cons,List.take_zero,List.drop_succ_cons,List.drop_zero];exact ⟨rfl,rfl⟩) (by kernel_rfl) ?_
   repeat (first
    | refine AW (hl:=?_)
    | refine Ap (hl:=?_)
    | refine Af (hl:=?_)
    | refine AG (hl:=?_)
    | refine An (hl:=?_)
    | refine Ar (hl:=?_)
    | refine AX (hl:=?_)
    | refine AY (hl:=?_)
    | refine At (hl:=?_)
    | refine AL (hl:=?_)
    | refine Ah (hl:=?_)
    | refine Cu (hl:=?_)
    | refine AJ (hl:=?_)
    | refine AK (hl:=?_)
    | refine AF (hl:=?_)
    | refine AN (hl:=?_)
    | refine AM (hl:=?_)
    | refine AO (hl:=?_)
    | refine AE (hl:=?_)
    | refine Au (hl:=?_)
    | refine Ay (hl:=?_))
   apply Ab.nil
   refine ES (k:=900) (ss:= [(2,.one (.v (.int .i64 i))),(3,.one (.v (.int .i64 m))),(9,.one (AS 45 K)),(10,Ak (p:Nat)),(11,.one (AS 2 C)),(13,Ak (q:Nat)),(17,.one (.ptr 17 0)),(19,Ak (r:Nat))]) (bs:= [(17,nmC 145 t)]) (ns:=(nmC 145 t)) hD ?_ ?_ ?_
   ·exact ⟨by omega,by omega⟩
   ·exact BI
   repeat (refine Du rfl ?_;(first|refine Af (hl:=?_)|refine Ap (hl:=?_)|refine An (hl:=?_));apply Ab.nil)
   refine Dv ?_
   repeat (first
    | refine Al ?_|refine Ae ?_|refine Ac rfl ?_|refine Ad rfl ?_
    | ((first|refine Am (by kernel_rfl) ?_|refine Av (by kernel_rfl) (by kernel_rfl) (by kernel_rfl) ?_)
       repeat (first
        | refine AW (hl:=?_)
        | refine Ap (hl:=?_)
        | refine Af (hl:=?_)
        | refine AG (hl:=?_)
        | refine An (hl:=?_)
        | refine Ar (hl:=?_)
        | refine AX (hl:=?_)
        | refine AY (hl:=?_)
        | refine At (hl:=?_)
        | refine AL (hl:=?_)
        | refine Ah (hl:=?_)
        | refine Cu (hl:=?_)
        | refine AJ (hl:=?_)
        | refine AK (hl:=?_)
        | refine AF (hl:=?_)
        | refine AN (hl:=?_)
        | refine AM (hl:=?_)
        | refine AO (hl:=?_)
        | refine AE (hl:=?_)
        | refine Au (hl:=?_)
        | refine Ay (hl:=?_))
       apply Ab.nil;try refine And.intro (by kernel_rfl) ?_)
    | refine Ai ?_|refine Aj ?_)
   refine ⟨c-1,by omega,r+1,done++ [t],by omega,by omega,hnext,?_⟩
   exact BI
  obtain rfl:r=p:=by omega
  have bi:=Cc (k:= .i64) (decide_eq_false (show ¬((r:Nat):Int)<((r:Nat):Int) by omega))
  rw [←hT] at hdone
  subst hdone
  have hdl0:0<done.length∧0<(AA (nmD 145) done).length:=⟨by omega,by rw [BJ (n:=3) inferInstance];omega⟩
  repeat (first
   | refine Al ?_|refine Ae ?_|refine Ac rfl ?_|refine Ad rfl ?_
   | ((first|refine Am (by kernel_rfl) ?_|refine Av (by kernel_rfl) (by kernel_rfl) (by kernel_rfl) ?_)
      repeat (first
       | refine AW (hl:=?_)
       | refine Ap (hl:=?_)
       | refine Af (hl:=?_)
       | refine AG (hl:=?_)
       | refine An (hl:=?_)
       | refine Ar (hl:=?_)
       | refine AX (hl:=?_)
       | refine AY (hl:=?_)
       | refine At (hl:=?_)
       | refine AL (hl:=?_)
       | refine Ah (hl:=?_)
       | refine Cu (hl:=?_)
       | refine AJ (hl:=?_)
       | refine AK (hl:=?_)
       | refine AF (hl:=?_)
       | refine AN (hl:=?_)
       | refine AM (hl:=?_)
       | refine AO (hl:=?_)
       | refine AE (hl:=?_)
       | refine Au (hl:=?_)
       | refine Ay (hl:=?_)
       | refine GJ (q:=4) hA B2' hdl0 (hl:=?_)
       | refine Ao hA (hc:=S1) (hl:=?_)
       | refine Ao hA (hc:=R1) (hl:=?_)
       | refine Ao hA (hc:=R2) (hl:=?_))
      apply Ab.nil;try refine And.intro (by kernel_rfl) ?_)
   | refine Ai ?_|refine Aj ?_)
  refine Ch (ss:= [(9,.one (AS 45 K)),(10,Ak (r:Nat)),(11,.one (AS 2 C)),(13,Ak (q:Nat)),(18,.one (.gl 900 done.length 3)),(20,.one (.ptr 20 0)),(21,Ak 0),(22,.one (.ptr 22 0)),(23,Ak 0),(24,.one (.ptr 24 0)),(25,.one (.ptr 25 0))]) (bs:= [(900,AA (nmD 145) done),(20,nmC G rt),(22,nmC G rt),(24,nmC 2 u),(25,nmC 2 v)]) ?_ ?_
  ·exact BI
  clear S1 B2 B2' R1 R2 bi
  repeat (first
   | refine Al ?_|refine Ae ?_|refine Ac rfl ?_|refine Ad rfl ?_
   | ((first|refine Am (by kernel_rfl) ?_|refine Av (by kernel_rfl) (by kernel_rfl) (by kernel_rfl) ?_)
      repeat (first
       | refine AW (hl:=?_)
       | refine Ap (hl:=?_)
       | refine Af (hl:=?_)
       | refine AG (hl:=?_)
       | refine An (hl:=?_)
       | refine Ar (hl:=?_)
       | refine AX (hl:=?_)
       | refine AY (hl:=?_)
       | refine At (hl:=?_)
       | refine AL (hl:=?_)
       | refine Ah (hl:=?_)
       | refine Cu (hl:=?_)
       | refine AJ (hl:=?_)
       | refine AK (hl:=?_)
       | refine AF (hl:=?_)
       | refine AN (hl:=?_)
       | refine AM (hl:=?_)
       | refine AO (hl:=?_)
       | refine AE (hl:=?_)
       | refine Au (hl:=?_)
       | refine Ay (hl:=?_)
       | refine Ao hA (hc:=MD) (hl:=?_)
       | refine GJ (q:=4) hA X1 hdl0 (hl:=?_)
       | refine GJ (q:=4) hA X2 hdl0 (hl:=?_)
       | refine GJ (q:=4) hA X3 hdl0 (hl:=?_))
      apply Ab.nil;try refine And.intro (by kernel_rfl) ?_)
   | refine Ai ?_|refine Aj ?_)
  refine Ch (ss:= [(9,.one (AS 45 K)),(10,Ak (r:Nat)),(11,.one (AS 2 C)),(13,Ak (q:Nat)),(18,.one (.gl 900 done.length 3)),(20,.one (.ptr 20 0)),(21,Ak 0),(22,.one (.ptr 22 0)),(23,Ak 0),(24,.one (.ptr 24 0)),(26,.one (.ptr 26 0)),(27,.one (.ptr 27 0)),(28,.one (.ptr 28 0))]) (bs:= [(900,AA (nmD 145) done),(20,nmC G rt),(22,nmC G rt),(24,nmC 2 u),(26,nmC G ru),(27,nmC G rv),(28,nmC G ((ru+rv)*AD false 1 2))]) ?_ ?_
  ·exact BI
  clear X1 X2 X3 MD
  have lt1:(0:Int)≤0∧(0:Int)<(done.length:Nat):=by omega
  have st1:(0:Int).toNat*3+3≤(AA (nmD 145) done).length:=by rw [BJ (n:=3) inferInstance];simp;omega
  have hYe:done.length=Y.length:=by omega
  try refine Al ?_
  refine Am (by kernel_rfl) ?_
  repeat (first
   | refine GI (k:=900) st1 (hl:=?_)
   | refine AW (hl:=?_)
   | refine Ap (hl:=?_)
   | refine Af (hl:=?_)
   | refine AG (hl:=?_)
   | refine An (hl:=?_)
   | refine Ar (hl:=?_)
   | refine AX (hl:=?_)
   | refine AY (hl:=?_)
   | refine At (hl:=?_)
   | refine AL (hl:=?_)
   | refine Ah (hl:=?_)
   | refine Cu (hl:=?_)
   | refine AJ (hl:=?_)
   | refine AK (hl:=?_)
   | refine AF (hl:=?_)
   | refine AN (hl:=?_)
   | refine AM (hl:=?_)
   | refine AO (hl:=?_)
   | refine AE (hl:=?_)
   | refine Au (hl:=?_)
   | refine Ay (hl:=?_)
   | refine Dd hA (hc:=OLD) (hl:=?_)
   | refine Fa lt1 (hl:=?_))
  apply Ab.nil
  refine Ch (ss:= [(9,.one (AS 45 K)),(10,Ak (r:Nat)),(11,.one (AS 2 C)),(13,Ak (q:Nat)),(18,.one (.gl 900 Y.length 3)),(20,.one (.ptr 20 0)),(21,Ak 0),(22,.one (.ptr 22 0)),(23,Ak 0),(26,.one (.ptr 26 0)),(27,.one (.ptr 27 0)),(28,.one (.ptr 28 0))]) (bs:= [(900,AA (nmD 145) Y),(20,nmC G rt),(22,nmC G rt),(26,nmC G ru),(27,nmC G rv),(28,nmC G ((ru+rv)*AD false 1 2))]) ?_ ?_
  ·rw [hY]
   refine Es ?_ ?_ (by kernel_rfl)
   ·repeat (first|exact AU|(refine List.forall_mem_cons.2 ⟨?_,?_⟩;focus (first|exact Ent.of_eq (by with_reducible rfl)|exact Ent.one' rfl (Aa.glLen (by rw [List.length_set]))|exact Ent.of_eq (by kernel_rfl))))
   ·refine List.forall_mem_cons.2 ⟨G7 inferInstance (i:=0) (show 0<done.length by omega) (cs:=nmC 2 u) (.cons (Aa.q rfl (by decide)) (.cons (Aa.q rfl (by decide)) (.cons (Aa.q rfl (by decide)) .nil))) (hz:=by exact rfl) (hm:=by kernel_rfl),?_⟩
    repeat (first|exact AU|refine List.forall_mem_cons.2 ⟨DG (by kernel_rfl) (EntL.of_eq (by kernel_rfl)) (by kernel_rfl),?_⟩)
  refine CX 900 hD (ss:= [(9,.one (AS 45 K)),(10,Ak (r:Nat)),(11,.one (AS 2 C)),(13,Ak (q:Nat)),(18,.one (AS 145 Y)),(20,.one (.ptr 20 0)),(21,Ak 0),(22,.one (.ptr 22 0)),(23,Ak 0),(26,.one (.ptr 26 0)),(27,.one (.ptr 27 0)),(28,.one (.ptr 28 0))]) (bs:= [(20,nmC G rt),(22,nmC G rt),(26,nmC G ru),(27,nmC G rv),(28,nmC G ((ru+rv)*AD false 1 2))]) ?_ ?_
  ·exact LN
  by_cases hp1:r=1
  ·have hZ0:Z= []:=List.eq_nil_of_length_eq_zero (by omega)
   try refine Al ?_
   refine G9 8 (by simp only [List.take_succ_cons,List.take_zero,List.drop_succ_cons,List.drop_zero];exact ⟨rfl,rfl⟩) (by kernel_rfl) (by kernel_rfl) (by kernel_rfl) (by kernel_rfl) (by kernel_rfl) ?_
   repeat (first
    | refine GK (hl:=?_)
    | refine AW (hl:=?_)
    | refine Ap (hl:=?_)
    | refine Af (hl:=?_)
    | refine AG (hl:=?_)
    | refine An (hl:=?_)
    | refine Ar (hl:=?_)
    | refine AX (hl:=?_)
    | refine AY (hl:=?_)
    | refine At (hl:=?_)
    | refine AL (hl:=?_)
    | refine Ah (hl:=?_)
    | refine Cu (hl:=?_)
    | refine AJ (hl:=?_)
    | refine AK (hl:=?_)
    | refine AF (hl:=?_)
    | refine AN (hl:=?_)
    | refine AM (hl:=?_)
    | refine AO (hl:=?_)
    | refine AE (hl:=?_)
    | refine Au (hl:=?_)
    | refine Ay (hl:=?_)
    | refine Dd hA (hc:=OLD) (hl:=?_)
    | refine Gg (la:=Y) (f:=nmD 145) (a:=1) (b:=Y.length) (by omega) (by omega) (.some rfl rfl) .none (hl:=?_))
   rw [←hZ,hZ0]
   refine UY ⟨_,rfl⟩ (hl:=?_)
   repeat (first
    | refine AW (hl:=?_)
    | refine Ap (hl:=?_)
    | refine Af (hl:=?_)
    | refine AG (hl:=?_)
    | refine An (hl:=?_)
    | refine Ar (hl:=?_)
    | refine AX (hl:=?_)
    | refine AY (hl:=?_)
    | refine At (hl:=?_)
    | refine AL (hl:=?_)
    | refine Ah (hl:=?_)
    | refine Cu (hl:=?_)
    | refine AJ (hl:=?_)
    | refine AK (hl:=?_)
    | refine AF (hl:=?_)
    | refine AN (hl:=?_)
    | refine AM (hl:=?_)
    | refine AO (hl:=?_)
    | refine AE (hl:=?_)
    | refine Au (hl:=?_)
    | refine Ay (hl:=?_)
    | refine Dd hA (hc:=OLD) (hl:=?_)
    | refine CT (i:=0) hY0 (by omega) (hl:=?_))
   apply Ab.nil
   refine And.intro (by kernel_rfl) ?_
   refine ES (k:=164) (f:=nmD 145) (la:= []) (ss:= [(9,.one (AS 45 K)),(10,Ak (r:Nat)),(11,.one (AS 2 C)),(13,Ak (q:Nat)),(20,.one (.ptr 20 0)),(21,Ak 0),(22,.one (.ptr 22 0)),(23,Ak 0),(26,.one (.ptr 26 0)),(27,.one (.ptr 27 0)),(28,.one (.ptr 28 0))]) (bs:= [(20,nmC G rt),(22,nmC G rt),(26,nmC G ru),(27,nmC G rv),(28,nmC G ((ru+rv)*AD false 1 2))]) (ns:=nmC 145 u) hD ?_ ?_ ?_
   ·exact ⟨by decide,by decide⟩
   ·exact BI
   repeat (refine Du rfl ?_;(first|refine Af (hl:=?_)|refine Ap (hl:=?_)|refine An (hl:=?_));apply Ab.nil)
   refine Dv ?_
   rw [hZ0] at B3
   refine Ch (ss:= [(9,.one (AS 45 K)),(10,Ak (r:Nat)),(11,.one (AS 2 C)),(13,Ak (q:Nat)),(20,.one (.ptr 20 0)),(21,Ak 0),(22,.one (.ptr 22 0)),(23,Ak 0),(26,.one (.ptr 26 0)),(27,.one (.ptr 27 0)),(28,.one (.ptr 28 0)),(29,.one (.gl 164 ([]++ [u]:List Rat).length 3))]) (bs:= [(164,AA (nmD 145) ([]++ [u])),(20,nmC G rt),(22,nmC G rt),(26,nmC G ru),(27,nmC G rv),(28,nmC G ((ru+rv)*AD false 1 2))]) ?_ ?_
   ·exact BI
   refine CX 164 hD (ss:= [(9,.one (AS 45 K)),(10,Ak (r:Nat)),(11,.one (AS 2 C)),(13,Ak (q:Nat)),(20,.one (.ptr 20 0)),(21,Ak 0),(22,.one (.ptr 22 0)),(23,Ak 0),(26,.one (.ptr 26 0)),(27,.one (.ptr 27 0)),(28,.one (.ptr 28 0)),(29,.one (AS 145 ([]++ [u])))]) (bs:= [(20,nmC G rt),(22,nmC G rt),(26,nmC G ru),(27,nmC G rv),(28,nmC G ((ru+rv)*AD false 1 2))]) ?_ ?_
   ·exact LN
   repeat (first
    | refine Al ?_|refine Ae ?_|refine Ac rfl ?_|refine Ad rfl ?_
    | ((first|refine Am (by kernel_rfl) ?_|refine Av (by kernel_rfl) (by kernel_rfl) (by kernel_rfl) ?_)
       repeat (first
        | refine AW (hl:=?_)
        | refine Ap (hl:=?_)
        | refine Af (hl:=?_)
        | refine AG (hl:=?_)
        | refine An (hl:=?_)
        | refine Ar (hl:=?_)
        | refine AX (hl:=?_)
        | refine AY (hl:=?_)
        | refine At (hl:=?_)
        | refine AL (hl:=?_)
        | refine Ah (hl:=?_)
        | refine Cu (hl:=?_)
        | refine AJ (hl:=?_)
        | refine AK (hl:=?_)
        | refine AF (hl:=?_)
        | refine AN (hl:=?_)
        | refine AM (hl:=?_)
        | refine AO (hl:=?_)
        | refine AE (hl:=?_)
        | refine Au (hl:=?_)
        | refine Ay (hl:=?_)
        | refine Ao hA (hc:=B3) (hl:=?_))
       apply Ab.nil;try refine And.intro (by kernel_rfl) ?_)
    | refine Ai ?_|refine Aj ?_)
   refine Ch (ss:= [(20,.one (.ptr 20 0)),(21,Ak 0),(22,.one (.ptr 22 0)),(23,Ak 0),(26,.one (.ptr 26 0)),(27,.one (.ptr 27 0)),(28,.one (.ptr 28 0)),(30,.one (.ptr 30 0)),(31,Ak 0)]) (bs:= [(20,nmC G rt),(22,nmC G rt),(26,nmC G ru),(27,nmC G rv),(28,nmC G ((ru+rv)*AD false 1 2)),(30,nmC G ru)]) ?_ ?_
   ·exact BI
   repeat (first
    | refine Al ?_|refine Ae ?_|refine Ac rfl ?_|refine Ad rfl ?_
    | ((first|refine Am (by kernel_rfl) ?_|refine Av (by kernel_rfl) (by kernel_rfl) (by kernel_rfl) ?_)
       repeat (first
        | refine AW (hl:=?_)
        | refine Ap (hl:=?_)
        | refine Af (hl:=?_)
        | refine AG (hl:=?_)
        | refine An (hl:=?_)
        | refine Ar (hl:=?_)
        | refine AX (hl:=?_)
        | refine AY (hl:=?_)
        | refine At (hl:=?_)
        | refine AL (hl:=?_)
        | refine Ah (hl:=?_)
        | refine Cu (hl:=?_)
        | refine AJ (hl:=?_)
        | refine AK (hl:=?_)
        | refine AF (hl:=?_)
        | refine AN (hl:=?_)
        | refine AM (hl:=?_)
        | refine AO (hl:=?_)
        | refine AE (hl:=?_)
        | refine Au (hl:=?_)
        | refine Ay (hl:=?_)
        | refine Ao hA (hc:=Z2) (hl:=?_)
        | refine Ao hA (hc:=MD2) (hl:=?_)
        | refine Ao hA (hc:=Z3) (hl:=?_)
        | refine Ao hA (hc:=Z4) (hl:=?_)
        | refine Ao hA (hc:=hA9) (hl:=?_))
       apply Ab.nil;try refine And.intro (by kernel_rfl) ?_)
    | refine Ai ?_|refine Aj ?_)
   refine BH (And.intro (Or.inr rfl) ?_)
   exact C8
  ·have hZ1:0<Z.length:=by omega
   try refine Al ?_
   refine G9 8 (by simp only [List.take_succ_cons,List.take_zero,List.drop_succ_cons,List.drop_zero];exact ⟨rfl,rfl⟩) (by kernel_rfl) (by kernel_rfl) (by kernel_rfl) (by kernel_rfl) (by kernel_rfl) ?_
   repeat (first
    | refine GK (hl:=?_)
    | refine AW (hl:=?_)
    | refine Ap (hl:=?_)
    | refine Af (hl:=?_)
    | refine AG (hl:=?_)
    | refine An (hl:=?_)
    | refine Ar (hl:=?_)
    | refine AX (hl:=?_)
    | refine AY (hl:=?_)
    | refine At (hl:=?_)
    | refine AL (hl:=?_)
    | refine Ah (hl:=?_)
    | refine Cu (hl:=?_)
    | refine AJ (hl:=?_)
    | refine AK (hl:=?_)
    | refine AF (hl:=?_)
    | refine AN (hl:=?_)
    | refine AM (hl:=?_)
    | refine AO (hl:=?_)
    | refine AE (hl:=?_)
    | refine Au (hl:=?_)
    | refine Ay (hl:=?_)
    | refine Dd hA (hc:=OLD) (hl:=?_)
    | refine Gg (la:=Y) (f:=nmD 145) (a:=1) (b:=Y.length) (by omega) (by omega) (.some rfl rfl) .none (hl:=?_))
   rw [←hZ]
   refine WI (f:=nmD 145) (la:=Z) ⟨_,rfl⟩ hZ1 (by omega) (by omega) inferInstance (hl:=?_)
   repeat (first
    | refine AW (hl:=?_)
    | refine Ap (hl:=?_)
    | refine Af (hl:=?_)
    | refine AG (hl:=?_)
    | refine An (hl:=?_)
    | refine Ar (hl:=?_)
    | refine AX (hl:=?_)
    | refine AY (hl:=?_)
    | refine At (hl:=?_)
    | refine AL (hl:=?_)
    | refine Ah (hl:=?_)
    | refine Cu (hl:=?_)
    | refine AJ (hl:=?_)
    | refine AK (hl:=?_)
    | refine AF (hl:=?_)
    | refine AN (hl:=?_)
    | refine AM (hl:=?_)
    | refine AO (hl:=?_)
    | refine AE (hl:=?_)
    | refine Au (hl:=?_)
    | refine Ay (hl:=?_)
    | refine Dd hA (hc:=OLD) (hl:=?_)
    | refine CT (i:=0) hY0 (by omega) (hl:=?_))
   apply Ab.nil
   refine And.intro (by kernel_rfl) ?_
   refine ES (k:=164) (f:=nmD 145) (la:=Z) (ss:= [(9,.one (AS 45 K)),(10,Ak (r:Nat)),(11,.one (AS 2 C)),(13,Ak (q:Nat)),(20,.one (.ptr 20 0)),(21,Ak 0),(22,.one (.ptr 22 0)),(23,Ak 0),(26,.one (.ptr 26 0)),(27,.one (.ptr 27 0)),(28,.one (.ptr 28 0))]) (bs:= [(20,nmC G rt),(22,nmC G rt),(26,nmC G ru),(27,nmC G rv),(28,nmC G ((ru+rv)*AD false 1 2))]) (ns:=nmC 145 u) hD ?_ ?_ ?_
   ·exact ⟨by omega,by omega⟩
   ·exact BI
   repeat (refine Du rfl ?_;(first|refine Af (hl:=?_)|refine Ap (hl:=?_)|refine An (hl:=?_));apply Ab.nil)
   refine Dv ?_
   refine Ch (ss:= [(9,.one (AS 45 K)),(10,Ak (r:Nat)),(11,.one (AS 2 C)),(13,Ak (q:Nat)),(20,.one (.ptr 20 0)),(21,Ak 0),(22,.one (.ptr 22 0)),(23,Ak 0),(26,.one (.ptr 26 0)),(27,.one (.ptr 27 0)),(28,.one (.ptr 28 0)),(29,.one (.gl 164 (Z++ [u]).length 3))]) (bs:= [(164,AA (nmD 145) (Z++ [u])),(20,nmC G rt),(22,nmC G rt),(26,nmC G ru),(27,nmC G rv),(28,nmC G ((ru+rv)*AD false 1 2))]) ?_ ?_
   ·exact BI
   refine CX 164 hD (ss:= [(9,.one (AS 45 K)),(10,Ak (r:Nat)),(11,.one (AS 2 C)),(13,Ak (q:Nat)),(20,.one (.ptr 20 0)),(21,Ak 0),(22,.one (.ptr 22 0)),(23,Ak 0),(26,.one (.ptr 26 0)),(27,.one (.ptr 27 0)),(28,.one (.ptr 28 0)),(29,.one (AS 145 (Z++ [u])))]) (bs:= [(20,nmC G rt),(22,nmC G rt),(26,nmC G ru),(27,nmC G rv),(28,nmC G ((ru+rv)*AD false 1 2))]) ?_ ?_
   ·exact LN
   repeat (first
    | refine Al ?_|refine Ae ?_|refine Ac rfl ?_|refine Ad rfl ?_
    | ((first|refine Am (by kernel_rfl) ?_|refine Av (by kernel_rfl) (by kernel_rfl) (by kernel_rfl) ?_)
       repeat (first
        | refine AW (hl:=?_)
        | refine Ap (hl:=?_)
        | refine Af (hl:=?_)
        | refine AG (hl:=?_)
        | refine An (hl:=?_)
        | refine Ar (hl:=?_)
        | refine AX (hl:=?_)
        | refine AY (hl:=?_)
        | refine At (hl:=?_)
        | refine AL (hl:=?_)
        | refine Ah (hl:=?_)
        | refine Cu (hl:=?_)
        | refine AJ (hl:=?_)
        | refine AK (hl:=?_)
        | refine AF (hl:=?_)
        | refine AN (hl:=?_)
        | refine AM (hl:=?_)
        | refine AO (hl:=?_)
        | refine AE (hl:=?_)
        | refine Au (hl:=?_)
        | refine Ay (hl:=?_)
        | refine Ao hA (hc:=B3) (hl:=?_))
       apply Ab.nil;try refine And.intro (by kernel_rfl) ?_)
    | refine Ai ?_|refine Aj ?_)
   refine Ch (ss:= [(20,.one (.ptr 20 0)),(21,Ak 0),(22,.one (.ptr 22 0)),(23,Ak 0),(26,.one (.ptr 26 0)),(27,.one (.ptr 27 0)),(28,.one (.ptr 28 0)),(30,.one (.ptr 30 0)),(31,Ak 0)]) (bs:= [(20,nmC G rt),(22,nmC G rt),(26,nmC G ru),(27,nmC G rv),(28,nmC G ((ru+rv)*AD false 1 2)),(30,nmC G ru)]) ?_ ?_
   ·exact BI
   repeat (first
    | refine Al ?_|refine Ae ?_|refine Ac rfl ?_|refine Ad rfl ?_
    | ((first|refine Am (by kernel_rfl) ?_|refine Av (by kernel_rfl) (by kernel_rfl) (by kernel_rfl) ?_)
       repeat (first
        | refine AW (hl:=?_)
        | refine Ap (hl:=?_)
        | refine Af (hl:=?_)
        | refine AG (hl:=?_)
        | refine An (hl:=?_)
        | refine Ar (hl:=?_)
        | refine AX (hl:=?_)
        | refine AY (hl:=?_)
        | refine At (hl:=?_)
        | refine AL (hl:=?_)
        | refine Ah (hl:=?_)
        | refine Cu (hl:=?_)
        | refine AJ (hl:=?_)
        | refine AK (hl:=?_)
        | refine AF (hl:=?_)
        | refine AN (hl:=?_)
        | refine AM (hl:=?_)
        | refine AO (hl:=?_)
        | refine AE (hl:=?_)
        | refine Au (hl:=?_)
        | refine Ay (hl:=?_)
        | refine Ao hA (hc:=Z2) (hl:=?_)
        | refine Ao hA (hc:=MD2) (hl:=?_)
        | refine Ao hA (hc:=Z3) (hl:=?_)
        | refine Ao hA (hc:=Z4) (hl:=?_)
        | refine Ao hA (hc:=hA9) (hl:=?_))
       apply Ab.nil;try refine And.intro (by kernel_rfl) ?_)
    | refine Ai ?_|refine Aj ?_)
   refine BH (And.intro (Or.inr rfl) ?_)
   exact C8
 ·have D1:=light' (decide_eq_false hL)
  refine A0 Tryz.func9 rfl rfl rfl rfl rfl rfl ?_
  intro W0 base D μ0 hA hD
  repeat (first
   | refine Al ?_|refine Ae ?_|refine Ac rfl ?_|refine Ad rfl ?_|refine N0 6 ?_
   | ((first|refine Am (by kernel_rfl) ?_|refine Av (by kernel_rfl) (by kernel_rfl) (by kernel_rfl) ?_)
      repeat (first
       | refine AW (hl:=?_)
       | refine Ap (hl:=?_)
       | refine Af (hl:=?_)
       | refine AG (hl:=?_)
       | refine An (hl:=?_)
       | refine Ar (hl:=?_)
       | refine AX (hl:=?_)
       | refine AY (hl:=?_)
       | refine At (hl:=?_)
       | refine Si (hl:=?_)
       | refine CO 0 (hl:=?_)
       | refine CO 3 (hl:=?_)
       | refine CO 6 (hl:=?_)
       | refine Ah (hl:=?_)
       | refine Cu (hl:=?_)
       | refine AJ (hl:=?_)
       | refine AK (hl:=?_)
       | refine AF (hl:=?_)
       | refine AN (hl:=?_)
       | refine AM (hl:=?_)
       | refine AO (hl:=?_)
       | refine AE (hl:=?_)
       | refine Au (hl:=?_)
       | refine Ay (hl:=?_)
       | refine FP 1000 (hl:=?_)
       | refine FP 2000 (hl:=?_)
       | refine Ao hA (hc:=D1) (hl:=?_)
       | refine Ao hA (hc:=hA9) (hl:=?_))
      apply Ab.nil;try refine And.intro (by kernel_rfl) ?_)
   | refine Ai ?_|refine Aj ?_)
  refine BH (And.intro (Or.inr rfl) ?_)
  exact C8
end bdual
end Go.Proofs.YtkmalkcgkcpcmaaGreatDoor
