/-
  BasisUnity, by contracts.
-/
import Derived.Test.YtkmalkcgkcpcmaaGreatDoorIh
namespace Go.Proofs.YtkmalkcgkcpcmaaGreatDoor
open List renaming replicate→Yj
open Nat renaming le_refl→Yi
open Go.RowKit
set_option linter.unusedVariables false
set_option linter.unusedSimpArgs false
set_option maxRecDepth 20000
set_option maxHeartbeats 4000000
namespace bunity
section
variable {K:List Rat} {p e:Nat} {t0 u t:Rat} {mid:List (Rat×Nat)}
theorem Xq (hk:Kns K p t0 u mid) (he:PD K p t e) (ht:t≤K.getD (e+1) 0): ∀q r,q<p→p≤r→r<2*p→kn K p e q≤t∧t≤kn K p e r∧kn K p e q<kn K p e r:=fun q r h1 h2 h3=>by
 have hl:=he.low
 have hh:=he.high
 have a1:=hk.mono (i:=e+1-p+q) (j:=e) (by omega) (by omega)
 have a2:=hk.mono (i:=e+1) (j:=e+1-p+r) (by omega) (by omega)
 have a3:=he.begins
 have a4:=he.lt
 show K.getD (e+1-p+q) 0≤t∧t≤K.getD (e+1-p+r) 0∧K.getD (e+1-p+q) 0<K.getD (e+1-p+r) 0
 refine ⟨?_,?_,?_⟩<;>grind
theorem Xa (he:PD K p t e):t≤K.getD (e+1) 0:=by
 rcases he.ends with h|⟨_,h⟩
 ·exact Rat.le_of_lt h
 ·exact h
theorem Qi {q:Nat} : ∀ {m:Nat},smR K q m=gvS (fun x=>K.getD (q+1+x) 0) 0 m
 | 0=>rfl
 | m+1=>by
   show smR K q m+K.getD (q+(m+1)) 0=gvS _ 0 m+K.getD (q+1+(0+m)) 0
   rw [Qi (m:=m),show q+(m+1)=q+1+(0+m) by omega]
theorem Kq {n n':Nat→Rat} {a b:Nat} (h: ∀x,n (a+x)=n' (b+x)): ∀ {m:Nat},gvS n a m=gvS n' b m
 | 0=>rfl
 | m+1=>by
   show gvS n a m+n (a+m)=gvS n' b m+n' (b+m)
   rw [Kq h (m:=m),h m]
theorem TQ (hp:1≤p) (hk:Kns K p t0 u mid) (he:p≤e) (he2:e+p+1<K.length) (hlt:K.getD e 0<K.getD (e+1) 0):Ep K p e (FJ K p) (Yj p t)=t:=by
 unfold Ep
 have h2:dbW (kn K p e) p (nth (Yj p t)) (fun x=>(FJ K p).getD (e-p+x) 0) p 0=dbW (kn K p e) p (fun _=>t) (fun x=>(FJ K p).getD (e-p+x) 0) p 0:=DB (fun q hq=>by
  show (Yj p t).getD q 0=t
  rw [List.getD_eq_getElem?_getD,List.getElem?_replicate,if_pos hq]
  rfl) fun _ _ _=>rfl
 rw [h2,JE (v:=((1:Int):Rat)/((p:Int):Rat)) (hk.hd he he2 hlt) (fun x hx=>?_) (by omega)]
 ·rw [Nat.sub_self]
  show (0+(p:Rat)*t)*(((1:Int):Rat)/((p:Int):Rat))=t
  have hp0:((p:Int):Rat)≠0:=by exact_mod_cast (show (p:Int)≠0 by omega)
  have e1:((p:Nat):Rat)=((p:Int):Rat):=by rw [Rat.intCast_natCast]
  have e2:((1:Int):Rat)=1:=rfl
  rw [e1,e2,Rat.div_def]
  have h3:((p:Int):Rat)*(((p:Int):Rat))⁻¹=1:=Rat.mul_inv_cancel _ hp0
  generalize ((p:Int):Rat)=y at*
  generalize y⁻¹=z at*
  grind
 ·unfold FJ
  rw [List.getD_eq_getElem?_getD,List.getElem?_map,List.getElem?_range (by omega)]
  show smR K (e-p+x) p*_=_
  rw [Qi,Kq (n':=kn K p e) (b:=x)]
  intro y
  show K.getD (e-p+x+1+(0+y)) 0=K.getD (e+1-p+(x+y)) 0
  rw [show e-p+x+1+(0+y)=e+1-p+(x+y) by omega]
theorem WE {i:Int} (hk:Kns K p t0 u mid) (h:t0≤u):t0≤R7 K i∧R7 K i≤u:=by
 unfold R7
 rw [hk.fst,hk.lst]
 obtain ⟨h1,h2⟩:=M9 i
 generalize Eh i=r at*
 have a:0≤r*(u-t0):=Rat.mul_nonneg h1 (by grind)
 have b:0≤(1-r)*(u-t0):=Rat.mul_nonneg h2 (by grind)
 constructor<;>grind
end
theorem light' {l:List Int} {b:Bool} (h:decide ((l.length:Int)≤500)=b):Ctr Tryz.prog Amb 10 [.one (.ints l)] (.one (.v (.bool b))):=h▸Qq l
theorem same_e {j k:Nat} {x y:Rat} (h:x=y):Ctr Tryz.prog Amb 34 [nm j x,nm k y] (.one (.v (.bool true))):=by
 have:=Lt (j:=j) (k:=k) (x:=x) (y:=y)
 rwa [decide_eq_true h] at this
theorem law {l:List Int} {i:Int} (hb: ∀x∈l,-9223372036854775808≤x∧x<9223372036854775808) (hi1: -9223372036854775808≤i) (hi2:i<9223372036854775808):
  Ctr Tryz.prog Amb 8 [.one (.ints l),.one (.v (.int .i64 i))] (.one (.v (.bool true))):=by
 have hA9:=UI
 by_cases hL:(l.length:Int)≤500
 ·have D1:=light' (decide_eq_true hL)
  have hl:l.length≤1000000:=by omega
  have M1:=Qp hb hl
  have hp:=II l
  obtain ⟨k1,k2⟩:=Jk l
  obtain ⟨t0,u,mid,hk⟩:=Nl l
  generalize RD l=C at*
  generalize JY l=K at*
  generalize EJ l=p at*
  have h0u:t0≤u:=by
   have:=hk.mono (i:=0) (j:=K.length-1) (by omega) (by omega)
   rwa [hk.first (Nat.zero_le p),show K.getD (K.length-1) 0=u from hk.lst] at this
  obtain ⟨w1,w2⟩:=WE (i:=i) hk h0u
  have W1:=KF (j1:=45) (j2:=45) (a:=JZ K) (b:=Ft K) hi1 hi2 (by decide) (by decide)
  have W1':Ctr Tryz.prog Amb 32 [.agg [.q (JZ K) 45 0,.q (JZ K) 45 1,.q (JZ K) 45 2,.q (Ft K) 45 0,.q (Ft K) 45 1,.q (Ft K) 45 2],.one (.v (.int .i64 i))] (nm 145 (R7 K i)):=W1
  have hx:=T6 (l:=K) (by omega)
  have hy:=TD (l:=K) (by omega)
  have s1:=Cj (k:= .i64) (show (IntKind.i64).wrap ((K.length:Int)-1)=((K.length-1:Nat):Int) by rw [show ((K.length:Int)-1)=((K.length-1:Nat):Int) by omega];exact IntWalk.i64_in _ (by omega))
  clear W1
  generalize R7 K i=t at*
  generalize JZ K=xf at*
  generalize Ft K=xl at*
  obtain ⟨e,he,hI⟩:=hk.ivR_in w1 w2
  have hd:=hk.hd he.low he.high he.lt
  have hne:=Xq hk he (Xa he)
  have hJ:gvt (45+1) (145+1) p≤1000000:=Nat.le_trans (TM (show p≤4 by omega)) (by decide)
  have V1:=J5 (j:=45) (jt:=145) (p:=p) (i:=e) (l:=K) (t:=t) (by omega) (by omega) hJ (by omega) (by omega) he.low he.high he.lt hI hd
  have hJ2:gwt (45+1) (145+1) (p*(45+3)+4+1) p≤1000000:=Nat.le_trans (G3 (Yi _) (Yi _) (show p*(45+3)+4+1≤200 by omega) p) (Nat.le_trans (Gx (show p≤4 by omega)) (by decide))
  have hgl:(FJ K p).length=K.length-p-1:=by unfold FJ;rw [List.length_map,List.length_range]
  have G1:=Mr (j:=45) (p:=p) (l:=K) (by decide) (by omega) (by omega) (by omega)
  have S1:=SP (j:=45) (jt:=145) (jc:=p*(45+3)+4) (p:=p) (i:=e) (l:=K) (c:=FJ K p) (t:=t) (by omega) (by omega) hJ2 (by omega) (by omega) he.low he.high he.lt hI hgl hd
  rw [TQ hp.1 hk he.low he.high he.lt] at S1
  have hpos: ∀q,0≤dbV (kn K p e) p t p q:=fun q=>IL hne (Yi p)
  have hsum:smW (fun q=>dbV (kn K p e) p t p q) (p+1)=1:=VV (Nat.zero_le p)
  generalize gvt (45+1) (145+1) p=Gv at*
  generalize gwt (45+1) (145+1) (p*(45+3)+4+1) p=Gw at*
  generalize FJ K p=gr9 at*
  generalize p*(45+3)+4=jg at*
  obtain ⟨v,hv⟩: ∃v:Nat→Rat,v=dbV (kn K p e) p t p:=⟨_,rfl⟩
  rw [←hv] at V1 hpos hsum
  obtain ⟨B,hB⟩: ∃B,B=tab (p+1) v:=⟨_,rfl⟩
  rw [←hB] at V1
  have hBl:B.length=p+1:=by rw [hB];simp
  have n1:=Qw (k:= .i64) (decide_eq_false (show ¬((B.length:Nat):Int)≠((p+1:Nat):Int) by omega))
  have a1:=A5 (k:= .i64) (show (IntKind.i64).wrap (((p:Nat):Int)+1)=((p+1:Nat):Int) from IntWalk.i64_in _ (by omega))
  have I1:=MY (n:=1) rfl
  have Z1:=same_e (j:=2+(p+1)*(Gv+3)) (k:=2) (x:=smW v (p+1)) (y:=((1:Int):Rat)) hsum
  have Z2:=same_e (j:=Gw) (k:=145) (x:=t) (y:=t) rfl
  clear hv hsum hne hd hI he hk hgl w1 w2 h0u hJ2
  refine A0 Tryz.func8 rfl rfl rfl rfl rfl rfl ?_
  intro W0 base D μ0 hA hD
  repeat (first
   | refine Al ?_|refine Ae ?_|refine Ac rfl ?_|refine Ad rfl ?_
   | ((first|refine Am (by kernel_rfl) ?_|refine Av (by kernel_rfl) (by kernel_rfl) (by kernel_rfl) ?_)
      repeat (first
       | refine AW (hl:=?_)
       | refine Ap (hl:=?_)
       | refine Af (hl:=?_)
       | refine AG (hl:=?_)
       | refine An (hl:=?_)
       | refine Ar (hl:=?_)
       | refine AX (hl:=?_)
       | refine AY (hl:=?_)
       | refine At (hl:=?_)
       | refine AL (hl:=?_)
       | refine Ah (hl:=?_)
       | refine Cu (hl:=?_)
       | refine AJ (hl:=?_)
       | refine AK (hl:=?_)
       | refine AF (hl:=?_)
       | refine AN (hl:=?_)
       | refine AM (hl:=?_)
       | refine AO (hl:=?_)
       | refine AE (hl:=?_)
       | refine Au (hl:=?_)
       | refine Ao hA (hc:=D1) (hl:=?_)
       | refine Ao hA (hc:=M1) (hl:=?_)
       | refine Ao hA (hc:=W1') (hl:=?_)
       | refine Ao hA (hc:=V1) (hl:=?_)
       | refine CT (i:=0) hx (by omega) (hl:=?_)
       | refine CT hy (by omega) (hl:=?_))
      apply Ab.nil;try refine And.intro (by kernel_rfl) ?_)
   | refine Ai ?_|refine Aj ?_)
  refine CE (fun m σ=> ∃q:Nat,m=p+1-q∧q≤p+1∧Wk ⟨W0,base,D,98,[],μ0⟩ σ [(5,.one (AS 45 K)),(6,Ak (p:Nat)),(8,.one (.ptr 8 0)),(10,.one (AS Gv B)),(12,.one (.ptr 12 0)),(13,Ak (q:Nat))] [(8,nmC 145 t),(12,nmC (2+q*(Gv+3)) (smW v q))]) (n:=p+1) ⟨0,by omega,by omega,?_⟩ ?_
  ·exact BI
  clear D1 M1 s1 W1' V1 n1 a1
  intro m σ hI
  obtain ⟨q,hm,hq0,hw⟩:=hI
  refine Ch hw ?_
  clear hw
  by_cases hq:q<p+1
  ·have bi:=Cc (k:= .i64) (decide_eq_true (show ((q:Nat):Int)<((B.length:Nat):Int) by omega))
   have hin:=A5 (k:= .i64) (show (IntKind.i64).wrap ((q:Int)+1)=((q+1:Nat):Int) from IntWalk.i64_in _ (by omega))
   obtain ⟨x,hxx,hxx'⟩:=Cr (l:=B) (i:=q) (by omega)
   have ex:v q=x:=by
    have:=IE (g:=v) hq
    rw [←hB,hxx'] at this
    exact (Option.some.inj this).symm
   have hx0:0≤x:=by rw [←ex];exact hpos q
   have N1:=WZ (j:=Gv) (x:=x)
   have bs:=Cc (k:= .i64) (decide_eq_false (show ¬CV x<0 by
    unfold CV
    have h:0≤x.num:=Rat.num_nonneg.2 hx0
    split
    ·omega
    ·split<;>omega))
   have hm1:q*(Gv+3)≤5*(Gv+3):=Nat.mul_le_mul_right _ (by omega)
   have A1:=I8 (j:=2+q*(Gv+3)) (k:=Gv) (x:=smW v q) (y:=x) (by omega) (by omega)
   have ef:smW v q+x=smW v (q+1):=by rw [←ex];rfl
   have ez:2+q*(Gv+3)+Gv+3=2+(q+1)*(Gv+3):=by rw [Nat.succ_mul];omega
   rw [ef,ez] at A1
   generalize smW v (q+1)=y1 at*
   generalize smW v q=y0 at*
   generalize 2+(q+1)*(Gv+3)=z1 at*
   generalize 2+q*(Gv+3)=z0 at*
   clear hxx' hm1
   repeat (first
    | refine Al ?_|refine Ae ?_|refine Ac rfl ?_|refine Ad rfl ?_
    | ((first|refine Am (by kernel_rfl) ?_|refine Av (by kernel_rfl) (by kernel_rfl) (by kernel_rfl) ?_)
       repeat (first
        | refine AW (hl:=?_)
        | refine Ap (hl:=?_)
        | refine Af (hl:=?_)
        | refine AG (hl:=?_)
        | refine An (hl:=?_)
        | refine Ar (hl:=?_)
        | refine AX (hl:=?_)
        | refine AY (hl:=?_)
        | refine At (hl:=?_)
        | refine AL (hl:=?_)
        | refine Ah (hl:=?_)
        | refine Cu (hl:=?_)
        | refine AJ (hl:=?_)
        | refine AK (hl:=?_)
        | refine AF (hl:=?_)
        | refine AN (hl:=?_)
        | refine AM (hl:=?_)
        | refine AO (hl:=?_)
        | refine AE (hl:=?_)
        | refine Au (hl:=?_)
        | refine Ao hA (hc:=N1) (hl:=?_)
        | refine Ao hA (hc:=A1) (hl:=?_)
        | refine CT hxx (by omega) (hl:=?_))
       apply Ab.nil;try refine And.intro (by kernel_rfl) ?_)
    | refine Ai ?_|refine Aj ?_)
   refine ⟨m-1,by omega,q+1,by omega,by omega,?_⟩
   refine Es ?_ ?_ (by kernel_rfl)
   ·repeat (first|exact AU|refine List.forall_mem_cons.2 ⟨Ent.of_eq (by kernel_rfl),?_⟩)
   ·repeat (first|exact AU|refine List.forall_mem_cons.2 ⟨DG (by kernel_rfl) (EntL.of_eq (by kernel_rfl)) (by kernel_rfl),?_⟩)
  ·have bi:=Cc (k:= .i64) (decide_eq_false (show ¬((q:Nat):Int)<((B.length:Nat):Int) by omega))
   obtain rfl:q=p+1:=by omega
   repeat (first
    | refine Al ?_|refine Ae ?_|refine Ac rfl ?_|refine Ad rfl ?_
    | ((first|refine Am (by kernel_rfl) ?_|refine Av (by kernel_rfl) (by kernel_rfl) (by kernel_rfl) ?_)
       repeat (first
        | refine AW (hl:=?_)
        | refine Ap (hl:=?_)
        | refine Af (hl:=?_)
        | refine AG (hl:=?_)
        | refine An (hl:=?_)
        | refine Ar (hl:=?_)
        | refine AX (hl:=?_)
        | refine AY (hl:=?_)
        | refine At (hl:=?_)
        | refine AL (hl:=?_)
        | refine Ah (hl:=?_)
        | refine Cu (hl:=?_)
        | refine AJ (hl:=?_)
        | refine AK (hl:=?_)
        | refine AF (hl:=?_)
        | refine AN (hl:=?_)
        | refine AM (hl:=?_)
        | refine AO (hl:=?_)
        | refine AE (hl:=?_)
        | refine Au (hl:=?_)
        | refine Ao hA (hc:=G1) (hl:=?_)
        | refine Ao hA (hc:=S1) (hl:=?_))
       apply Ab.nil;try refine And.intro (by kernel_rfl) ?_)
    | refine Ai ?_|refine Aj ?_)
   refine Ch (ss:= [(8,.one (.ptr 8 0)),(12,.one (.ptr 12 0)),(14,.one (.ptr 14 0)),(15,Ak 0)]) (bs:= [(8,nmC 145 t),(12,nmC (2+(p+1)*(Gv+3)) (smW v (p+1))),(14,nmC Gw t)]) ?_ ?_
   ·exact BI
   repeat (first
    | refine Al ?_|refine Ae ?_|refine Ac rfl ?_|refine Ad rfl ?_
    | ((first|refine Am (by kernel_rfl) ?_|refine Av (by kernel_rfl) (by kernel_rfl) (by kernel_rfl) ?_)
       repeat (first
        | refine AW (hl:=?_)
        | refine Ap (hl:=?_)
        | refine Af (hl:=?_)
        | refine AG (hl:=?_)
        | refine An (hl:=?_)
        | refine Ar (hl:=?_)
        | refine AX (hl:=?_)
        | refine AY (hl:=?_)
        | refine At (hl:=?_)
        | refine AL (hl:=?_)
        | refine Ah (hl:=?_)
        | refine Cu (hl:=?_)
        | refine AJ (hl:=?_)
        | refine AK (hl:=?_)
        | refine AF (hl:=?_)
        | refine AN (hl:=?_)
        | refine AM (hl:=?_)
        | refine AO (hl:=?_)
        | refine AE (hl:=?_)
        | refine Au (hl:=?_)
        | refine Ao hA (hc:=I1) (hl:=?_)
        | refine Ao hA (hc:=Z1) (hl:=?_)
        | refine Ao hA (hc:=Z2) (hl:=?_)
        | refine Ao hA (hc:=hA9) (hl:=?_))
       apply Ab.nil;try refine And.intro (by kernel_rfl) ?_)
    | refine Ai ?_|refine Aj ?_)
   refine BH (And.intro (Or.inr rfl) ?_)
   exact C8
 ·have D1:=light' (decide_eq_false hL)
  refine A0 Tryz.func8 rfl rfl rfl rfl rfl rfl ?_
  intro W0 base D μ0 hA hD
  repeat (first
   | refine Al ?_|refine Ae ?_|refine Ac rfl ?_|refine Ad rfl ?_|refine N0 6 ?_
   | ((first|refine Am (by kernel_rfl) ?_|refine Av (by kernel_rfl) (by kernel_rfl) (by kernel_rfl) ?_)
      repeat (first
       | refine AW (hl:=?_)
       | refine Ap (hl:=?_)
       | refine Af (hl:=?_)
       | refine AG (hl:=?_)
       | refine An (hl:=?_)
       | refine Ar (hl:=?_)
       | refine AX (hl:=?_)
       | refine AY (hl:=?_)
       | refine At (hl:=?_)
       | refine Si (hl:=?_)
       | refine CO 0 (hl:=?_)
       | refine CO 3 (hl:=?_)
       | refine CO 6 (hl:=?_)
       | refine Ah (hl:=?_)
       | refine Cu (hl:=?_)
       | refine AJ (hl:=?_)
       | refine AK (hl:=?_)
       | refine AF (hl:=?_)
       | refine AN (hl:=?_)
       | refine AM (hl:=?_)
       | refine AO (hl:=?_)
       | refine AE (hl:=?_)
       | refine Au (hl:=?_)
       | refine FP 1000 (hl:=?_)
       | refine FP 2000 (hl:=?_)
       | refine Ao hA (hc:=D1) (hl:=?_)
       | refine Ao hA (hc:=hA9) (hl:=?_))
      apply Ab.nil;try refine And.intro (by kernel_rfl) ?_)
   | refine Ai ?_|refine Aj ?_)
  refine BH (And.intro (Or.inr rfl) ?_)
  exact C8
end bunity
end Go.Proofs.YtkmalkcgkcpcmaaGreatDoor
