/-
  Several texts in one: Zce, Zcf, Zcg.
-/
import Derived.Test.YtkmalkcgkcpcmaaGreatDoorIe
namespace Go.Proofs.YtkmalkcgkcpcmaaGreatDoor
open List renaming getElem?_eq_getElem→Yi
open Go.RowKit
set_option linter.unusedVariables false
set_option linter.unusedSimpArgs false
set_option maxRecDepth 20000
set_option maxHeartbeats 1000000
theorem XD {j k:Nat} {x y:Rat} (hj:j≤100000000) (hk:k≤100000000) (h0:y≠0):Ctr Tryz.prog Amb 147 [nm j x,nm k y] (.tup [nm (j+k+2) (x/y),.one (.v (.int .i64 0))]):=
 JS fun W0 μ sz w u v ht hu hv=>by
  obtain ⟨h1,h2⟩:=F3 hu
  obtain ⟨h3,h4⟩:=F3 hv
  refine (Je h1 h3 h2 h4 (by omega) (by omega) h0).mono ?_
  rintro e w' ⟨r,rfl,k2,k3⟩
  refine ⟨_,rfl,k3,[r,.int .i64 0],rfl,rfl,fun i a b ha hb=>?_⟩
  match i with
  | 0=>simp at ha hb;subst ha;subst hb;exact Ku k2 ((LA h2 h4 h0).mono (by omega))
  | 1=>simp at ha hb;subst ha;subst hb;rfl
  | i+2=>simp at ha
theorem WW {j k:Nat} {x:Rat} :Ctr Tryz.prog Amb 147 [nm j x,nm k 0] (.tup [nm 2 0,.one (.v (.int .i64 3))]):=
 JS fun W0 μ sz w u v ht hu hv=>by
  obtain ⟨h1,h2⟩:=F3 hu
  obtain ⟨h3,h4⟩:=F3 hv
  refine (OF h1 h3 rfl).mono ?_
  rintro e w' ⟨rfl,k3⟩
  refine ⟨_,rfl,k3,[.agg #[.bool false,.slice none 0 0,.slice none 0 0],.int .i64 3],rfl,rfl,fun i a b ha hb=>?_⟩
  match i with
  | 0=>simp at ha hb;subst ha;subst hb;exact Ku (AA.zero _) (Gz (by omega)).1
  | 1=>simp at ha hb;subst ha;subst hb;rfl
  | i+2=>simp at ha
theorem PV {j k:Nat} {x y:Rat} (hj:j≤100000000) (hk:k≤100000000):Ctr Tryz.prog Amb 116 [nm j x,nm k y] (nm (j+k+2) (x/y)):=by
 by_cases h0:y=0
 ·subst h0
  have Q1:=WW (j:=j) (k:=k) (x:=x)
  have e:x/0=0:=by rw [Rat.div_def,Rat.inv_zero,Rat.mul_zero]
  rw [e]
  refine As Tryz.func116 rfl rfl rfl rfl rfl rfl ?_
  intro W0 base D μ0 hA hD
  repeat (first|refine Ah ?_|refine Ad ?_|refine Ab rfl ?_|refine Ac rfl ?_|refine AT ?_|refine AU ?_|refine Ae ?_|refine Af ?_)
  refine AG (And.intro (Or.inr rfl) ?_)
  exact B7
 ·have Q1:=XD (j:=j) (k:=k) (x:=x) (y:=y) hj hk h0
  refine As Tryz.func116 rfl rfl rfl rfl rfl rfl ?_
  intro W0 base D μ0 hA hD
  repeat (first|refine Ah ?_|refine Ad ?_|refine Ab rfl ?_|refine Ac rfl ?_|refine AT ?_|refine AU ?_|refine Ae ?_|refine Af ?_)
  refine AG (And.intro (Or.inr rfl) ?_)
  exact B7
def gft (j jt:Nat):Nat→Nat
 | 0=>2
 | d+1=>(jt+j+3+(j+j+3)+2+gft j jt d+2)+(j+jt+3+(j+j+3)+2+gft j jt d+2)+3
theorem TT {j jt d:Nat} :gft j jt d≤gft j jt (d+1):=by show _≤(jt+j+3+(j+j+3)+2+gft j jt d+2)+_+3;omega
theorem FK {j jt q:Nat} {l:List Rat} {t:Rat} (hj:j≤1000000) (hjt:jt≤1000000) (hl:l.length≤1000000) (hq:q≤1000000): ∀ {d i:Nat},i+d+1<l.length→gft j jt d≤10000000→
  Ctr Tryz.prog Amb 87 [.one (Ax j l),Aj (i:Nat),Aj (d:Nat),Aj (q:Nat),nm jt t] (nm (gft j jt d) (fnR (nth l) q t d i))
 | 0,i,hi,_=>by
   have b0:=CJ (k:= .i64) (decide_eq_true (show ((0:Nat):Int)=0 from rfl))
   have I1:=Na (n:=1) rfl
   unfold fnR
   by_cases h:i=q
   ·have b1:=CJ (k:= .i64) (decide_eq_true (show ((i:Nat):Int)=((q:Nat):Int) by omega))
    rw [if_pos h]
    refine As Tryz.func87 rfl rfl rfl rfl rfl rfl ?_
    intro W0 base D μ0 hA hD
    repeat (first|refine Ah ?_|refine Ad ?_|refine Ab rfl ?_|refine Ac rfl ?_|refine AT ?_|refine AU ?_|refine Ae ?_|refine Af ?_)
    refine AG (And.intro (Or.inr rfl) ?_)
    exact B7
   ·have b1:=CJ (k:= .i64) (decide_eq_false (show ¬((i:Nat):Int)=((q:Nat):Int) by omega))
    rw [if_neg h]
    refine As Tryz.func87 rfl rfl rfl rfl rfl rfl ?_
    intro W0 base D μ0 hA hD
    repeat (first|refine Ah ?_|refine Ad ?_|refine Ab rfl ?_|refine Ac rfl ?_|refine AT ?_|refine AU ?_|refine Ae ?_|refine Af ?_)
    refine AG (And.intro (Or.inr rfl) ?_)
    exact B7
 | d+1,i,hi,hz=>by
   have hzd:gft j jt d≤10000000:=Nat.le_trans TT hz
   have b0:=CJ (k:= .i64) (decide_eq_false (show ¬((d+1:Nat):Int)=0 by omega))
   unfold fnR
   by_cases h1:q<i
   ·have b1:=BO (k:= .i64) (decide_eq_true (show ((q:Nat):Int)<((i:Nat):Int) by omega))
    rw [if_pos (.inl h1)]
    refine As Tryz.func87 rfl rfl rfl rfl rfl rfl ?_
    intro W0 base D μ0 hA hD
    repeat (first
     | refine Ah ?_|refine Ad ?_|refine Ab rfl ?_|refine Ac rfl ?_
     | ((first|refine Al (by kernel_rfl) ?_|refine Aq (by kernel_rfl) (by kernel_rfl) (by kernel_rfl) ?_)
        repeat (first
         | refine A8 (hl:=?_)
         | refine An (hl:=?_)
         | refine Az (hl:=?_)
         | refine Ao (hl:=?_)
         | refine Da (hl:=?_)
         | refine At (hl:=?_)
         | refine A0 (hl:=?_)
         | refine A5 (hl:=?_)
         | refine AC (hl:=?_)
         | refine Ak (hl:=?_)
         | refine AM (hl:=?_)
         | refine AN (hl:=?_)
         | refine AL (hl:=?_)
         | refine Ar (hl:=?_)
         | (apply FI;(case hg=>exact rfl)))
        apply Ag.nil;try refine And.intro (by kernel_rfl) ?_)
     | refine Ae ?_|refine Af ?_)
    refine AG (And.intro (Or.inr rfl) ?_)
    exact B7
   have b1:=BO (k:= .i64) (decide_eq_false (show ¬((q:Nat):Int)<((i:Nat):Int) by omega))
   have a1:=AZ (k:= .i64) (show (IntKind.i64).wrap (((i:Nat):Int)+((d+1:Nat):Int))=((i+(d+1):Nat):Int) by rw [show ((i:Nat):Int)+((d+1:Nat):Int)=((i+(d+1):Nat):Int) by omega];exact IntWalk.i64_in _ (by omega))
   by_cases h2:i+(d+1)<q
   ·have b2:=D4 (k:= .i64) (decide_eq_true (show ((q:Nat):Int)>((i+(d+1):Nat):Int) by omega))
    rw [if_pos (.inr h2)]
    refine As Tryz.func87 rfl rfl rfl rfl rfl rfl ?_
    intro W0 base D μ0 hA hD
    repeat (first|refine Ah ?_|refine Ad ?_|refine Ab rfl ?_|refine Ac rfl ?_|refine AT ?_|refine AU ?_|refine Ae ?_|refine Af ?_)
    refine AG (And.intro (Or.inr rfl) ?_)
    exact B7
   have b2:=D4 (k:= .i64) (decide_eq_false (show ¬((q:Nat):Int)>((i+(d+1):Nat):Int) by omega))
   rw [if_neg (by omega)]
   have a2:=AZ (k:= .i64) (show (IntKind.i64).wrap (((i+(d+1):Nat):Int)+1)=((i+(d+1)+1:Nat):Int) from IntWalk.i64_in _ (by omega))
   have a3:=AZ (k:= .i64) (show (IntKind.i64).wrap (((i:Nat):Int)+1)=((i+1:Nat):Int) from IntWalk.i64_in _ (by omega))
   have s1:=BB (k:= .i64) (show (IntKind.i64).wrap (((d+1:Nat):Int)-1)=((d:Nat):Int) by rw [show ((d+1:Nat):Int)-1=((d:Nat):Int) by omega];exact IntWalk.i64_in _ (by omega))
   obtain ⟨x,hx,hx'⟩:=BC (l:=l) (i:=i) (by omega)
   obtain ⟨y,hy,hy'⟩:=BC (l:=l) (i:=i+(d+1)) (by omega)
   obtain ⟨z,hz',hz2⟩:=BC (l:=l) (i:=i+(d+1)+1) (by omega)
   obtain ⟨v,hv,hv'⟩:=BC (l:=l) (i:=i+1) (by omega)
   have e1:nth l i=x:=AS hx'
   have e2:nth l (i+(d+1))=y:=AS hy'
   have e3:nth l (i+(d+1)+1)=z:=AS hz2
   have e4:nth l (i+1)=v:=AS hv'
   rw [e1,e2,e3,e4]
   have F1:=FK (j:=j) (jt:=jt) (q:=q) (l:=l) (t:=t) hj hjt hl hq (d:=d) (i:=i) (by omega) hzd
   have F2:=FK (j:=j) (jt:=jt) (q:=q) (l:=l) (t:=t) hj hjt hl hq (d:=d) (i:=i+1) (by omega) hzd
   unfold gft
   generalize fnR (nth l) q t d i=f at*
   generalize fnR (nth l) q t d (i+1)=g at*
   generalize gft j jt d=G at*
   have S1:=Ir (j:=jt) (k:=j) (x:=t) (y:=x) (by omega) (by omega)
   have S2:=Ir (j:=j) (k:=j) (x:=y) (y:=x) (by omega) (by omega)
   have S3:=Ir (j:=j) (k:=jt) (x:=z) (y:=t) (by omega) (by omega)
   have S4:=Ir (j:=j) (k:=j) (x:=z) (y:=v) (by omega) (by omega)
   have P1:=PV (j:=jt+j+3) (k:=j+j+3) (x:=t-x) (y:=y-x) (by omega) (by omega)
   have P2:=PV (j:=j+jt+3) (k:=j+j+3) (x:=z-t) (y:=z-v) (by omega) (by omega)
   have M1:=M9 (j:=jt+j+3+(j+j+3)+2) (k:=G) (x:=(t-x)/(y-x)) (y:=f) (by omega) (by omega)
   have M2:=M9 (j:=j+jt+3+(j+j+3)+2) (k:=G) (x:=(z-t)/(z-v)) (y:=g) (by omega) (by omega)
   have A1:=Is (j:=jt+j+3+(j+j+3)+2+G+2) (k:=j+jt+3+(j+j+3)+2+G+2) (x:=(t-x)/(y-x)*f) (y:=(z-t)/(z-v)*g) (by omega) (by omega)
   generalize (t-x)/(y-x)*f=m1 at*
   generalize (z-t)/(z-v)*g=m2 at*
   generalize (t-x)/(y-x)=d1 at*
   generalize (z-t)/(z-v)=d2 at*
   generalize m1+m2=r at*
   clear e1 e2 e3 e4 hx' hy' hz2 hv'
   refine As Tryz.func87 rfl rfl rfl rfl rfl rfl ?_
   intro W0 base D μ0 hA hD
   repeat (first|refine Ah ?_|refine Ad ?_|refine Ab rfl ?_|refine Ac rfl ?_|refine AT ?_|refine AU ?_|refine Ae ?_|refine Af ?_)
   refine AG (And.intro (Or.inr rfl) ?_)
   exact B7
theorem Mv {j jt p e:Nat} {l:List Rat} {t:Rat} (hj:j≤1000000) (hjt:jt≤1000000) (hl:l.length≤1000000) (hp:1≤p) (h0: ¬t<l.getD 0 0) (h1: ¬l.getD (l.length-1) 0<t) (he:p≤e) (he2:e+p+1<l.length) (hb: ¬t<l.getD e 0) (hi: ∀i,e<i→i+p+1<l.length→t<l.getD i 0):
  Ctr Tryz.prog Amb 21 [.one (Ax j l),Aj (p:Nat),nm jt t] (.tup [Aj (e:Nat),Aj 0]):=by
 have s1:=BB (k:= .i64) (show (IntKind.i64).wrap ((l.length:Int)-1)=((l.length-1:Nat):Int) by rw [show ((l.length:Int)-1)=((l.length-1:Nat):Int) by omega];exact IntWalk.i64_in _ (by omega))
 have s2:=BB (k:= .i64) (show (IntKind.i64).wrap (((l.length-1:Nat):Int)-((p:Nat):Int))=((l.length-1-p:Nat):Int) by rw [show ((l.length-1:Nat):Int)-((p:Nat):Int)=((l.length-1-p:Nat):Int) by omega];exact IntWalk.i64_in _ (by omega))
 have s3:=BB (k:= .i64) (show (IntKind.i64).wrap (((l.length-1-p:Nat):Int)-1)=((l.length-2-p:Nat):Int) by rw [show ((l.length-1-p:Nat):Int)-1=((l.length-2-p:Nat):Int) by omega];exact IntWalk.i64_in _ (by omega))
 obtain ⟨x,hx,hx'⟩:=BC (l:=l) (i:=0) (by omega)
 obtain ⟨y,hy,hy'⟩:=BC (l:=l) (i:=l.length-1) (by omega)
 rw [AS hx'] at h0
 rw [AS hy'] at h1
 have C1:=Nb (j:=jt) (k:=j) (x:=t) (y:=x) (by omega) (by omega)
 have C2:=Nb (j:=jt) (k:=j) (x:=t) (y:=y) (by omega) (by omega)
 have b1:=BO (k:= .i64) (decide_eq_false (show ¬C4 t x<0 from Int.not_lt.2 (Fy.2 h0)))
 have b2:=D4 (k:= .i64) (decide_eq_false (show ¬C4 t y>0 from fun h=>h1 (L4.1 h)))
 replace hx:l[(0:Int).toNat]?=some x:=hx
 refine As Tryz.func21 rfl rfl rfl rfl rfl rfl ?_
 intro W0 base D μ0 hA hD
 repeat (first|refine Ah ?_|refine Ad ?_|refine Ab rfl ?_|refine Ac rfl ?_|refine AT ?_|refine AU ?_|refine Ae ?_|refine Af ?_)
 refine Cq (fun m σ=> ∃i:Nat,m=i∧e≤i∧i+p+1<l.length∧Wk ⟨W0,base,D,46,[],μ0⟩ σ [(0,.one (Ax j l)),(5,.one (.ptr 5 0)),(9,Aj (i:Nat))] [(5,nmC jt t)]) (n:=l.length-2-p) ⟨l.length-2-p,rfl,by omega,by omega,?_⟩ ?_
 ·exact BH
 clear s1 s2 s3 b1 b2 hx hy C1 C2
 intro m σ hI
 obtain ⟨i,hm,hi1,hi2,hw⟩:=hI
 refine BW hw ?_
 clear hw
 have g0:=D4 (k:= .i64) (decide_eq_true (show ((i:Nat):Int)>0 by omega))
 obtain ⟨z,hz,hz'⟩:=BC (l:=l) (i:=i) (by omega)
 have C1:=Nb (j:=jt) (k:=j) (x:=t) (y:=z) (by omega) (by omega)
 by_cases h:i=e
 ·subst h
  rw [AS hz'] at hb
  have b1:=BO (k:= .i64) (decide_eq_false (show ¬C4 t z<0 from Int.not_lt.2 (Fy.2 hb)))
  repeat (first|refine Ah ?_|refine Ad ?_|refine Ab rfl ?_|refine Ac rfl ?_|refine AT ?_|refine AU ?_|refine Ae ?_|refine Af ?_)
  refine AG (And.intro (Or.inr rfl) ?_)
  exact CW
 ·have ht:=hi i (by omega) hi2
  rw [AS hz'] at ht
  have b1:=BO (k:= .i64) (decide_eq_true (show C4 t z<0 from Int.not_le.1 fun h=>Fy.1 h ht))
  have s4:=BB (k:= .i64) (show (IntKind.i64).wrap (((i:Nat):Int)-1)=((i-1:Nat):Int) by rw [show ((i:Nat):Int)-1=((i-1:Nat):Int) by omega];exact IntWalk.i64_in _ (by omega))
  repeat (first|refine Ah ?_|refine Ad ?_|refine Ab rfl ?_|refine Ac rfl ?_|refine AT ?_|refine AU ?_|refine Ae ?_|refine Af ?_)
  refine ⟨m-1,by omega,i-1,by omega,by omega,by omega,?_⟩
  exact BH
theorem Ll {j jt:Nat} {p:Int} {l:List Rat} {t:Rat} (hj:j≤1000000) (hjt:jt≤1000000) (hl:l.length≤1000000) (hne:0<l.length) (h:t<l.getD 0 0∨l.getD (l.length-1) 0<t):
  Ctr Tryz.prog Amb 21 [.one (Ax j l),Aj p,nm jt t] (.tup [Aj 0,Aj 7]):=by
 have s1:=BB (k:= .i64) (show (IntKind.i64).wrap ((l.length:Int)-1)=((l.length-1:Nat):Int) by rw [show ((l.length:Int)-1)=((l.length-1:Nat):Int) by omega];exact IntWalk.i64_in _ (by omega))
 obtain ⟨x,hx,hx'⟩:=BC (l:=l) (i:=0) (by omega)
 obtain ⟨y,hy,hy'⟩:=BC (l:=l) (i:=l.length-1) (by omega)
 rw [AS hx',AS hy'] at h
 have C1:=Nb (j:=jt) (k:=j) (x:=t) (y:=x) (by omega) (by omega)
 replace hx:l[(0:Int).toNat]?=some x:=hx
 by_cases h0:t<x
 ·have b1:=BO (k:= .i64) (decide_eq_true (show C4 t x<0 from Int.not_le.1 fun h=>Fy.1 h h0))
  refine As Tryz.func21 rfl rfl rfl rfl rfl rfl ?_
  intro W0 base D μ0 hA hD
  repeat (first
   | refine Ah ?_|refine Ad ?_|refine Ab rfl ?_|refine Ac rfl ?_
   | ((first|refine Al (by kernel_rfl) ?_|refine Aq (by kernel_rfl) (by kernel_rfl) (by kernel_rfl) ?_)
      repeat (first
       | refine A8 (hl:=?_)
       | refine An (hl:=?_)
       | refine Ai (hl:=?_)
       | refine Az (hl:=?_)
       | refine Da (hl:=?_)
       | refine AC (hl:=?_)
       | refine Ak (hl:=?_)
       | refine AM (hl:=?_)
       | refine AN (hl:=?_)
       | refine AJ (hl:=?_)
       | refine AI (hl:=?_)
       | refine AK (hl:=?_)
       | refine AH (hl:=?_)
       | refine Ar (hl:=?_)
       | refine Ap hA (hc:=C1) (hl:=?_)
       | refine C9 (i:=0) hx (by omega) (hl:=?_)
       | (apply FI;(case hg=>exact rfl)))
      apply Ag.nil;try refine And.intro (by kernel_rfl) ?_)
   | refine Ae ?_|refine Af ?_)
  refine AG (And.intro (Or.inr rfl) ?_)
  exact CW
 ·have h1:y<t:=h.resolve_left h0
  have C2:=Nb (j:=jt) (k:=j) (x:=t) (y:=y) (by omega) (by omega)
  have b1:=BO (k:= .i64) (decide_eq_false (show ¬C4 t x<0 from Int.not_lt.2 (Fy.2 h0)))
  have b2:=D4 (k:= .i64) (decide_eq_true (show C4 t y>0 from L4.2 h1))
  refine As Tryz.func21 rfl rfl rfl rfl rfl rfl ?_
  intro W0 base D μ0 hA hD
  repeat (first|refine Ah ?_|refine Ad ?_|refine Ab rfl ?_|refine Ac rfl ?_|refine AT ?_|refine AU ?_|refine Ae ?_|refine Af ?_)
  refine AG (And.intro (Or.inr rfl) ?_)
  exact CW
def VW (l:List Rat) (p e:Nat) (t:Rat):List Rat:=tab (p+1) fun i=>fnR (nth l) e t p (e-p+i)
theorem Ki {j jt p e:Nat} {l:List Rat} {t:Rat} (hj:j≤1000000) (hjt:jt≤1000000) (hl:l.length≤1000000) (hp:1≤p) (hg:gft j jt p≤10000000) (h0: ¬t<l.getD 0 0) (h1: ¬l.getD (l.length-1) 0<t) (he:p≤e) (he2:e+p+1<l.length) (hb: ¬t<l.getD e 0) (hi: ∀i,e<i→i+p+1<l.length→t<l.getD i 0):
  Ctr Tryz.prog Amb 39 [.one (Ax j l),Aj (p:Nat),nm jt t] (.tup [Aj (e-p:Nat),.one (Ax (gft j jt p) (VW l p e t)),Aj 0]):=by
 have I1:=Mv (j:=j) (jt:=jt) (p:=p) (e:=e) (l:=l) (t:=t) hj hjt hl hp h0 h1 he he2 hb hi
 have n1:=CI (k:= .i64) (decide_eq_false (show ¬(0:Int)≠0 by omega))
 have s1:=BB (k:= .i64) (show (IntKind.i64).wrap (((e:Nat):Int)-((p:Nat):Int))=((e-p:Nat):Int) by rw [show ((e:Nat):Int)-((p:Nat):Int)=((e-p:Nat):Int) by omega];exact IntWalk.i64_in _ (by omega))
 obtain ⟨R,hR⟩: ∃R,R=VW l p e t:=⟨_,rfl⟩
 obtain ⟨g,hgd⟩: ∃g:Nat→Rat,g=fun i=>fnR (nth l) e t p (e-p+i):=⟨_,rfl⟩
 have hR':R=tab (p+1) g:=by rw [hR,hgd];rfl
 have hF: ∀i,i≤p→Ctr Tryz.prog Amb 87 [.one (Ax j l),Aj (e-p+i:Nat),Aj (p:Nat),Aj (e:Nat),nm jt t] (nm (gft j jt p) (g i)):=fun i hi=>by
  rw [hgd]
  exact FK (j:=j) (jt:=jt) (q:=e) (l:=l) (t:=t) hj hjt hl (by omega) (d:=p) (i:=e-p+i) (by omega) hg
 rw [←hR]
 generalize gft j jt p=G at*
 clear hR hgd hi
 refine As Tryz.func39 rfl rfl rfl rfl rfl rfl ?_
 intro W0 base D μ0 hA hD
 repeat (first|refine Ah ?_|refine Ad ?_|refine Ab rfl ?_|refine Ac rfl ?_|refine AT ?_|refine AU ?_|refine Ae ?_|refine Af ?_)
 refine Cq (fun m σ=> ∃(i:Nat) (done:List Rat),m=p+1-i∧i≤p+1∧done=tab i g∧Wk ⟨W0,base,D,44,[],μ0⟩ σ [(0,.one (Ax j l)),(1,Aj (p:Nat)),(5,.one (.ptr 5 0)),(9,Aj (e:Nat)),(11,.one (.gl 900 done.length 3)),(12,Aj (e-p+i:Nat))] [(5,nmC jt t),(900,AE (nmD G) done)]) (n:=p+1) ⟨0,[],by omega,by omega,rfl,?_⟩ ?_
 ·exact BH
 intro m σ hI
 obtain ⟨i,done,hm,hi0,hdone,hw⟩:=hI
 refine BW hw ?_
 clear hw
 have hdl:done.length=i:=by rw [hdone];simp
 by_cases hi:i≤p
 ·have bi:=IC (k:= .i64) (decide_eq_true (show ((e-p+i:Nat):Int)≤((e:Nat):Int) by omega))
  have hin:=AZ (k:= .i64) (show (IntKind.i64).wrap (((e-p+i:Nat):Int)+1)=((e-p+(i+1):Nat):Int) by rw [show (((e-p+i:Nat):Int)+1)=((e-p+(i+1):Nat):Int) by omega];exact IntWalk.i64_in _ (by omega))
  have F1:=hF i hi
  have ht:done++ [g i]=tab (i+1) g:=by rw [hdone];exact FJ
  clear hF I1
  generalize g i=x at*
  repeat (first|refine Ah ?_|refine Ad ?_|refine Ab rfl ?_|refine Ac rfl ?_|refine AT ?_|refine AU ?_|refine Ae ?_|refine Af ?_)
  try refine Ah ?_
  refine Cd 8 (by simp only [List.take_succ_cons,List.take_zero,List.drop_succ_cons,List.drop_zero];exact ⟨rfl,rfl⟩) (by kernel_rfl) ?_
  repeat (first
   | refine An (hl:=?_)
   | refine Ai (hl:=?_)
   | refine Az (hl:=?_)
   | refine Da (hl:=?_)
   | refine AD (hl:=?_)
   | refine AC (hl:=?_)
   | refine AJ (hl:=?_)
   | refine AI (hl:=?_)
   | refine AK (hl:=?_)
   | refine Ar (hl:=?_)
   | refine Au (hl:=?_)
   | refine Ap hA (hc:=F1) (hl:=?_))
  apply Ag.nil
  refine EA (k:=900) (ss:= [(0,.one (Ax j l)),(1,Aj (p:Nat)),(5,.one (.ptr 5 0)),(9,Aj (e:Nat)),(12,Aj (e-p+i:Nat))]) (bs:= [(5,nmC jt t)]) (ns:=(nmC G x)) hD ?_ ?_ ?_
  ·exact ⟨by omega,by omega⟩
  ·exact BH
  repeat (refine Dt rfl ?_;(first|refine Ai (hl:=?_)|refine An (hl:=?_)|refine Ao (hl:=?_));apply Ag.nil)
  refine Du ?_
  repeat (first|refine Ah ?_|refine Ad ?_|refine Ab rfl ?_|refine Ac rfl ?_|refine AT ?_|refine AU ?_|refine Ae ?_|refine Af ?_)
  refine ⟨m-1,by omega,i+1,done++ [x],by omega,by omega,ht,?_⟩
  exact BH
 ·have bi:=IC (k:= .i64) (decide_eq_false (show ¬((e-p+i:Nat):Int)≤((e:Nat):Int) by omega))
  obtain rfl:i=p+1:=by omega
  rw [←hR'] at hdone
  repeat (first|refine Ah ?_|refine Ad ?_|refine Ab rfl ?_|refine Ac rfl ?_|refine AT ?_|refine AU ?_|refine Ae ?_|refine Af ?_)
  refine Dq 900 hD (ss:= [(6,Aj (e-p:Nat)),(7,.one (Ax G done)),(8,Aj 0)]) (bs:= [(5,nmC jt t)]) ?_ ?_
  ·exact NM
  subst hdone
  refine AG (And.intro (Or.inr rfl) ?_)
  exact DU
theorem I4 {j jt:Nat} {p:Int} {l:List Rat} {t:Rat} (hj:j≤1000000) (hjt:jt≤1000000) (hl:l.length≤1000000) (hne:0<l.length) (h:t<l.getD 0 0∨l.getD (l.length-1) 0<t):
  Ctr Tryz.prog Amb 39 [.one (Ax j l),Aj p,nm jt t] (.tup [Aj 0,.one (Ax 0 []),Aj 7]):=by
 have I1:=Ll (j:=j) (jt:=jt) (p:=p) (l:=l) (t:=t) hj hjt hl hne h
 refine As Tryz.func39 rfl rfl rfl rfl rfl rfl ?_
 intro W0 base D μ0 hA hD
 repeat (first|refine Ah ?_|refine Ad ?_|refine Ab rfl ?_|refine Ac rfl ?_|refine AT ?_|refine AU ?_|refine Ae ?_|refine Af ?_)
 refine AG (And.intro (Or.inr rfl) ?_)
 exact DU (hE:=Ent.tup rfl (EntT.cons (Ent.of_eq rfl) rfl rfl (EntT.cons (Ent.one' rfl Aa.ratsNil) rfl rfl (EntT.cons (Ent.of_eq rfl) rfl rfl EntT.nil))))
theorem WK {j jt jc p e:Nat} {l c:List Rat} {t:Rat} (hj:j≤1000000) (hjt:jt≤1000000) (hjc:jc≤1000000) (hl:l.length≤1000000) (hp:1≤p∧p≤6) (hg:gft j jt p≤10000000) (h0: ¬t<l.getD 0 0) (h1: ¬l.getD (l.length-1) 0<t) (he:p≤e) (he2:e+p+1<l.length) (hb: ¬t<l.getD e 0) (hi: ∀i,e<i→i+p+1<l.length→t<l.getD i 0) (hc:c.length=l.length-p-1):
  Ctr Tryz.prog Amb 41 [.one (Ax j l),Aj (p:Nat),.one (Ax jc c),nm jt t] (.tup [nm (2+(p+1)*(jc+gft j jt p+5)) (smW (fun i=>c.getD (e-p+i) 0*fnR (nth l) e t p (e-p+i)) (p+1)),Aj 0]):=by
 have V1:=Ki (j:=j) (jt:=jt) (p:=p) (e:=e) (l:=l) (t:=t) hj hjt hl hp.1 hg h0 h1 he he2 hb hi
 have P1:=E0 (j:=j) (p:=p) hl (by omega)
 have n1:=CI (k:= .i64) (decide_eq_false (show ¬((c.length:Nat):Int)≠((l.length-p-1:Nat):Int) by omega))
 obtain ⟨v,hv⟩: ∃v:Nat→Rat,v=fun i=>fnR (nth l) e t p (e-p+i):=⟨_,rfl⟩
 obtain ⟨B,hB⟩: ∃B,B=VW l p e t:=⟨_,rfl⟩
 have hB':B=tab (p+1) v:=by rw [hB,hv];rfl
 have hBl:B.length=p+1:=by rw [hB'];simp
 obtain ⟨f,hf⟩: ∃f:Nat→Rat,f=fun i=>c.getD (e-p+i) 0*v i:=⟨_,rfl⟩
 have hgoal:(smW (fun i=>c.getD (e-p+i) 0*fnR (nth l) e t p (e-p+i)) (p+1))=smW f (p+1):=by rw [hf,hv]
 rw [hgoal]
 rw [←hB] at V1
 generalize gft j jt p=G at*
 clear hgoal hi hB
 refine As Tryz.func41 rfl rfl rfl rfl rfl rfl ?_
 intro W0 base D μ0 hA hD
 repeat (first|refine Ah ?_|refine Ad ?_|refine Ab rfl ?_|refine Ac rfl ?_|refine AT ?_|refine AU ?_|refine Ae ?_|refine Af ?_)
 refine Cq (fun m σ=> ∃i:Nat,m=p+1-i∧i≤p+1∧Wk ⟨W0,base,D,54,[],μ0⟩ σ [(2,.one (Ax jc c)),(8,.one (.ptr 8 0)),(10,Aj (e-p:Nat)),(11,.one (Ax G B)),(13,.one (.ptr 13 0)),(14,Aj (i:Nat))] [(8,nmC 2 0),(13,nmC (2+i*(jc+G+5)) (smW f i))]) (n:=p+1) ⟨0,by omega,by omega,?_⟩ ?_
 ·exact BH
 clear V1 P1 n1
 intro m σ hI
 obtain ⟨i,hm,hi0,hw⟩:=hI
 refine BW hw ?_
 clear hw
 by_cases hi:i<p+1
 ·have bi:=BO (k:= .i64) (decide_eq_true (show ((i:Nat):Int)<((B.length:Nat):Int) by omega))
  have hin:=AZ (k:= .i64) (show (IntKind.i64).wrap ((i:Int)+1)=((i+1:Nat):Int) from IntWalk.i64_in _ (by omega))
  have a1:=AZ (k:= .i64) (show (IntKind.i64).wrap (((e-p:Nat):Int)+((i:Nat):Int))=((e-p+i:Nat):Int) by rw [show ((e-p:Nat):Int)+((i:Nat):Int)=((e-p+i:Nat):Int) by omega];exact IntWalk.i64_in _ (by omega))
  obtain ⟨x,hx,hx'⟩:=BC (l:=c) (i:=e-p+i) (by omega)
  obtain ⟨y,hy,hy'⟩:=BC (l:=B) (i:=i) (by omega)
  have hm1:i*(jc+G+5)≤7*(jc+G+5):=Nat.mul_le_mul_right _ (by omega)
  have ey:v i=y:=by
   have:=Fl (g:=v) (show i<p+1 by omega)
   rw [←hB',hy'] at this
   exact (Option.some.inj this).symm
  have ef:smW f (i+1)=smW f i+x*y:=by
   show smW f i+f i=_
   rw [hf]
   show _+c.getD (e-p+i) 0*v i=_
   rw [AS hx',ey]
  have M1:=M9 (j:=jc) (k:=G) (x:=x) (y:=y) (by omega) (by omega)
  have A1:=Is (j:=2+i*(jc+G+5)) (k:=jc+G+2) (x:=smW f i) (y:=x*y) (by omega) (by omega)
  rw [←ef] at A1
  have ez:2+(i+1)*(jc+G+5)=2+i*(jc+G+5)+(jc+G+2)+3:=by rw [Nat.succ_mul];omega
  rw [←ez] at A1
  generalize smW f (i+1)=s1 at*
  generalize smW f i=s0 at*
  generalize x*y=q at*
  generalize 2+(i+1)*(jc+G+5)=z1 at*
  generalize 2+i*(jc+G+5)=z0 at*
  clear hf hv hB' hx' hy' ey ef ez hm1
  repeat (first|refine Ah ?_|refine Ad ?_|refine Ab rfl ?_|refine Ac rfl ?_|refine AT ?_|refine AU ?_|refine Ae ?_|refine Af ?_)
  repeat (first|refine Ah ?_|refine Ad ?_|refine Ab rfl ?_|refine Ac rfl ?_|refine AT ?_|refine AU ?_|refine Ae ?_|refine Af ?_)
  refine ⟨m-1,by omega,i+1,by omega,by omega,?_⟩
  refine D3 ?_ ?_ (by kernel_rfl)
  ·repeat (first|exact AR|refine List.forall_mem_cons.2 ⟨Ent.of_eq (by kernel_rfl),?_⟩)
  ·repeat (first|exact AR|refine List.forall_mem_cons.2 ⟨Dk (by kernel_rfl) (EntL.of_eq (by kernel_rfl)) (by kernel_rfl),?_⟩)
 ·have bi:=BO (k:= .i64) (decide_eq_false (show ¬((i:Nat):Int)<((B.length:Nat):Int) by omega))
  obtain rfl:i=p+1:=by omega
  repeat (first|refine Ah ?_|refine Ad ?_|refine Ab rfl ?_|refine Ac rfl ?_|refine AT ?_|refine AU ?_|refine Ae ?_|refine Af ?_)
  refine AG (And.intro (Or.inr rfl) ?_)
  exact CW
theorem Va {j jt jc p:Nat} {l c:List Rat} {t:Rat} (hl:l.length≤1000000) (hp:p+1≤l.length) (hc:c.length≠l.length-p-1):
  Ctr Tryz.prog Amb 41 [.one (Ax j l),Aj (p:Nat),.one (Ax jc c),nm jt t] (.tup [nm 2 0,Aj 1]):=by
 have P1:=E0 (j:=j) (p:=p) hl (by omega)
 have n1:=CI (k:= .i64) (decide_eq_true (show ((c.length:Nat):Int)≠((l.length-p-1:Nat):Int) by omega))
 refine As Tryz.func41 rfl rfl rfl rfl rfl rfl ?_
 intro W0 base D μ0 hA hD
 repeat (first|refine Ah ?_|refine Ad ?_|refine Ab rfl ?_|refine Ac rfl ?_|refine AT ?_|refine AU ?_|refine Ae ?_|refine Af ?_)
 refine AG (And.intro (Or.inr rfl) ?_)
 exact CW
theorem U9 {j jt jc p:Nat} {l c:List Rat} {t:Rat} (hj:j≤1000000) (hjt:jt≤1000000) (hl:l.length≤1000000) (hp:p+1≤l.length) (hc:c.length=l.length-p-1) (h:t<l.getD 0 0∨l.getD (l.length-1) 0<t):
  Ctr Tryz.prog Amb 41 [.one (Ax j l),Aj (p:Nat),.one (Ax jc c),nm jt t] (.tup [nm 2 0,Aj 7]):=by
 have V1:=I4 (j:=j) (jt:=jt) (p:=(p:Nat)) (l:=l) (t:=t) hj hjt hl (by omega) h
 have P1:=E0 (j:=j) (p:=p) hl (by omega)
 have n1:=CI (k:= .i64) (decide_eq_false (show ¬((c.length:Nat):Int)≠((l.length-p-1:Nat):Int) by omega))
 have n2:=CI (k:= .i64) (decide_eq_true (show (7:Int)≠0 by omega))
 refine As Tryz.func41 rfl rfl rfl rfl rfl rfl ?_
 intro W0 base D μ0 hA hD
 repeat (first|refine Ah ?_|refine Ad ?_|refine Ab rfl ?_|refine Ac rfl ?_|refine AT ?_|refine AU ?_|refine Ae ?_|refine Af ?_)
 refine AG (And.intro (Or.inr rfl) ?_)
 exact CW
def rfI (n:Nat→Rat) (p:Nat) (a c:Nat→Rat) (s m q:Nat):Rat:=if m<q then dbW n p a c (s+1) (q-(s+1)) else dbW n p a c (min s q) (q-min s q)
section
variable {n a c:Nat→Rat} {p s m:Nat}
theorem Ro:tab (p+1) (rfI n p a c 0 p)=tab (p+1) c:=Ec fun q hq=>by
 unfold rfI
 rw [if_neg (by omega),Nat.zero_min]
 rfl
theorem SU:tab (p+1) (rfI n p a c s s)=tab (p+1) (rfI n p a c (s+1) p):=Ec fun q hq=>by
 unfold rfI
 rw [if_neg (show ¬p<q by omega)]
 by_cases h:s<q
 ·rw [if_pos h,Nat.min_eq_left (show s+1≤q by omega)]
 ·rw [if_neg h,Nat.min_eq_right (show q≤s by omega),Nat.min_eq_right (show q≤s+1 by omega)]
theorem Vj (hs:s+1≤m) (hm:m≤p):(tab (p+1) (rfI n p a c s m)).set m (dbW n p a c (s+1) (m-(s+1)))=tab (p+1) (rfI n p a c s (m-1)):=
 PU (by omega) (by unfold rfI;rw [if_pos (by omega)]) fun q hq hqm=>by
  unfold rfI
  by_cases h:m<q
  ·rw [if_pos h,if_pos (by omega)]
  ·rw [if_neg h,if_neg (by omega)]
theorem SV (hs:s≤m):rfI n p a c s m m=dbW n p a c s (m-s):=by
 unfold rfI
 rw [if_neg (Nat.lt_irrefl m),Nat.min_eq_left hs]
theorem Vk {q:Nat} (hs:s≤q) (hq:q≤m):rfI n p a c s m q=dbW n p a c s (q-s):=by
 unfold rfI
 rw [if_neg (by omega),Nat.min_eq_left hs]
theorem Vl:rfI n p a c p p p=dbW n p a c p 0:=by rw [SV (Nat.le_refl p),Nat.sub_self]
end
theorem SC {j jc jt p i:Nat} {l c args:List Rat} (hj:j≤1000000) (hjt:jt≤1000000) (hJ:gwt (j+1) (jt+1) (jc+1) p≤1000000) (hl:l.length≤1000000) (hp:1≤p∧p≤6) (hi:p≤i) (hi2:i+p+1<l.length) (hc:c.length=l.length-p-1) (ha:args.length=p)
  (hd: ∀s j,s<p→j<p-s→kn l p i (p+j)-kn l p i (s+j)≠0):
  Ctr Tryz.prog Amb 91 [.one (Ax j l),Aj (p:Nat),.one (Ax jc c),Aj (i:Nat),.one (Ax jt args)] (nm (gwt (j+1) (jt+1) (jc+1) p) (J0 l p i c args)):=by
 refine CV (i:=0) rfl fun z0=>CV (i:=2) rfl fun z1=>CV (i:=4) rfl fun z2=>?_
 obtain ⟨J,hJ2⟩: ∃J,J=gwt (j+1) (jt+1) (jc+1) p:=⟨_,rfl⟩
 rw [←hJ2] at hJ⊢
 have hjc:jc≤J:=by rw [hJ2];exact Nat.le_trans (show jc≤jc+1 by omega) (FX (s:=0) (Nat.zero_le p))
 obtain ⟨cl,hcl⟩: ∃cl:Nat→Rat,cl=fun x=>c.getD (i-p+x) 0:=⟨_,rfl⟩
 have zk: ∀x,RSz (j+1) (kn l p i x):=fun x=>EQ z0 (i+1-p+x)
 have zc: ∀x,RSz (jc+1) (cl x):=fun x=>by rw [hcl];exact EQ z1 (i-p+x)
 have zW: ∀s q,s≤p→RSz J (dbW (kn l p i) p (nth args) cl s q):=fun s q hs=>by rw [hJ2];exact (JQ zk (EQ z2) zc).mono (FX hs)
 have hres:J0 l p i c args=rfI (kn l p i) p (nth args) cl p p p:=by rw [Vl,hcl];rfl
 rw [hres]
 have hpart:(c.take (i+1)).drop (i-p)=tab (p+1) (rfI (kn l p i) p (nth args) cl 0 p):=by
  rw [Ro]
  refine Oi (by rw [List.length_drop,List.length_take];omega) fun q hq=>?_
  rw [List.getElem?_drop,List.getElem?_take,if_pos (by omega),hcl]
  show c[i-p+q]?=some (c.getD (i-p+q) 0)
  rw [List.getD_eq_getElem?_getD,Yi (by omega)]
  rfl
 have hpl:((c.take (i+1)).drop (i-p)).length=p+1:=by rw [List.length_drop,List.length_take];omega
 have b1:=BB (k:= .i64) (show (IntKind.i64).wrap ((i:Int)-(p:Int))=((i-p:Nat):Int) by rw [show ((i:Int)-(p:Int))=((i-p:Nat):Int) by omega];exact IntWalk.i64_in _ (by omega))
 have b2:=AZ (k:= .i64) (show (IntKind.i64).wrap ((i:Int)+1)=((i+1:Nat):Int) from IntWalk.i64_in _ (by omega))
 obtain ⟨C,hC⟩: ∃C,C=(c.take (i+1)).drop (i-p):=⟨_,rfl⟩
 rw [←hC] at hpart hpl
 refine As Tryz.func91 rfl rfl rfl rfl rfl rfl ?_
 intro W0 base D μ0 hA hD
 repeat (first
  | refine Ah ?_|refine Ad ?_|refine Ab rfl ?_|refine Ac rfl ?_
  | ((first|refine Al (by kernel_rfl) ?_|refine Aq (by kernel_rfl) (by kernel_rfl) (by kernel_rfl) ?_)
     repeat (first
      | refine An (hl:=?_)
      | refine Ai (hl:=?_)
      | refine Az (hl:=?_)
      | refine Ao (hl:=?_)
      | refine At (hl:=?_)
      | refine AC (hl:=?_)
      | refine Ak (hl:=?_)
      | refine AJ (hl:=?_)
      | refine AI (hl:=?_)
      | refine AK (hl:=?_)
      | refine Ar (hl:=?_)
      | refine Au (hl:=?_))
     apply Ag.nil;try refine And.intro (by kernel_rfl) ?_)
  | refine Ae ?_|refine Af ?_)
 try refine Ah ?_
 refine Cd 8 (by simp only [List.take_succ_cons,List.take_zero,List.drop_succ_cons,List.drop_zero];exact ⟨rfl,rfl⟩) (by kernel_rfl) ?_
 repeat (first
  | refine IY (hl:=?_)
  | refine An (hl:=?_)
  | refine Ai (hl:=?_)
  | refine Az (hl:=?_)
  | refine Ao (hl:=?_)
  | refine At (hl:=?_)
  | refine AC (hl:=?_)
  | refine Ak (hl:=?_)
  | refine AJ (hl:=?_)
  | refine AI (hl:=?_)
  | refine AK (hl:=?_)
  | refine Ar (hl:=?_)
  | refine Au (hl:=?_)
  | refine EO hA (hc:=OLD) (hl:=?_)
  | refine Hl (la:=c) (f:=nmD jc) (a:=i-p) (b:=i+1) (by omega) (by omega) (.some rfl rfl) (.some rfl rfl) (hl:=?_))
 apply Ag.nil
 rw [←hC]
 refine EA (k:=17) (f:=nmD jc) (la:= []) (ss:= [(0,.one (Ax j l)),(1,Aj (p:Nat)),(3,Aj (i:Nat)),(4,.one (Ax jt args)),(10,.one (.ptr 10 0))]) (bs:= [(10,nmC 2 0)]) (ns:=AE (nmD jc) C) (hns:=VZ inferInstance _ C) hD ?_ ?_ ?_
 ·exact ⟨by rw [hpl];simp;omega,by rw [hpl];simp;omega⟩
 ·exact BH
 repeat (refine Dt rfl ?_;(first|refine Ai (hl:=?_)|refine An (hl:=?_)|refine Ao (hl:=?_));apply Ag.nil)
 refine Du ?_
 repeat (first
  | refine Ah ?_|refine Ad ?_|refine Ab rfl ?_|refine Ac rfl ?_
  | ((first|refine Al (by kernel_rfl) ?_|refine Aq (by kernel_rfl) (by kernel_rfl) (by kernel_rfl) ?_)
     repeat (first
      | refine An (hl:=?_)
      | refine Ai (hl:=?_)
      | refine Az (hl:=?_)
      | refine Ao (hl:=?_)
      | refine At (hl:=?_)
      | refine AC (hl:=?_)
      | refine Ak (hl:=?_)
      | refine AJ (hl:=?_)
      | refine AI (hl:=?_)
      | refine AK (hl:=?_)
      | refine Ar (hl:=?_)
      | refine Au (hl:=?_))
     apply Ag.nil;try refine And.intro (by kernel_rfl) ?_)
  | refine Ae ?_|refine Af ?_)
 refine Cq (fun m σ=> ∃(s:Nat) (L:List Rat),m=p-s∧s≤p∧L=tab (p+1) (rfI (kn l p i) p (nth args) cl s p)∧Wk ⟨W0,base,D,90,[],μ0⟩ σ [(0,.one (Ax j l)),(1,Aj (p:Nat)),(3,Aj (i:Nat)),(4,.one (Ax jt args)),(10,.one (.ptr 10 0)),(11,.one (.gl 17 (p+1) 3)),(12,Aj (s+1:Nat))] [(17,AE (nmD J) L),(10,nmC 2 0)]) (n:=p) ⟨0,C,by omega,by omega,hpart,?_⟩ ?_
 ·refine D3 ?_ ?_ rfl
  ·repeat (first|exact AR|(refine List.forall_mem_cons.2 ⟨?_,?_⟩;focus (first|exact Ent.of_eq rfl|exact Ent.one' rfl (Aa.glLen (by rw [hpl];simp)))))
  ·refine List.forall_mem_cons.2 ⟨Xn hjc (N5 (la:= []) inferInstance),List.forall_mem_cons.2 ⟨?_,AR⟩⟩
   exact Dk rfl (EntL.of_eq rfl) rfl
 clear b1 b2 hpart
 intro m σ hI
 obtain ⟨s,L,hm,hs0,hL,hw⟩:=hI
 refine BW hw ?_
 clear hw
 have hLl:L.length=p+1:=by rw [hL];simp
 by_cases hs:s<p
 ·have bi:=IC (k:= .i64) (decide_eq_true (show ((s+1:Nat):Int)≤((p:Nat):Int) by omega))
  repeat (first
   | refine Ah ?_|refine Ad ?_|refine Ab rfl ?_|refine Ac rfl ?_
   | ((first|refine Al (by kernel_rfl) ?_|refine Aq (by kernel_rfl) (by kernel_rfl) (by kernel_rfl) ?_)
      repeat (first
       | refine An (hl:=?_)
       | refine Ai (hl:=?_)
       | refine Az (hl:=?_)
       | refine Ao (hl:=?_)
       | refine At (hl:=?_)
       | refine AC (hl:=?_)
       | refine Ak (hl:=?_)
       | refine AJ (hl:=?_)
       | refine AI (hl:=?_)
       | refine AK (hl:=?_)
       | refine Ar (hl:=?_)
       | refine Au (hl:=?_))
      apply Ag.nil;try refine And.intro (by kernel_rfl) ?_)
   | refine Ae ?_|refine Af ?_)
  refine Cq (fun m σ=> ∃(q:Nat) (L:List Rat),m=q-s∧s≤q∧q≤p∧L=tab (p+1) (rfI (kn l p i) p (nth args) cl s q)∧Wk ⟨W0,base,D,90,[],μ0⟩ σ [(0,.one (Ax j l)),(1,Aj (p:Nat)),(3,Aj (i:Nat)),(4,.one (Ax jt args)),(10,.one (.ptr 10 0)),(11,.one (.gl 17 (p+1) 3)),(12,Aj (s+1:Nat)),(13,Aj (q:Nat))] [(17,AE (nmD J) L),(10,nmC 2 0)]) (n:=p-s) ⟨p,L,by omega,by omega,by omega,hL,?_⟩ ?_
  ·exact BH
  clear hL hLl
  clear L
  intro m2 σ hI
  obtain ⟨q,L,hm2,hq0,hqp,hL,hw⟩:=hI
  refine BW hw ?_
  clear hw
  have hLl:L.length=p+1:=by rw [hL];simp
  have hbl:(AE (nmD J) L).length=(p+1)*3:=by rw [BF (n:=3) inferInstance,hLl]
  by_cases hq:s<q
  ·have bq:=FE (k:= .i64) (decide_eq_true (show ((q:Nat):Int)≥((s+1:Nat):Int) by omega))
   have a1:=BB (k:= .i64) (show (IntKind.i64).wrap ((i:Int)-(p:Int))=((i-p:Nat):Int) by rw [show ((i:Int)-(p:Int))=((i-p:Nat):Int) by omega];exact IntWalk.i64_in _ (by omega))
   have a2:=AZ (k:= .i64) (show (IntKind.i64).wrap (((i-p:Nat):Int)+((q:Nat):Int))=((i-p+q:Nat):Int) by rw [show ((i-p:Nat):Int)+((q:Nat):Int)=((i-p+q:Nat):Int) by omega];exact IntWalk.i64_in _ (by omega))
   have a3:=AZ (k:= .i64) (show (IntKind.i64).wrap ((i:Int)+1)=((i+1:Nat):Int) from IntWalk.i64_in _ (by omega))
   have a4:=AZ (k:= .i64) (show (IntKind.i64).wrap (((i+1:Nat):Int)+((q:Nat):Int))=((i+1+q:Nat):Int) by rw [show ((i+1:Nat):Int)+((q:Nat):Int)=((i+1+q:Nat):Int) by omega];exact IntWalk.i64_in _ (by omega))
   have a5:=BB (k:= .i64) (show (IntKind.i64).wrap (((i+1+q:Nat):Int)-((s+1:Nat):Int))=((i+q-s:Nat):Int) by rw [show ((i+1+q:Nat):Int)-((s+1:Nat):Int)=((i+q-s:Nat):Int) by omega];exact IntWalk.i64_in _ (by omega))
   have a6:=BB (k:= .i64) (show (IntKind.i64).wrap (((s+1:Nat):Int)-1)=((s:Nat):Int) by rw [show ((s+1:Nat):Int)-1=((s:Nat):Int) by omega];exact IntWalk.i64_in _ (by omega))
   have a7:=BB (k:= .i64) (show (IntKind.i64).wrap (((q:Nat):Int)-1)=((q-1:Nat):Int) by rw [show ((q:Nat):Int)-1=((q-1:Nat):Int) by omega];exact IntWalk.i64_in _ (by omega))
   obtain ⟨lo,hlo,hlo'⟩:=BC (l:=l) (i:=i-p+q) (by omega)
   obtain ⟨hi3,hhi,hhi'⟩:=BC (l:=l) (i:=i+q-s) (by omega)
   obtain ⟨t,ht,ht'⟩:=BC (l:=args) (i:=s) (by omega)
   obtain ⟨x,hx,hx'⟩:=BC (l:=L) (i:=q-1) (by omega)
   obtain ⟨y,hy,hy'⟩:=BC (l:=L) (i:=q) (by omega)
   have ex:x=dbW (kn l p i) p (nth args) cl s (q-1-s):=by
    have:=Fl (g:=rfI (kn l p i) p (nth args) cl s q) (show q-1<p+1 by omega)
    rw [←hL,hx',Vk (by omega) (by omega)] at this
    exact Option.some.inj this
   have ey:y=dbW (kn l p i) p (nth args) cl s (q-s):=by
    have:=Fl (g:=rfI (kn l p i) p (nth args) cl s q) (show q<p+1 by omega)
    rw [←hL,hy',SV (by omega)] at this
    exact Option.some.inj this
   have elo:kn l p i (s+(q-(s+1)))=lo:=by
    show l.getD (i+1-p+(s+(q-(s+1)))) 0=lo
    rw [show i+1-p+(s+(q-(s+1)))=i-p+q by omega,AS hlo']
   have ehi:kn l p i (p+(q-(s+1)))=hi3:=by
    show l.getD (i+1-p+(p+(q-(s+1)))) 0=hi3
    rw [show i+1-p+(p+(q-(s+1)))=i+q-s by omega,AS hhi']
   have hne:=hd s (q-(s+1)) hs (by omega)
   rw [elo,ehi] at hne
   have enew:x+(t-lo)/(hi3-lo)*(y-x)=dbW (kn l p i) p (nth args) cl (s+1) (q-(s+1)):=by
    show _=dbW (kn l p i) p (nth args) cl s (q-(s+1))+(dbW (kn l p i) p (nth args) cl s (q-(s+1)+1)-dbW (kn l p i) p (nth args) cl s (q-(s+1)))*shR (kn l p i) (s+(q-(s+1))) (p+(q-(s+1))) (nth args s)
    unfold shR
    rw [elo,ehi,show q-(s+1)+1=q-s by omega,show q-(s+1)=q-1-s by omega,←ex,←ey,show nth args s=t from AS ht',Rat.mul_comm]
   have hset:=Vj (n:=kn l p i) (p:=p) (a:=nth args) (c:=cl) (s:=s) (m:=q) (by omega) hqp
   have zr:RSz J (x+(t-lo)/(hi3-lo)*(y-x)):=by rw [enew];exact zW (s+1) _ (by omega)
   rw [←enew,←hL] at hset
   have S1:=Ir (j:=jt) (k:=j) (x:=t) (y:=lo) (by omega) (by omega)
   have S2:=Ir (j:=j) (k:=j) (x:=hi3) (y:=lo) (by omega) (by omega)
   have O1:=WX (j:=jt+j+3) (k:=j+j+3) (x:=t-lo) (y:=hi3-lo) (by omega) (by omega) hne
   have S3:=Ir (j:=J) (k:=J) (x:=y) (y:=x) (by omega) (by omega)
   have M1:=M9 (j:=jt+j+3+(j+j+3)+2) (k:=J+J+3) (x:=(t-lo)/(hi3-lo)) (y:=y-x) (by omega) (by omega)
   have A1:=Is (j:=J) (k:=jt+j+3+(j+j+3)+2+(J+J+3)+2) (x:=x) (y:=(t-lo)/(hi3-lo)*(y-x)) (by omega) (by omega)
   generalize y-x=d at S3 M1 A1 hset zr
   generalize (t-lo)/(hi3-lo)=h at O1 M1 A1 hset zr
   generalize h*d=e at M1 A1 hset zr
   generalize x+e=r at A1 hset zr
   have lt1:(0:Int)≤((q:Nat):Int)∧((q:Nat):Int)<(p+1:Nat):=by omega
   have lt2:(0:Int)≤((q-1:Nat):Int)∧((q-1:Nat):Int)<(p+1:Nat):=by omega
   have st1:((q:Nat):Int).toNat*3+3≤(AE (nmD J) L).length:=by rw [hbl,Int.toNat_natCast];omega
   have st2:((q-1:Nat):Int).toNat*3+3≤(AE (nmD J) L).length:=by rw [hbl,Int.toNat_natCast];omega
   have ld1:=ED (f:=nmD J) (n:=3) inferInstance hy
   have ld2:=ED (f:=nmD J) (n:=3) inferInstance hx
   clear enew elo ehi ex ey hne hd zW zk zc hx' hy' hlo' hhi' ht'
   repeat (first
    | refine Ah ?_|refine Ad ?_|refine Ab rfl ?_|refine Ac rfl ?_
    | ((first|refine Al (by kernel_rfl) ?_|refine Aq (by kernel_rfl) (by kernel_rfl) (by kernel_rfl) ?_)
       repeat (first
        | refine An (hl:=?_)
        | refine Ai (hl:=?_)
        | refine Az (hl:=?_)
        | refine Ao (hl:=?_)
        | refine At (hl:=?_)
        | refine AC (hl:=?_)
        | refine Ak (hl:=?_)
        | refine AJ (hl:=?_)
        | refine AI (hl:=?_)
        | refine AK (hl:=?_)
        | refine Ar (hl:=?_)
        | refine Au (hl:=?_)
        | refine C9 hlo (by omega) (hl:=?_)
        | refine C9 hhi (by omega) (hl:=?_)
        | refine C9 ht (by omega) (hl:=?_)
        | refine Ap hA (hc:=S1) (hl:=?_)
        | refine Ap hA (hc:=S2) (hl:=?_)
        | refine Ap hA (hc:=O1) (hl:=?_))
       apply Ag.nil;try refine And.intro (by kernel_rfl) ?_)
    | refine Ae ?_|refine Af ?_)
   refine BW (ss:= [(0,.one (Ax j l)),(1,Aj (p:Nat)),(3,Aj (i:Nat)),(4,.one (Ax jt args)),(10,.one (.ptr 10 0)),(11,.one (.gl 17 (p+1) 3)),(12,Aj (s+1:Nat)),(13,Aj (q:Nat)),(16,.one (.ptr 16 0))]) (bs:= [(17,AE (nmD J) L),(10,nmC 2 0),(16,nmC (jt+j+3+(j+j+3)+2) h)]) ?_ ?_
   ·exact BH
   clear S1 S2 O1
   repeat (first
    | refine Ah ?_|refine Ad ?_|refine Ab rfl ?_|refine Ac rfl ?_
    | ((first|refine Al (by kernel_rfl) ?_|refine Aq (by kernel_rfl) (by kernel_rfl) (by kernel_rfl) ?_)
       repeat (first
        | refine GP (k:=17) st1 (hl:=?_)
        | refine DL (k:=17) st1 ld1 (hl:=?_)
        | refine DL (k:=17) st2 ld2 (hl:=?_)
        | refine An (hl:=?_)
        | refine Ai (hl:=?_)
        | refine Az (hl:=?_)
        | refine Ao (hl:=?_)
        | refine At (hl:=?_)
        | refine AC (hl:=?_)
        | refine Ak (hl:=?_)
        | refine AJ (hl:=?_)
        | refine AI (hl:=?_)
        | refine AK (hl:=?_)
        | refine Ar (hl:=?_)
        | refine Au (hl:=?_)
        | refine Ek lt1 (hl:=?_)
        | refine Ek lt2 (hl:=?_)
        | refine Ap hA (hc:=S3) (hl:=?_)
        | refine Ap hA (hc:=M1) (hl:=?_)
        | refine Ap hA (hc:=A1) (hl:=?_))
       apply Ag.nil;try refine And.intro (by kernel_rfl) ?_)
    | refine Ae ?_|refine Af ?_)
   refine ⟨q-1-s,by omega,q-1,L.set q r,rfl,by omega,by omega,hset,?_⟩
   refine D3 ?_ ?_ (by kernel_rfl)
   ·repeat (first|exact AR|refine List.forall_mem_cons.2 ⟨Ent.of_eq (by kernel_rfl),?_⟩)
   ·refine List.forall_mem_cons.2 ⟨Hg inferInstance (i:=q) (show q<L.length by omega) (cs:=nmC (J+(jt+j+3+(j+j+3)+2+(J+J+3)+2)+3) r) (.cons (Aa.qe rfl zr) (.cons (Aa.qe rfl zr) (.cons (Aa.qe rfl zr) .nil))) (hz:=by exact rfl) (hm:=by kernel_rfl),?_⟩
    repeat (first|exact AR|refine List.forall_mem_cons.2 ⟨Dk (by kernel_rfl) (EntL.of_eq (by kernel_rfl)) (by kernel_rfl),?_⟩)
  ·have bq:=FE (k:= .i64) (decide_eq_false (show ¬((q:Nat):Int)≥((s+1:Nat):Int) by omega))
   have hsn:=AZ (k:= .i64) (show (IntKind.i64).wrap (((s+1:Nat):Int)+1)=((s+1+1:Nat):Int) from IntWalk.i64_in _ (by omega))
   obtain rfl:q=s:=by omega
   rw [SU] at hL
   repeat (first
    | refine Ah ?_|refine Ad ?_|refine Ab rfl ?_|refine Ac rfl ?_
    | ((first|refine Al (by kernel_rfl) ?_|refine Aq (by kernel_rfl) (by kernel_rfl) (by kernel_rfl) ?_)
       repeat (first
        | refine An (hl:=?_)
        | refine Ai (hl:=?_)
        | refine Az (hl:=?_)
        | refine Ao (hl:=?_)
        | refine At (hl:=?_)
        | refine AC (hl:=?_)
        | refine Ak (hl:=?_)
        | refine AJ (hl:=?_)
        | refine AI (hl:=?_)
        | refine AK (hl:=?_)
        | refine Ar (hl:=?_)
        | refine Au (hl:=?_))
       apply Ag.nil;try refine And.intro (by kernel_rfl) ?_)
    | refine Ae ?_|refine Af ?_)
   refine ⟨m-1,by omega,q+1,L,by omega,by omega,hL,?_⟩
   exact BH
 ·obtain rfl:s=p:=by omega
  have bi:=IC (k:= .i64) (decide_eq_false (show ¬((s+1:Nat):Int)≤((s:Nat):Int) by omega))
  have hx':L[s]?=some (rfI (kn l s i) s (nth args) cl s s s):=by rw [hL];exact Fl (Nat.lt_succ_self s)
  have hx:L[((s:Nat):Int).toNat]?=some (rfI (kn l s i) s (nth args) cl s s s):=by rw [Int.toNat_natCast];exact hx'
  generalize rfI (kn l s i) s (nth args) cl s s s=x at*
  have lt1:(0:Int)≤((s:Nat):Int)∧((s:Nat):Int)<(s+1:Nat):=by omega
  have st1:((s:Nat):Int).toNat*3+3≤(AE (nmD J) L).length:=by rw [BF (n:=3) inferInstance,hLl,Int.toNat_natCast];omega
  have ld1:=ED (f:=nmD J) (n:=3) inferInstance hx
  repeat (first
   | refine Ah ?_|refine Ad ?_|refine Ab rfl ?_|refine Ac rfl ?_
   | ((first|refine Al (by kernel_rfl) ?_|refine Aq (by kernel_rfl) (by kernel_rfl) (by kernel_rfl) ?_)
      repeat (first
       | refine DL (k:=17) st1 ld1 (hl:=?_)
       | refine An (hl:=?_)
       | refine Ai (hl:=?_)
       | refine Az (hl:=?_)
       | refine Ao (hl:=?_)
       | refine At (hl:=?_)
       | refine AC (hl:=?_)
       | refine Ak (hl:=?_)
       | refine AJ (hl:=?_)
       | refine AI (hl:=?_)
       | refine AK (hl:=?_)
       | refine Ar (hl:=?_)
       | refine Au (hl:=?_)
       | refine Ek lt1 (hl:=?_))
      apply Ag.nil;try refine And.intro (by kernel_rfl) ?_)
   | refine Ae ?_|refine Af ?_)
  refine AG (And.intro (Or.inr rfl) ?_)
  exact B7
end Go.Proofs.YtkmalkcgkcpcmaaGreatDoor
