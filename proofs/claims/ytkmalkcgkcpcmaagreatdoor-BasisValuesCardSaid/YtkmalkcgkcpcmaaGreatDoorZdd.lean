/-
  basis.Values and basis.Sum.
-/
import Derived.Test.YtkmalkcgkcpcmaaGreatDoorIe
import Derived.Test.YtkmalkcgkcpcmaaGreatDoorIg
import Derived.Test.YtkmalkcgkcpcmaaGreatDoorHy
namespace Go.Proofs.YtkmalkcgkcpcmaaGreatDoor
open Nat renaming le_refl→Yh
open Go.RowKit
set_option linter.unusedVariables false
set_option linter.unusedSimpArgs false
set_option maxRecDepth 20000
set_option maxHeartbeats 1000000
def upV (n:Nat→Rat) (p:Nat) (t:Rat) (d q:Nat):Rat:=if q=0 then 0 else dbV n p t d (q-1)*shR n (p-1-d+(q-1)) (p+(q-1)) t
def vsI (n:Nat→Rat) (p:Nat) (t:Rat) (d q x:Nat):Rat:=if x<q then dbV n p t (d+1) x else dbV n p t d x
section
variable {n:Nat→Rat} {p d q jn jt:Nat} {t:Rat}
theorem FH:upV n p t d (q+1)=dbV n p t d q*shR n (p-1-d+q) (p+q) t:=by unfold upV;rw [if_neg (Nat.succ_ne_zero q)];rfl
theorem Sf:tab (d+1) (vsI n p t d 0)=tab (d+1) (dbV n p t d):=Ec fun x _=>if_neg (Nat.not_lt_zero x)
theorem PM:upV n p t d q+(dbV n p t d q-upV n p t d (q+1))=dbV n p t (d+1) q:=by
 rw [FH]
 cases q with
 | zero=>
   show (0:Rat)+(dbV n p t d 0-dbV n p t d 0*shR n (p-1-d+0) (p+0) t)=dbV n p t d 0-dbV n p t d 0*shR n (p-1-d) p t
   rw [Nat.add_zero,Nat.add_zero]
   grind
 | succ x=>rw [FH];rfl
theorem UO (hq:q≤d):(tab (d+1) (vsI n p t d q)).set q (upV n p t d q+(dbV n p t d q-upV n p t d (q+1)))=tab (d+1) (vsI n p t d (q+1)):=
 PU (by omega) (by rw [PM];exact if_pos (Nat.lt_succ_self q)) fun x hx hxq=>by
  unfold vsI
  by_cases h:x<q
  ·rw [if_pos h,if_pos (by omega)]
  ·rw [if_neg h,if_neg (by omega)]
theorem UP:tab (d+1) (vsI n p t d (d+1))++ [upV n p t d (d+1)]=tab (d+1+1) (dbV n p t (d+1)):=by
 have e:upV n p t d (d+1)=dbV n p t (d+1) (d+1):=by
  rw [FH]
  show _=dbV n p t d d*shR n (p-1-d+d) (p+d) t+(dbV n p t d (d+1)-dbV n p t d (d+1)*shR n (p-1-d+(d+1)) (p+(d+1)) t)
  rw [Fv (d:=d) (j:=d+1) (by omega)]
  grind
 rw [e,show tab (d+1) (vsI n p t d (d+1))=tab (d+1) (dbV n p t (d+1)) from Ec fun x hx=>if_pos hx]
 exact FJ
theorem Sm (hn: ∀i,RSz jn (n i)) (ht:RSz jt t):RSz (gvt jn jt (d+1)) (upV n p t d q):=by
 cases q with
 | zero=>exact (Gz (by show 1≤3*gvt jn jt d+2*(3*jn+jt+2)+10;omega)).1
 | succ q=>
   rw [FH]
   exact ((Ii hn ht).mul (GX (hn _) (hn _) ht)).mono (by show _≤3*gvt jn jt d+2*(3*jn+jt+2)+10;omega)
end
theorem Kj {j jt p i:Nat} {l:List Rat} {t:Rat} (hj:j≤1000000) (hjt:jt≤1000000) (hJ:gvt (j+1) (jt+1) p≤1000000) (hl:l.length≤1000000) (hp:1≤p∧p≤6) (hi:p≤i) (hi2:i+p+1<l.length) (hlt:l.getD i 0<l.getD (i+1) 0) (hI:ivR l t= [Aj (i:Nat),Aj 0])
  (hd: ∀s j,s<p→j<p-s→kn l p i (p+j)-kn l p i (s+j)≠0):
  Ctr Tryz.prog Amb 38 [.one (Ax j l),Aj (p:Nat),nm jt t] (.tup [Aj (i-p:Nat),.one (Ax (gvt (j+1) (jt+1) p) (tab (p+1) (dbV (kn l p i) p t p))),Aj 0]):=by
 refine CV (i:=0) rfl fun z0=>Px (i:=2) rfl fun z2=>?_
 have A1:=XC (j:=j) (jt:=jt) (p:=p) (i:=i) (l:=l) (t:=t) hj hjt hl hp hi hi2 hlt hI
 obtain ⟨near,hne⟩: ∃near,near=Dw l p i:=⟨_,rfl⟩
 have hnl:near.length=2*p:=by rw [hne];exact Nl (by omega) (by omega)
 have zn: ∀x,RSz (j+1) (nth near x):=EQ fun x hx=>z0 x (by rw [hne] at hx;exact Nk hx)
 have hres:tab (p+1) (dbV (kn l p i) p t p)=tab (p+1) (dbV (nth near) p t p):=Ec fun q hq=>by
  rw [hne]
  exact (Fw (fun x hx=>DS (by omega) hx) (Yh p) (by omega)).symm
 have hdn: ∀s j,s<p→j<p-s→nth near (p+j)-nth near (s+j)≠0:=fun s q hs hq=>by
  rw [hne,DS (by omega) (by omega),DS (by omega) (by omega)]
  exact hd s q hs hq
 rw [hres]
 rw [←hne] at A1
 obtain ⟨R,hR⟩: ∃R,R=tab (p+1) (dbV (nth near) p t p):=⟨_,rfl⟩
 rw [←hR]
 obtain ⟨J,hJ2⟩: ∃J,J=gvt (j+1) (jt+1) p:=⟨_,rfl⟩
 rw [←hJ2] at hJ⊢
 have hg: ∀d,d≤p→gvt (j+1) (jt+1) d≤J:=fun d hd=>by rw [hJ2];exact TO hd
 have hJ1:1≤J:=hg 0 (Nat.zero_le p)
 have I1:=XY (n:=1) rfl
 have s1:=BB (k:= .i64) (show (IntKind.i64).wrap (((i:Nat):Int)-((p:Nat):Int))=((i-p:Nat):Int) by rw [show ((i:Nat):Int)-((p:Nat):Int)=((i-p:Nat):Int) by omega];exact IntWalk.i64_in _ (by omega))
 have r1:RSz J (1:Rat):=(Gz hJ1).2
 have r1':RSz J ((1:Int):Rat):=r1
 clear hd hlt hI hne hres z0
 refine As Tryz.func38 rfl rfl rfl rfl rfl rfl ?_
 intro W0 base D μ0 hA hD
 repeat (first
  | refine Ah ?_|refine Ad ?_|refine Ab rfl ?_|refine Ac rfl ?_
  | ((first|refine Al (by kernel_rfl) ?_|refine Aq (by kernel_rfl) (by kernel_rfl) (by kernel_rfl) ?_)
     repeat (first
      | refine An (hl:=?_)
      | refine Ai (hl:=?_)
      | refine Az (hl:=?_)
      | refine Ao (hl:=?_)
      | refine Da (hl:=?_)
      | refine At (hl:=?_)
      | refine AD (hl:=?_)
      | refine AC (hl:=?_)
      | refine Ak (hl:=?_)
      | refine AJ (hl:=?_)
      | refine AI (hl:=?_)
      | refine AK (hl:=?_)
      | refine AH (hl:=?_)
      | refine Ar (hl:=?_)
      | refine Au (hl:=?_)
      | refine Ap hA (hc:=A1) (hl:=?_)
      | refine Ap hA (hc:=I1) (hl:=?_))
     apply Ag.nil;try refine And.intro (by kernel_rfl) ?_)
  | refine Ae ?_|refine Af ?_)
 refine Cq (fun m σ=> ∃(d:Nat) (L:List Rat),m=p-d∧d≤p∧L=tab (d+1) (dbV (nth near) p t d)∧Wk ⟨W0,base,D,80,[],μ0⟩ σ [(1,Aj (p:Nat)),(5,.one (.ptr 5 0)),(9,Aj (i:Nat)),(10,.one (Ax j near)),(12,.one (.gl 30 L.length 3)),(31,Aj (p:Nat)),(32,Aj (d:Nat))] [(5,nmC jt t),(30,AE (nmD J) L)]) (n:=p) ⟨0,[1],by omega,by omega,rfl,?_⟩ ?_
 ·exact BH
 clear A1 I1 r1 r1'
 intro m σ hI
 obtain ⟨d,L,hm,hd0,hL,hw⟩:=hI
 refine BW hw ?_
 clear hw
 have hLl:L.length=d+1:=by rw [hL];simp
 by_cases hdp:d<p
 ·have bi:=BO (k:= .i64) (decide_eq_true (show ((d:Nat):Int)<((p:Nat):Int) by omega))
  have hdn1:=AZ (k:= .i64) (show (IntKind.i64).wrap (((d:Nat):Int)+1)=((d+1:Nat):Int) from IntWalk.i64_in _ (by omega))
  rw [hLl]
  have hL0:L=tab (d+1) (vsI (nth near) p t d 0):=by rw [hL,Sf]
  have z3:RSz J (0:Rat):=(Gz hJ1).1
  clear s1
  repeat (first
   | refine Ah ?_|refine Ad ?_|refine Ab rfl ?_|refine Ac rfl ?_
   | ((first|refine Al (by kernel_rfl) ?_|refine Aq (by kernel_rfl) (by kernel_rfl) (by kernel_rfl) ?_)
      repeat (first
       | refine An (hl:=?_)
       | refine Ai (hl:=?_)
       | refine Az (hl:=?_)
       | refine Ao (hl:=?_)
       | refine Da (hl:=?_)
       | refine At (hl:=?_)
       | refine AD (hl:=?_)
       | refine AC (hl:=?_)
       | refine Ak (hl:=?_)
       | refine AJ (hl:=?_)
       | refine AI (hl:=?_)
       | refine AK (hl:=?_)
       | refine AH (hl:=?_)
       | refine Ar (hl:=?_)
       | refine Au (hl:=?_))
      apply Ag.nil;try refine And.intro (by kernel_rfl) ?_)
   | refine Ae ?_|refine Af ?_)
  refine Cq (fun c σ=> ∃(q:Nat) (L:List Rat),c=d+1-q∧q≤d+1∧L=tab (d+1) (vsI (nth near) p t d q)∧Wk ⟨W0,base,D,80,[],μ0⟩ σ [(1,Aj (p:Nat)),(5,.one (.ptr 5 0)),(9,Aj (i:Nat)),(10,.one (Ax j near)),(12,.one (.gl 30 (d+1) 3)),(13,Aj (d:Nat)),(14,.one (.ptr 14 0)),(31,Aj (p:Nat)),(32,Aj (d:Nat)),(35,.one (.gl 30 (d+1) 3)),(36,Aj (d+1:Nat)),(37,Aj (q:Nat))] [(5,nmC jt t),(30,AE (nmD J) L),(14,nmC J (upV (nth near) p t d q))]) (n:=d+1) ⟨0,L,by omega,by omega,hL0,?_⟩ ?_
  ·show Wk _ _ _ [(5,nmC jt t),(30,AE (nmD J) L),(14,nmC J 0)]
   exact BH
  clear hL hL0 hLl z3
  clear L
  intro c σ hI
  obtain ⟨q,L,hc,hq0,hL,hw⟩:=hI
  refine BW hw ?_
  clear hw
  have hLl:L.length=d+1:=by rw [hL];simp
  have hbl:(AE (nmD J) L).length=(d+1)*3:=by rw [BF (n:=3) inferInstance,hLl]
  by_cases hq:q<d+1
  ·have bq:=BO (k:= .i64) (decide_eq_true (show ((q:Nat):Int)<((d+1:Nat):Int) by omega))
   have hqn:=AZ (k:= .i64) (show (IntKind.i64).wrap (((q:Nat):Int)+1)=((q+1:Nat):Int) from IntWalk.i64_in _ (by omega))
   have a1:=BB (k:= .i64) (show (IntKind.i64).wrap (((p:Nat):Int)-1)=((p-1:Nat):Int) by rw [show ((p:Nat):Int)-1=((p-1:Nat):Int) by omega];exact IntWalk.i64_in _ (by omega))
   have a2:=BB (k:= .i64) (show (IntKind.i64).wrap (((p-1:Nat):Int)-((d:Nat):Int))=((p-1-d:Nat):Int) by rw [show ((p-1:Nat):Int)-((d:Nat):Int)=((p-1-d:Nat):Int) by omega];exact IntWalk.i64_in _ (by omega))
   have a3:=AZ (k:= .i64) (show (IntKind.i64).wrap (((p-1-d:Nat):Int)+((q:Nat):Int))=((p-1-d+q:Nat):Int) by rw [show ((p-1-d:Nat):Int)+((q:Nat):Int)=((p-1-d+q:Nat):Int) by omega];exact IntWalk.i64_in _ (by omega))
   have a4:=AZ (k:= .i64) (show (IntKind.i64).wrap (((p:Nat):Int)+((q:Nat):Int))=((p+q:Nat):Int) by rw [show ((p:Nat):Int)+((q:Nat):Int)=((p+q:Nat):Int) by omega];exact IntWalk.i64_in _ (by omega))
   obtain ⟨u,hu,hu'⟩:=BC (l:=near) (i:=p-1-d+q) (by omega)
   obtain ⟨v,hv,hv'⟩:=BC (l:=near) (i:=p+q) (by omega)
   have eu:nth near (p-1-d+q)=u:=AS hu'
   have ev:nth near (p+q)=v:=AS hv'
   have hne:=hdn (p-1-d) q (by omega) (by omega)
   rw [eu,ev] at hne
   have hx0:L[q]?=some (dbV (nth near) p t d q):=by
    rw [hL,Fl hq]
    unfold vsI
    rw [if_neg (Nat.lt_irrefl q)]
   have hup:upV (nth near) p t d (q+1)=dbV (nth near) p t d q*((t-u)/(v-u)):=by
    rw [FH]
    unfold shR
    rw [eu,ev]
   have hset:=UO (n:=nth near) (p:=p) (t:=t) (d:=d) (q:=q) (by omega)
   rw [←hL] at hset
   have zu:RSz J (upV (nth near) p t d (q+1)):=(Sm zn z2).mono (hg (d+1) (by omega))
   have zu0:RSz J (upV (nth near) p t d q):=(Sm zn z2).mono (hg (d+1) (by omega))
   have zw:RSz J (upV (nth near) p t d q+(dbV (nth near) p t d q-upV (nth near) p t d (q+1))):=by
    rw [PM]
    exact (Ii zn z2).mono (hg (d+1) (by omega))
   have zx:RSz J (dbV (nth near) p t d q):=(Ii zn z2).mono (hg d (by omega))
   obtain ⟨x,hxe⟩: ∃x,x=dbV (nth near) p t d q:=⟨_,rfl⟩
   obtain ⟨y,hye⟩: ∃y,y=upV (nth near) p t d q:=⟨_,rfl⟩
   obtain ⟨y1,hy1⟩: ∃y,y=upV (nth near) p t d (q+1):=⟨_,rfl⟩
   rw [←hxe] at hx0 hup hset zw zx
   rw [←hye] at hset zw zu0⊢
   rw [←hy1] at hup hset zw zu
   have hx:L[((q:Nat):Int).toNat]?=some x:=by rw [Int.toNat_natCast];exact hx0
   have H1:=P4 (j:=j) (k:=j) (m:=jt) (lo:=u) (hi:=v) (t:=t) (by omega) (by omega) (by omega) hne
   have M1:=Wr (j:=J) (k:=jt+j+3+(j+j+3)+2) (x:=x) (y:=(t-u)/(v-u)) (by omega) (by omega)
   rw [←hup] at M1
   have lt1:(0:Int)≤((q:Nat):Int)∧((q:Nat):Int)<(d+1:Nat):=by omega
   have st1:((q:Nat):Int).toNat*3+3≤(AE (nmD J) L).length:=by rw [hbl,Int.toNat_natCast];omega
   have ld1:=ED (f:=nmD J) (n:=3) inferInstance hx
   generalize (t-u)/(v-u)=h at H1 M1 hup
   have hupc:=hup
   clear hne eu ev hu' hv' hup hx0 hdn
   repeat (first
    | refine Ah ?_|refine Ad ?_|refine Ab rfl ?_|refine Ac rfl ?_
    | ((first|refine Al (by kernel_rfl) ?_|refine Aq (by kernel_rfl) (by kernel_rfl) (by kernel_rfl) ?_)
       repeat (first
        | refine DL (k:=30) st1 ld1 (hl:=?_)
        | refine An (hl:=?_)
        | refine Ai (hl:=?_)
        | refine Az (hl:=?_)
        | refine Ao (hl:=?_)
        | refine Da (hl:=?_)
        | refine At (hl:=?_)
        | refine AD (hl:=?_)
        | refine AC (hl:=?_)
        | refine Ak (hl:=?_)
        | refine AJ (hl:=?_)
        | refine AI (hl:=?_)
        | refine AK (hl:=?_)
        | refine AH (hl:=?_)
        | refine Ar (hl:=?_)
        | refine Au (hl:=?_)
        | refine Ek lt1 (hl:=?_)
        | refine C9 hu (by omega) (hl:=?_)
        | refine C9 hv (by omega) (hl:=?_)
        | refine Ap hA (hc:=H1) (hl:=?_)
        | refine Ap hA (hc:=M1) (hl:=?_))
       apply Ag.nil;try refine And.intro (by kernel_rfl) ?_)
    | refine Ae ?_|refine Af ?_)
   refine BW (ss:= [(1,Aj (p:Nat)),(5,.one (.ptr 5 0)),(9,Aj (i:Nat)),(10,.one (Ax j near)),(12,.one (.gl 30 (d+1) 3)),(13,Aj (d:Nat)),(14,.one (.ptr 14 0)),(15,Aj (q:Nat)),(16,.one (.ptr 16 0)),(17,.one (.ptr 17 0)),(31,Aj (p:Nat)),(32,Aj (d:Nat)),(35,.one (.gl 30 (d+1) 3)),(36,Aj (d+1:Nat)),(37,Aj (q:Nat))]) (bs:= [(5,nmC jt t),(30,AE (nmD J) L),(14,nmC J y1),(16,nmC J x),(17,nmC J y)]) ?_ ?_
   ·exact BH
   have S1:=Qy (j:=J) (k:=J) (x:=x) (y:=y1) (by omega) (by omega)
   have A1:=Ws (j:=J) (k:=J+J+3) (x:=y) (y:=x-y1) (by omega) (by omega)
   clear H1 M1
   repeat (first
    | refine Ah ?_|refine Ad ?_|refine Ab rfl ?_|refine Ac rfl ?_
    | ((first|refine Al (by kernel_rfl) ?_|refine Aq (by kernel_rfl) (by kernel_rfl) (by kernel_rfl) ?_)
       repeat (first
        | refine GP (k:=30) st1 (hl:=?_)
        | refine An (hl:=?_)
        | refine Ai (hl:=?_)
        | refine Az (hl:=?_)
        | refine Ao (hl:=?_)
        | refine Da (hl:=?_)
        | refine At (hl:=?_)
        | refine AD (hl:=?_)
        | refine AC (hl:=?_)
        | refine Ak (hl:=?_)
        | refine AJ (hl:=?_)
        | refine AI (hl:=?_)
        | refine AK (hl:=?_)
        | refine AH (hl:=?_)
        | refine Ar (hl:=?_)
        | refine Au (hl:=?_)
        | refine Ek lt1 (hl:=?_)
        | refine Ap hA (hc:=S1) (hl:=?_)
        | refine Ap hA (hc:=A1) (hl:=?_))
       apply Ag.nil;try refine And.intro (by kernel_rfl) ?_)
    | refine Ae ?_|refine Af ?_)
   refine ⟨c-1,by omega,q+1,L.set q (y+(x-y1)),by omega,by omega,hset,?_⟩
   rw [←hy1]
   refine D3 ?_ ?_ (by kernel_rfl)
   ·repeat (first|exact AR|refine List.forall_mem_cons.2 ⟨Ent.of_eq (by kernel_rfl),?_⟩)
   ·refine List.forall_mem_cons.2 ⟨Dk (by kernel_rfl) (EntL.of_eq (by kernel_rfl)) (by kernel_rfl),List.forall_mem_cons.2 ⟨Hg inferInstance (i:=q) (show q<L.length by omega) (cs:=nmC (J+(J+J+3)+3) (y+(x-y1))) (.cons (Aa.qe rfl zw) (.cons (Aa.qe rfl zw) (.cons (Aa.qe rfl zw) .nil))) (hz:=by exact rfl) (hm:=by kernel_rfl),?_⟩⟩
    repeat (first|exact AR|refine List.forall_mem_cons.2 ⟨Dk (by kernel_rfl) (EntL.of_eq (by kernel_rfl)) (by kernel_rfl),?_⟩)
  ·obtain rfl:q=d+1:=by omega
   have bq:=BO (k:= .i64) (decide_eq_false (show ¬((L.length:Nat):Int)<((L.length:Nat):Int) by omega))
   have hend:=UP (n:=nth near) (p:=p) (t:=t) (d:=d)
   rw [←hL] at hend
   generalize upV (nth near) p t d (d+1)=y at*
   rw [←hLl]
   repeat (first
    | refine Ah ?_|refine Ad ?_|refine Ab rfl ?_|refine Ac rfl ?_
    | ((first|refine Al (by kernel_rfl) ?_|refine Aq (by kernel_rfl) (by kernel_rfl) (by kernel_rfl) ?_)
       repeat (first
        | refine An (hl:=?_)
        | refine Ai (hl:=?_)
        | refine Az (hl:=?_)
        | refine Ao (hl:=?_)
        | refine Da (hl:=?_)
        | refine At (hl:=?_)
        | refine AD (hl:=?_)
        | refine AC (hl:=?_)
        | refine Ak (hl:=?_)
        | refine AJ (hl:=?_)
        | refine AI (hl:=?_)
        | refine AK (hl:=?_)
        | refine AH (hl:=?_)
        | refine Ar (hl:=?_)
        | refine Au (hl:=?_))
       apply Ag.nil;try refine And.intro (by kernel_rfl) ?_)
    | refine Ae ?_|refine Af ?_)
   try refine Ah ?_
   refine Cd 3 (by simp only [List.take_succ_cons,List.take_zero,List.drop_succ_cons,List.drop_zero];exact ⟨rfl,rfl⟩) (by kernel_rfl) ?_
   repeat (first
    | refine An (hl:=?_)
    | refine Ai (hl:=?_)
    | refine Az (hl:=?_)
    | refine Ao (hl:=?_)
    | refine Da (hl:=?_)
    | refine At (hl:=?_)
    | refine AD (hl:=?_)
    | refine AC (hl:=?_)
    | refine Ak (hl:=?_)
    | refine AJ (hl:=?_)
    | refine AI (hl:=?_)
    | refine AK (hl:=?_)
    | refine AH (hl:=?_)
    | refine Ar (hl:=?_)
    | refine Au (hl:=?_))
   apply Ag.nil
   refine EA (k:=30) (ss:= [(1,Aj (p:Nat)),(5,.one (.ptr 5 0)),(9,Aj (i:Nat)),(10,.one (Ax j near)),(31,Aj (p:Nat)),(32,Aj (d:Nat))]) (bs:= [(5,nmC jt t)]) (ns:=(nmC J y)) hD ?_ ?_ ?_
   ·exact ⟨by omega,by omega⟩
   ·exact BH
   repeat (refine Dt rfl ?_;(first|refine Ai (hl:=?_)|refine An (hl:=?_)|refine Ao (hl:=?_));apply Ag.nil)
   refine Du ?_
   repeat (first
    | refine Ah ?_|refine Ad ?_|refine Ab rfl ?_|refine Ac rfl ?_
    | ((first|refine Al (by kernel_rfl) ?_|refine Aq (by kernel_rfl) (by kernel_rfl) (by kernel_rfl) ?_)
       repeat (first
        | refine An (hl:=?_)
        | refine Ai (hl:=?_)
        | refine Az (hl:=?_)
        | refine Ao (hl:=?_)
        | refine Da (hl:=?_)
        | refine At (hl:=?_)
        | refine AD (hl:=?_)
        | refine AC (hl:=?_)
        | refine Ak (hl:=?_)
        | refine AJ (hl:=?_)
        | refine AI (hl:=?_)
        | refine AK (hl:=?_)
        | refine AH (hl:=?_)
        | refine Ar (hl:=?_)
        | refine Au (hl:=?_))
       apply Ag.nil;try refine And.intro (by kernel_rfl) ?_)
    | refine Ae ?_|refine Af ?_)
   refine ⟨m-1,by omega,d+1,L++ [y],by omega,by omega,hend,?_⟩
   exact BH
 ·have bi:=BO (k:= .i64) (decide_eq_false (show ¬((d:Nat):Int)<((p:Nat):Int) by omega))
  obtain rfl:d=p:=by omega
  rw [←hR] at hL
  repeat (first
   | refine Ah ?_|refine Ad ?_|refine Ab rfl ?_|refine Ac rfl ?_
   | ((first|refine Al (by kernel_rfl) ?_|refine Aq (by kernel_rfl) (by kernel_rfl) (by kernel_rfl) ?_)
      repeat (first
       | refine An (hl:=?_)
       | refine Ai (hl:=?_)
       | refine Az (hl:=?_)
       | refine Ao (hl:=?_)
       | refine Da (hl:=?_)
       | refine At (hl:=?_)
       | refine AD (hl:=?_)
       | refine AC (hl:=?_)
       | refine Ak (hl:=?_)
       | refine AJ (hl:=?_)
       | refine AI (hl:=?_)
       | refine AK (hl:=?_)
       | refine AH (hl:=?_)
       | refine Ar (hl:=?_)
       | refine Au (hl:=?_))
      apply Ag.nil;try refine And.intro (by kernel_rfl) ?_)
   | refine Ae ?_|refine Af ?_)
  refine Dq 30 hD (ss:= [(6,Aj (i-d:Nat)),(7,.one (Ax J L)),(8,Aj 0)]) (bs:= [(5,nmC jt t)]) ?_ ?_
  ·exact NM
  subst hL
  refine AG (And.intro (Or.inr rfl) ?_)
  exact DU
theorem Rb {j jt p:Nat} {l:List Rat} {t:Rat} (hj:j≤1000000) (hjt:jt≤1000000) (hl:l.length≤1000000) (hne:0<l.length) (hI:ivR l t= [Aj 0,Aj 7]):
  Ctr Tryz.prog Amb 38 [.one (Ax j l),Aj (p:Nat),nm jt t] (.tup [Aj 0,.one (Ax 0 []),Aj 7]):=by
 have A1:=We (j:=j) (jt:=jt) (p:=p) (l:=l) (t:=t) hj hjt hl hne hI
 have n2:=CI (k:= .i64) (decide_eq_true (show (7:Int)≠0 by omega))
 refine As Tryz.func38 rfl rfl rfl rfl rfl rfl ?_
 intro W0 base D μ0 hA hD
 repeat (first|refine Ah ?_|refine Ad ?_|refine Ab rfl ?_|refine Ac rfl ?_|refine AT ?_|refine AU ?_|refine Ae ?_|refine Af ?_)
 refine AG (And.intro (Or.inr rfl) ?_)
 exact DU (hE:=Ent.tup rfl (EntT.cons (Ent.of_eq rfl) rfl rfl (EntT.cons (Ent.one' rfl Aa.ratsNil) rfl rfl (EntT.cons (Ent.of_eq rfl) rfl rfl EntT.nil))))
theorem WQ {j jc jt p i:Nat} {l c:List Rat} {t:Rat} (hj:j≤1000000) (hjt:jt≤1000000) (hJ:gwt (j+1) (jt+1) (jc+1) p≤1000000) (hl:l.length≤1000000) (hp:1≤p∧p≤6) (hi:p≤i) (hi2:i+p+1<l.length) (hlt:l.getD i 0<l.getD (i+1) 0) (hI:ivR l t= [Aj (i:Nat),Aj 0]) (hc:c.length=l.length-p-1)
  (hd: ∀s j,s<p→j<p-s→kn l p i (p+j)-kn l p i (s+j)≠0):
  Ctr Tryz.prog Amb 40 [.one (Ax j l),Aj (p:Nat),.one (Ax jc c),nm jt t] (.tup [nm (gwt (j+1) (jt+1) (jc+1) p) (J0 l p i c (List.replicate p t)),Aj 0]):=by
 have A1:=XC (j:=j) (jt:=jt) (p:=p) (i:=i) (l:=l) (t:=t) hj hjt hl hp hi hi2 hlt hI
 have hcl:((c.take (i+1)).drop (i-p)).length=p+1:=by rw [List.length_drop,List.length_take];omega
 have P1:=SQ (jn:=j) (jc:=jc) (jt:=jt) (p:=p) (near:=Dw l p i) (c:=(c.take (i+1)).drop (i-p)) (args:=List.replicate p t) hj hjt hJ hp (Nl (by omega) (by omega)) hcl (by rw [List.length_replicate]) (fun s q hs hq=>by
  rw [DS (by omega) (by omega),DS (by omega) (by omega)]
  exact hd s q hs hq)
 rw [K9 hi] at P1
 have Q1:=EB (j:=j) (p:=p) hl (by omega)
 have R1:=SP (j:=jt) (p:=p) (t:=t) (by omega)
 have n1:=CI (k:= .i64) (decide_eq_false (show ¬((c.length:Nat):Int)≠((l.length-p-1:Nat):Int) by omega))
 have b1:=BB (k:= .i64) (show (IntKind.i64).wrap ((i:Int)-(p:Int))=((i-p:Nat):Int) by rw [show ((i:Int)-(p:Int))=((i-p:Nat):Int) by omega];exact IntWalk.i64_in _ (by omega))
 have b2:=AZ (k:= .i64) (show (IntKind.i64).wrap ((i:Int)+1)=((i+1:Nat):Int) from IntWalk.i64_in _ (by omega))
 generalize List.replicate p t=T at*
 refine As Tryz.func40 rfl rfl rfl rfl rfl rfl ?_
 intro W0 base D μ0 hA hD
 repeat (first
  | refine Ah ?_|refine Ad ?_|refine Ab rfl ?_|refine Ac rfl ?_
  | ((first|refine Al (by kernel_rfl) ?_|refine Aq (by kernel_rfl) (by kernel_rfl) (by kernel_rfl) ?_)
     repeat (first
      | refine F6 (f:=nmD jt) (la:= [t]) (hl:=?_)
      | refine An (hl:=?_)
      | refine Ai (hl:=?_)
      | refine Az (hl:=?_)
      | refine Ao (hl:=?_)
      | refine Da (hl:=?_)
      | refine At (hl:=?_)
      | refine A0 (hl:=?_)
      | refine A5 (hl:=?_)
      | refine AD (hl:=?_)
      | refine AC (hl:=?_)
      | refine AJ (hl:=?_)
      | refine AI (hl:=?_)
      | refine AK (hl:=?_)
      | refine AH (hl:=?_)
      | refine Ar (hl:=?_)
      | refine Au (hl:=?_)
      | refine Ap hA (hc:=A1) (hl:=?_)
      | refine Ap hA (hc:=Q1) (hl:=?_)
      | refine Ap hA (hc:=P1) (hl:=?_)
      | refine Ap hA (hc:=R1) (hl:=?_)
      | refine Hl (la:=c) (f:=nmD jc) (a:=i-p) (b:=i+1) (by omega) (by omega) (.some rfl rfl) (.some rfl rfl) (hl:=?_))
     apply Ag.nil;try refine And.intro (by kernel_rfl) ?_)
  | refine Ae ?_|refine Af ?_)
 refine AG (And.intro (Or.inr rfl) ?_)
 exact CW
theorem WS {j jc jt p:Nat} {l c:List Rat} {t:Rat} (hl:l.length≤1000000) (hp:p+1≤l.length) (h:c.length≠l.length-p-1):
  Ctr Tryz.prog Amb 40 [.one (Ax j l),Aj (p:Nat),.one (Ax jc c),nm jt t] (.tup [nm 2 0,Aj 1]):=by
 have Q1:=EB (j:=j) (p:=p) hl (by omega)
 have n1:=CI (k:= .i64) (decide_eq_true (show ((c.length:Nat):Int)≠((l.length-p-1:Nat):Int) by omega))
 refine As Tryz.func40 rfl rfl rfl rfl rfl rfl ?_
 intro W0 base D μ0 hA hD
 repeat (first|refine Ah ?_|refine Ad ?_|refine Ab rfl ?_|refine Ac rfl ?_|refine AT ?_|refine AU ?_|refine Ae ?_|refine Af ?_)
 refine AG (And.intro (Or.inr rfl) ?_)
 exact CW
theorem WR {j jc jt p:Nat} {l c:List Rat} {t:Rat} (hj:j≤1000000) (hjt:jt≤1000000) (hl:l.length≤1000000) (hp:p+1≤l.length) (hc:c.length=l.length-p-1) (hI:ivR l t= [Aj 0,Aj 7]):
  Ctr Tryz.prog Amb 40 [.one (Ax j l),Aj (p:Nat),.one (Ax jc c),nm jt t] (.tup [nm 2 0,Aj 7]):=by
 have A1:=We (j:=j) (jt:=jt) (p:=p) (l:=l) (t:=t) hj hjt hl (by omega) hI
 have Q1:=EB (j:=j) (p:=p) hl (by omega)
 have n1:=CI (k:= .i64) (decide_eq_false (show ¬((c.length:Nat):Int)≠((l.length-p-1:Nat):Int) by omega))
 have n2:=CI (k:= .i64) (decide_eq_true (show (7:Int)≠0 by omega))
 refine As Tryz.func40 rfl rfl rfl rfl rfl rfl ?_
 intro W0 base D μ0 hA hD
 repeat (first|refine Ah ?_|refine Ad ?_|refine Ab rfl ?_|refine Ac rfl ?_|refine AT ?_|refine AU ?_|refine Ae ?_|refine Af ?_)
 refine AG (And.intro (Or.inr rfl) ?_)
 exact CW
end Go.Proofs.YtkmalkcgkcpcmaaGreatDoor
