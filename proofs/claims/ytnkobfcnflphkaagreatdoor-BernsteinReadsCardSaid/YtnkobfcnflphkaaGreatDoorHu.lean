/-
  Several texts in one: Zl, Zo.
-/
import Derived.Test.YtnkobfcnflphkaaGreatDoorHw
import Derived.Test.YtnkobfcnflphkaaGreatDoorHz
import Derived.Test.YtnkobfcnflphkaaGreatDoorHv
namespace Go.Proofs.YtnkobfcnflphkaaGreatDoor
open Nat renaming le_refl→Zc
open List renaming getElem?_eq_getElem→Zd
set_option maxHeartbeats 16000000
open Go.RowKit
set_option linter.unusedVariables false
set_option linter.unusedSimpArgs false
set_option maxRecDepth 20000
abbrev inD (x:Int):List D:= [.v (.int .i64 x)]
instance:Elm 1 inD:=⟨fun _=>rfl,fun _=>rfl⟩
def Jt (n p q:Nat):Int:=if p<q then (bin (n+1) q:Int) else (bin n q:Int)
theorem Pm {n:Nat} :(tab (n+1) fun k=>(bin n k:Int))++ [1]=tab (n+2) (Jt n n):=by
 refine GD (by simp) fun q hq=>?_
 unfold Jt
 by_cases h:q<n+1
 ·rw [List.getElem?_append_left (by simpa using h),Dm h,if_neg (by omega)]
 ·obtain rfl:q=n+1:=by omega
  rw [List.getElem?_append_right (by simp),Ef,Nat.sub_self,if_pos (by omega),HJ];rfl
theorem TI {n:Nat} :tab (n+2) (Jt n 0)=tab (n+1+1) fun k=>(bin (n+1) k:Int):=Ax fun q hq=>by
 unfold Jt
 by_cases h:0<q
 ·rw [if_pos h]
 ·obtain rfl:q=0:=by omega
  rw [if_neg h,CJ,CJ]
theorem TH {n p:Nat} (hp:p<n):(tab (n+2) (Jt n (p+1))).set (p+1) ((bin n (p+1):Int)+(bin n p:Int))=tab (n+2) (Jt n p):=
 Cm (by omega) (by
  unfold Jt
  rw [if_pos (by omega)]
  show (((bin n p+bin n (p+1):Nat)):Int)=_
  omega) fun q hq hqp=>by
  unfold Jt
  by_cases h:p+1<q
  ·rw [if_pos h,if_pos (by omega)]
  ·rw [if_neg h,if_neg (by omega)]
theorem DV {n k:Nat} (h:n≤41):bin n k≤2199023255552:=Nat.le_trans (Qh n k) (Nat.le_trans (Nat.pow_le_pow_right (by decide) h) (by decide))
theorem Fv {n k:Nat} (h:n≤41):RSz 2 (AF n k):=by
 have:=DV (k:=k) h
 exact FX _ (by omega) (by omega)
theorem Mv {n k:Nat} (h:n≤41):IZ 2 (AF n k):=IZ.nat (Aj _ _ (by have:=DV (k:=k) h;omega))
theorem ES {n:Nat} (hn:n≤40):Ctr Tryz.prog Amb 99 [At (n:Nat)] (.one (Cs 2 (n+1) (AF n))):=by
 refine Am Tryz.func99 rfl rfl rfl rfl rfl rfl ?_
 intro W0 base D μ0 hA hD
 repeat (first|refine Af ?_|refine Ac ?_|refine Aa rfl ?_|refine Ab rfl ?_|refine Ak ?_|refine Al ?_|refine Ad ?_|refine Ae ?_)
 refine AK (fun m σ=> ∃(i:Nat) (row:List Int),m=n-i∧i≤n∧row=tab (i+1) (fun k=>(bin i k:Int))∧Wk ⟨W0,base,D,51,[],μ0⟩ σ [(3,.one (.gl 8 row.length 1)),(9,At (n:Nat)),(10,At (i:Nat))] [(8,An inD row)]) (n:=n) ⟨0,[1],by omega,by omega,rfl,?_⟩ ?_
 ·exact AS
 intro m σ hI
 obtain ⟨i,row,hm,hi0,hrow,hw⟩:=hI
 refine A5 hw ?_
 clear hw
 have hrl:row.length=i+1:=by rw [hrow];simp
 by_cases hi:i<n
 ·have bi:=AJ (k:= .i64) (decide_eq_true (show (i:Int)<(n:Int) by omega))
  have hin:=AL (k:= .i64) (show (IntKind.i64).wrap ((i:Int)+1)=((i+1:Nat):Int) from IntWalk.i64_in _ (by omega))
  have hst:=Pm (n:=i)
  rw [←hrow] at hst
  have hl2:(row++ [(1:Int)]).length=i+2:=by simp;omega
  have h2:=BI (k:= .i64) (show (IntKind.i64).wrap (((i+2:Nat):Int)-2)=(i:Int) by rw [show (((i+2:Nat):Int)-2)=(i:Int) by omega];exact IntWalk.i64_in _ (by omega))
  repeat (first|refine Af ?_|refine Ac ?_|refine Aa rfl ?_|refine Ab rfl ?_|refine Ak ?_|refine Al ?_|refine Ad ?_|refine Ae ?_)
  try refine Af ?_
  refine Et 2 (by simp only [List.take_succ_cons,List.take_zero,List.drop_succ_cons,List.drop_zero];exact ⟨rfl,rfl⟩) (by kernel_rfl) ?_
  repeat (first
   | refine AZ (hl:=?_)
   | refine AC (hl:=?_)
   | refine BU (hl:=?_)
   | refine BN (hl:=?_)
   | refine B5 (hl:=?_)
   | refine AO (hl:=?_)
   | refine Cv (hl:=?_)
   | refine Cu (hl:=?_)
   | refine Cw (hl:=?_)
   | refine Cj (hl:=?_)
   | refine B8 (hl:=?_)
   | refine Cf (hl:=?_))
  apply Ai.nil
  refine Iw (k:=8) (ss:= [(9,At (n:Nat)),(10,At (i:Nat))]) (bs:= []) (ns:= [.v (.int .i64 1)]) hD ?_ ?_ ?_
  ·exact ⟨by omega,by omega⟩
  ·exact AS
  repeat (refine FU rfl ?_;(first|refine AC (hl:=?_)|refine AZ (hl:=?_)|refine BN (hl:=?_));apply Ai.nil)
  refine FV ?_
  refine A5 (ss:= [(3,.one (.gl 8 (i+2) 1)),(9,At (n:Nat)),(10,At (i:Nat))]) (bs:= [(8,An inD (row++ [1]))]) ?_ ?_
  ·exact AS
  rw [hst]
  repeat (first|refine Af ?_|refine Ac ?_|refine Aa rfl ?_|refine Ab rfl ?_|refine Ak ?_|refine Al ?_|refine Ad ?_|refine Ae ?_)
  refine AK (fun c σ=> ∃(p:Nat) (row:List Int),c=p∧p≤i∧row=tab (i+2) (Jt i p)∧Wk ⟨W0,base,D,51,[],μ0⟩ σ [(3,.one (.gl 8 (i+2) 1)),(4,At (p:Nat)),(9,At (n:Nat)),(10,At (i:Nat))] [(8,An inD row)]) (n:=i) ⟨i,_,rfl,Zc _,rfl,?_⟩ ?_
  ·exact AS
  clear hst hrow hrl hl2 row
  intro c σ hI
  obtain ⟨p,row,hc,hp0,hrow,hw⟩:=hI
  refine A5 hw ?_
  clear hw
  have hrl:row.length=i+2:=by rw [hrow];simp
  cases p with
  | succ p=>
    have bp:=DH (k:= .i64) (decide_eq_true (show ((p+1:Nat):Int)>0 by omega))
    have hdn:=BI (k:= .i64) (show (IntKind.i64).wrap (((p+1:Nat):Int)-1)=(p:Int) by rw [show (((p+1:Nat):Int)-1)=(p:Int) by omega];exact IntWalk.i64_in _ (by omega))
    have hx:row[((p+1:Nat):Int).toNat]?=some (bin i (p+1):Int):=by
     rw [hrow,A8 (by omega)]
     unfold Jt
     rw [if_neg (Nat.lt_irrefl _)]
    have hy:row[((p:Nat):Int).toNat]?=some (bin i p:Int):=by
     rw [hrow,A8 (by omega)]
     unfold Jt
     rw [if_neg (by omega)]
    have b1:=DV (n:=i) (k:=p+1) (by omega)
    have b2:=DV (n:=i) (k:=p) (by omega)
    have ht:=TH (n:=i) (p:=p) (by omega)
    rw [←hrow] at ht
    have hadd:=AL (k:= .i64) (show (IntKind.i64).wrap ((bin i (p+1):Int)+(bin i p:Int))=(bin i (p+1):Int)+(bin i p:Int) from IntWalk.i64_in _ (by omega))
    have lt1:(0:Int)≤((p+1:Nat):Int)∧((p+1:Nat):Int)<((i+2:Nat):Int):=by omega
    have lt2:(0:Int)≤((p:Nat):Int)∧((p:Nat):Int)<((i+2:Nat):Int):=by omega
    have st1:((p+1:Nat):Int).toNat*1+1≤(An inD row).length:=by rw [AA (n:=1) inferInstance,Int.toNat_natCast];omega
    have st2:((p:Nat):Int).toNat*1+1≤(An inD row).length:=by rw [AA (n:=1) inferInstance,Int.toNat_natCast];omega
    have ld1:=Ca (f:=inD) (n:=1) inferInstance hx
    have ld2:=Ca (f:=inD) (n:=1) inferInstance hy
    generalize (bin i (p+1):Int)=x at*
    generalize (bin i p:Int)=y at*
    repeat (first|refine Af ?_|refine Ac ?_|refine Aa rfl ?_|refine Ab rfl ?_|refine Ak ?_|refine Al ?_|refine Ad ?_|refine Ae ?_)
    refine ⟨p,by omega,p,row.set (p+1) (x+y),rfl,by omega,ht,?_⟩
    exact AS
  | zero=>
    have bp:=DH (k:= .i64) (decide_eq_false (show ¬((0:Nat):Int)>0 by omega))
    rw [TI] at hrow
    repeat (first|refine Af ?_|refine Ac ?_|refine Aa rfl ?_|refine Ab rfl ?_|refine Ak ?_|refine Al ?_|refine Ad ?_|refine Ae ?_)
    refine ⟨m-1,by omega,i+1,row,by omega,by omega,hrow,?_⟩
    exact AS
 ·have bi:=AJ (k:= .i64) (decide_eq_false (show ¬(i:Int)<(n:Int) by omega))
  obtain rfl:i=n:=by omega
  repeat (first|refine Af ?_|refine Ac ?_|refine Aa rfl ?_|refine Ab rfl ?_|refine Ak ?_|refine Al ?_|refine Ad ?_|refine Ae ?_)
  refine AK (fun m σ=> ∃(q:Nat) (cur:List Rat),m=i+1-q∧q≤i+1∧cur=tab (i+1) (fun k=>if k<q then AF i k else 0)∧Wk ⟨W0,base,D,51,[],μ0⟩ σ [(5,.one (.gl 36 row.length 3)),(37,.one (.gl 8 row.length 1)),(38,At (row.length:Nat)),(39,At (q:Nat))] [(8,An inD row),(36,An (nmD 2) cur)]) (n:=i+1) ⟨0,List.replicate row.length 0,by omega,by omega,by rw [hrl];exact Ee.trans (Ax fun q _=>(if_neg (Nat.not_lt_zero q)).symm),?_⟩ ?_
  ·exact AS
  intro m σ hI
  obtain ⟨q,cur,hm,hq0,hcur,hw⟩:=hI
  refine A5 hw ?_
  clear hw
  have hcl:cur.length=i+1:=by rw [hcur];simp
  by_cases hq:q<i+1
  ·have bq:=AJ (k:= .i64) (decide_eq_true (show (q:Int)<(row.length:Int) by omega))
   have hin:=AL (k:= .i64) (show (IntKind.i64).wrap ((q:Int)+1)=((q+1:Nat):Int) from IntWalk.i64_in _ (by omega))
   have hx:row[((q:Nat):Int).toNat]?=some (bin i q:Int):=by rw [hrow];exact A8 (g:=fun k=>(bin i k:Int)) hq
   have b1:=DV (n:=i) (k:=q) (by omega)
   have I1:=Vj (n:=(bin i q:Int)) (by rw [decide_eq_true (show-9223372036854775808≤(bin i q:Int) by omega),decide_eq_true (show (bin i q:Int)<9223372036854775808 by omega)];rfl)
   have ht:cur.set q (AF i q)=tab (i+1) (fun k=>if k<q+1 then AF i k else 0):=by
    rw [hcur]
    refine Cm hq (if_pos (by omega)) fun k hk hkq=>?_
    by_cases h1:k<q
    ·rw [if_pos h1,if_pos (by omega)]
    ·rw [if_neg h1,if_neg (by omega)]
   have lt1:(0:Int)≤((q:Nat):Int)∧((q:Nat):Int)<(row.length:Nat):=by omega
   have st1:((q:Nat):Int).toNat*1+1≤(An inD row).length:=by rw [AA (n:=1) inferInstance,Int.toNat_natCast];omega
   have st2:((q:Nat):Int).toNat*3+3≤(An (nmD 2) cur).length:=by rw [AA (n:=3) inferInstance,Int.toNat_natCast];omega
   have ld1:=Ca (f:=inD) (n:=1) inferInstance hx
   unfold AF at ht
   generalize ((bin i q:Int):Rat)=y at*
   generalize (bin i q:Int)=x at*
   repeat (first|refine Af ?_|refine Ac ?_|refine Aa rfl ?_|refine Ab rfl ?_|refine Ak ?_|refine Al ?_|refine Ad ?_|refine Ae ?_)
   refine ⟨m-1,by omega,q+1,cur.set q y,by omega,by omega,ht,?_⟩
   exact AS
  ·have bq:=AJ (k:= .i64) (decide_eq_false (show ¬(q:Int)<(row.length:Int) by omega))
   have he:cur=tab (i+1) (AF i):=by rw [hcur];exact Ax fun k hk=>if_pos (by omega)
   rw [show row.length=cur.length by omega] at*
   repeat (first|refine Af ?_|refine Ac ?_|refine Aa rfl ?_|refine Ab rfl ?_|refine Ak ?_|refine Al ?_|refine Ad ?_|refine Ae ?_)
   refine BG 36 hD (ss:= [(2,.one (Ap 2 cur))]) (bs:= []) ?_ ?_
   ·exact In
   subst he
   refine As (And.intro (Or.inr rfl) ?_)
   exact AX
theorem WS {n k:Nat} (hn:n≤41) (hk:k≤n):RSz 2 (chR (n:Nat) k):=by rw [Mr n k hk];exact Fv hn
theorem Ji {n k:Nat} (hn:n≤40) (hk:k≤n):Ctr Tryz.prog Amb 106 [At (n:Nat),At (k:Nat)] (nm 2 (AF n k)):=by
 have I1:=QJ (n:=1) rfl
 rw [←Mr n k hk]
 refine Am Tryz.func106 rfl rfl rfl rfl rfl rfl ?_
 intro W0 base D μ0 hA hD
 repeat (first|refine Af ?_|refine Ac ?_|refine Aa rfl ?_|refine Ab rfl ?_|refine Ak ?_|refine Al ?_|refine Ad ?_|refine Ae ?_)
 refine AK (fun m σ=> ∃(i:Nat),m=k-i∧i≤k∧Wk ⟨W0,base,D,22,[],μ0⟩ σ [(0,At (n:Nat)),(1,At (k:Nat)),(4,.one (.ptr 4 0)),(5,.one (.ptr 5 0)),(6,At (i:Nat))] [(4,nmC 2 0),(5,nmC 2 (chR (n:Nat) i))]) (n:=k) ⟨0,by omega,by omega,?_⟩ ?_
 ·exact AS
 intro m σ hI
 obtain ⟨i,hm,hi0,hw⟩:=hI
 refine A5 hw ?_
 clear hw
 by_cases hi:i<k
 ·have bi:=AJ (k:= .i64) (decide_eq_true (show (i:Int)<(k:Int) by omega))
  have hin:=AL (k:= .i64) (show (IntKind.i64).wrap ((i:Int)+1)=(((i:Nat):Int)+1:Int) from IntWalk.i64_in _ (by omega))
  have hni:=BI (k:= .i64) (show (IntKind.i64).wrap ((n:Int)-(i:Int))=((n:Nat)-(i:Nat):Int) from IntWalk.i64_in _ (by omega))
  have F1:=LP (n:=((n:Nat):Int)-((i:Nat):Int)) (d:=((i:Nat):Int)+1) (by
   rw [decide_eq_true (show-9223372036854775808≤((n:Nat):Int)-((i:Nat):Int) by omega),decide_eq_true (show ((n:Nat):Int)-((i:Nat):Int)<9223372036854775808 by omega),decide_eq_true (show 1≤((i:Nat):Int)+1 by omega),decide_eq_true (show ((i:Nat):Int)+1<9223372036854775808 by omega)];rfl)
  have M1:=Nw (j:=2) (k:=2) (x:=chR (n:Nat) i) (y:=((((n:Nat):Int)-((i:Nat):Int):Int):Rat)/(((((i:Nat):Int)+1:Int)):Rat)) (by omega) (by omega)
  have hz:RSz 2 (chR (n:Nat) (i+1)):=WS (by omega) (by omega)
  have he:chR (n:Nat) i*(((((n:Nat):Int)-((i:Nat):Int):Int):Rat)/(((((i:Nat):Int)+1:Int)):Rat))=chR (n:Nat) (i+1):=rfl
  generalize chR (n:Nat) i=y at*
  repeat (first|refine Af ?_|refine Ac ?_|refine Aa rfl ?_|refine Ab rfl ?_|refine Ak ?_|refine Al ?_|refine Ad ?_|refine Ae ?_)
  refine ⟨m-1,by omega,i+1,by omega,by omega,?_⟩
  exact AS
 ·have bi:=AJ (k:= .i64) (decide_eq_false (show ¬(i:Int)<(k:Int) by omega))
  obtain rfl:i=k:=by omega
  repeat (first|refine Af ?_|refine Ac ?_|refine Aa rfl ?_|refine Ab rfl ?_|refine Ak ?_|refine Al ?_|refine Ad ?_|refine Ae ?_)
  refine As (And.intro (Or.inr rfl) ?_)
  exact AX
theorem IZ.add {b c:Nat} {x y:Rat} (h:IZ b x) (k:IZ b y) (hc:b+1≤c):IZ c (x+y):=by
 obtain ⟨z,rfl,hz⟩:=h
 obtain ⟨w,rfl,hw⟩:=k
 exact ⟨z+w,(Rat.intCast_add _ _).symm,((hz.plus hw).le (Int.natAbs_add_le _ _)).mono hc⟩
theorem IZ.zero {b:Nat} :IZ b 0:=⟨0,rfl,Aj _ _ (Nat.pow_pos (by decide))⟩
theorem Re {a b:Nat→Rat} {c m n:Nat} (ha: ∀i j,i≤m→j≤n→IZ c (a i*b j)): ∀i k,i≤m+1→IZ (c+i) (Cq a b n i k)
 | 0,_,_=>IZ.zero
 | i+1,k,h=>by
   have h1:=Re ha i k (by omega)
   refine IZ.add h1 ?_ (by omega)
   split
   ·rename_i hh;exact (ha i (k-i) (by omega) (by omega)).mono (by omega)
   ·exact IZ.zero
theorem Vc {a b:Nat→Rat} {c m n:Nat} (ha: ∀i j,i≤m→j≤n→IZ c (a i*b j)) {i j k:Nat} (hi:i≤m) (hj:j≤n+1):IZ (c+(m+1)) (Dj a b n i j k):=by
 refine IZ.add (Re ha i k (by omega)) ?_ (by omega)
 split
 ·rename_i hh;exact (ha i (k-i) hi (by omega)).mono (by omega)
 ·exact IZ.zero
theorem Jo {j J n:Nat} {l:List Rat} (hl:l.length=n+1) (hn:n≤40) (hj:j≤10000) (hr: ∀r∈l,RSz j r) (hJ:(n+1)*j+2+j+4≤J) (hJ2:J≤10000000):
  Cy Tryz.prog Amb 118 [.one (Ap j l)] [] [(26,An (nmD J) (tab (n+1) fun i=>whS DP l*cf l i*AF n i))] (.tup [.one (.gl 26 (n+1) 3),nm ((n+1)*j+2) (whS DP l)]):=by
 obtain ⟨M,hM0,_,hMS,hMsz,hint⟩:=Dy l 1 2 (by decide) (Aj _ _ (by decide)) hr
 have W1:=FW (J:=J) hl (by omega) (by omega) hr (by omega)
 obtain ⟨S,hS⟩: ∃S,S=whS DP l:=⟨_,rfl⟩
 rw [←hS] at W1⊢
 have hSM:S=((M:Int):Rat):=hS.trans hMS
 rw [hl] at hMsz
 have hz: ∀i,i≤n→RSz J (S*l.getD i 0*AF n i):=fun i hi=>by
  have hlt:i<l.length:=by omega
  have hm:l.getD i 0∈l:=by
   rw [List.getD_eq_getElem?_getD,Zd hlt]
   exact List.getElem_mem hlt
  rw [hSM]
  exact (((IZ.scaled hMsz (hr _ hm) (hint _ hm)).mul (Mv (n:=n) (k:=i) (by omega))).rsz (by omega)).mono (by omega)
 have B1:=ES hn
 have hdn:=BI (k:= .i64) (show (IntKind.i64).wrap ((l.length:Int)-1)=(n:Int) by rw [show ((l.length:Int)-1)=(n:Int) by omega];exact IntWalk.i64_in _ (by omega))
 clear hint hMS hS hSM hr hMsz hM0
 obtain ⟨F,hF⟩: ∃F,F=tab (n+1) fun i=>S*l.getD i 0:=⟨_,rfl⟩
 obtain ⟨R,hR⟩: ∃R,R=tab (n+1) fun i=>S*l.getD i 0*AF n i:=⟨_,rfl⟩
 obtain ⟨G,hG⟩: ∃G,G=tab (n+1) (AF n):=⟨_,rfl⟩
 have hFl:F.length=n+1:=by rw [hF];simp
 have hRl:R.length=n+1:=by rw [hR];simp
 unfold Cs at B1
 rw [←hF] at W1
 rw [←hG] at B1
 show Cy Tryz.prog Amb 118 [.one (Ap j l)] [] [(26,An (nmD J) (tab (n+1) fun i=>S*l.getD i 0*AF n i))] _
 rw [←hR]
 have hbl:0<(An (nmD J) F).length:=Cb (n:=3) inferInstance (by decide) (by omega)
 have hne':(!(An (nmD J) R).isEmpty)=true:=by
  have:=Cb (f:=nmD J) inferInstance (by decide) (show 0<R.length by omega)
  cases hb:An (nmD J) R with
  | nil=>rw [hb] at this;cases this
  | cons a b=>rfl
 refine CV Tryz.func118 rfl rfl rfl rfl (by
  simp only [List.all_cons,List.all_nil,Bool.and_true,Bool.and_eq_true]
  exact ⟨by simp [inA,inC],Cr _ _,hne'⟩) (by simp [inA,inC]) (by simp) (by simp) ?_
 intro W0 base D μ0 hA hD
 repeat (first|refine Af ?_|refine Ac ?_|refine Aa rfl ?_|refine Ab rfl ?_|refine Ak ?_|refine Al ?_|refine Ad ?_|refine Ae ?_)
 refine AK (fun m σ=> ∃(i:Nat) (cur:List Rat),m=n+1-i∧i≤n+1∧cur=tab (n+1) (fun q=>if q<i then S*l.getD q 0*AF n q else S*l.getD q 0)∧Wk ⟨W0,base,D,37,[],μ0⟩ σ [(3,.one (.ptr 3 0)),(4,.one (.gl 26 (n+1) 3)),(5,.one (.ptr 5 0)),(6,.one (Ap 2 G)),(18,At ((n+1:Nat):Int)),(19,At (i:Nat))] [(3,nmC 2 0),(5,nmC ((n+1)*j+2) S),(26,An (nmD J) cur)]) (n:=n+1) ⟨0,F,by omega,by omega,hF.trans (Ax fun q _=>(if_neg (Nat.not_lt_zero q)).symm),?_⟩ ?_
 ·exact AS
 intro m σ hI
 obtain ⟨i,cur,hm,hi0,hcur,hw⟩:=hI
 refine A5 hw ?_
 clear hw
 have hcl:cur.length=n+1:=by rw [hcur];simp
 by_cases hi:i<n+1
 ·have bi:=AJ (k:= .i64) (decide_eq_true (show (i:Int)<((n+1:Nat):Int) by omega))
  have hin:=AL (k:= .i64) (show (IntKind.i64).wrap ((i:Int)+1)=((i+1:Nat):Int) from IntWalk.i64_in _ (by omega))
  have hx:cur[((i:Nat):Int).toNat]?=some (S*l.getD i 0):=by rw [hcur,A8 hi,if_neg (Nat.lt_irrefl i)]
  have hy:G[((i:Nat):Int).toNat]?=some (AF n i):=by rw [hG];exact A8 hi
  have hlt:(0:Int)≤((i:Nat):Int)∧((i:Nat):Int)<((n+1:Nat):Int):=by omega
  have hst:((i:Nat):Int).toNat*3+3≤(An (nmD J) cur).length:=by rw [AA (n:=3) inferInstance,hcl,Int.toNat_natCast];omega
  have ld:=Ca (f:=nmD J) (n:=3) inferInstance hx
  have hz1:=hz i (by omega)
  have ht:=WC (c:=fun q=>S*l.getD q 0) (g:=AF n) hi
  replace ht:cur.set i (S*l.getD i 0*AF n i)=tab (n+1) (fun q=>if q<i+1 then S*l.getD q 0*AF n q else S*l.getD q 0):=by rw [hcur];exact ht
  have M4:=FP (j:=J) (k:=2) (x:=S*l.getD i 0) (y:=AF n i) (by omega) (by omega)
  generalize S*l.getD i 0=x at*
  unfold AF at*
  generalize ((bin n i:Int):Rat)=y at*
  repeat (first|refine Af ?_|refine Ac ?_|refine Aa rfl ?_|refine Ab rfl ?_|refine Ak ?_|refine Al ?_|refine Ad ?_|refine Ae ?_)
  refine ⟨m-1,by omega,i+1,cur.set i (x*y),by omega,by omega,ht,?_⟩
  exact AS
 ·have bi:=AJ (k:= .i64) (decide_eq_false (show ¬(i:Int)<((n+1:Nat):Int) by omega))
  have he:cur=R:=by rw [hcur,hR];exact Ax fun q hq=>if_pos (by omega)
  subst he
  repeat (first|refine Af ?_|refine Ac ?_|refine Aa rfl ?_|refine Ab rfl ?_|refine Ak ?_|refine Al ?_|refine Ad ?_|refine Ae ?_)
  refine As (And.intro (Or.inr rfl) (PX ?_))
  exact List.forall_mem_cons.2 ⟨.inl (AN inferInstance),Aq⟩
theorem XT {ja js jw i:Nat} {l m:List Rat} {x y s:Rat} (hx:l[((i:Nat):Int).toNat]?=some x) (hy:m[((i:Nat):Int).toNat]?=some y) (h1:ja≤10000000) (h2:js≤10000000) (h3:jw≤10000000) (h0:s*y≠0):
  BF Tryz.prog Amb 119 [At (i:Nat),.one (.ptr 901 0),.one (.ptr 902 0),.one (.ptr 903 0)] [(901,[Ap ja l],[Ap ja l]),(902,nmC js s,nmC js s),(903,[Ap jw m],[Ap jw m])] (nm (ja+(js+jw+2)+2) (x/(s*y))):=by
 have M1:=FP (j:=js) (k:=jw) (x:=s) (y:=y) (by omega) (by omega)
 have O1:=GI (j:=ja) (k:=js+jw+2) (x:=x) (y:=s*y) (by omega) (by omega) h0
 apply Am Tryz.func119 rfl rfl rfl rfl rfl
 case hin=>simp [inA,inC]
 intro W0 base D μ0 hA hD
 repeat (first|refine Af ?_|refine Ac ?_|refine Aa rfl ?_|refine Ab rfl ?_|refine Ak ?_|refine Al ?_|refine Ad ?_|refine Ae ?_)
 refine As (And.intro (Or.inr rfl) ?_)
 exact PY (hb:=by repeat (first|exact Aq|refine List.forall_mem_cons.2 ⟨⟨rfl,rfl,rfl⟩,?_⟩))
def wgt (n:Nat) (f:Nat→Rat) (i:Nat):Rat:=AF n i*f i
def L8 (f g:Nat→Rat) (m n k:Nat):Rat:=Cq (wgt m f) (wgt n g) n (m+1) k/AF (m+n) k
theorem PL {s t:Rat} {f g:Nat→Rat} {m n k:Nat} (hs:s≠0) (ht:t≠0) (hk:k≤m+n):Cq (fun i=>s*f i*AF m i) (fun i=>t*g i*AF n i) n (m+1) k/(s*t*AF (m+n) k)=L8 f g m n k:=by
 have e:Cq (fun i=>s*f i*AF m i) (fun i=>t*g i*AF n i) n (m+1) k=s*t*Cq (wgt m f) (wgt n g) n (m+1) k:=by
  rw [←IK]
  exact Ga (fun q _=>by unfold wgt;grind) (fun q _=>by unfold wgt;grind)
 rw [e]
 unfold L8
 have h1:=Ek hk
 have h2:=Dq hs ht
 generalize s*t=c at*
 generalize AF (m+n) k=b at*
 generalize Cq (wgt m f) (wgt n g) n (m+1) k=x at*
 have h3:=Dq h2 h1
 grind
theorem XS {j k m n:Nat} {p q:List Rat} (hp:p.length=m+1) (hq:q.length=n+1) (hmn:m+n≤40) (hj:j≤10000) (hk:k≤10000) (hr: ∀r∈p,RSz j r) (hr2: ∀r∈q,RSz k r):
  Ctr Tryz.prog Amb 45 [.one (Ap j p),.one (Ap k q)] (.tup [.one (Ap 5000000 (tab (m+n+1) (L8 (cf p) (cf q) m n))),At 0]):=by
 have hNA:(m+1)*j≤41*10000:=Nat.mul_le_mul (by omega) hj
 have hNB:(n+1)*k≤41*10000:=Nat.mul_le_mul (by omega) hk
 obtain ⟨J,hJ⟩: ∃J,J=1000000:=⟨_,rfl⟩
 obtain ⟨M,hM0,_,hMS,hMsz,hint⟩:=Dy p 1 2 (by decide) (Aj _ _ (by decide)) hr
 obtain ⟨Q,hQ0,_,hQS,hQsz,hqnt⟩:=Dy q 1 2 (by decide) (Aj _ _ (by decide)) hr2
 have W1:=Jo (J:=J) hp (by omega) hj hr (by omega) (by omega)
 have W2:=Jo (J:=J) hq (by omega) hk hr2 (by omega) (by omega)
 obtain ⟨S,hS⟩: ∃S,S=whS DP p:=⟨_,rfl⟩
 obtain ⟨T,hT⟩: ∃T,T=whS DP q:=⟨_,rfl⟩
 rw [←hS] at W1
 rw [←hT] at W2
 have hSM:S=((M:Int):Rat):=hS.trans hMS
 have hTQ:T=((Q:Int):Rat):=hT.trans hQS
 have hS0:S≠0:=by rw [hSM];exact FE hM0
 have hT0:T≠0:=by rw [hTQ];exact FE hQ0
 rw [hp] at hMsz
 rw [hq] at hQsz
 obtain ⟨a,ha⟩: ∃a:Nat→Rat,a=fun i=>S*cf p i*AF m i:=⟨_,rfl⟩
 obtain ⟨b,hb⟩: ∃b:Nat→Rat,b=fun i=>T*cf q i*AF n i:=⟨_,rfl⟩
 have hva: ∀i,i≤m+n→Cq a b n (m+1) i/(S*T*AF (m+n) i)=L8 (cf p) (cf q) m n i:=fun i hi=>by rw [ha,hb];exact PL hS0 hT0 hi
 have iz: ∀i j',i≤m→j'≤n→IZ (900000) (a i*b j'):=fun i j' hi hj'=>by
  have h1:cf p i∈p:=by
   have hlt:i<p.length:=by omega
   unfold cf
   rw [List.getD_eq_getElem?_getD,Zd hlt];exact List.getElem_mem hlt
  have h2:cf q j'∈q:=by
   have hlt:j'<q.length:=by omega
   unfold cf
   rw [List.getD_eq_getElem?_getD,Zd hlt];exact List.getElem_mem hlt
  rw [ha,hb,hSM,hTQ]
  exact (((IZ.scaled hMsz (hr _ h1) (hint _ h1)).mul (Mv (n:=m) (k:=i) (by omega))).mul ((IZ.scaled hQsz (hr2 _ h2) (hqnt _ h2)).mul (Mv (n:=n) (k:=j') (by omega)))).mono (by omega)
 have hcz: ∀i j' k',i≤m→j'≤n+1→RSz J (Dj a b n i j' k'):=fun i j' k' hi hj'=>((Vc iz hi hj').rsz (by omega)).mono (by omega)
 have W1':Cy Tryz.prog Amb 118 [.one (Ap j p)] [] [(26,An (nmD J) (tab (m+1) a))] (.tup [.one (.gl 26 (m+1) 3),nm ((m+1)*j+2) S]):=by rw [ha];exact W1
 have W2':Cy Tryz.prog Amb 118 [.one (Ap k q)] [] [(126,An (nmD J) (tab (n+1) b))] (.tup [.one (.gl 126 (n+1) 3),nm ((n+1)*k+2) T]):=by
  have h:=W2.at1 rfl (I6 _) 126
  rw [hb]
  exact h
 clear W1 W2 ha hb hint hqnt hMS hQS hS hT hSM hTQ hM0 hQ0 hMsz hQsz hr hr2 iz
 have M3:=FP (j:=(m+1)*j+2) (k:=(n+1)*k+2) (x:=S) (y:=T) (by omega) (by omega)
 obtain ⟨N,hN⟩: ∃N,N=m+n:=⟨_,rfl⟩
 have Bi:=ES (n:=N) (by omega)
 have hST:S*T≠0:=Dq hS0 hT0
 have B1:=Y4 (g:=119) (n:=N) (J:=5000000) (h:=L8 (cf p) (cf q) m n) (c0:=Ap J (tab (N+1) (Cq a b n (m+1)))) (c1:= .q (S*T) ((m+1)*j+2+((n+1)*k+2)+2) 0) (c2:= .q (S*T) ((m+1)*j+2+((n+1)*k+2)+2) 1) (c3:= .q (S*T) ((m+1)*j+2+((n+1)*k+2)+2) 2) (c4:=Ap 2 (tab (N+1) (AF N))) rfl rfl rfl rfl rfl rfl rfl rfl rfl rfl (k1:=11) (k2:=14) (k3:=15) (by omega) (fun i hi=>by
  rw [←hva i (by omega),←hN]
  have h:=XT (ja:=J) (js:=(m+1)*j+2+((n+1)*k+2)+2) (jw:=2) (i:=i) (l:=tab (N+1) (Cq a b n (m+1))) (m:=tab (N+1) (AF N)) (s:=S*T) (A8 (by omega)) (A8 (by omega)) (by omega) (by omega) (by omega) (Dq hST (Ek hi))
  exact BF.weak h (Ents.of_eq rfl) (Ent.agg (.cons (.q rfl (by omega)) (.cons (.q rfl (by omega)) (.cons (.q rfl (by omega)) .nil))))) (by decide)
 rw [←hN]
 obtain ⟨R0,hR0⟩: ∃R0,R0=tab (N+1) (L8 (cf p) (cf q) m n):=⟨_,rfl⟩
 obtain ⟨A,hA1⟩: ∃A,A=tab (m+1) a:=⟨_,rfl⟩
 obtain ⟨B,hB1⟩: ∃B,B=tab (n+1) b:=⟨_,rfl⟩
 obtain ⟨C,hC1⟩: ∃C,C=tab (N+1) (Cq a b n (m+1)):=⟨_,rfl⟩
 obtain ⟨G,hG1⟩: ∃G,G=tab (N+1) (AF N):=⟨_,rfl⟩
 unfold Cs at B1 Bi
 rw [←hR0] at B1⊢
 rw [←hA1] at W1'
 rw [←hB1] at W2'
 rw [←hC1,←hG1] at B1
 rw [←hG1] at Bi
 have hAl:A.length=m+1:=by rw [hA1];simp
 have hBl:B.length=n+1:=by rw [hB1];simp
 have hbl1:0<(An (nmD J) A).length:=Cb (n:=3) inferInstance (by decide) (by omega)
 have hbl2:0<(An (nmD J) B).length:=Cb (n:=3) inferInstance (by decide) (by omega)
 clear hR0 hG1 hva hST
 have e1:=BI (k:= .i64) (show (IntKind.i64).wrap ((p.length:Int)-1)=(m:Int) by rw [show ((p.length:Int)-1)=(m:Int) by omega];exact IntWalk.i64_in _ (by omega))
 have e2:=AL (k:= .i64) (show (IntKind.i64).wrap ((m:Int)+(q.length:Int))=((N+1:Nat):Int) by rw [show ((m:Int)+(q.length:Int))=((N+1:Nat):Int) by omega];exact IntWalk.i64_in _ (by omega))
 have e3:=BI (k:= .i64) (show (IntKind.i64).wrap (((N+1:Nat):Int)-1)=(N:Int) by rw [show (((N+1:Nat):Int)-1)=(N:Int) by omega];exact IntWalk.i64_in _ (by omega))
 have e4:=De (k:= .i64) (decide_eq_false (show ¬(p.length:Int)=0 by omega))
 have e5:=De (k:= .i64) (decide_eq_false (show ¬(q.length:Int)=0 by omega))
 have e6:=DH (k:= .i64) (decide_eq_false (show ¬(N:Int)>40 by omega))
 refine Am Tryz.func45 rfl rfl rfl rfl rfl rfl ?_
 intro W0 base D μ0 hA hD
 repeat (first|refine Af ?_|refine Ac ?_|refine Aa rfl ?_|refine Ab rfl ?_|refine Ak ?_|refine Al ?_|refine Ad ?_|refine Ae ?_)
 refine BG 26 hD (ss:= [(6,At (N:Nat)),(7,.one (Ap J A)),(8,.one (.ptr 8 0)),(9,.one (.gl 126 (n+1) 3)),(10,.one (.ptr 10 0))]) (bs:= [(8,nmC ((m+1)*j+2) S),(10,nmC ((n+1)*k+2) T),(126,An (nmD J) B)]) ?_ ?_
 ·rw [←hAl]
  exact In
 refine BG 126 hD (ss:= [(6,At (N:Nat)),(7,.one (Ap J A)),(8,.one (.ptr 8 0)),(9,.one (Ap J B)),(10,.one (.ptr 10 0))]) (bs:= [(8,nmC ((m+1)*j+2) S),(10,nmC ((n+1)*k+2) T)]) ?_ ?_
 ·rw [←hBl]
  exact In
 have e7:=AL (k:= .i64) (show (IntKind.i64).wrap ((N:Int)+1)=((N+1:Nat):Int) from IntWalk.i64_in _ (by omega))
 repeat (first|refine Af ?_|refine Ac ?_|refine Aa rfl ?_|refine Ab rfl ?_|refine Ak ?_|refine Al ?_|refine Ad ?_|refine Ae ?_)
 refine AK (fun c σ=> ∃(i:Nat) (cur:List Rat),c=m+1-i∧i≤m+1∧cur=tab (N+1) (Cq a b n i)∧Wk ⟨W0,base,D,89,[],μ0⟩ σ [(6,At (N:Nat)),(7,.one (Ap J A)),(8,.one (.ptr 8 0)),(9,.one (Ap J B)),(10,.one (.ptr 10 0)),(11,.one (.ptr 11 0)),(49,At (A.length:Nat)),(50,At (i:Nat))] [(8,nmC ((m+1)*j+2) S),(10,nmC ((n+1)*k+2) T),(11,[.gl 47 (N+1) 3]),(47,An (nmD J) cur)]) (n:=m+1) ⟨0,List.replicate (N+1) 0,by omega,by omega,Ee,?_⟩ ?_
 ·exact AS
 intro c σ hI
 obtain ⟨i,cur,hc,hi0,hcur,hw⟩:=hI
 refine A5 hw ?_
 clear hw
 by_cases hi:i<m+1
 ·have bi:=AJ (k:= .i64) (decide_eq_true (show (i:Int)<(A.length:Int) by omega))
  have hin:=AL (k:= .i64) (show (IntKind.i64).wrap ((i:Int)+1)=((i+1:Nat):Int) from IntWalk.i64_in _ (by omega))
  rw [←Oo (n:=n)] at hcur
  repeat (first|refine Af ?_|refine Ac ?_|refine Aa rfl ?_|refine Ab rfl ?_|refine Ak ?_|refine Al ?_|refine Ad ?_|refine Ae ?_)
  refine AK (fun c σ=> ∃(jj:Nat) (cur:List Rat),c=n+1-jj∧jj≤n+1∧cur=tab (N+1) (Dj a b n i jj)∧Wk ⟨W0,base,D,89,[],μ0⟩ σ [(6,At (N:Nat)),(7,.one (Ap J A)),(8,.one (.ptr 8 0)),(9,.one (Ap J B)),(10,.one (.ptr 10 0)),(11,.one (.ptr 11 0)),(12,At (i:Nat)),(49,At (A.length:Nat)),(50,At (i:Nat)),(54,At (B.length:Nat)),(55,At (jj:Nat))] [(8,nmC ((m+1)*j+2) S),(10,nmC ((n+1)*k+2) T),(11,[.gl 47 (N+1) 3]),(47,An (nmD J) cur)]) (n:=n+1) ⟨0,cur,by omega,by omega,hcur,?_⟩ ?_
  ·exact AS
  clear hcur cur
  intro c2 σ hI
  obtain ⟨jj,cur,hc2,hj0,hcur,hw⟩:=hI
  refine A5 hw ?_
  clear hw
  have hcl:cur.length=N+1:=by rw [hcur];simp
  by_cases hjj:jj<n+1
  ·have bj:=AJ (k:= .i64) (decide_eq_true (show (jj:Int)<(B.length:Int) by omega))
   have hjn:=AL (k:= .i64) (show (IntKind.i64).wrap ((jj:Int)+1)=((jj+1:Nat):Int) from IntWalk.i64_in _ (by omega))
   have hij:=AL (k:= .i64) (show (IntKind.i64).wrap ((i:Int)+(jj:Int))=((i+jj:Nat):Int) from IntWalk.i64_in _ (by omega))
   have hx:cur[((i+jj:Nat):Int).toNat]?=some (Dj a b n i jj (i+jj)):=by rw [hcur];exact A8 (by omega)
   have hya:A[((i:Nat):Int).toNat]?=some (a i):=by rw [hA1];exact A8 hi
   have hyb:B[((jj:Nat):Int).toNat]?=some (b jj):=by rw [hB1];exact A8 hjj
   have lt1:(0:Int)≤((i+jj:Nat):Int)∧((i+jj:Nat):Int)<((N+1:Nat):Int):=by omega
   have st1:((i+jj:Nat):Int).toNat*3+3≤(An (nmD J) cur).length:=by rw [AA (n:=3) inferInstance,hcl,Int.toNat_natCast];omega
   have ld1:=Ca (f:=nmD J) (n:=3) inferInstance hx
   have M4:=FP (j:=J) (k:=J) (x:=a i) (y:=b jj) (by omega) (by omega)
   have A4:=Vk (j:=J) (k:=J+J+2) (x:=Dj a b n i jj (i+jj)) (y:=a i*b jj) (by omega) (by omega)
   have ht:=SN (a:=a) (b:=b) (n:=n) (i:=i) (j:=jj) (N:=N+1) (by omega) rfl
   rw [←hcur] at ht
   have hz:RSz J (Dj a b n i jj (i+jj)+a i*b jj):=by
    have e:Dj a b n i jj (i+jj)+a i*b jj=Dj a b n i (jj+1) (i+jj):=by
     rw [Oq]
     unfold Dj
     rw [if_pos ⟨by omega,by omega⟩,show i+jj-i=jj by omega]
    rw [e];exact hcz i (jj+1) (i+jj) (by omega) (by omega)
   generalize Dj a b n i jj (i+jj)=x at*
   generalize a i=y at*
   generalize b jj=z at*
   repeat (first|refine Af ?_|refine Ac ?_|refine Aa rfl ?_|refine Ab rfl ?_|refine Ak ?_|refine Al ?_|refine Ad ?_|refine Ae ?_)
   refine ⟨c2-1,by omega,jj+1,cur.set (i+jj) (x+y*z),by omega,by omega,ht,?_⟩
   exact AS
  ·have bj:=AJ (k:= .i64) (decide_eq_false (show ¬(jj:Int)<(B.length:Int) by omega))
   obtain rfl:jj=n+1:=by omega
   rw [SO] at hcur
   repeat (first|refine Af ?_|refine Ac ?_|refine Aa rfl ?_|refine Ab rfl ?_|refine Ak ?_|refine Al ?_|refine Ad ?_|refine Ae ?_)
   refine ⟨c-1,by omega,i+1,cur,by omega,by omega,hcur,?_⟩
   exact AS
 ·have bi:=AJ (k:= .i64) (decide_eq_false (show ¬(i:Int)<(A.length:Int) by omega))
  obtain rfl:i=m+1:=by omega
  have he:cur=C:=hcur.trans hC1.symm
  have hCl:C.length=N+1:=by rw [hC1];simp
  subst he
  clear hcur hC1
  repeat (first|refine Af ?_|refine Ac ?_|refine Aa rfl ?_|refine Ab rfl ?_|refine Ak ?_|refine Al ?_|refine Ad ?_|refine Ae ?_)
  refine BG 47 hD (ss:= [(6,At (N:Nat)),(11,.one (.ptr 11 0)),(14,.one (.ptr 14 0)),(15,.one (.ptr 15 0))]) (bs:= [(11,[Ap J cur]),(14,nmC ((m+1)*j+2+((n+1)*k+2)+2) (S*T)),(15,[Ap 2 G])]) ?_ ?_
  ·exact UK
  repeat (first|refine Af ?_|refine Ac ?_|refine Aa rfl ?_|refine Ab rfl ?_|refine Ak ?_|refine Al ?_|refine Ad ?_|refine Ae ?_)
  refine As (And.intro (Or.inr rfl) ?_)
  exact Od
end Go.Proofs.YtnkobfcnflphkaaGreatDoor
