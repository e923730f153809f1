/-
  Several texts in one: Na, Nb, Nc, Nd, Ne, Nf.
-/
import Derived.Test.YtoabfmaagnmlhaaGreatDoorGk
import Derived.Test.YtoabfmaagnmlhaaGreatDoorEv
namespace Go.Proofs.YtoabfmaagnmlhaaGreatDoor
open Nat renaming le_refl→UG
open Go.RowKit
set_option linter.unusedVariables false
set_option linter.unusedSimpArgs false
set_option maxRecDepth 20000
set_option maxHeartbeats 4000000
abbrev nmD (j:Nat) (x:Rat):List D:= [.q x j 0,.q x j 1,.q x j 2]
abbrev BF (j:Nat) (l:List Rat):C:=lsG 3 (nmD j) l
instance (j:Nat):Elm 3 (nmD j):=⟨fun _=>rfl,fun _=>rfl⟩
theorem TC {W0 w:World} {x:Value} {r:Rat} {j k i:Nat} (h:j≤k) (hd:dd W0 w x (.q r j i)):dd W0 w x (.q r k i):=by
 unfold dd at hd⊢
 match i,hd with
 | 0,hd=>exact ⟨hd.1,Nat.zero_le _⟩
 | 1,hd=>exact ⟨hd.1,Nat.le_trans hd.2 h⟩
 | _+2,hd=>exact ⟨hd.1,Nat.le_trans hd.2 h⟩
theorem SR {W0 w:World} {b j k:Nat} (h:j≤k): ∀ {l:List Rat} {off:Nat},ddL W0 w b off (l.flatMap (nmD j))→ddL W0 w b off (l.flatMap (nmD k))
 | [],_,hd=>hd
 | x::l,off,hd=>by
   rw [List.flatMap_cons] at hd⊢
   show ddL W0 w b off (.q x k 0:: .q x k 1:: .q x k 2::l.flatMap (nmD k))
   replace hd:ddL W0 w b off (.q x j 0:: .q x j 1:: .q x j 2::l.flatMap (nmD j)):=hd
   simp only [ddL] at hd⊢
   obtain ⟨⟨v0,a0,a1,a2⟩,⟨v1,b0,b1,b2⟩,⟨v2,c0,c1,c2⟩,r⟩:=hd
   exact ⟨⟨v0,a0,a1,TC h a2⟩,⟨v1,b0,b1,TC h b2⟩,⟨v2,c0,c1,TC h c2⟩,SR h r⟩
theorem Aa.ratsLe {j k:Nat} {l:List Rat} (h:j≤k):Aa (BF j l) (BF k l):=fun W0 μ sz w x hx=>by
 unfold cc dd at hx⊢
 obtain ⟨h0,ao,cap,h1,h2,h3⟩:=hx
 refine ⟨E5 (f:=nmD k) (es:=3) (fun _=>rfl) l,ao,cap,h1,h2,fun hne=>?_⟩
 have hne':l.flatMap (nmD j)≠ []:=fun h0=>by
  cases l with
  | nil=>exact hne rfl
  | cons a l=>cases h0
 obtain ⟨b,off,h4,h5⟩:=h3 hne'
 exact ⟨b,off,h4,SR h h5⟩
theorem Aa.ratsNil {j:Nat} :Aa (.v (.slice none 0 0)) (BF j []):=fun W0 μ sz w x hx=>by
 have hx:x= .slice none 0 0:=hx
 unfold cc dd
 exact ⟨rfl,none,0,hx,UG _,fun h=>absurd rfl h⟩
theorem Sj {k:Nat} {x:Rat} (h:Sz k x.den):(toL (If x)).length≤k:=by
 unfold If
 split
 ·simp [toL]
 ·exact h
theorem Aa.qs {x:Rat} {j k i:Nat} (h:RSz k x):Aa (.q x j i) (.q x k i):=fun _ _ _ _ _ hv=>by
 match i with
 | 0=>exact ⟨hv.1,Nat.zero_le _⟩
 | 1=>exact ⟨hv.1,h.1⟩
 | _+2=>exact ⟨hv.1,Sj h.2⟩
theorem It {k:IntKind} {a b:Int} {c:Bool} (h:decide (a≠b)=c):F8 .neq k a b=some (.bool c):=by
 rw [←h]
 show some (Value.bool (a !=b))=_
 congr 2
 by_cases hab:a=b<;>simp [hab]
theorem L6 {j k:Nat} {l m:List Rat} (h1:l.length≤1000000000) (h2:m.length≤1000000000):
  Ctr Tryz.prog Amb 25 [.one (BF j l),.one (BF k m)] (.one (.v (.bool (decide (l=m))))):=by
 by_cases hlm:l.length=m.length
 ·have b0:=It (k:= .i64) (a:=(l.length:Int)) (b:=(m.length:Int)) (decide_eq_false (show ¬(l.length:Int)≠(m.length:Int) by omega))
  refine AW Tryz.func25 rfl rfl rfl rfl rfl rfl ?_
  intro W0 base D μ0 hA hD
  repeat (first
   | refine Aq ?_|refine Ah ?_|refine Af rfl ?_|refine Ag rfl ?_
   | ((first|refine Ae (by kernel_rfl) ?_|refine Ak (by kernel_rfl) (by kernel_rfl) (by kernel_rfl) ?_)
      repeat (first
       | refine Al (hl:=?_)
       | refine Ad (hl:=?_)
       | refine As (hl:=?_)
       | refine Ax (hl:=?_)
       | refine Ab (hl:=?_)
       | refine BI (hl:=?_)
       | refine AC (hl:=?_)
       | refine AB (hl:=?_)
       | refine AD (hl:=?_)
       | refine Au (hl:=?_)
       | refine Ao (hl:=?_))
      apply Ai.nil;try refine And.intro (by kernel_rfl) ?_)
   | refine Am ?_|refine An ?_)
  refine Cr (fun n σ=> ∃i:Nat,n+i=l.length∧l.take i=m.take i∧Wk ⟨W0,base,D,27,[],μ0⟩ σ [(0,.one (BF j l)),(1,.one (BF k m)),(5,.one (.v (.int .i64 (i:Nat))))] []) (n:=l.length) ⟨0,by omega,by simp,?_⟩ ?_
  ·refine AT ?_ ?_ rfl
   ·repeat (first|exact Ac|(refine List.forall_mem_cons.2 ⟨?_,?_⟩;focus (first|exact Ent.of_eq rfl|(refine Ent.one' rfl ?_;(first|exact Aa.ratsLe (by omega)|exact Aa.ratsNil|exact Aa.glNil|(refine Aa.int ?_;omega)|(refine Aa.glLen ?_;first|omega|simp)|exact Aa.of_eq rfl|(refine Aa.q rfl ?_;omega)|exact Z0 _|exact Z2 _|exact Aa.z0 (k:=0)|exact Aa.z1 (k:=0)|exact Aa.z2 (k:=0)|exact Aa.z0|exact Aa.z1|exact Aa.z2))|(refine Ent.agg' rfl ?_;(repeat (first|exact EntL.nil' rfl|(refine EntL.cons' rfl ?_ ?_;focus (first|exact Aa.ratsLe (by omega)|exact Aa.ratsNil|exact Aa.glNil|(refine Aa.int ?_;omega)|(refine Aa.glLen ?_;first|omega|simp)|exact Aa.of_eq rfl|(refine Aa.q rfl ?_;omega)|exact Z0 _|exact Z2 _|exact Aa.z0 (k:=0)|exact Aa.z1 (k:=0)|exact Aa.z2 (k:=0)|exact Aa.z0|exact Aa.z1|exact Aa.z2))));done))))
   ·repeat (first|exact Ac|(refine List.forall_mem_cons.2 ⟨?_,?_⟩;focus (first|exact Ap inferInstance|(refine AG rfl ?_ rfl;focus ((repeat (first|exact EntL.nil' rfl|(refine EntL.cons' rfl ?_ ?_;focus (first|exact Aa.ratsLe (by omega)|exact Aa.ratsNil|exact Aa.glNil|(refine Aa.int ?_;omega)|(refine Aa.glLen ?_;first|omega|simp)|exact Aa.of_eq rfl|(refine Aa.q rfl ?_;omega)|exact Z0 _|exact Z2 _|exact Aa.z0 (k:=0)|exact Aa.z1 (k:=0)|exact Aa.z2 (k:=0)|exact Aa.z0|exact Aa.z1|exact Aa.z2))));done)))))
  intro n σ hI
  obtain ⟨i,hn,ht,hw⟩:=hI
  refine Dp hw ?_
  clear hw
  by_cases hi:i<l.length
  ·have bi:=Cf (k:= .i64) (decide_eq_true (show (i:Int)<(l.length:Int) by omega))
   obtain ⟨x,hx⟩: ∃x,l[((i:Nat):Int).toNat]?=some x:=⟨_,by rw [Int.toNat_natCast];exact List.getElem?_eq_getElem hi⟩
   obtain ⟨y,hy⟩: ∃y,m[((i:Nat):Int).toNat]?=some y:=⟨_,by rw [Int.toNat_natCast];exact List.getElem?_eq_getElem (show i<m.length by omega)⟩
   have hin:=BJ (k:= .i64) (show (IntKind.i64).wrap ((i:Int)+1)=((i+1:Nat):Int) from IntWalk.i64_in _ (by omega))
   have S1:=Qj (j:=j) (k:=k) (x:=x) (y:=y)
   have hx':=hx
   have hy':=hy
   rw [Int.toNat_natCast] at hx' hy'
   by_cases hxy:x=y
   ·rw [decide_eq_true hxy] at S1
    repeat (first
     | refine Aq ?_|refine Ah ?_|refine Af rfl ?_|refine Ag rfl ?_
     | ((first|refine Ae (by kernel_rfl) ?_|refine Ak (by kernel_rfl) (by kernel_rfl) (by kernel_rfl) ?_)
        repeat (first
         | refine Al (hl:=?_)
         | refine Ad (hl:=?_)
         | refine As (hl:=?_)
         | refine Ax (hl:=?_)
         | refine Ab (hl:=?_)
         | refine BI (hl:=?_)
         | refine AC (hl:=?_)
         | refine AB (hl:=?_)
         | refine AD (hl:=?_)
         | refine Au (hl:=?_)
         | refine Ao (hl:=?_)
         | refine Cl hx (by omega) (hl:=?_)
         | refine Cl hy (by omega) (hl:=?_)
         | refine Ar hA (hc:=S1) (hl:=?_))
        apply Ai.nil;try refine And.intro (by kernel_rfl) ?_)
     | refine Am ?_|refine An ?_)
    refine ⟨n-1,by omega,i+1,by omega,?_,?_⟩
    ·rw [List.take_add_one,List.take_add_one,ht,hx',hy',hxy]
    ·refine AT ?_ ?_ rfl
     ·repeat (first|exact Ac|(refine List.forall_mem_cons.2 ⟨?_,?_⟩;focus (first|exact Ent.of_eq rfl|(refine Ent.one' rfl ?_;(first|exact Aa.ratsLe (by omega)|exact Aa.ratsNil|exact Aa.glNil|(refine Aa.int ?_;omega)|(refine Aa.glLen ?_;first|omega|simp)|exact Aa.of_eq rfl|(refine Aa.q rfl ?_;omega)|exact Z0 _|exact Z2 _|exact Aa.z0 (k:=0)|exact Aa.z1 (k:=0)|exact Aa.z2 (k:=0)|exact Aa.z0|exact Aa.z1|exact Aa.z2))|(refine Ent.agg' rfl ?_;(repeat (first|exact EntL.nil' rfl|(refine EntL.cons' rfl ?_ ?_;focus (first|exact Aa.ratsLe (by omega)|exact Aa.ratsNil|exact Aa.glNil|(refine Aa.int ?_;omega)|(refine Aa.glLen ?_;first|omega|simp)|exact Aa.of_eq rfl|(refine Aa.q rfl ?_;omega)|exact Z0 _|exact Z2 _|exact Aa.z0 (k:=0)|exact Aa.z1 (k:=0)|exact Aa.z2 (k:=0)|exact Aa.z0|exact Aa.z1|exact Aa.z2))));done))))
     ·repeat (first|exact Ac|(refine List.forall_mem_cons.2 ⟨?_,?_⟩;focus (first|exact Ap inferInstance|(refine AG rfl ?_ rfl;focus ((repeat (first|exact EntL.nil' rfl|(refine EntL.cons' rfl ?_ ?_;focus (first|exact Aa.ratsLe (by omega)|exact Aa.ratsNil|exact Aa.glNil|(refine Aa.int ?_;omega)|(refine Aa.glLen ?_;first|omega|simp)|exact Aa.of_eq rfl|(refine Aa.q rfl ?_;omega)|exact Z0 _|exact Z2 _|exact Aa.z0 (k:=0)|exact Aa.z1 (k:=0)|exact Aa.z2 (k:=0)|exact Aa.z0|exact Aa.z1|exact Aa.z2))));done)))))
   ·rw [decide_eq_false hxy] at S1
    have hne:l≠m:=fun e=>hxy (by rw [e,hy'] at hx';exact (Option.some.inj hx').symm)
    rw [decide_eq_false hne]
    repeat (first
     | refine Aq ?_|refine Ah ?_|refine Af rfl ?_|refine Ag rfl ?_
     | ((first|refine Ae (by kernel_rfl) ?_|refine Ak (by kernel_rfl) (by kernel_rfl) (by kernel_rfl) ?_)
        repeat (first
         | refine Al (hl:=?_)
         | refine Ad (hl:=?_)
         | refine As (hl:=?_)
         | refine Ax (hl:=?_)
         | refine Ab (hl:=?_)
         | refine BI (hl:=?_)
         | refine AC (hl:=?_)
         | refine AB (hl:=?_)
         | refine AD (hl:=?_)
         | refine Au (hl:=?_)
         | refine Ao (hl:=?_)
         | refine Cl hx (by omega) (hl:=?_)
         | refine Cl hy (by omega) (hl:=?_)
         | refine Ar hA (hc:=S1) (hl:=?_))
        apply Ai.nil;try refine And.intro (by kernel_rfl) ?_)
     | refine Am ?_|refine An ?_)
    refine A9 (And.intro (Or.inr rfl) ?_)
    exact Ct
  ·have bi:=Cf (k:= .i64) (decide_eq_false (show ¬(i:Int)<(l.length:Int) by omega))
   have he:l=m:=by
    rw [List.take_of_length_le (by omega),List.take_of_length_le (by omega)] at ht
    exact ht
   rw [decide_eq_true he]
   repeat (first
    | refine Aq ?_|refine Ah ?_|refine Af rfl ?_|refine Ag rfl ?_
    | ((first|refine Ae (by kernel_rfl) ?_|refine Ak (by kernel_rfl) (by kernel_rfl) (by kernel_rfl) ?_)
       repeat (first
        | refine Al (hl:=?_)
        | refine Ad (hl:=?_)
        | refine As (hl:=?_)
        | refine Ax (hl:=?_)
        | refine Ab (hl:=?_)
        | refine BI (hl:=?_)
        | refine AC (hl:=?_)
        | refine AB (hl:=?_)
        | refine AD (hl:=?_)
        | refine Au (hl:=?_)
        | refine Ao (hl:=?_))
       apply Ai.nil;try refine And.intro (by kernel_rfl) ?_)
    | refine Am ?_|refine An ?_)
   refine A9 (And.intro (Or.inr rfl) ?_)
   exact Ct
 ·have b0:=It (k:= .i64) (a:=(l.length:Int)) (b:=(m.length:Int)) (decide_eq_true (show (l.length:Int)≠(m.length:Int) by omega))
  rw [decide_eq_false (show ¬l=m from fun e=>hlm (by rw [e]))]
  refine AW Tryz.func25 rfl rfl rfl rfl rfl rfl ?_
  intro W0 base D μ0 hA hD
  repeat (first
   | refine Aq ?_|refine Ah ?_|refine Af rfl ?_|refine Ag rfl ?_
   | ((first|refine Ae (by kernel_rfl) ?_|refine Ak (by kernel_rfl) (by kernel_rfl) (by kernel_rfl) ?_)
      repeat (first
       | refine Al (hl:=?_)
       | refine Ad (hl:=?_)
       | refine As (hl:=?_)
       | refine Ax (hl:=?_)
       | refine Ab (hl:=?_)
       | refine BI (hl:=?_)
       | refine AC (hl:=?_)
       | refine AB (hl:=?_)
       | refine AD (hl:=?_)
       | refine Au (hl:=?_)
       | refine Ao (hl:=?_))
      apply Ai.nil;try refine And.intro (by kernel_rfl) ?_)
   | refine Am ?_|refine An ?_)
  refine A9 (And.intro (Or.inr rfl) ?_)
  exact Ct
def Fp (l:List Rat):Rat:=l.getD 0 0
def FD (l:List Rat):Rat:=l.getD (l.length-1) 0
theorem Ib {l:List Rat} (h:0<l.length):l[(0:Int).toNat]?=some (Fp l):=by
 show l[0]?=_
 unfold Fp
 rw [List.getD_eq_getElem?_getD,List.getElem?_eq_getElem h];rfl
theorem HJ {l:List Rat} (h:0<l.length):l[((l.length-1:Nat):Int).toNat]?=some (FD l):=by
 rw [Int.toNat_natCast]
 unfold FD
 rw [List.getD_eq_getElem?_getD,List.getElem?_eq_getElem (show l.length-1<l.length by omega)];rfl
def IG (l:List Rat):List Rat:=l.reverse.map fun x=>Fp l+FD l-x
theorem DN {l:List Rat} {i:Nat} (h:i<l.length): ∃x,l[((i:Nat):Int).toNat]?=some x∧l[i]?=some x:=⟨_,by rw [Int.toNat_natCast];exact List.getElem?_eq_getElem h,List.getElem?_eq_getElem h⟩
theorem Oq {j:Nat} {l:List Rat} (hj:j≤10000) (hl:l.length≤1000000) (hne:0<l.length):
  Ctr Tryz.prog Amb 35 [.one (BF j l)] (.one (BF (3*j+6) (IG l))):=by
 have g0:=Ib hne
 have g1:=HJ hne
 obtain ⟨R,hR⟩: ∃R,R=IG l:=⟨_,rfl⟩
 unfold IG at hR
 rw [show IG l=R from hR.symm]
 generalize Fp l=a at*
 generalize FD l=b at*
 have hdn:=Cq (k:= .i64) (show (IntKind.i64).wrap ((l.length:Int)-1)=((l.length-1:Nat):Int) by rw [show ((l.length:Int)-1)=((l.length-1:Nat):Int) by omega];exact IntWalk.i64_in _ (by omega))
 have A1:=Hm (j:=j) (k:=j) (x:=a) (y:=b) (by omega) (by omega)
 refine AW Tryz.func35 rfl rfl rfl rfl rfl rfl ?_
 intro W0 base D μ0 hA hD
 repeat (first
  | refine Aq ?_|refine Ah ?_|refine Af rfl ?_|refine Ag rfl ?_
  | ((first|refine Ae (by kernel_rfl) ?_|refine Ak (by kernel_rfl) (by kernel_rfl) (by kernel_rfl) ?_)
     repeat (first
      | refine Al (hl:=?_)
      | refine Ad (hl:=?_)
      | refine As (hl:=?_)
      | refine Ax (hl:=?_)
      | refine Ab (hl:=?_)
      | refine AC (hl:=?_)
      | refine AB (hl:=?_)
      | refine AD (hl:=?_)
      | refine Au (hl:=?_)
      | refine Ao (hl:=?_)
      | refine Az (hl:=?_))
     apply Ai.nil;try refine And.intro (by kernel_rfl) ?_)
  | refine Am ?_|refine An ?_)
 refine Cr (fun n σ=> ∃(i:Nat) (done:List Rat),n=l.length-i∧i≤l.length∧done=(l.reverse.take i).map (fun x=>a+b-x)∧Wk ⟨W0,base,D,31,[],μ0⟩ σ [(0,.one (BF j l)),(3,.one (.gl 900 done.length 3)),(4,.one (.v (.int .i64 ((l.length:Int)-1-i))))] [(900,Bz (nmD (3*j+6)) done)]) (n:=l.length) ⟨0,[],by omega,by omega,by simp,?_⟩ ?_
 ·refine AT ?_ ?_ rfl
  ·repeat (first|exact Ac|(refine List.forall_mem_cons.2 ⟨?_,?_⟩;focus (first|exact Ent.of_eq rfl|(refine Ent.one' rfl ?_;(first|exact Aa.ratsLe (by omega)|exact Aa.ratsNil|exact Aa.glNil|(refine Aa.int ?_;omega)|(refine Aa.glLen ?_;first|omega|simp)|exact Aa.of_eq rfl|(refine Aa.q rfl ?_;omega)|exact Z0 _|exact Z2 _|exact Aa.z0 (k:=0)|exact Aa.z1 (k:=0)|exact Aa.z2 (k:=0)|exact Aa.z0|exact Aa.z1|exact Aa.z2))|(refine Ent.agg' rfl ?_;(repeat (first|exact EntL.nil' rfl|(refine EntL.cons' rfl ?_ ?_;focus (first|exact Aa.ratsLe (by omega)|exact Aa.ratsNil|exact Aa.glNil|(refine Aa.int ?_;omega)|(refine Aa.glLen ?_;first|omega|simp)|exact Aa.of_eq rfl|(refine Aa.q rfl ?_;omega)|exact Z0 _|exact Z2 _|exact Aa.z0 (k:=0)|exact Aa.z1 (k:=0)|exact Aa.z2 (k:=0)|exact Aa.z0|exact Aa.z1|exact Aa.z2))));done))))
  ·repeat (first|exact Ac|(refine List.forall_mem_cons.2 ⟨?_,?_⟩;focus (first|exact Ap inferInstance|(refine AG rfl ?_ rfl;focus ((repeat (first|exact EntL.nil' rfl|(refine EntL.cons' rfl ?_ ?_;focus (first|exact Aa.ratsLe (by omega)|exact Aa.ratsNil|exact Aa.glNil|(refine Aa.int ?_;omega)|(refine Aa.glLen ?_;first|omega|simp)|exact Aa.of_eq rfl|(refine Aa.q rfl ?_;omega)|exact Z0 _|exact Z2 _|exact Aa.z0 (k:=0)|exact Aa.z1 (k:=0)|exact Aa.z2 (k:=0)|exact Aa.z0|exact Aa.z1|exact Aa.z2))));done)))))
 intro n σ hI
 obtain ⟨i,done,hn,hi0,hdone,hw⟩:=hI
 refine Dp hw ?_
 clear hw
 have hlen:done.length=i:=by rw [hdone];simp;omega
 by_cases hi:i<l.length
 ·obtain ⟨q,hq⟩: ∃q:Nat,(l.length:Int)-1-i=(q:Int)∧q=l.length-1-i:=⟨l.length-1-i,by omega,rfl⟩
  rw [hq.1]
  have hql:q<l.length:=by omega
  obtain ⟨x,hx,hx'⟩:=DN hql
  have bi:=F9 (k:= .i64) (decide_eq_true (show (q:Int)≥0 by omega))
  have hin:=Cq (k:= .i64) (show (IntKind.i64).wrap ((q:Int)-1)=(q:Int)-1 from IntWalk.i64_in _ (by omega))
  have S1:=NK (j:=j+j+3) (k:=j) (x:=a+b) (y:=x) (by omega) (by omega)
  repeat (first
   | refine Aq ?_|refine Ah ?_|refine Af rfl ?_|refine Ag rfl ?_
   | ((first|refine Ae (by kernel_rfl) ?_|refine Ak (by kernel_rfl) (by kernel_rfl) (by kernel_rfl) ?_)
      repeat (first
       | refine Al (hl:=?_)
       | refine Ad (hl:=?_)
       | refine As (hl:=?_)
       | refine Ax (hl:=?_)
       | refine Ab (hl:=?_)
       | refine AC (hl:=?_)
       | refine AB (hl:=?_)
       | refine AD (hl:=?_)
       | refine Au (hl:=?_)
       | refine Ao (hl:=?_)
       | refine Az (hl:=?_))
      apply Ai.nil;try refine And.intro (by kernel_rfl) ?_)
   | refine Am ?_|refine An ?_)
  try refine Aq ?_
  refine Iv 17 (by simp only [List.take_succ_cons,List.take_zero,List.drop_succ_cons,List.drop_zero];exact ⟨rfl,rfl⟩) (by kernel_rfl) (by kernel_rfl) (by kernel_rfl) (by kernel_rfl) (by kernel_rfl) ?_
  repeat (first
   | refine Al (hl:=?_)
   | refine Ad (hl:=?_)
   | refine As (hl:=?_)
   | refine Ax (hl:=?_)
   | refine Ab (hl:=?_)
   | refine AC (hl:=?_)
   | refine AB (hl:=?_)
   | refine AD (hl:=?_)
   | refine Au (hl:=?_)
   | refine Ao (hl:=?_)
   | refine Az (hl:=?_)
   | refine Ha hA (hc:=DRAW) (hl:=?_)
   | refine Cl g0 (by omega) (hl:=?_)
   | refine Cl g1 (by omega) (hl:=?_)
   | refine Cl hx (by omega) (hl:=?_)
   | refine Ar hA (hc:=A1) (hl:=?_)
   | refine Ar hA (hc:=S1) (hl:=?_))
  apply Ai.nil
  refine And.intro (by kernel_rfl) ?_
  refine ES (k:=900) (ss:= [(0,.one (BF j l)),(4,.one (.v (.int .i64 (q:Int))))]) (bs:= []) (ns:=(nmC (j+j+3+j+3) (a+b-x))) hD ?_ ?_ ?_
  ·exact ⟨by omega,by omega⟩
  ·refine AT ?_ ?_ rfl
   ·repeat (first|exact Ac|(refine List.forall_mem_cons.2 ⟨?_,?_⟩;focus (first|exact Ent.of_eq rfl|(refine Ent.one' rfl ?_;(first|exact Aa.ratsLe (by omega)|exact Aa.ratsNil|exact Aa.glNil|(refine Aa.int ?_;omega)|(refine Aa.glLen ?_;first|omega|simp)|exact Aa.of_eq rfl|(refine Aa.q rfl ?_;omega)|exact Z0 _|exact Z2 _|exact Aa.z0 (k:=0)|exact Aa.z1 (k:=0)|exact Aa.z2 (k:=0)|exact Aa.z0|exact Aa.z1|exact Aa.z2))|(refine Ent.agg' rfl ?_;(repeat (first|exact EntL.nil' rfl|(refine EntL.cons' rfl ?_ ?_;focus (first|exact Aa.ratsLe (by omega)|exact Aa.ratsNil|exact Aa.glNil|(refine Aa.int ?_;omega)|(refine Aa.glLen ?_;first|omega|simp)|exact Aa.of_eq rfl|(refine Aa.q rfl ?_;omega)|exact Z0 _|exact Z2 _|exact Aa.z0 (k:=0)|exact Aa.z1 (k:=0)|exact Aa.z2 (k:=0)|exact Aa.z0|exact Aa.z1|exact Aa.z2))));done))))
   ·repeat (first|exact Ac|(refine List.forall_mem_cons.2 ⟨?_,?_⟩;focus (first|exact Ap inferInstance|(refine AG rfl ?_ rfl;focus ((repeat (first|exact EntL.nil' rfl|(refine EntL.cons' rfl ?_ ?_;focus (first|exact Aa.ratsLe (by omega)|exact Aa.ratsNil|exact Aa.glNil|(refine Aa.int ?_;omega)|(refine Aa.glLen ?_;first|omega|simp)|exact Aa.of_eq rfl|(refine Aa.q rfl ?_;omega)|exact Z0 _|exact Z2 _|exact Aa.z0 (k:=0)|exact Aa.z1 (k:=0)|exact Aa.z2 (k:=0)|exact Aa.z0|exact Aa.z1|exact Aa.z2))));done)))))
  repeat (refine DI rfl ?_;(first|refine Ad (hl:=?_)|refine Al (hl:=?_)|refine At (hl:=?_));apply Ai.nil)
  refine DJ ?_
  repeat (first
   | refine Aq ?_|refine Ah ?_|refine Af rfl ?_|refine Ag rfl ?_
   | ((first|refine Ae (by kernel_rfl) ?_|refine Ak (by kernel_rfl) (by kernel_rfl) (by kernel_rfl) ?_)
      repeat (first
       | refine Al (hl:=?_)
       | refine Ad (hl:=?_)
       | refine As (hl:=?_)
       | refine Ax (hl:=?_)
       | refine Ab (hl:=?_)
       | refine AC (hl:=?_)
       | refine AB (hl:=?_)
       | refine AD (hl:=?_)
       | refine Au (hl:=?_)
       | refine Ao (hl:=?_)
       | refine Az (hl:=?_))
      apply Ai.nil;try refine And.intro (by kernel_rfl) ?_)
   | refine Am ?_|refine An ?_)
  refine ⟨n-1,by omega,i+1,done++ [a+b-x],by omega,by omega,?_,?_⟩
  ·rw [hdone,List.take_add_one,List.map_append]
   have:l.reverse[i]?=some x:=by rw [List.getElem?_reverse hi,←hq.2];exact hx'
   rw [this];rfl
  ·refine AT ?_ ?_ rfl
   ·repeat (first|exact Ac|(refine List.forall_mem_cons.2 ⟨?_,?_⟩;focus (first|exact Ent.of_eq rfl|(refine Ent.one' rfl ?_;(first|exact Aa.ratsLe (by omega)|exact Aa.ratsNil|exact Aa.glNil|(refine Aa.int ?_;omega)|(refine Aa.glLen ?_;first|omega|simp)|exact Aa.of_eq rfl|(refine Aa.q rfl ?_;omega)|exact Z0 _|exact Z2 _|exact Aa.z0 (k:=0)|exact Aa.z1 (k:=0)|exact Aa.z2 (k:=0)|exact Aa.z0|exact Aa.z1|exact Aa.z2))|(refine Ent.agg' rfl ?_;(repeat (first|exact EntL.nil' rfl|(refine EntL.cons' rfl ?_ ?_;focus (first|exact Aa.ratsLe (by omega)|exact Aa.ratsNil|exact Aa.glNil|(refine Aa.int ?_;omega)|(refine Aa.glLen ?_;first|omega|simp)|exact Aa.of_eq rfl|(refine Aa.q rfl ?_;omega)|exact Z0 _|exact Z2 _|exact Aa.z0 (k:=0)|exact Aa.z1 (k:=0)|exact Aa.z2 (k:=0)|exact Aa.z0|exact Aa.z1|exact Aa.z2))));done))))
   ·repeat (first|exact Ac|(refine List.forall_mem_cons.2 ⟨?_,?_⟩;focus (first|exact Ap inferInstance|(refine C7 inferInstance ?_;(repeat (first|exact EntL.nil' rfl|(refine EntL.cons' rfl ?_ ?_;focus (first|exact Aa.ratsLe (by omega)|exact Aa.ratsNil|exact Aa.glNil|(refine Aa.int ?_;omega)|(refine Aa.glLen ?_;first|omega|simp)|exact Aa.of_eq rfl|(refine Aa.q rfl ?_;omega)|exact Z0 _|exact Z2 _|exact Aa.z0 (k:=0)|exact Aa.z1 (k:=0)|exact Aa.z2 (k:=0)|exact Aa.z0|exact Aa.z1|exact Aa.z2))));done)|(refine AG rfl ?_ rfl;focus ((repeat (first|exact EntL.nil' rfl|(refine EntL.cons' rfl ?_ ?_;focus (first|exact Aa.ratsLe (by omega)|exact Aa.ratsNil|exact Aa.glNil|(refine Aa.int ?_;omega)|(refine Aa.glLen ?_;first|omega|simp)|exact Aa.of_eq rfl|(refine Aa.q rfl ?_;omega)|exact Z0 _|exact Z2 _|exact Aa.z0 (k:=0)|exact Aa.z1 (k:=0)|exact Aa.z2 (k:=0)|exact Aa.z0|exact Aa.z1|exact Aa.z2))));done)))))
 ·have bi:=F9 (k:= .i64) (decide_eq_false (show ¬(l.length:Int)-1-i≥0 by omega))
  have he:done=R:=by rw [hdone,hR,List.take_of_length_le (by simp;omega)]
  subst he
  repeat (first
   | refine Aq ?_|refine Ah ?_|refine Af rfl ?_|refine Ag rfl ?_
   | ((first|refine Ae (by kernel_rfl) ?_|refine Ak (by kernel_rfl) (by kernel_rfl) (by kernel_rfl) ?_)
      repeat (first
       | refine Al (hl:=?_)
       | refine Ad (hl:=?_)
       | refine As (hl:=?_)
       | refine Ax (hl:=?_)
       | refine Ab (hl:=?_)
       | refine AC (hl:=?_)
       | refine AB (hl:=?_)
       | refine AD (hl:=?_)
       | refine Au (hl:=?_)
       | refine Ao (hl:=?_)
       | refine Az (hl:=?_))
      apply Ai.nil;try refine And.intro (by kernel_rfl) ?_)
   | refine Am ?_|refine An ?_)
  refine Dg 900 hD (ss:= [(2,.one (BF (3*j+6) done))]) (bs:= []) ?_ ?_
  ·refine Ie ?_ ?_ rfl
   ·repeat (first|exact Ac|(refine List.forall_mem_cons.2 ⟨?_,?_⟩;focus (first|exact FH inferInstance|refine FzA.ent ?_;first|exact Ent.of_eq rfl|(refine Ent.one' rfl ?_;(first|exact Aa.ratsLe (by omega)|exact Aa.ratsNil|exact Aa.glNil|(refine Aa.int ?_;omega)|(refine Aa.glLen ?_;first|omega|simp)|exact Aa.of_eq rfl|(refine Aa.q rfl ?_;omega)|exact Z0 _|exact Z2 _|exact Aa.z0 (k:=0)|exact Aa.z1 (k:=0)|exact Aa.z2 (k:=0)|exact Aa.z0|exact Aa.z1|exact Aa.z2))|(refine Ent.agg' rfl ?_;(repeat (first|exact EntL.nil' rfl|(refine EntL.cons' rfl ?_ ?_;focus (first|exact Aa.ratsLe (by omega)|exact Aa.ratsNil|exact Aa.glNil|(refine Aa.int ?_;omega)|(refine Aa.glLen ?_;first|omega|simp)|exact Aa.of_eq rfl|(refine Aa.q rfl ?_;omega)|exact Z0 _|exact Z2 _|exact Aa.z0 (k:=0)|exact Aa.z1 (k:=0)|exact Aa.z2 (k:=0)|exact Aa.z0|exact Aa.z1|exact Aa.z2))));done))))
   ·repeat (first|exact Ac|(refine List.forall_mem_cons.2 ⟨?_,?_⟩;focus (first|exact Ap inferInstance|(refine AG rfl ?_ rfl;focus ((repeat (first|exact EntL.nil' rfl|(refine EntL.cons' rfl ?_ ?_;focus (first|exact Aa.ratsLe (by omega)|exact Aa.ratsNil|exact Aa.glNil|(refine Aa.int ?_;omega)|(refine Aa.glLen ?_;first|omega|simp)|exact Aa.of_eq rfl|(refine Aa.q rfl ?_;omega)|exact Z0 _|exact Z2 _|exact Aa.z0 (k:=0)|exact Aa.z1 (k:=0)|exact Aa.z2 (k:=0)|exact Aa.z0|exact Aa.z1|exact Aa.z2))));done)))))
  refine A9 (And.intro (Or.inr rfl) ?_)
  exact Ct
def Pp (l:List Rat) (a b:Rat):List Rat:=l.map fun x=>a+(x-Fp l)*((b-a)/(FD l-Fp l))
theorem J5 {x y:Rat} :Dt x y≥0↔ ¬x<y:=by
 unfold Dt
 by_cases h:x<y
 ·rw [if_pos h];simp [h]
 ·rw [if_neg h]
  split<;>simp [h]
abbrev AK (n:Int):AV:= .one (.v (.int .i64 n))
theorem Ot {j ja jb:Nat} {l:List Rat} {a b:Rat} (hj:j≤10000) (h1:ja≤10000) (h2:jb≤10000) (hl:l.length≤1000000) (hne:0<l.length) (hd:FD l-Fp l≠0):
  Ctr Tryz.prog Amb 31 [.one (BF j l),nm ja a,nm jb b] (if a<b then .tup [.one (BF (2*ja+jb+4*j+16) (Pp l a b)),AK 0] else .tup [.one (BF (2*ja+jb+4*j+16) []),AK 7]):=by
 have C1:=T7 (j:=ja) (k:=jb) (x:=a) (y:=b) (by omega) (by omega)
 by_cases hab:a<b
 ·have bc:=F9 (k:= .i64) (decide_eq_false (show ¬Dt a b≥0 from fun h=>J5.1 h hab))
  rw [if_pos hab]
  have g0:=Ib hne
  have g1:=HJ hne
  obtain ⟨R,hR⟩: ∃R,R=Pp l a b:=⟨_,rfl⟩
  rw [←hR]
  unfold Pp at hR
  generalize Fp l=u at*
  generalize FD l=v at*
  have S1:=NK (j:=jb) (k:=ja) (x:=b) (y:=a) (by omega) (by omega)
  have S2:=NK (j:=j) (k:=j) (x:=v) (y:=u) (by omega) (by omega)
  have O1:=Tq (j:=jb+ja+3) (k:=j+j+3) (x:=b-a) (y:=v-u) (by omega) (by omega) hd
  generalize (b-a)/(v-u)=t at*
  have hdn:=Cq (k:= .i64) (show (IntKind.i64).wrap ((l.length:Int)-1)=((l.length-1:Nat):Int) by rw [show ((l.length:Int)-1)=((l.length-1:Nat):Int) by omega];exact IntWalk.i64_in _ (by omega))
  refine AW Tryz.func31 rfl rfl rfl rfl rfl rfl ?_
  intro W0 base D μ0 hA hD
  repeat (first
   | refine Aq ?_|refine Ah ?_|refine Af rfl ?_|refine Ag rfl ?_
   | ((first|refine Ae (by kernel_rfl) ?_|refine Ak (by kernel_rfl) (by kernel_rfl) (by kernel_rfl) ?_)
      repeat (first
       | refine Al (hl:=?_)
       | refine Ad (hl:=?_)
       | refine As (hl:=?_)
       | refine At (hl:=?_)
       | refine Dj (hl:=?_)
       | refine AA (hl:=?_)
       | refine Ax (hl:=?_)
       | refine Ab (hl:=?_)
       | refine AC (hl:=?_)
       | refine AB (hl:=?_)
       | refine AD (hl:=?_)
       | refine Au (hl:=?_)
       | refine Ao (hl:=?_)
       | refine Az (hl:=?_)
       | refine Ar hA (hc:=C1) (hl:=?_)
       | refine Cl g0 (by omega) (hl:=?_)
       | refine Cl g1 (by omega) (hl:=?_)
       | refine Ar hA (hc:=S1) (hl:=?_)
       | refine Ar hA (hc:=S2) (hl:=?_)
       | refine Ar hA (hc:=O1) (hl:=?_))
      apply Ai.nil;try refine And.intro (by kernel_rfl) ?_)
   | refine Am ?_|refine An ?_)
  refine Cr (fun n σ=> ∃(i:Nat) (done:List Rat),n=l.length-i∧i≤l.length∧done=(l.take i).map (fun x=>a+(x-u)*t)∧Wk ⟨W0,base,D,53,[],μ0⟩ σ [(0,.one (BF j l)),(4,.one (.ptr 4 0)),(8,.one (.ptr 8 0)),(10,.one (.ptr 10 0)),(11,.one (.gl 900 done.length 3)),(12,AK (i:Nat))] [(900,Bz (nmD (2*ja+jb+4*j+16)) done),(4,nmC ja a),(8,nmC j u),(10,nmC (jb+ja+3+(j+j+3)+2) t)]) (n:=l.length) ⟨0,[],by omega,by omega,by simp,?_⟩ ?_
  ·refine AT ?_ ?_ rfl
   ·repeat (first|exact Ac|(refine List.forall_mem_cons.2 ⟨?_,?_⟩;focus (first|exact Ent.of_eq rfl|(refine Ent.one' rfl ?_;(first|exact Aa.ratsLe (by omega)|exact Aa.ratsNil|exact Aa.glNil|(refine Aa.int ?_;omega)|(refine Aa.glLen ?_;first|omega|simp)|exact Aa.of_eq rfl|(refine Aa.q rfl ?_;omega)|exact Z0 _|exact Z2 _|exact Aa.z0 (k:=0)|exact Aa.z1 (k:=0)|exact Aa.z2 (k:=0)|exact Aa.z0|exact Aa.z1|exact Aa.z2))|(refine Ent.agg' rfl ?_;(repeat (first|exact EntL.nil' rfl|(refine EntL.cons' rfl ?_ ?_;focus (first|exact Aa.ratsLe (by omega)|exact Aa.ratsNil|exact Aa.glNil|(refine Aa.int ?_;omega)|(refine Aa.glLen ?_;first|omega|simp)|exact Aa.of_eq rfl|(refine Aa.q rfl ?_;omega)|exact Z0 _|exact Z2 _|exact Aa.z0 (k:=0)|exact Aa.z1 (k:=0)|exact Aa.z2 (k:=0)|exact Aa.z0|exact Aa.z1|exact Aa.z2))));done))))
   ·repeat (first|exact Ac|(refine List.forall_mem_cons.2 ⟨?_,?_⟩;focus (first|exact Ap inferInstance|(refine AG rfl ?_ rfl;focus ((repeat (first|exact EntL.nil' rfl|(refine EntL.cons' rfl ?_ ?_;focus (first|exact Aa.ratsLe (by omega)|exact Aa.ratsNil|exact Aa.glNil|(refine Aa.int ?_;omega)|(refine Aa.glLen ?_;first|omega|simp)|exact Aa.of_eq rfl|(refine Aa.q rfl ?_;omega)|exact Z0 _|exact Z2 _|exact Aa.z0 (k:=0)|exact Aa.z1 (k:=0)|exact Aa.z2 (k:=0)|exact Aa.z0|exact Aa.z1|exact Aa.z2))));done)))))
  intro n σ hI
  obtain ⟨i,done,hn,hi0,hdone,hw⟩:=hI
  refine Dp hw ?_
  clear hw S1 S2 O1 C1 hdn g0 g1
  have hlen:done.length=i:=by rw [hdone];simp;omega
  by_cases hi:i<l.length
  ·obtain ⟨x,hx,hx'⟩:=DN hi
   have bi:=Cf (k:= .i64) (decide_eq_true (show (i:Int)<(l.length:Int) by omega))
   have hin:=BJ (k:= .i64) (show (IntKind.i64).wrap ((i:Int)+1)=((i+1:Nat):Int) from IntWalk.i64_in _ (by omega))
   have S3:=NK (j:=j) (k:=j) (x:=x) (y:=u) (by omega) (by omega)
   have M3:=SN (j:=j+j+3) (k:=jb+ja+3+(j+j+3)+2) (x:=x-u) (y:=t) (by omega) (by omega)
   have A3:=Hm (j:=ja) (k:=j+j+3+(jb+ja+3+(j+j+3)+2)+2) (x:=a) (y:=(x-u)*t) (by omega) (by omega)
   repeat (first
    | refine Aq ?_|refine Ah ?_|refine Af rfl ?_|refine Ag rfl ?_
    | ((first|refine Ae (by kernel_rfl) ?_|refine Ak (by kernel_rfl) (by kernel_rfl) (by kernel_rfl) ?_)
       repeat (first
        | refine Al (hl:=?_)
        | refine Ad (hl:=?_)
        | refine As (hl:=?_)
        | refine At (hl:=?_)
        | refine Dj (hl:=?_)
        | refine AA (hl:=?_)
        | refine Ax (hl:=?_)
        | refine Ab (hl:=?_)
        | refine AC (hl:=?_)
        | refine AB (hl:=?_)
        | refine AD (hl:=?_)
        | refine Au (hl:=?_)
        | refine Ao (hl:=?_)
        | refine Az (hl:=?_))
       apply Ai.nil;try refine And.intro (by kernel_rfl) ?_)
    | refine Am ?_|refine An ?_)
   try refine Aq ?_
   refine Iv 12 (by simp only [List.take_succ_cons,List.take_zero,List.drop_succ_cons,List.drop_zero];exact ⟨rfl,rfl⟩) (by kernel_rfl) (by kernel_rfl) (by kernel_rfl) (by kernel_rfl) (by kernel_rfl) ?_
   repeat (first
    | refine Al (hl:=?_)
    | refine Ad (hl:=?_)
    | refine As (hl:=?_)
    | refine At (hl:=?_)
    | refine Dj (hl:=?_)
    | refine AA (hl:=?_)
    | refine Ax (hl:=?_)
    | refine Ab (hl:=?_)
    | refine AC (hl:=?_)
    | refine AB (hl:=?_)
    | refine AD (hl:=?_)
    | refine Au (hl:=?_)
    | refine Ao (hl:=?_)
    | refine Az (hl:=?_)
    | refine Cl hx (by omega) (hl:=?_)
    | refine Ar hA (hc:=S3) (hl:=?_)
    | refine Ar hA (hc:=M3) (hl:=?_)
    | refine Ar hA (hc:=A3) (hl:=?_))
   apply Ai.nil
   refine And.intro (by kernel_rfl) ?_
   refine ES (k:=900) (ss:= [(0,.one (BF j l)),(4,.one (.ptr 4 0)),(8,.one (.ptr 8 0)),(10,.one (.ptr 10 0)),(12,AK (i:Nat))]) (bs:= [(4,nmC ja a),(8,nmC j u),(10,nmC (jb+ja+3+(j+j+3)+2) t)]) (ns:=(nmC (ja+(j+j+3+(jb+ja+3+(j+j+3)+2)+2)+3) (a+(x-u)*t))) hD ?_ ?_ ?_
   ·exact ⟨by omega,by omega⟩
   ·refine AT ?_ ?_ rfl
    ·repeat (first|exact Ac|(refine List.forall_mem_cons.2 ⟨?_,?_⟩;focus (first|exact Ent.of_eq rfl|(refine Ent.one' rfl ?_;(first|exact Aa.ratsLe (by omega)|exact Aa.ratsNil|exact Aa.glNil|(refine Aa.int ?_;omega)|(refine Aa.glLen ?_;first|omega|simp)|exact Aa.of_eq rfl|(refine Aa.q rfl ?_;omega)|exact Z0 _|exact Z2 _|exact Aa.z0 (k:=0)|exact Aa.z1 (k:=0)|exact Aa.z2 (k:=0)|exact Aa.z0|exact Aa.z1|exact Aa.z2))|(refine Ent.agg' rfl ?_;(repeat (first|exact EntL.nil' rfl|(refine EntL.cons' rfl ?_ ?_;focus (first|exact Aa.ratsLe (by omega)|exact Aa.ratsNil|exact Aa.glNil|(refine Aa.int ?_;omega)|(refine Aa.glLen ?_;first|omega|simp)|exact Aa.of_eq rfl|(refine Aa.q rfl ?_;omega)|exact Z0 _|exact Z2 _|exact Aa.z0 (k:=0)|exact Aa.z1 (k:=0)|exact Aa.z2 (k:=0)|exact Aa.z0|exact Aa.z1|exact Aa.z2))));done))))
    ·repeat (first|exact Ac|(refine List.forall_mem_cons.2 ⟨?_,?_⟩;focus (first|exact Ap inferInstance|(refine AG rfl ?_ rfl;focus ((repeat (first|exact EntL.nil' rfl|(refine EntL.cons' rfl ?_ ?_;focus (first|exact Aa.ratsLe (by omega)|exact Aa.ratsNil|exact Aa.glNil|(refine Aa.int ?_;omega)|(refine Aa.glLen ?_;first|omega|simp)|exact Aa.of_eq rfl|(refine Aa.q rfl ?_;omega)|exact Z0 _|exact Z2 _|exact Aa.z0 (k:=0)|exact Aa.z1 (k:=0)|exact Aa.z2 (k:=0)|exact Aa.z0|exact Aa.z1|exact Aa.z2))));done)))))
   repeat (refine DI rfl ?_;(first|refine Ad (hl:=?_)|refine Al (hl:=?_)|refine At (hl:=?_));apply Ai.nil)
   refine DJ ?_
   repeat (first
    | refine Aq ?_|refine Ah ?_|refine Af rfl ?_|refine Ag rfl ?_
    | ((first|refine Ae (by kernel_rfl) ?_|refine Ak (by kernel_rfl) (by kernel_rfl) (by kernel_rfl) ?_)
       repeat (first
        | refine Al (hl:=?_)
        | refine Ad (hl:=?_)
        | refine As (hl:=?_)
        | refine At (hl:=?_)
        | refine Dj (hl:=?_)
        | refine AA (hl:=?_)
        | refine Ax (hl:=?_)
        | refine Ab (hl:=?_)
        | refine AC (hl:=?_)
        | refine AB (hl:=?_)
        | refine AD (hl:=?_)
        | refine Au (hl:=?_)
        | refine Ao (hl:=?_)
        | refine Az (hl:=?_))
       apply Ai.nil;try refine And.intro (by kernel_rfl) ?_)
    | refine Am ?_|refine An ?_)
   refine ⟨n-1,by omega,i+1,done++ [a+(x-u)*t],by omega,by omega,?_,?_⟩
   ·rw [hdone,List.take_add_one,List.map_append,hx'];rfl
   ·refine AT ?_ ?_ rfl
    ·repeat (first|exact Ac|(refine List.forall_mem_cons.2 ⟨?_,?_⟩;focus (first|exact Ent.of_eq rfl|(refine Ent.one' rfl ?_;(first|exact Aa.ratsLe (by omega)|exact Aa.ratsNil|exact Aa.glNil|(refine Aa.int ?_;omega)|(refine Aa.glLen ?_;first|omega|simp)|exact Aa.of_eq rfl|(refine Aa.q rfl ?_;omega)|exact Z0 _|exact Z2 _|exact Aa.z0 (k:=0)|exact Aa.z1 (k:=0)|exact Aa.z2 (k:=0)|exact Aa.z0|exact Aa.z1|exact Aa.z2))|(refine Ent.agg' rfl ?_;(repeat (first|exact EntL.nil' rfl|(refine EntL.cons' rfl ?_ ?_;focus (first|exact Aa.ratsLe (by omega)|exact Aa.ratsNil|exact Aa.glNil|(refine Aa.int ?_;omega)|(refine Aa.glLen ?_;first|omega|simp)|exact Aa.of_eq rfl|(refine Aa.q rfl ?_;omega)|exact Z0 _|exact Z2 _|exact Aa.z0 (k:=0)|exact Aa.z1 (k:=0)|exact Aa.z2 (k:=0)|exact Aa.z0|exact Aa.z1|exact Aa.z2))));done))))
    ·repeat (first|exact Ac|(refine List.forall_mem_cons.2 ⟨?_,?_⟩;focus (first|exact Ap inferInstance|(refine C7 inferInstance ?_;(repeat (first|exact EntL.nil' rfl|(refine EntL.cons' rfl ?_ ?_;focus (first|exact Aa.ratsLe (by omega)|exact Aa.ratsNil|exact Aa.glNil|(refine Aa.int ?_;omega)|(refine Aa.glLen ?_;first|omega|simp)|exact Aa.of_eq rfl|(refine Aa.q rfl ?_;omega)|exact Z0 _|exact Z2 _|exact Aa.z0 (k:=0)|exact Aa.z1 (k:=0)|exact Aa.z2 (k:=0)|exact Aa.z0|exact Aa.z1|exact Aa.z2))));done)|(refine AG rfl ?_ rfl;focus ((repeat (first|exact EntL.nil' rfl|(refine EntL.cons' rfl ?_ ?_;focus (first|exact Aa.ratsLe (by omega)|exact Aa.ratsNil|exact Aa.glNil|(refine Aa.int ?_;omega)|(refine Aa.glLen ?_;first|omega|simp)|exact Aa.of_eq rfl|(refine Aa.q rfl ?_;omega)|exact Z0 _|exact Z2 _|exact Aa.z0 (k:=0)|exact Aa.z1 (k:=0)|exact Aa.z2 (k:=0)|exact Aa.z0|exact Aa.z1|exact Aa.z2))));done)))))
  ·have bi:=Cf (k:= .i64) (decide_eq_false (show ¬(i:Int)<(l.length:Int) by omega))
   have he:done=R:=by rw [hdone,hR,List.take_of_length_le (by omega)]
   subst he
   repeat (first
    | refine Aq ?_|refine Ah ?_|refine Af rfl ?_|refine Ag rfl ?_
    | ((first|refine Ae (by kernel_rfl) ?_|refine Ak (by kernel_rfl) (by kernel_rfl) (by kernel_rfl) ?_)
       repeat (first
        | refine Al (hl:=?_)
        | refine Ad (hl:=?_)
        | refine As (hl:=?_)
        | refine At (hl:=?_)
        | refine Dj (hl:=?_)
        | refine AA (hl:=?_)
        | refine Ax (hl:=?_)
        | refine Ab (hl:=?_)
        | refine AC (hl:=?_)
        | refine AB (hl:=?_)
        | refine AD (hl:=?_)
        | refine Au (hl:=?_)
        | refine Ao (hl:=?_)
        | refine Az (hl:=?_))
       apply Ai.nil;try refine And.intro (by kernel_rfl) ?_)
    | refine Am ?_|refine An ?_)
   refine Dg 900 hD (ss:= [(6,.one (BF (2*ja+jb+4*j+16) done)),(7,AK 0)]) (bs:= []) ?_ ?_
   ·refine Ie ?_ ?_ rfl
    ·repeat (first|exact Ac|(refine List.forall_mem_cons.2 ⟨?_,?_⟩;focus (first|exact FH inferInstance|refine FzA.ent ?_;first|exact Ent.of_eq rfl|(refine Ent.one' rfl ?_;(first|exact Aa.ratsLe (by omega)|exact Aa.ratsNil|exact Aa.glNil|(refine Aa.int ?_;omega)|(refine Aa.glLen ?_;first|omega|simp)|exact Aa.of_eq rfl|(refine Aa.q rfl ?_;omega)|exact Z0 _|exact Z2 _|exact Aa.z0 (k:=0)|exact Aa.z1 (k:=0)|exact Aa.z2 (k:=0)|exact Aa.z0|exact Aa.z1|exact Aa.z2))|(refine Ent.agg' rfl ?_;(repeat (first|exact EntL.nil' rfl|(refine EntL.cons' rfl ?_ ?_;focus (first|exact Aa.ratsLe (by omega)|exact Aa.ratsNil|exact Aa.glNil|(refine Aa.int ?_;omega)|(refine Aa.glLen ?_;first|omega|simp)|exact Aa.of_eq rfl|(refine Aa.q rfl ?_;omega)|exact Z0 _|exact Z2 _|exact Aa.z0 (k:=0)|exact Aa.z1 (k:=0)|exact Aa.z2 (k:=0)|exact Aa.z0|exact Aa.z1|exact Aa.z2))));done))))
    ·repeat (first|exact Ac|(refine List.forall_mem_cons.2 ⟨?_,?_⟩;focus (first|exact Ap inferInstance|(refine AG rfl ?_ rfl;focus ((repeat (first|exact EntL.nil' rfl|(refine EntL.cons' rfl ?_ ?_;focus (first|exact Aa.ratsLe (by omega)|exact Aa.ratsNil|exact Aa.glNil|(refine Aa.int ?_;omega)|(refine Aa.glLen ?_;first|omega|simp)|exact Aa.of_eq rfl|(refine Aa.q rfl ?_;omega)|exact Z0 _|exact Z2 _|exact Aa.z0 (k:=0)|exact Aa.z1 (k:=0)|exact Aa.z2 (k:=0)|exact Aa.z0|exact Aa.z1|exact Aa.z2))));done)))))
   refine A9 (And.intro (Or.inr rfl) ?_)
   exact I8
 ·have bc:=F9 (k:= .i64) (decide_eq_true (J5.2 hab))
  rw [if_neg hab]
  refine AW Tryz.func31 rfl rfl rfl rfl rfl rfl ?_
  intro W0 base D μ0 hA hD
  repeat (first
   | refine Aq ?_|refine Ah ?_|refine Af rfl ?_|refine Ag rfl ?_
   | ((first|refine Ae (by kernel_rfl) ?_|refine Ak (by kernel_rfl) (by kernel_rfl) (by kernel_rfl) ?_)
      repeat (first
       | refine Al (hl:=?_)
       | refine Ad (hl:=?_)
       | refine As (hl:=?_)
       | refine At (hl:=?_)
       | refine Dj (hl:=?_)
       | refine AA (hl:=?_)
       | refine Ax (hl:=?_)
       | refine Ab (hl:=?_)
       | refine AC (hl:=?_)
       | refine AB (hl:=?_)
       | refine AD (hl:=?_)
       | refine Au (hl:=?_)
       | refine Ao (hl:=?_)
       | refine Az (hl:=?_)
       | refine Ar hA (hc:=C1) (hl:=?_))
      apply Ai.nil;try refine And.intro (by kernel_rfl) ?_)
   | refine Am ?_|refine An ?_)
  refine A9 (And.intro (Or.inr rfl) ?_)
  exact I8 (hE:=(Ent.tup rfl (EntT.cons (Ent.one' rfl Aa.ratsNil) rfl rfl (EntT.cons (Ent.of_eq rfl) rfl rfl EntT.nil))))
theorem Ke {α:Type} {n:Nat} {f:α→List D} (hf:Elm n f) {l:List α} (hn:0<n) (h:0<l.length):0<(Bz f l).length:=by rw [B6 hf];exact Nat.mul_pos h hn
theorem TM {n d:Int} (h:(decide (-9223372036854775808≤n)&&decide (n<9223372036854775808)&&decide (1≤d)&&decide (d<9223372036854775808))=true):Ctr Tryz.prog Amb 80 [AK n,AK d] (.tup [nm 2 ((n:Rat)/(d:Rat)),AK 0]):=by
 simp only [Bool.and_eq_true,decide_eq_true_eq] at h
 obtain ⟨⟨⟨h1,h2⟩,h3⟩,h4⟩:=h
 have e:AP (decide (n<0) !=decide (d<0)) n.natAbs d.natAbs=(n:Rat)/(d:Rat):=by
  rw [decide_eq_false (show ¬d<0 by omega),Bool.bne_false]
  unfold AP
  rw [GW,Rat.mkRat_eq_div]
  congr 1
  have:((d.natAbs:Nat):Int)=d:=by omega
  rw [←Rat.intCast_natCast,this]
 refine LS fun W0 μ sz w u v ht hu hv=>?_
 cases hu
 cases hv
 refine (QF n d h1 h2 (by omega) h4 (by omega) w ht).mono ?_
 rintro e' w' ⟨r,rfl,k2,k3⟩
 rw [e] at k2
 refine ⟨_,rfl,k3,[r,.int .i64 0],rfl,rfl,fun i a b ha hb=>?_⟩
 match i with
 | 0=>simp at ha hb;subst ha;subst hb;exact Lo k2 (by rw [←e];exact NG (AR _ _ (by omega)) (AR _ _ (by omega)) (by omega))
 | 1=>simp at ha hb;subst ha;subst hb;rfl
 | i+2=>simp at ha
def smR (l:List Rat) (i:Nat):Nat→Rat
 | 0=>0
 | q+1=>smR l i q+l.getD (i+(q+1)) 0
def Fu (l:List Rat) (p:Nat):List Rat:=(List.range (l.length-p-1)).map fun i=>smR l i p*(((1:Int):Rat)/((p:Int):Rat))
theorem NX {l:List Rat} {i:Nat} (h:i<l.length):l[((i:Nat):Int).toNat]?=some (l.getD i 0):=by
 rw [Int.toNat_natCast,List.getD_eq_getElem?_getD,List.getElem?_eq_getElem h];rfl
theorem PL {j p:Nat} {l:List Rat} (hl:l.length≤1000000) (hp:p+1≤l.length):Ctr Tryz.prog Amb 16 [.one (BF j l),AK (p:Nat)] (AK ((l.length-p-1:Nat):Int)):=by
 have b1:=Cq (k:= .i64) (show (IntKind.i64).wrap ((l.length:Int)-p)=((l.length-p:Nat):Int) by rw [show ((l.length:Int)-p)=((l.length-p:Nat):Int) by omega];exact IntWalk.i64_in _ (by omega))
 have b2:=Cq (k:= .i64) (show (IntKind.i64).wrap (((l.length-p:Nat):Int)-1)=((l.length-p-1:Nat):Int) by rw [show (((l.length-p:Nat):Int)-1)=((l.length-p-1:Nat):Int) by omega];exact IntWalk.i64_in _ (by omega))
 refine AW Tryz.func16 rfl rfl rfl rfl rfl rfl ?_
 intro W0 base D μ0 hA hD
 repeat (first
  | refine Aq ?_|refine Ah ?_|refine Af rfl ?_|refine Ag rfl ?_
  | (refine Ae (by kernel_rfl) ?_
     repeat (first
      | refine Al (hl:=?_)
      | refine Ad (hl:=?_)
      | refine Ax (hl:=?_)
      | refine AC (hl:=?_)
      | refine AB (hl:=?_)
      | refine AD (hl:=?_)
      | refine Au (hl:=?_))
     apply Ai.nil)
  | refine Am ?_|refine An ?_)
 refine A9 (And.intro (Or.inr rfl) ?_)
 exact Ct
theorem JA {j p:Nat} {l:List Rat} (hl:l.length≤1000000) (hp:p+1≤l.length):Ctr Tryz.prog Amb 15 [.one (BF j l),AK (p:Nat)] (AK ((l.length-p-1:Nat):Int)):=by
 have b1:=Cq (k:= .i64) (show (IntKind.i64).wrap ((l.length:Int)-p)=((l.length-p:Nat):Int) by rw [show ((l.length:Int)-p)=((l.length-p:Nat):Int) by omega];exact IntWalk.i64_in _ (by omega))
 have b2:=Cq (k:= .i64) (show (IntKind.i64).wrap (((l.length-p:Nat):Int)-1)=((l.length-p-1:Nat):Int) by rw [show (((l.length-p:Nat):Int)-1)=((l.length-p-1:Nat):Int) by omega];exact IntWalk.i64_in _ (by omega))
 refine AW Tryz.func15 rfl rfl rfl rfl rfl rfl ?_
 intro W0 base D μ0 hA hD
 repeat (first
  | refine Aq ?_|refine Ah ?_|refine Af rfl ?_|refine Ag rfl ?_
  | (refine Ae (by kernel_rfl) ?_
     repeat (first
      | refine Al (hl:=?_)
      | refine Ad (hl:=?_)
      | refine Ax (hl:=?_)
      | refine AC (hl:=?_)
      | refine AB (hl:=?_)
      | refine AD (hl:=?_)
      | refine Au (hl:=?_))
     apply Ai.nil)
  | refine Am ?_|refine An ?_)
 refine A9 (And.intro (Or.inr rfl) ?_)
 exact Ct
theorem KI {j p:Nat} {l:List Rat} (hj:j≤10000) (hl:l.length≤1000000) (hp:1≤p∧p≤100) (hlp:p+1≤l.length):
  Ctr Tryz.prog Amb 33 [.one (BF j l),AK (p:Nat)] (.one (BF (p*(j+3)+4) (Fu l p))):=by
 have P1:=PL (j:=j) hl hlp
 have F1:=Hl (n:=1) (d:=(p:Int)) (by rw [decide_eq_true (show (1:Int)≤p by omega),decide_eq_true (show (p:Int)<9223372036854775808 by omega)];rfl)
 obtain ⟨N,hN⟩: ∃N,N=l.length-p-1:=⟨_,rfl⟩
 obtain ⟨R,hR⟩: ∃R,R=Fu l p:=⟨_,rfl⟩
 rw [←hR]
 unfold Fu at hR
 rw [←hN] at P1 hR
 generalize ((1:Int):Rat)/((p:Int):Rat)=t at*
 have hsz: ∀q,q≤p→q*(j+3)≤10000000:=fun q hq=>Nat.le_trans (Nat.mul_le_mul (Nat.le_trans hq hp.2) (show j+3≤100000 by omega)) (by decide)
 refine AW Tryz.func33 rfl rfl rfl rfl rfl rfl ?_
 intro W0 base D μ0 hA hD
 repeat (first
  | refine Aq ?_|refine Ah ?_|refine Af rfl ?_|refine Ag rfl ?_
  | ((first|refine Ae (by kernel_rfl) ?_|refine Ak (by kernel_rfl) (by kernel_rfl) (by kernel_rfl) ?_)
     repeat (first
      | refine Al (hl:=?_)
      | refine Ad (hl:=?_)
      | refine As (hl:=?_)
      | refine At (hl:=?_)
      | refine AA (hl:=?_)
      | refine Ax (hl:=?_)
      | refine Ab (hl:=?_)
      | refine AC (hl:=?_)
      | refine AB (hl:=?_)
      | refine AD (hl:=?_)
      | refine Ao (hl:=?_)
      | refine Az (hl:=?_))
     apply Ai.nil;try refine And.intro (by kernel_rfl) ?_)
  | refine Am ?_|refine An ?_)
 refine Cr (fun n σ=> ∃(i:Nat) (done:List Rat),n=N-i∧i≤N∧done=(List.range i).map (fun i=>smR l i p*t)∧Wk ⟨W0,base,D,37,[],μ0⟩ σ [(0,.one (BF j l)),(1,AK (p:Nat)),(5,.one (.gl 900 done.length 3)),(6,AK (i:Nat))] [(900,Bz (nmD (p*(j+3)+4)) done)]) (n:=N) ⟨0,[],by omega,by omega,by simp,?_⟩ ?_
 ·refine AT ?_ ?_ rfl
  ·repeat (first|exact Ac|(refine List.forall_mem_cons.2 ⟨?_,?_⟩;focus (first|exact Ent.of_eq rfl|(refine Ent.one' rfl ?_;(first|exact Aa.ratsLe (by omega)|exact Aa.ratsNil|exact Aa.glNil|(refine Aa.int ?_;omega)|(refine Aa.glLen ?_;first|omega|simp)|exact Aa.of_eq rfl|(refine Aa.q rfl ?_;omega)|exact Z0 _|exact Z2 _|exact Aa.z0 (k:=0)|exact Aa.z1 (k:=0)|exact Aa.z2 (k:=0)|exact Aa.z0|exact Aa.z1|exact Aa.z2))|(refine Ent.agg' rfl ?_;(repeat (first|exact EntL.nil' rfl|(refine EntL.cons' rfl ?_ ?_;focus (first|exact Aa.ratsLe (by omega)|exact Aa.ratsNil|exact Aa.glNil|(refine Aa.int ?_;omega)|(refine Aa.glLen ?_;first|omega|simp)|exact Aa.of_eq rfl|(refine Aa.q rfl ?_;omega)|exact Z0 _|exact Z2 _|exact Aa.z0 (k:=0)|exact Aa.z1 (k:=0)|exact Aa.z2 (k:=0)|exact Aa.z0|exact Aa.z1|exact Aa.z2))));done))))
  ·repeat (first|exact Ac|(refine List.forall_mem_cons.2 ⟨?_,?_⟩;focus (first|exact Ap inferInstance|(refine AG rfl ?_ rfl;focus ((repeat (first|exact EntL.nil' rfl|(refine EntL.cons' rfl ?_ ?_;focus (first|exact Aa.ratsLe (by omega)|exact Aa.ratsNil|exact Aa.glNil|(refine Aa.int ?_;omega)|(refine Aa.glLen ?_;first|omega|simp)|exact Aa.of_eq rfl|(refine Aa.q rfl ?_;omega)|exact Z0 _|exact Z2 _|exact Aa.z0 (k:=0)|exact Aa.z1 (k:=0)|exact Aa.z2 (k:=0)|exact Aa.z0|exact Aa.z1|exact Aa.z2))));done)))))
 intro n σ hI
 obtain ⟨i,done,hn,hi0,hdone,hw⟩:=hI
 refine Dp hw ?_
 clear hw
 have hlen:done.length=i:=by rw [hdone];simp
 by_cases hi:i<N
 ·have bi:=Cf (k:= .i64) (decide_eq_true (show (i:Int)<(N:Int) by omega))
  have hin:=BJ (k:= .i64) (show (IntKind.i64).wrap ((i:Int)+1)=((i+1:Nat):Int) from IntWalk.i64_in _ (by omega))
  repeat (first
   | refine Aq ?_|refine Ah ?_|refine Af rfl ?_|refine Ag rfl ?_
   | ((first|refine Ae (by kernel_rfl) ?_|refine Ak (by kernel_rfl) (by kernel_rfl) (by kernel_rfl) ?_)
      repeat (first
       | refine Al (hl:=?_)
       | refine Ad (hl:=?_)
       | refine As (hl:=?_)
       | refine At (hl:=?_)
       | refine AA (hl:=?_)
       | refine Ax (hl:=?_)
       | refine Ab (hl:=?_)
       | refine AC (hl:=?_)
       | refine AB (hl:=?_)
       | refine AD (hl:=?_)
       | refine Ao (hl:=?_)
       | refine Az (hl:=?_)
       | refine Ar hA (hc:=P1) (hl:=?_))
      apply Ai.nil;try refine And.intro (by kernel_rfl) ?_)
   | refine Am ?_|refine An ?_)
  refine Cr (fun m σ=> ∃(q:Nat),m=p-q∧q≤p∧Wk ⟨W0,base,D,37,[],μ0⟩ σ [(0,.one (BF j l)),(1,AK (p:Nat)),(5,.one (.gl 900 done.length 3)),(6,AK (i:Nat)),(7,.one (.ptr 7 0)),(8,AK ((q+1:Nat):Int))] [(900,Bz (nmD (p*(j+3)+4)) done),(7,nmC (q*(j+3)) (smR l i q))]) (n:=p) ⟨0,by omega,by omega,?_⟩ ?_
  ·refine AT ?_ ?_ rfl
   ·repeat (first|exact Ac|(refine List.forall_mem_cons.2 ⟨?_,?_⟩;focus (first|exact Ent.of_eq rfl|(refine Ent.one' rfl ?_;(first|exact Aa.ratsLe (by omega)|exact Aa.ratsNil|exact Aa.glNil|(refine Aa.int ?_;omega)|(refine Aa.glLen ?_;first|omega|simp)|exact Aa.of_eq rfl|(refine Aa.q rfl ?_;omega)|exact Z0 _|exact Z2 _|exact Aa.z0 (k:=0)|exact Aa.z1 (k:=0)|exact Aa.z2 (k:=0)|exact Aa.z0|exact Aa.z1|exact Aa.z2))|(refine Ent.agg' rfl ?_;(repeat (first|exact EntL.nil' rfl|(refine EntL.cons' rfl ?_ ?_;focus (first|exact Aa.ratsLe (by omega)|exact Aa.ratsNil|exact Aa.glNil|(refine Aa.int ?_;omega)|(refine Aa.glLen ?_;first|omega|simp)|exact Aa.of_eq rfl|(refine Aa.q rfl ?_;omega)|exact Z0 _|exact Z2 _|exact Aa.z0 (k:=0)|exact Aa.z1 (k:=0)|exact Aa.z2 (k:=0)|exact Aa.z0|exact Aa.z1|exact Aa.z2))));done))))
   ·repeat (first|exact Ac|(refine List.forall_mem_cons.2 ⟨?_,?_⟩;focus (first|exact Ap inferInstance|(refine AG rfl ?_ rfl;focus ((repeat (first|exact EntL.nil' rfl|(refine EntL.cons' rfl ?_ ?_;focus (first|exact Aa.ratsLe (by omega)|exact Aa.ratsNil|exact Aa.glNil|(refine Aa.int ?_;omega)|(refine Aa.glLen ?_;first|omega|simp)|exact Aa.of_eq rfl|(refine Aa.q rfl ?_;omega)|exact Z0 _|exact Z2 _|exact Aa.z0 (k:=0)|exact Aa.z1 (k:=0)|exact Aa.z2 (k:=0)|exact Aa.z0|exact Aa.z1|exact Aa.z2))));done)))))
  intro m σ hI
  obtain ⟨q,hm,hq0,hw⟩:=hI
  refine Dp hw ?_
  clear hw
  by_cases hq:q<p
  ·have bq:=Iu (k:= .i64) (decide_eq_true (show ((q+1:Nat):Int)≤(p:Int) by omega))
   have hix:=BJ (k:= .i64) (show (IntKind.i64).wrap ((i:Int)+((q+1:Nat):Int))=((i+(q+1):Nat):Int) from IntWalk.i64_in _ (by omega))
   have hin2:=BJ (k:= .i64) (show (IntKind.i64).wrap (((q+1:Nat):Int)+1)=((q+1+1:Nat):Int) from IntWalk.i64_in _ (by omega))
   have hx:=NX (l:=l) (i:=i+(q+1)) (by omega)
   have h5:=hsz q hq0
   have A3:=Hm (j:=q*(j+3)) (k:=j) (x:=smR l i q) (y:=l.getD (i+(q+1)) 0) (by omega) (by omega)
   repeat (first
    | refine Aq ?_|refine Ah ?_|refine Af rfl ?_|refine Ag rfl ?_
    | ((first|refine Ae (by kernel_rfl) ?_|refine Ak (by kernel_rfl) (by kernel_rfl) (by kernel_rfl) ?_)
       repeat (first
        | refine Al (hl:=?_)
        | refine Ad (hl:=?_)
        | refine As (hl:=?_)
        | refine At (hl:=?_)
        | refine AA (hl:=?_)
        | refine Ax (hl:=?_)
        | refine Ab (hl:=?_)
        | refine AC (hl:=?_)
        | refine AB (hl:=?_)
        | refine AD (hl:=?_)
        | refine Ao (hl:=?_)
        | refine Az (hl:=?_)
        | refine Cl hx (by omega) (hl:=?_)
        | refine Ar hA (hc:=A3) (hl:=?_))
       apply Ai.nil;try refine And.intro (by kernel_rfl) ?_)
    | refine Am ?_|refine An ?_)
   have e5:q*(j+3)+j+3=(q+1)*(j+3):=by rw [Nat.add_mul];omega
   refine ⟨m-1,by omega,q+1,by omega,by omega,?_⟩
   rw [←e5]
   refine AT ?_ ?_ rfl
   ·repeat (first|exact Ac|(refine List.forall_mem_cons.2 ⟨?_,?_⟩;focus (first|exact Ent.of_eq rfl|(refine Ent.one' rfl ?_;(first|exact Aa.ratsLe (by omega)|exact Aa.ratsNil|exact Aa.glNil|(refine Aa.int ?_;omega)|(refine Aa.glLen ?_;first|omega|simp)|exact Aa.of_eq rfl|(refine Aa.q rfl ?_;omega)|exact Z0 _|exact Z2 _|exact Aa.z0 (k:=0)|exact Aa.z1 (k:=0)|exact Aa.z2 (k:=0)|exact Aa.z0|exact Aa.z1|exact Aa.z2))|(refine Ent.agg' rfl ?_;(repeat (first|exact EntL.nil' rfl|(refine EntL.cons' rfl ?_ ?_;focus (first|exact Aa.ratsLe (by omega)|exact Aa.ratsNil|exact Aa.glNil|(refine Aa.int ?_;omega)|(refine Aa.glLen ?_;first|omega|simp)|exact Aa.of_eq rfl|(refine Aa.q rfl ?_;omega)|exact Z0 _|exact Z2 _|exact Aa.z0 (k:=0)|exact Aa.z1 (k:=0)|exact Aa.z2 (k:=0)|exact Aa.z0|exact Aa.z1|exact Aa.z2))));done))))
   ·repeat (first|exact Ac|(refine List.forall_mem_cons.2 ⟨?_,?_⟩;focus (first|exact Ap inferInstance|(refine AG rfl ?_ rfl;focus ((repeat (first|exact EntL.nil' rfl|(refine EntL.cons' rfl ?_ ?_;focus (first|exact Aa.ratsLe (by omega)|exact Aa.ratsNil|exact Aa.glNil|(refine Aa.int ?_;omega)|(refine Aa.glLen ?_;first|omega|simp)|exact Aa.of_eq rfl|(refine Aa.q rfl ?_;omega)|exact Z0 _|exact Z2 _|exact Aa.z0 (k:=0)|exact Aa.z1 (k:=0)|exact Aa.z2 (k:=0)|exact Aa.z0|exact Aa.z1|exact Aa.z2))));done)))))
  ·obtain rfl:q=p:=by omega
   have bq:=Iu (k:= .i64) (decide_eq_false (show ¬((q+1:Nat):Int)≤(q:Int) by omega))
   have h5:=hsz q hq0
   have M3:=SN (j:=q*(j+3)) (k:=2) (x:=smR l i q) (y:=t) (by omega) (by omega)
   repeat (first
    | refine Aq ?_|refine Ah ?_|refine Af rfl ?_|refine Ag rfl ?_
    | ((first|refine Ae (by kernel_rfl) ?_|refine Ak (by kernel_rfl) (by kernel_rfl) (by kernel_rfl) ?_)
       repeat (first
        | refine Al (hl:=?_)
        | refine Ad (hl:=?_)
        | refine As (hl:=?_)
        | refine At (hl:=?_)
        | refine AA (hl:=?_)
        | refine Ax (hl:=?_)
        | refine Ab (hl:=?_)
        | refine AC (hl:=?_)
        | refine AB (hl:=?_)
        | refine AD (hl:=?_)
        | refine Ao (hl:=?_)
        | refine Az (hl:=?_))
       apply Ai.nil;try refine And.intro (by kernel_rfl) ?_)
    | refine Am ?_|refine An ?_)
   try refine Aq ?_
   refine Iv 6 (by simp only [List.take_succ_cons,List.take_zero,List.drop_succ_cons,List.drop_zero];exact ⟨rfl,rfl⟩) (by kernel_rfl) (by kernel_rfl) (by kernel_rfl) (by kernel_rfl) (by kernel_rfl) ?_
   repeat (first
    | refine Al (hl:=?_)
    | refine Ad (hl:=?_)
    | refine As (hl:=?_)
    | refine At (hl:=?_)
    | refine AA (hl:=?_)
    | refine Ax (hl:=?_)
    | refine Ab (hl:=?_)
    | refine AC (hl:=?_)
    | refine AB (hl:=?_)
    | refine AD (hl:=?_)
    | refine Ao (hl:=?_)
    | refine Az (hl:=?_)
    | refine Ar hA (hc:=F1) (hl:=?_)
    | refine Ar hA (hc:=M3) (hl:=?_))
   apply Ai.nil
   refine And.intro (by kernel_rfl) ?_
   refine ES (k:=900) (ss:= [(0,.one (BF j l)),(1,AK (q:Nat)),(6,AK (i:Nat))]) (bs:= []) (ns:=(nmC (q*(j+3)+2+2) (smR l i q*t))) hD ?_ ?_ ?_
   ·exact ⟨by omega,by omega⟩
   ·refine AT ?_ ?_ rfl
    ·repeat (first|exact Ac|(refine List.forall_mem_cons.2 ⟨?_,?_⟩;focus (first|exact Ent.of_eq rfl|(refine Ent.one' rfl ?_;(first|exact Aa.ratsLe (by omega)|exact Aa.ratsNil|exact Aa.glNil|(refine Aa.int ?_;omega)|(refine Aa.glLen ?_;first|omega|simp)|exact Aa.of_eq rfl|(refine Aa.q rfl ?_;omega)|exact Z0 _|exact Z2 _|exact Aa.z0 (k:=0)|exact Aa.z1 (k:=0)|exact Aa.z2 (k:=0)|exact Aa.z0|exact Aa.z1|exact Aa.z2))|(refine Ent.agg' rfl ?_;(repeat (first|exact EntL.nil' rfl|(refine EntL.cons' rfl ?_ ?_;focus (first|exact Aa.ratsLe (by omega)|exact Aa.ratsNil|exact Aa.glNil|(refine Aa.int ?_;omega)|(refine Aa.glLen ?_;first|omega|simp)|exact Aa.of_eq rfl|(refine Aa.q rfl ?_;omega)|exact Z0 _|exact Z2 _|exact Aa.z0 (k:=0)|exact Aa.z1 (k:=0)|exact Aa.z2 (k:=0)|exact Aa.z0|exact Aa.z1|exact Aa.z2))));done))))
    ·repeat (first|exact Ac|(refine List.forall_mem_cons.2 ⟨?_,?_⟩;focus (first|exact Ap inferInstance|(refine AG rfl ?_ rfl;focus ((repeat (first|exact EntL.nil' rfl|(refine EntL.cons' rfl ?_ ?_;focus (first|exact Aa.ratsLe (by omega)|exact Aa.ratsNil|exact Aa.glNil|(refine Aa.int ?_;omega)|(refine Aa.glLen ?_;first|omega|simp)|exact Aa.of_eq rfl|(refine Aa.q rfl ?_;omega)|exact Z0 _|exact Z2 _|exact Aa.z0 (k:=0)|exact Aa.z1 (k:=0)|exact Aa.z2 (k:=0)|exact Aa.z0|exact Aa.z1|exact Aa.z2))));done)))))
   repeat (refine DI rfl ?_;(first|refine Ad (hl:=?_)|refine Al (hl:=?_)|refine At (hl:=?_));apply Ai.nil)
   refine DJ ?_
   repeat (first
    | refine Aq ?_|refine Ah ?_|refine Af rfl ?_|refine Ag rfl ?_
    | ((first|refine Ae (by kernel_rfl) ?_|refine Ak (by kernel_rfl) (by kernel_rfl) (by kernel_rfl) ?_)
       repeat (first
        | refine Al (hl:=?_)
        | refine Ad (hl:=?_)
        | refine As (hl:=?_)
        | refine At (hl:=?_)
        | refine AA (hl:=?_)
        | refine Ax (hl:=?_)
        | refine Ab (hl:=?_)
        | refine AC (hl:=?_)
        | refine AB (hl:=?_)
        | refine AD (hl:=?_)
        | refine Ao (hl:=?_)
        | refine Az (hl:=?_))
       apply Ai.nil;try refine And.intro (by kernel_rfl) ?_)
    | refine Am ?_|refine An ?_)
   refine ⟨n-1,by omega,i+1,done++ [smR l i q*t],by omega,by omega,?_,?_⟩
   ·rw [hdone,List.range_succ,List.map_append];rfl
   ·refine AT ?_ ?_ rfl
    ·repeat (first|exact Ac|(refine List.forall_mem_cons.2 ⟨?_,?_⟩;focus (first|exact Ent.of_eq rfl|(refine Ent.one' rfl ?_;(first|exact Aa.ratsLe (by omega)|exact Aa.ratsNil|exact Aa.glNil|(refine Aa.int ?_;omega)|(refine Aa.glLen ?_;first|omega|simp)|exact Aa.of_eq rfl|(refine Aa.q rfl ?_;omega)|exact Z0 _|exact Z2 _|exact Aa.z0 (k:=0)|exact Aa.z1 (k:=0)|exact Aa.z2 (k:=0)|exact Aa.z0|exact Aa.z1|exact Aa.z2))|(refine Ent.agg' rfl ?_;(repeat (first|exact EntL.nil' rfl|(refine EntL.cons' rfl ?_ ?_;focus (first|exact Aa.ratsLe (by omega)|exact Aa.ratsNil|exact Aa.glNil|(refine Aa.int ?_;omega)|(refine Aa.glLen ?_;first|omega|simp)|exact Aa.of_eq rfl|(refine Aa.q rfl ?_;omega)|exact Z0 _|exact Z2 _|exact Aa.z0 (k:=0)|exact Aa.z1 (k:=0)|exact Aa.z2 (k:=0)|exact Aa.z0|exact Aa.z1|exact Aa.z2))));done))))
    ·repeat (first|exact Ac|(refine List.forall_mem_cons.2 ⟨?_,?_⟩;focus (first|exact Ap inferInstance|(refine C7 inferInstance ?_;(repeat (first|exact EntL.nil' rfl|(refine EntL.cons' rfl ?_ ?_;focus (first|exact Aa.ratsLe (by omega)|exact Aa.ratsNil|exact Aa.glNil|(refine Aa.int ?_;omega)|(refine Aa.glLen ?_;first|omega|simp)|exact Aa.of_eq rfl|(refine Aa.q rfl ?_;omega)|exact Z0 _|exact Z2 _|exact Aa.z0 (k:=0)|exact Aa.z1 (k:=0)|exact Aa.z2 (k:=0)|exact Aa.z0|exact Aa.z1|exact Aa.z2))));done)|(refine AG rfl ?_ rfl;focus ((repeat (first|exact EntL.nil' rfl|(refine EntL.cons' rfl ?_ ?_;focus (first|exact Aa.ratsLe (by omega)|exact Aa.ratsNil|exact Aa.glNil|(refine Aa.int ?_;omega)|(refine Aa.glLen ?_;first|omega|simp)|exact Aa.of_eq rfl|(refine Aa.q rfl ?_;omega)|exact Z0 _|exact Z2 _|exact Aa.z0 (k:=0)|exact Aa.z1 (k:=0)|exact Aa.z2 (k:=0)|exact Aa.z0|exact Aa.z1|exact Aa.z2))));done)))))
 ·have bi:=Cf (k:= .i64) (decide_eq_false (show ¬(i:Int)<(N:Int) by omega))
  have he:done=R:=by rw [hdone,hR,show i=N by omega]
  subst he
  repeat (first
   | refine Aq ?_|refine Ah ?_|refine Af rfl ?_|refine Ag rfl ?_
   | ((first|refine Ae (by kernel_rfl) ?_|refine Ak (by kernel_rfl) (by kernel_rfl) (by kernel_rfl) ?_)
      repeat (first
       | refine Al (hl:=?_)
       | refine Ad (hl:=?_)
       | refine As (hl:=?_)
       | refine At (hl:=?_)
       | refine AA (hl:=?_)
       | refine Ax (hl:=?_)
       | refine Ab (hl:=?_)
       | refine AC (hl:=?_)
       | refine AB (hl:=?_)
       | refine AD (hl:=?_)
       | refine Ao (hl:=?_)
       | refine Az (hl:=?_)
       | refine Ar hA (hc:=P1) (hl:=?_))
      apply Ai.nil;try refine And.intro (by kernel_rfl) ?_)
   | refine Am ?_|refine An ?_)
  refine Dg 900 hD (ss:= [(4,.one (BF (p*(j+3)+4) done))]) (bs:= []) ?_ ?_
  ·refine Ie ?_ ?_ rfl
   ·repeat (first|exact Ac|(refine List.forall_mem_cons.2 ⟨?_,?_⟩;focus (first|exact FH inferInstance|refine FzA.ent ?_;first|exact Ent.of_eq rfl|(refine Ent.one' rfl ?_;(first|exact Aa.ratsLe (by omega)|exact Aa.ratsNil|exact Aa.glNil|(refine Aa.int ?_;omega)|(refine Aa.glLen ?_;first|omega|simp)|exact Aa.of_eq rfl|(refine Aa.q rfl ?_;omega)|exact Z0 _|exact Z2 _|exact Aa.z0 (k:=0)|exact Aa.z1 (k:=0)|exact Aa.z2 (k:=0)|exact Aa.z0|exact Aa.z1|exact Aa.z2))|(refine Ent.agg' rfl ?_;(repeat (first|exact EntL.nil' rfl|(refine EntL.cons' rfl ?_ ?_;focus (first|exact Aa.ratsLe (by omega)|exact Aa.ratsNil|exact Aa.glNil|(refine Aa.int ?_;omega)|(refine Aa.glLen ?_;first|omega|simp)|exact Aa.of_eq rfl|(refine Aa.q rfl ?_;omega)|exact Z0 _|exact Z2 _|exact Aa.z0 (k:=0)|exact Aa.z1 (k:=0)|exact Aa.z2 (k:=0)|exact Aa.z0|exact Aa.z1|exact Aa.z2))));done))))
   ·repeat (first|exact Ac|(refine List.forall_mem_cons.2 ⟨?_,?_⟩;focus (first|exact Ap inferInstance|(refine AG rfl ?_ rfl;focus ((repeat (first|exact EntL.nil' rfl|(refine EntL.cons' rfl ?_ ?_;focus (first|exact Aa.ratsLe (by omega)|exact Aa.ratsNil|exact Aa.glNil|(refine Aa.int ?_;omega)|(refine Aa.glLen ?_;first|omega|simp)|exact Aa.of_eq rfl|(refine Aa.q rfl ?_;omega)|exact Z0 _|exact Z2 _|exact Aa.z0 (k:=0)|exact Aa.z1 (k:=0)|exact Aa.z2 (k:=0)|exact Aa.z0|exact Aa.z1|exact Aa.z2))));done)))))
  refine A9 (And.intro (Or.inr rfl) ?_)
  exact Ct
theorem GD {p:Nat} (hp:1≤p∧p≤6):Ctr Tryz.prog Amb 56 [AK (p:Nat)] (.one (.v (.bool true))):=by
 have b1:=F9 (k:= .i64) (decide_eq_true (show (p:Int)≥1 by omega))
 have b2:=Iu (k:= .i64) (decide_eq_true (show (p:Int)≤6 by omega))
 refine AW Tryz.func56 rfl rfl rfl rfl rfl rfl ?_
 intro W0 base D μ0 hA hD
 repeat (first
  | refine Aq ?_|refine Ah ?_|refine Af rfl ?_|refine Ag rfl ?_
  | ((first|refine Ae (by kernel_rfl) ?_|refine Ak (by kernel_rfl) (by kernel_rfl) (by kernel_rfl) ?_)
     repeat (first
      | refine AN (hl:=?_)
      | refine Al (hl:=?_)
      | refine Ad (hl:=?_)
      | refine Ax (hl:=?_)
      | refine AH (hl:=?_)
      | refine AI (hl:=?_))
     apply Ai.nil;try refine And.intro (by kernel_rfl) ?_)
  | refine Am ?_|refine An ?_)
 refine A9 (And.intro (Or.inr rfl) ?_)
 exact Ct
theorem Hh {j p:Nat} {l:List Rat} (hj:j≤10000) (hl:l.length≤1000000) (hp:1≤p∧p≤6) (hlp:p+1≤l.length):
  Ctr Tryz.prog Amb 32 [.one (BF j l),AK (p:Nat)] (.one (BF (p*(j+3)+4) (Fu l p))):=by
 have P0:=GD hp
 have P1:=JA (j:=j) hl hlp
 have F1:=TM (n:=1) (d:=(p:Int)) (by rw [decide_eq_true (show (1:Int)≤p by omega),decide_eq_true (show (p:Int)<9223372036854775808 by omega)];rfl)
 obtain ⟨N,hN⟩: ∃N,N=l.length-p-1:=⟨_,rfl⟩
 obtain ⟨R,hR⟩: ∃R,R=Fu l p:=⟨_,rfl⟩
 rw [←hR]
 unfold Fu at hR
 rw [←hN] at P1 hR
 generalize ((1:Int):Rat)/((p:Int):Rat)=t at*
 have hsz: ∀q,q≤p→q*(j+3)≤10000000:=fun q hq=>Nat.le_trans (Nat.mul_le_mul (show q≤100 by omega) (show j+3≤100000 by omega)) (by decide)
 refine AW Tryz.func32 rfl rfl rfl rfl rfl rfl ?_
 intro W0 base D μ0 hA hD
 repeat (first
  | refine Aq ?_|refine Ah ?_|refine Af rfl ?_|refine Ag rfl ?_
  | ((first|refine Ae (by kernel_rfl) ?_|refine Ak (by kernel_rfl) (by kernel_rfl) (by kernel_rfl) ?_)
     repeat (first
      | refine Al (hl:=?_)
      | refine Ad (hl:=?_)
      | refine As (hl:=?_)
      | refine At (hl:=?_)
      | refine AA (hl:=?_)
      | refine BW (hl:=?_)
      | refine Ax (hl:=?_)
      | refine Ab (hl:=?_)
      | refine BI (hl:=?_)
      | refine AC (hl:=?_)
      | refine AB (hl:=?_)
      | refine AD (hl:=?_)
      | refine Au (hl:=?_)
      | refine Ao (hl:=?_)
      | refine Az (hl:=?_)
      | refine Ar hA (hc:=P0) (hl:=?_)
      | refine Ar hA (hc:=F1) (hl:=?_)
      | refine Ar hA (hc:=P1) (hl:=?_))
     apply Ai.nil;try refine And.intro (by kernel_rfl) ?_)
  | refine Am ?_|refine An ?_)
 refine Cr (fun n σ=> ∃(i:Nat) (done:List Rat),n=N-i∧i≤N∧done=(List.range i).map (fun i=>smR l i p*t)∧Wk ⟨W0,base,D,51,[],μ0⟩ σ [(0,.one (BF j l)),(1,AK (p:Nat)),(5,.one (.ptr 5 0)),(7,.one (.gl 900 done.length 3)),(22,AK (N:Nat)),(23,AK (i:Nat))] [(900,Bz (nmD (p*(j+3)+4)) done),(5,nmC 2 t)]) (n:=N) ⟨0,[],by omega,by omega,by simp,?_⟩ ?_
 ·refine AT ?_ ?_ rfl
  ·repeat (first|exact Ac|(refine List.forall_mem_cons.2 ⟨?_,?_⟩;focus (first|exact Ent.of_eq rfl|(refine Ent.one' rfl ?_;(first|exact Aa.ratsLe (by omega)|exact Aa.ratsNil|exact Aa.glNil|(refine Aa.int ?_;omega)|(refine Aa.glLen ?_;first|omega|simp)|exact Aa.of_eq rfl|(refine Aa.q rfl ?_;omega)|exact Z0 _|exact Z2 _|exact Aa.z0 (k:=0)|exact Aa.z1 (k:=0)|exact Aa.z2 (k:=0)|exact Aa.z0|exact Aa.z1|exact Aa.z2))|(refine Ent.agg' rfl ?_;(repeat (first|exact EntL.nil' rfl|(refine EntL.cons' rfl ?_ ?_;focus (first|exact Aa.ratsLe (by omega)|exact Aa.ratsNil|exact Aa.glNil|(refine Aa.int ?_;omega)|(refine Aa.glLen ?_;first|omega|simp)|exact Aa.of_eq rfl|(refine Aa.q rfl ?_;omega)|exact Z0 _|exact Z2 _|exact Aa.z0 (k:=0)|exact Aa.z1 (k:=0)|exact Aa.z2 (k:=0)|exact Aa.z0|exact Aa.z1|exact Aa.z2))));done))))
  ·repeat (first|exact Ac|(refine List.forall_mem_cons.2 ⟨?_,?_⟩;focus (first|exact Ap inferInstance|(refine AG rfl ?_ rfl;focus ((repeat (first|exact EntL.nil' rfl|(refine EntL.cons' rfl ?_ ?_;focus (first|exact Aa.ratsLe (by omega)|exact Aa.ratsNil|exact Aa.glNil|(refine Aa.int ?_;omega)|(refine Aa.glLen ?_;first|omega|simp)|exact Aa.of_eq rfl|(refine Aa.q rfl ?_;omega)|exact Z0 _|exact Z2 _|exact Aa.z0 (k:=0)|exact Aa.z1 (k:=0)|exact Aa.z2 (k:=0)|exact Aa.z0|exact Aa.z1|exact Aa.z2))));done)))))
 intro n σ hI
 obtain ⟨i,done,hn,hi0,hdone,hw⟩:=hI
 refine Dp hw ?_
 clear hw
 have hlen:done.length=i:=by rw [hdone];simp
 by_cases hi:i<N
 ·have bi:=Cf (k:= .i64) (decide_eq_true (show (i:Int)<(N:Int) by omega))
  have hin:=BJ (k:= .i64) (show (IntKind.i64).wrap ((i:Int)+1)=((i+1:Nat):Int) from IntWalk.i64_in _ (by omega))
  have hip:=BJ (k:= .i64) (show (IntKind.i64).wrap (((i+1:Nat):Int)+(p:Int))=((i+1+p:Nat):Int) from IntWalk.i64_in _ (by omega))
  obtain ⟨m,hm⟩: ∃m,m=(l.take (i+1+p)).drop (i+1):=⟨_,rfl⟩
  have hml:m.length=p:=by rw [hm,List.length_drop,List.length_take];omega
  have hmg: ∀q,q<p→m[((q:Nat):Int).toNat]?=some (l.getD (i+(q+1)) 0):=fun q hq=>by
   rw [Int.toNat_natCast,hm,List.getElem?_drop,List.getElem?_take,if_pos (by omega),show i+1+q=i+(q+1) by omega,List.getD_eq_getElem?_getD,List.getElem?_eq_getElem (by omega)];rfl
  repeat (first
   | refine Aq ?_|refine Ah ?_|refine Af rfl ?_|refine Ag rfl ?_
   | ((first|refine Ae (by kernel_rfl) ?_|refine Ak (by kernel_rfl) (by kernel_rfl) (by kernel_rfl) ?_)
      repeat (first
       | refine Al (hl:=?_)
       | refine Ad (hl:=?_)
       | refine As (hl:=?_)
       | refine At (hl:=?_)
       | refine AA (hl:=?_)
       | refine BW (hl:=?_)
       | refine Ax (hl:=?_)
       | refine Ab (hl:=?_)
       | refine BI (hl:=?_)
       | refine AC (hl:=?_)
       | refine AB (hl:=?_)
       | refine AD (hl:=?_)
       | refine Au (hl:=?_)
       | refine Ao (hl:=?_)
       | refine Az (hl:=?_)
       | refine S7 (la:=l) (f:=nmD j) (a:=i+1) (b:=i+1+p) (by omega) (by omega) (.some rfl rfl) (.some rfl rfl) (hl:=?_))
      apply Ai.nil;try refine And.intro (by kernel_rfl) ?_)
   | refine Am ?_|refine An ?_)
  rw [←hm]
  refine Cr (fun b σ=> ∃(q:Nat),b=p-q∧q≤p∧Wk ⟨W0,base,D,51,[],μ0⟩ σ [(0,.one (BF j l)),(1,AK (p:Nat)),(5,.one (.ptr 5 0)),(7,.one (.gl 900 done.length 3)),(22,AK (N:Nat)),(23,AK (i:Nat)),(9,.one (.ptr 9 0)),(33,.one (BF j m)),(34,AK (p:Nat)),(35,AK (q:Nat))] [(900,Bz (nmD (p*(j+3)+4)) done),(5,nmC 2 t),(9,nmC (q*(j+3)) (smR l i q))]) (n:=p) ⟨0,by omega,by omega,?_⟩ ?_
  ·refine AT ?_ ?_ rfl
   ·repeat (first|exact Ac|(refine List.forall_mem_cons.2 ⟨?_,?_⟩;focus (first|exact Ent.of_eq rfl|(refine Ent.one' rfl ?_;(first|exact Aa.ratsLe (by omega)|exact Aa.ratsNil|exact Aa.glNil|(refine Aa.int ?_;omega)|(refine Aa.glLen ?_;first|omega|simp)|exact Aa.of_eq rfl|(refine Aa.q rfl ?_;omega)|exact Z0 _|exact Z2 _|exact Aa.z0 (k:=0)|exact Aa.z1 (k:=0)|exact Aa.z2 (k:=0)|exact Aa.z0|exact Aa.z1|exact Aa.z2))|(refine Ent.agg' rfl ?_;(repeat (first|exact EntL.nil' rfl|(refine EntL.cons' rfl ?_ ?_;focus (first|exact Aa.ratsLe (by omega)|exact Aa.ratsNil|exact Aa.glNil|(refine Aa.int ?_;omega)|(refine Aa.glLen ?_;first|omega|simp)|exact Aa.of_eq rfl|(refine Aa.q rfl ?_;omega)|exact Z0 _|exact Z2 _|exact Aa.z0 (k:=0)|exact Aa.z1 (k:=0)|exact Aa.z2 (k:=0)|exact Aa.z0|exact Aa.z1|exact Aa.z2))));done))))
   ·repeat (first|exact Ac|(refine List.forall_mem_cons.2 ⟨?_,?_⟩;focus (first|exact Ap inferInstance|(refine AG rfl ?_ rfl;focus ((repeat (first|exact EntL.nil' rfl|(refine EntL.cons' rfl ?_ ?_;focus (first|exact Aa.ratsLe (by omega)|exact Aa.ratsNil|exact Aa.glNil|(refine Aa.int ?_;omega)|(refine Aa.glLen ?_;first|omega|simp)|exact Aa.of_eq rfl|(refine Aa.q rfl ?_;omega)|exact Z0 _|exact Z2 _|exact Aa.z0 (k:=0)|exact Aa.z1 (k:=0)|exact Aa.z2 (k:=0)|exact Aa.z0|exact Aa.z1|exact Aa.z2))));done)))))
  intro b σ hI
  obtain ⟨q,hb,hq0,hw⟩:=hI
  refine Dp hw ?_
  clear hw
  by_cases hq:q<p
  ·have bq:=Cf (k:= .i64) (decide_eq_true (show (q:Int)<(p:Int) by omega))
   have hin2:=BJ (k:= .i64) (show (IntKind.i64).wrap ((q:Int)+1)=((q+1:Nat):Int) from IntWalk.i64_in _ (by omega))
   have hx:=hmg q hq
   have h5:=hsz q hq0
   have A3:=Rl (j:=q*(j+3)) (k:=j) (x:=smR l i q) (y:=l.getD (i+(q+1)) 0) (by omega) (by omega)
   repeat (first
    | refine Aq ?_|refine Ah ?_|refine Af rfl ?_|refine Ag rfl ?_
    | ((first|refine Ae (by kernel_rfl) ?_|refine Ak (by kernel_rfl) (by kernel_rfl) (by kernel_rfl) ?_)
       repeat (first
        | refine Al (hl:=?_)
        | refine Ad (hl:=?_)
        | refine As (hl:=?_)
        | refine At (hl:=?_)
        | refine AA (hl:=?_)
        | refine BW (hl:=?_)
        | refine Ax (hl:=?_)
        | refine Ab (hl:=?_)
        | refine BI (hl:=?_)
        | refine AC (hl:=?_)
        | refine AB (hl:=?_)
        | refine AD (hl:=?_)
        | refine Au (hl:=?_)
        | refine Ao (hl:=?_)
        | refine Az (hl:=?_)
        | refine Cl hx (by omega) (hl:=?_)
        | refine Ar hA (hc:=A3) (hl:=?_))
       apply Ai.nil;try refine And.intro (by kernel_rfl) ?_)
    | refine Am ?_|refine An ?_)
   have e5:q*(j+3)+j+3=(q+1)*(j+3):=by rw [Nat.add_mul];omega
   refine ⟨b-1,by omega,q+1,by omega,by omega,?_⟩
   rw [←e5]
   refine AT ?_ ?_ rfl
   ·repeat (first|exact Ac|(refine List.forall_mem_cons.2 ⟨?_,?_⟩;focus (first|exact Ent.of_eq rfl|(refine Ent.one' rfl ?_;(first|exact Aa.ratsLe (by omega)|exact Aa.ratsNil|exact Aa.glNil|(refine Aa.int ?_;omega)|(refine Aa.glLen ?_;first|omega|simp)|exact Aa.of_eq rfl|(refine Aa.q rfl ?_;omega)|exact Z0 _|exact Z2 _|exact Aa.z0 (k:=0)|exact Aa.z1 (k:=0)|exact Aa.z2 (k:=0)|exact Aa.z0|exact Aa.z1|exact Aa.z2))|(refine Ent.agg' rfl ?_;(repeat (first|exact EntL.nil' rfl|(refine EntL.cons' rfl ?_ ?_;focus (first|exact Aa.ratsLe (by omega)|exact Aa.ratsNil|exact Aa.glNil|(refine Aa.int ?_;omega)|(refine Aa.glLen ?_;first|omega|simp)|exact Aa.of_eq rfl|(refine Aa.q rfl ?_;omega)|exact Z0 _|exact Z2 _|exact Aa.z0 (k:=0)|exact Aa.z1 (k:=0)|exact Aa.z2 (k:=0)|exact Aa.z0|exact Aa.z1|exact Aa.z2))));done))))
   ·repeat (first|exact Ac|(refine List.forall_mem_cons.2 ⟨?_,?_⟩;focus (first|exact Ap inferInstance|(refine AG rfl ?_ rfl;focus ((repeat (first|exact EntL.nil' rfl|(refine EntL.cons' rfl ?_ ?_;focus (first|exact Aa.ratsLe (by omega)|exact Aa.ratsNil|exact Aa.glNil|(refine Aa.int ?_;omega)|(refine Aa.glLen ?_;first|omega|simp)|exact Aa.of_eq rfl|(refine Aa.q rfl ?_;omega)|exact Z0 _|exact Z2 _|exact Aa.z0 (k:=0)|exact Aa.z1 (k:=0)|exact Aa.z2 (k:=0)|exact Aa.z0|exact Aa.z1|exact Aa.z2))));done)))))
  ·obtain rfl:q=p:=by omega
   have bq:=Cf (k:= .i64) (decide_eq_false (show ¬(q:Int)<(q:Int) by omega))
   have h5:=hsz q hq0
   have M3:=SW (j:=q*(j+3)) (k:=2) (x:=smR l i q) (y:=t) (by omega) (by omega)
   repeat (first
    | refine Aq ?_|refine Ah ?_|refine Af rfl ?_|refine Ag rfl ?_
    | ((first|refine Ae (by kernel_rfl) ?_|refine Ak (by kernel_rfl) (by kernel_rfl) (by kernel_rfl) ?_)
       repeat (first
        | refine Al (hl:=?_)
        | refine Ad (hl:=?_)
        | refine As (hl:=?_)
        | refine At (hl:=?_)
        | refine AA (hl:=?_)
        | refine BW (hl:=?_)
        | refine Ax (hl:=?_)
        | refine Ab (hl:=?_)
        | refine BI (hl:=?_)
        | refine AC (hl:=?_)
        | refine AB (hl:=?_)
        | refine AD (hl:=?_)
        | refine Au (hl:=?_)
        | refine Ao (hl:=?_)
        | refine Az (hl:=?_))
       apply Ai.nil;try refine And.intro (by kernel_rfl) ?_)
    | refine Am ?_|refine An ?_)
   try refine Aq ?_
   refine CV 5 (by simp only [List.take_succ_cons,List.take_zero,List.drop_succ_cons,List.drop_zero];exact ⟨rfl,rfl⟩) (by kernel_rfl) ?_
   repeat (first
    | refine Al (hl:=?_)
    | refine Ad (hl:=?_)
    | refine As (hl:=?_)
    | refine At (hl:=?_)
    | refine AA (hl:=?_)
    | refine BW (hl:=?_)
    | refine Ax (hl:=?_)
    | refine Ab (hl:=?_)
    | refine BI (hl:=?_)
    | refine AC (hl:=?_)
    | refine AB (hl:=?_)
    | refine AD (hl:=?_)
    | refine Au (hl:=?_)
    | refine Ao (hl:=?_)
    | refine Az (hl:=?_)
    | refine Ar hA (hc:=M3) (hl:=?_))
   apply Ai.nil
   refine ES (k:=900) (ss:= [(0,.one (BF j l)),(1,AK (q:Nat)),(5,.one (.ptr 5 0)),(22,AK (N:Nat)),(23,AK (i:Nat))]) (bs:= [(5,nmC 2 t)]) (ns:=(nmC (q*(j+3)+2+2) (smR l i q*t))) hD ?_ ?_ ?_
   ·exact ⟨by omega,by omega⟩
   ·refine AT ?_ ?_ rfl
    ·repeat (first|exact Ac|(refine List.forall_mem_cons.2 ⟨?_,?_⟩;focus (first|exact Ent.of_eq rfl|(refine Ent.one' rfl ?_;(first|exact Aa.ratsLe (by omega)|exact Aa.ratsNil|exact Aa.glNil|(refine Aa.int ?_;omega)|(refine Aa.glLen ?_;first|omega|simp)|exact Aa.of_eq rfl|(refine Aa.q rfl ?_;omega)|exact Z0 _|exact Z2 _|exact Aa.z0 (k:=0)|exact Aa.z1 (k:=0)|exact Aa.z2 (k:=0)|exact Aa.z0|exact Aa.z1|exact Aa.z2))|(refine Ent.agg' rfl ?_;(repeat (first|exact EntL.nil' rfl|(refine EntL.cons' rfl ?_ ?_;focus (first|exact Aa.ratsLe (by omega)|exact Aa.ratsNil|exact Aa.glNil|(refine Aa.int ?_;omega)|(refine Aa.glLen ?_;first|omega|simp)|exact Aa.of_eq rfl|(refine Aa.q rfl ?_;omega)|exact Z0 _|exact Z2 _|exact Aa.z0 (k:=0)|exact Aa.z1 (k:=0)|exact Aa.z2 (k:=0)|exact Aa.z0|exact Aa.z1|exact Aa.z2))));done))))
    ·repeat (first|exact Ac|(refine List.forall_mem_cons.2 ⟨?_,?_⟩;focus (first|exact Ap inferInstance|(refine AG rfl ?_ rfl;focus ((repeat (first|exact EntL.nil' rfl|(refine EntL.cons' rfl ?_ ?_;focus (first|exact Aa.ratsLe (by omega)|exact Aa.ratsNil|exact Aa.glNil|(refine Aa.int ?_;omega)|(refine Aa.glLen ?_;first|omega|simp)|exact Aa.of_eq rfl|(refine Aa.q rfl ?_;omega)|exact Z0 _|exact Z2 _|exact Aa.z0 (k:=0)|exact Aa.z1 (k:=0)|exact Aa.z2 (k:=0)|exact Aa.z0|exact Aa.z1|exact Aa.z2))));done)))))
   repeat (refine DI rfl ?_;(first|refine Ad (hl:=?_)|refine Al (hl:=?_)|refine At (hl:=?_));apply Ai.nil)
   refine DJ ?_
   repeat (first
    | refine Aq ?_|refine Ah ?_|refine Af rfl ?_|refine Ag rfl ?_
    | (refine Ae (by kernel_rfl) ?_
       repeat (first
        | refine Al (hl:=?_)
        | refine Ad (hl:=?_)
        | refine As (hl:=?_)
        | refine At (hl:=?_)
        | refine AA (hl:=?_)
        | refine BW (hl:=?_)
        | refine Ax (hl:=?_)
        | refine Ab (hl:=?_)
        | refine BI (hl:=?_)
        | refine AC (hl:=?_)
        | refine AB (hl:=?_)
        | refine AD (hl:=?_)
        | refine Au (hl:=?_)
        | refine Ao (hl:=?_)
        | refine Az (hl:=?_))
       apply Ai.nil)
    | refine Am ?_|refine An ?_)
   refine ⟨n-1,by omega,i+1,done++ [smR l i q*t],by omega,by omega,?_,?_⟩
   ·rw [hdone,List.range_succ,List.map_append];rfl
   ·refine AT ?_ ?_ rfl
    ·repeat (first|exact Ac|(refine List.forall_mem_cons.2 ⟨?_,?_⟩;focus (first|exact Ent.of_eq rfl|(refine Ent.one' rfl ?_;(first|exact Aa.ratsLe (by omega)|exact Aa.ratsNil|exact Aa.glNil|(refine Aa.int ?_;omega)|(refine Aa.glLen ?_;first|omega|simp)|exact Aa.of_eq rfl|(refine Aa.q rfl ?_;omega)|exact Z0 _|exact Z2 _|exact Aa.z0 (k:=0)|exact Aa.z1 (k:=0)|exact Aa.z2 (k:=0)|exact Aa.z0|exact Aa.z1|exact Aa.z2))|(refine Ent.agg' rfl ?_;(repeat (first|exact EntL.nil' rfl|(refine EntL.cons' rfl ?_ ?_;focus (first|exact Aa.ratsLe (by omega)|exact Aa.ratsNil|exact Aa.glNil|(refine Aa.int ?_;omega)|(refine Aa.glLen ?_;first|omega|simp)|exact Aa.of_eq rfl|(refine Aa.q rfl ?_;omega)|exact Z0 _|exact Z2 _|exact Aa.z0 (k:=0)|exact Aa.z1 (k:=0)|exact Aa.z2 (k:=0)|exact Aa.z0|exact Aa.z1|exact Aa.z2))));done))))
    ·repeat (first|exact Ac|(refine List.forall_mem_cons.2 ⟨?_,?_⟩;focus (first|exact Ap inferInstance|(refine C7 inferInstance ?_;(repeat (first|exact EntL.nil' rfl|(refine EntL.cons' rfl ?_ ?_;focus (first|exact Aa.ratsLe (by omega)|exact Aa.ratsNil|exact Aa.glNil|(refine Aa.int ?_;omega)|(refine Aa.glLen ?_;first|omega|simp)|exact Aa.of_eq rfl|(refine Aa.q rfl ?_;omega)|exact Z0 _|exact Z2 _|exact Aa.z0 (k:=0)|exact Aa.z1 (k:=0)|exact Aa.z2 (k:=0)|exact Aa.z0|exact Aa.z1|exact Aa.z2))));done)|(refine AG rfl ?_ rfl;focus ((repeat (first|exact EntL.nil' rfl|(refine EntL.cons' rfl ?_ ?_;focus (first|exact Aa.ratsLe (by omega)|exact Aa.ratsNil|exact Aa.glNil|(refine Aa.int ?_;omega)|(refine Aa.glLen ?_;first|omega|simp)|exact Aa.of_eq rfl|(refine Aa.q rfl ?_;omega)|exact Z0 _|exact Z2 _|exact Aa.z0 (k:=0)|exact Aa.z1 (k:=0)|exact Aa.z2 (k:=0)|exact Aa.z0|exact Aa.z1|exact Aa.z2))));done)))))
 ·have bi:=Cf (k:= .i64) (decide_eq_false (show ¬(i:Int)<(N:Int) by omega))
  have he:done=R:=by rw [hdone,hR,show i=N by omega]
  subst he
  repeat (first
   | refine Aq ?_|refine Ah ?_|refine Af rfl ?_|refine Ag rfl ?_
   | ((first|refine Ae (by kernel_rfl) ?_|refine Ak (by kernel_rfl) (by kernel_rfl) (by kernel_rfl) ?_)
      repeat (first
       | refine Al (hl:=?_)
       | refine Ad (hl:=?_)
       | refine As (hl:=?_)
       | refine At (hl:=?_)
       | refine AA (hl:=?_)
       | refine BW (hl:=?_)
       | refine Ax (hl:=?_)
       | refine Ab (hl:=?_)
       | refine BI (hl:=?_)
       | refine AC (hl:=?_)
       | refine AB (hl:=?_)
       | refine AD (hl:=?_)
       | refine Au (hl:=?_)
       | refine Ao (hl:=?_)
       | refine Az (hl:=?_))
      apply Ai.nil;try refine And.intro (by kernel_rfl) ?_)
   | refine Am ?_|refine An ?_)
  refine Dg 900 hD (ss:= [(4,.one (BF (p*(j+3)+4) done))]) (bs:= []) ?_ ?_
  ·refine Ie ?_ ?_ rfl
   ·repeat (first|exact Ac|(refine List.forall_mem_cons.2 ⟨?_,?_⟩;focus (first|exact FH inferInstance|refine FzA.ent ?_;first|exact Ent.of_eq rfl|(refine Ent.one' rfl ?_;(first|exact Aa.ratsLe (by omega)|exact Aa.ratsNil|exact Aa.glNil|(refine Aa.int ?_;omega)|(refine Aa.glLen ?_;first|omega|simp)|exact Aa.of_eq rfl|(refine Aa.q rfl ?_;omega)|exact Z0 _|exact Z2 _|exact Aa.z0 (k:=0)|exact Aa.z1 (k:=0)|exact Aa.z2 (k:=0)|exact Aa.z0|exact Aa.z1|exact Aa.z2))|(refine Ent.agg' rfl ?_;(repeat (first|exact EntL.nil' rfl|(refine EntL.cons' rfl ?_ ?_;focus (first|exact Aa.ratsLe (by omega)|exact Aa.ratsNil|exact Aa.glNil|(refine Aa.int ?_;omega)|(refine Aa.glLen ?_;first|omega|simp)|exact Aa.of_eq rfl|(refine Aa.q rfl ?_;omega)|exact Z0 _|exact Z2 _|exact Aa.z0 (k:=0)|exact Aa.z1 (k:=0)|exact Aa.z2 (k:=0)|exact Aa.z0|exact Aa.z1|exact Aa.z2))));done))))
   ·repeat (first|exact Ac|(refine List.forall_mem_cons.2 ⟨?_,?_⟩;focus (first|exact Ap inferInstance|(refine AG rfl ?_ rfl;focus ((repeat (first|exact EntL.nil' rfl|(refine EntL.cons' rfl ?_ ?_;focus (first|exact Aa.ratsLe (by omega)|exact Aa.ratsNil|exact Aa.glNil|(refine Aa.int ?_;omega)|(refine Aa.glLen ?_;first|omega|simp)|exact Aa.of_eq rfl|(refine Aa.q rfl ?_;omega)|exact Z0 _|exact Z2 _|exact Aa.z0 (k:=0)|exact Aa.z1 (k:=0)|exact Aa.z2 (k:=0)|exact Aa.z0|exact Aa.z1|exact Aa.z2))));done)))))
  refine A9 (And.intro (Or.inr rfl) ?_)
  exact Ct
theorem PY {j:Nat} {l:List Rat} (hl:l.length≤1000000) (hne:0<l.length):Ctr Tryz.prog Amb 71 [.one (BF j l)] (.tup [nm j (Fp l),nm j (FD l)]):=by
 have g0:=Ib hne
 have g1:=HJ hne
 have hdn:=Cq (k:= .i64) (show (IntKind.i64).wrap ((l.length:Int)-1)=((l.length-1:Nat):Int) by rw [show ((l.length:Int)-1)=((l.length-1:Nat):Int) by omega];exact IntWalk.i64_in _ (by omega))
 have b0:=LY (k:= .i64) (decide_eq_false (show ¬(l.length:Int)=0 by omega))
 refine AW Tryz.func71 rfl rfl rfl rfl rfl rfl ?_
 intro W0 base D μ0 hA hD
 repeat (first
  | refine Aq ?_|refine Ah ?_|refine Af rfl ?_|refine Ag rfl ?_
  | ((first|refine Ae (by kernel_rfl) ?_|refine Ak (by kernel_rfl) (by kernel_rfl) (by kernel_rfl) ?_)
     repeat (first
      | refine Al (hl:=?_)
      | refine As (hl:=?_)
      | refine At (hl:=?_)
      | refine AA (hl:=?_)
      | refine Kr (hl:=?_)
      | refine Ks (hl:=?_)
      | refine Ax (hl:=?_)
      | refine Ab (hl:=?_)
      | refine AU (hl:=?_)
      | refine AC (hl:=?_)
      | refine AB (hl:=?_)
      | refine AD (hl:=?_)
      | refine Au (hl:=?_)
      | refine Ao (hl:=?_)
      | refine Cl g0 (by omega) (hl:=?_)
      | refine Cl g1 (by omega) (hl:=?_))
     apply Ai.nil;try refine And.intro (by kernel_rfl) ?_)
  | refine Am ?_|refine An ?_)
 refine A9 (And.intro (Or.inr rfl) ?_)
 exact I8
theorem NF {l:List Rat} {i n:Nat} {x:Rat} {h:Rat→Rat} (hn:n=l.length) (hx:l[i]?=some x):((l.take i).map h++List.replicate (n-i) 0).set i (h x)=(l.take (i+1)).map h++List.replicate (n-(i+1)) 0:=by
 have hi:=(List.getElem?_eq_some_iff.1 hx).1
 have e:n-i=(n-(i+1))+1:=by omega
 rw [e,List.replicate_succ,List.set_append_right _ _ (by rw [List.length_map,List.length_take];omega),List.length_map,List.length_take,Nat.min_eq_left (by omega),Nat.sub_self,List.set_cons_zero,List.take_add_one,hx,List.map_append,List.append_assoc]
 rfl
theorem SQ {P:Program} {r:ResultVar} {R a:AV} {σ:St} {bs:List (Nat×List C×List C)} {ns:List (Nat×List C)} (h:ResIs P σ r a) (hE:Ent a R) (hb: ∀p∈bs,σ.sz p.1=p.2.2.length∧rdL (σ.m p.1) 0 p.2.2.length=p.2.2∧p.2.2.all nlB=true) (hn: ∀q∈ns,Fw σ [] q∨Fw σ (ns.map (·.1)) q):Fin P [r] bs R σ∧SH ns σ:=
 ⟨QY h hE hb,fun q hq=>by rcases hn q hq with h|h<;>exact h.1⟩
theorem RR {g:FuncId} [hG:Fun Tryz.prog g] {j J j1 j2 j3:Nat} {l:List Rat} {h:Rat→Rat} {u v w:Rat} (hl:l.length≤1000000) (hne:0<l.length)
  (H: ∀x,Cj Tryz.prog Amb g [nm j x,.one (.ptr 901 0),.one (.ptr 902 0),.one (.ptr 903 0)] [(901,nmC j1 u,nmC j1 u),(902,nmC j2 v,nmC j2 v),(903,nmC j3 w,nmC j3 w)] (nm J (h x))):
  Dq Tryz.prog Amb 70 [.one (BF j l),.one (.fn g [(901,0),(902,0),(903,0)])] [(901,nmC j1 u,nmC j1 u),(902,nmC j2 v,nmC j2 v),(903,nmC j3 w,nmC j3 w)] [(10,Bz (nmD J) (l.map h))] (.one (.gl 10 (l.map h).length 3)):=by
 obtain ⟨N,hN⟩: ∃N,N=l.length:=⟨_,rfl⟩
 have hne':(!(Bz (nmD J) (l.map h)).isEmpty)=true:=by
  have:=Ke (f:=nmD J) inferInstance (by decide) (show 0<(l.map h).length by simpa using hne)
  cases hb:Bz (nmD J) (l.map h) with
  | nil=>rw [hb] at this;cases this
  | cons a b=>rfl
 refine Gw Tryz.func70 rfl rfl rfl rfl (by
  simp only [List.all_cons,List.all_nil,Bool.and_true,Bool.and_eq_true]
  exact ⟨⟨by simp [inA,inC],by simp [inC]⟩,D0 _ _,hne'⟩) (by simp [inA,inC]) (by simp) (by simp) ?_
 intro W0 base D μ0 hA hD
 repeat (first
  | refine Aq ?_|refine Ah ?_|refine Af rfl ?_|refine Ag rfl ?_
  | ((first|refine Ae (by kernel_rfl) ?_|refine Ak (by kernel_rfl) (by kernel_rfl) (by kernel_rfl) ?_)
     repeat (first
      | refine Al (hl:=?_)
      | refine Ad (hl:=?_)
      | refine As (hl:=?_)
      | refine At (hl:=?_)
      | refine AA (hl:=?_)
      | refine Ax (hl:=?_)
      | refine Ab (hl:=?_)
      | refine AC (hl:=?_)
      | refine AB (hl:=?_)
      | refine AD (hl:=?_)
      | refine Au (hl:=?_)
      | refine Ao (hl:=?_)
      | refine Py hne (by omega) (by omega) (hl:=?_))
     apply Ai.nil;try refine And.intro (by kernel_rfl) ?_)
  | refine Am ?_|refine An ?_)
 refine Cr (fun n σ=> ∃(i:Nat) (cur:List Rat),n=N-i∧i≤N∧cur=(l.take i).map h++List.replicate (l.length-i) 0∧Wk ⟨W0,base,D,26,[901,902,903],μ0⟩ σ [(1,.one (.fn g [(901,0),(902,0),(903,0)])),(5,.one (.gl 10 l.length 3)),(11,.one (BF j l)),(12,AK (l.length:Nat)),(13,AK (i:Nat))] [(10,Bz (nmD J) cur),(901,nmC j1 u),(902,nmC j2 v),(903,nmC j3 w)]) (n:=N) ⟨0,List.replicate l.length 0,by omega,by omega,by simp,?_⟩ ?_
 ·refine AT ?_ ?_ rfl
  ·repeat (first|exact Ac|(refine List.forall_mem_cons.2 ⟨?_,?_⟩;focus (first|exact Ent.of_eq rfl|(refine Ent.one' rfl ?_;(first|exact Aa.ratsLe (by omega)|exact Aa.ratsNil|exact Aa.glNil|(refine Aa.int ?_;omega)|(refine Aa.glLen ?_;first|omega|simp)|exact Aa.of_eq rfl|(refine Aa.q rfl ?_;omega)|exact Z0 _|exact Z2 _|exact Aa.z0 (k:=0)|exact Aa.z1 (k:=0)|exact Aa.z2 (k:=0)|exact Aa.z0|exact Aa.z1|exact Aa.z2))|(refine Ent.agg' rfl ?_;(repeat (first|exact EntL.nil' rfl|(refine EntL.cons' rfl ?_ ?_;focus (first|exact Aa.ratsLe (by omega)|exact Aa.ratsNil|exact Aa.glNil|(refine Aa.int ?_;omega)|(refine Aa.glLen ?_;first|omega|simp)|exact Aa.of_eq rfl|(refine Aa.q rfl ?_;omega)|exact Z0 _|exact Z2 _|exact Aa.z0 (k:=0)|exact Aa.z1 (k:=0)|exact Aa.z2 (k:=0)|exact Aa.z0|exact Aa.z1|exact Aa.z2))));done))))
  ·repeat (first|exact Ac|(refine List.forall_mem_cons.2 ⟨?_,?_⟩;focus (first|exact Ap inferInstance|(refine Jf inferInstance ?_;(repeat (first|exact EntL.nil' rfl|(refine EntL.cons' rfl ?_ ?_;focus (first|exact Aa.ratsLe (by omega)|exact Aa.ratsNil|exact Aa.glNil|(refine Aa.int ?_;omega)|(refine Aa.glLen ?_;first|omega|simp)|exact Aa.of_eq rfl|(refine Aa.q rfl ?_;omega)|exact Z0 _|exact Z2 _|exact Aa.z0 (k:=0)|exact Aa.z1 (k:=0)|exact Aa.z2 (k:=0)|exact Aa.z0|exact Aa.z1|exact Aa.z2))));done)|(refine AG rfl ?_ rfl;focus ((repeat (first|exact EntL.nil' rfl|(refine EntL.cons' rfl ?_ ?_;focus (first|exact Aa.ratsLe (by omega)|exact Aa.ratsNil|exact Aa.glNil|(refine Aa.int ?_;omega)|(refine Aa.glLen ?_;first|omega|simp)|exact Aa.of_eq rfl|(refine Aa.q rfl ?_;omega)|exact Z0 _|exact Z2 _|exact Aa.z0 (k:=0)|exact Aa.z1 (k:=0)|exact Aa.z2 (k:=0)|exact Aa.z0|exact Aa.z1|exact Aa.z2))));done)))))
 intro n σ hI
 obtain ⟨i,cur,hn,hi0,hcur,hw⟩:=hI
 refine Dp hw ?_
 clear hw
 have hcl:cur.length=l.length:=by rw [hcur];simp;omega
 by_cases hi:i<l.length
 ·obtain ⟨x,hx,hx'⟩:=DN hi
  have bi:=Cf (k:= .i64) (decide_eq_true (show (i:Int)<(l.length:Int) by omega))
  have hin:=BJ (k:= .i64) (show (IntKind.i64).wrap ((i:Int)+1)=((i+1:Nat):Int) from IntWalk.i64_in _ (by omega))
  have hlt:(0:Int)≤((i:Nat):Int)∧((i:Nat):Int)<(l.length:Nat):=by omega
  have hst:((i:Nat):Int).toNat*3+3≤(Bz (nmD J) cur).length:=by rw [B6 (n:=3) inferInstance,hcl,Int.toNat_natCast];omega
  repeat (first
   | refine Aq ?_|refine Ah ?_|refine Af rfl ?_|refine Ag rfl ?_
   | ((first|refine Ae (by kernel_rfl) ?_|refine Ak (by kernel_rfl) (by kernel_rfl) (by kernel_rfl) ?_)
      repeat (first
       | refine FN hst (hl:=?_)
       | refine Al (hl:=?_)
       | refine Ad (hl:=?_)
       | refine As (hl:=?_)
       | refine At (hl:=?_)
       | refine AA (hl:=?_)
       | refine Ax (hl:=?_)
       | refine Ab (hl:=?_)
       | refine AC (hl:=?_)
       | refine AB (hl:=?_)
       | refine AD (hl:=?_)
       | refine Au (hl:=?_)
       | refine Ao (hl:=?_)
       | refine Cl hx (by omega) (hl:=?_)
       | refine Jk hA [(901,nmC j1 u),(902,nmC j2 v),(903,nmC j3 w)] (H x) (hl:=?_)
       | refine Gd hlt (hl:=?_))
      apply Ai.nil;try refine And.intro (by kernel_rfl) ?_)
   | refine Am ?_|refine An ?_)
  refine ⟨n-1,by omega,i+1,cur.set i (h x),by omega,by omega,?_,?_⟩
  ·rw [hcur];exact NF rfl hx'
  ·refine AT ?_ ?_ rfl
   ·repeat (first|exact Ac|(refine List.forall_mem_cons.2 ⟨?_,?_⟩;focus (first|exact Ent.of_eq rfl|(refine Ent.one' rfl ?_;(first|exact Aa.ratsLe (by omega)|exact Aa.ratsNil|exact Aa.glNil|(refine Aa.int ?_;omega)|(refine Aa.glLen ?_;first|omega|simp)|exact Aa.of_eq rfl|(refine Aa.q rfl ?_;omega)|exact Z0 _|exact Z2 _|exact Aa.z0 (k:=0)|exact Aa.z1 (k:=0)|exact Aa.z2 (k:=0)|exact Aa.z0|exact Aa.z1|exact Aa.z2))|(refine Ent.agg' rfl ?_;(repeat (first|exact EntL.nil' rfl|(refine EntL.cons' rfl ?_ ?_;focus (first|exact Aa.ratsLe (by omega)|exact Aa.ratsNil|exact Aa.glNil|(refine Aa.int ?_;omega)|(refine Aa.glLen ?_;first|omega|simp)|exact Aa.of_eq rfl|(refine Aa.q rfl ?_;omega)|exact Z0 _|exact Z2 _|exact Aa.z0 (k:=0)|exact Aa.z1 (k:=0)|exact Aa.z2 (k:=0)|exact Aa.z0|exact Aa.z1|exact Aa.z2))));done))))
   ·repeat (first|exact Ac|(refine List.forall_mem_cons.2 ⟨?_,?_⟩;focus (first|exact Ap inferInstance|(refine N6 inferInstance (i:=i) (show i<cur.length by omega) ?_;(repeat (first|exact EntL.nil' rfl|(refine EntL.cons' rfl ?_ ?_;focus (first|exact Aa.ratsLe (by omega)|exact Aa.ratsNil|exact Aa.glNil|(refine Aa.int ?_;omega)|(refine Aa.glLen ?_;first|omega|simp)|exact Aa.of_eq rfl|(refine Aa.q rfl ?_;omega)|exact Z0 _|exact Z2 _|exact Aa.z0 (k:=0)|exact Aa.z1 (k:=0)|exact Aa.z2 (k:=0)|exact Aa.z0|exact Aa.z1|exact Aa.z2))));done)|(refine AG rfl ?_ rfl;focus ((repeat (first|exact EntL.nil' rfl|(refine EntL.cons' rfl ?_ ?_;focus (first|exact Aa.ratsLe (by omega)|exact Aa.ratsNil|exact Aa.glNil|(refine Aa.int ?_;omega)|(refine Aa.glLen ?_;first|omega|simp)|exact Aa.of_eq rfl|(refine Aa.q rfl ?_;omega)|exact Z0 _|exact Z2 _|exact Aa.z0 (k:=0)|exact Aa.z1 (k:=0)|exact Aa.z2 (k:=0)|exact Aa.z0|exact Aa.z1|exact Aa.z2))));done)))))
 ·have bi:=Cf (k:= .i64) (decide_eq_false (show ¬(i:Int)<(l.length:Int) by omega))
  have he:cur=l.map h:=by rw [hcur,List.take_of_length_le (by omega),show l.length-i=0 by omega];simp
  subst he
  repeat (first
   | refine Aq ?_|refine Ah ?_|refine Af rfl ?_|refine Ag rfl ?_
   | ((first|refine Ae (by kernel_rfl) ?_|refine Ak (by kernel_rfl) (by kernel_rfl) (by kernel_rfl) ?_)
      repeat (first
       | refine Al (hl:=?_)
       | refine Ad (hl:=?_)
       | refine As (hl:=?_)
       | refine At (hl:=?_)
       | refine AA (hl:=?_)
       | refine Ax (hl:=?_)
       | refine Ab (hl:=?_)
       | refine AC (hl:=?_)
       | refine AB (hl:=?_)
       | refine AD (hl:=?_)
       | refine Au (hl:=?_)
       | refine Ao (hl:=?_))
      apply Ai.nil;try refine And.intro (by kernel_rfl) ?_)
   | refine Am ?_|refine An ?_)
  refine A9 (And.intro (Or.inr rfl) (SQ (ResIs.tmp rfl) (Ent.one' rfl (Aa.glLen (by simp))) ?_ ?_))
  ·repeat (first|exact Ac|refine List.forall_mem_cons.2 ⟨⟨rfl,rfl,rfl⟩,?_⟩)
  ·exact List.forall_mem_cons.2 ⟨.inl (Ap inferInstance),Ac⟩
theorem Tn {j ja jf js:Nat} {a u t x:Rat} (h1:j≤1000000) (h2:ja≤1000000) (h3:jf≤1000000) (h4:js≤1000000):
  Cj Tryz.prog Amb 74 [nm j x,.one (.ptr 901 0),.one (.ptr 902 0),.one (.ptr 903 0)] [(901,nmC ja a,nmC ja a),(902,nmC jf u,nmC jf u),(903,nmC js t,nmC js t)] (nm (ja+(j+jf+3+js+2)+3) (a+(x-u)*t)):=by
 have S1:=N4 (j:=j) (k:=jf) (x:=x) (y:=u) (by omega) (by omega)
 have M1:=SW (j:=j+jf+3) (k:=js) (x:=x-u) (y:=t) (by omega) (by omega)
 have A1:=Rl (j:=ja) (k:=j+jf+3+js+2) (x:=a) (y:=(x-u)*t) (by omega) (by omega)
 apply AW Tryz.func74 rfl rfl rfl rfl rfl
 case hin=>simp [inA,inC]
 intro W0 base D μ0 hA hD
 repeat (first
  | refine Aq ?_|refine Ah ?_|refine Af rfl ?_|refine Ag rfl ?_
  | ((first|refine Ae (by kernel_rfl) ?_|refine Ak (by kernel_rfl) (by kernel_rfl) (by kernel_rfl) ?_)
     repeat (first
      | refine As (hl:=?_)
      | refine At (hl:=?_)
      | refine Dj (hl:=?_)
      | refine AA (hl:=?_)
      | refine Ar hA (hc:=S1) (hl:=?_)
      | refine Ar hA (hc:=M1) (hl:=?_)
      | refine Ar hA (hc:=A1) (hl:=?_))
     apply Ai.nil;try refine And.intro (by kernel_rfl) ?_)
  | refine Am ?_|refine An ?_)
 refine A9 (And.intro (Or.inr rfl) ?_)
 exact Uo (hb:=by repeat (first|exact Ac|refine List.forall_mem_cons.2 ⟨⟨rfl,rfl,rfl⟩,?_⟩))
theorem PZ {g:FuncId} [hG:Fun Tryz.prog g] {j J j1 j2 j3:Nat} {l:List Rat} {h:Rat→Rat} {u v w:Rat} (hl:l.length≤1000000) (hne:0<l.length)
  (H: ∀x,Cj Tryz.prog Amb g [nm j x,.one (.ptr 901 0),.one (.ptr 902 0),.one (.ptr 903 0)] [(901,nmC j1 u,nmC j1 u),(902,nmC j2 v,nmC j2 v),(903,nmC j3 w,nmC j3 w)] (nm J (h x))):
  Cj Tryz.prog Amb 70 [.one (BF j l),.one (.fn g [(4,0),(8,0),(10,0)])] [(4,nmC j1 u,nmC j1 u),(8,nmC j2 v,nmC j2 v),(10,nmC j3 w,nmC j3 w)] (.one (BF J (l.map h))):=
 ((RR hl hne H).freeze inferInstance rfl (by simp) (.inr ⟨rfl,List.forall_mem_cons.2 ⟨rfl,List.forall_mem_cons.2 ⟨rfl,Ac⟩⟩⟩) rfl).ren (fun k=>if k=901 then 4 else if k=902 then 8 else 10) (by simp) rfl rfl
theorem P5 {j ja jb:Nat} {l:List Rat} {a b:Rat} (hj:j≤10000) (h1:ja≤10000) (h2:jb≤10000) (hl:l.length≤1000000) (hne:0<l.length) (hd:FD l-Fp l≠0):
  Ctr Tryz.prog Amb 30 [.one (BF j l),nm ja a,nm jb b] (if a<b then .tup [.one (BF (2*ja+jb+4*j+16) (Pp l a b)),AK 0] else .tup [.one (BF (2*ja+jb+4*j+16) []),AK 7]):=by
 have C1:=SX (j:=ja) (k:=jb) (x:=a) (y:=b) (by omega) (by omega)
 by_cases hab:a<b
 ·have bc:=F9 (k:= .i64) (decide_eq_false (show ¬Dt a b≥0 from fun h=>J5.1 h hab))
  rw [if_pos hab]
  have G1:=PY (j:=j) hl hne
  unfold Pp
  generalize Fp l=u at*
  generalize FD l=v at*
  have S1:=N4 (j:=jb) (k:=ja) (x:=b) (y:=a) (by omega) (by omega)
  have S2:=N4 (j:=j) (k:=j) (x:=v) (y:=u) (by omega) (by omega)
  have O1:=Ur (j:=jb+ja+3) (k:=j+j+3) (x:=b-a) (y:=v-u) (by omega) (by omega) hd
  generalize (b-a)/(v-u)=t at*
  have b0:=It (k:= .i64) (a:=0) (b:=0) (c:=false) rfl
  have E1:=PZ (g:=74) (j:=j) (J:=ja+(j+j+3+(jb+ja+3+(j+j+3)+2)+2)+3) (l:=l) (h:=fun x=>a+(x-u)*t) hl hne (fun x=>Tn (ja:=ja) (jf:=j) (js:=jb+ja+3+(j+j+3)+2) (a:=a) (u:=u) (t:=t) (by omega) (by omega) (by omega) (by omega))
  refine AW Tryz.func30 rfl rfl rfl rfl rfl rfl ?_
  intro W0 base D μ0 hA hD
  repeat (first
   | refine Aq ?_|refine Ah ?_|refine Af rfl ?_|refine Ag rfl ?_
   | ((first|refine Ae (by kernel_rfl) ?_|refine Ak (by kernel_rfl) (by kernel_rfl) (by kernel_rfl) ?_)
      repeat (first
       | refine Al (hl:=?_)
       | refine Ad (hl:=?_)
       | refine As (hl:=?_)
       | refine At (hl:=?_)
       | refine Dj (hl:=?_)
       | refine AA (hl:=?_)
       | refine BW (hl:=?_)
       | refine Ax (hl:=?_)
       | refine ER (hl:=?_)
       | refine Ao (hl:=?_)
       | refine Ar hA (hc:=C1) (hl:=?_)
       | refine Ar hA (hc:=G1) (hl:=?_)
       | refine Ar hA (hc:=S1) (hl:=?_)
       | refine Ar hA (hc:=S2) (hl:=?_)
       | refine Ar hA (hc:=O1) (hl:=?_)
       | refine Jk hA [(4,nmC ja a),(8,nmC j u),(10,nmC (jb+ja+3+(j+j+3)+2) t)] E1 (hl:=?_))
      apply Ai.nil;try refine And.intro (by kernel_rfl) ?_)
   | refine Am ?_|refine An ?_)
  refine A9 (And.intro (Or.inr rfl) ?_)
  exact I8 (hE:=(Ent.tup rfl (EntT.cons (Ent.one' rfl (Aa.ratsLe (by omega))) rfl rfl (EntT.cons (Ent.of_eq rfl) rfl rfl EntT.nil))))
 ·have bc:=F9 (k:= .i64) (decide_eq_true (J5.2 hab))
  rw [if_neg hab]
  refine AW Tryz.func30 rfl rfl rfl rfl rfl rfl ?_
  intro W0 base D μ0 hA hD
  repeat (first
   | refine Aq ?_|refine Ah ?_|refine Af rfl ?_|refine Ag rfl ?_
   | ((first|refine Ae (by kernel_rfl) ?_|refine Ak (by kernel_rfl) (by kernel_rfl) (by kernel_rfl) ?_)
      repeat (first
       | refine Al (hl:=?_)
       | refine Ad (hl:=?_)
       | refine As (hl:=?_)
       | refine At (hl:=?_)
       | refine Dj (hl:=?_)
       | refine AA (hl:=?_)
       | refine BW (hl:=?_)
       | refine Ax (hl:=?_)
       | refine ER (hl:=?_)
       | refine Ao (hl:=?_)
       | refine Ar hA (hc:=C1) (hl:=?_))
      apply Ai.nil;try refine And.intro (by kernel_rfl) ?_)
   | refine Am ?_|refine An ?_)
  refine A9 (And.intro (Or.inr rfl) ?_)
  exact I8 (hE:=(Ent.tup rfl (EntT.cons (Ent.one' rfl Aa.ratsNil) rfl rfl (EntT.cons (Ent.of_eq rfl) rfl rfl EntT.nil))))
def L1 (l cur:List Rat) (i:Nat):Prop:=cur.length=l.length∧ ∀q,q<l.length→cur[q]?=if q<i∨l.length≤q+i then l[l.length-1-q]? else l[q]?
theorem L1.start (l:List Rat):L1 l l 0:=⟨rfl,fun q hq=>by rw [if_neg (by omega)]⟩
theorem L1.step {l cur:List Rat} {i j:Nat} {x y:Rat} (h:L1 l cur i) (hj:j+i+1=l.length) (hij:i<j) (hx:cur[i]?=some x) (hy:cur[j]?=some y):L1 l ((cur.set i y).set j x) (i+1):=by
 refine ⟨by rw [List.length_set,List.length_set];exact h.1,fun q hq=>?_⟩
 have e1:=h.2 i (by omega)
 rw [if_neg (by omega),hx] at e1
 have e2:=h.2 j (by omega)
 rw [if_neg (by omega),hy] at e2
 by_cases hqj:q=j
 ·subst hqj
  rw [List.getElem?_set_self (by rw [List.length_set,h.1];omega),if_pos (by omega),show l.length-1-q=i by omega,←e1]
 ·rw [List.getElem?_set_ne (Ne.symm hqj)]
  by_cases hqi:q=i
  ·subst hqi
   rw [List.getElem?_set_self (by rw [h.1];omega),if_pos (by omega),show l.length-1-q=j by omega,←e2]
  ·rw [List.getElem?_set_ne (Ne.symm hqi),h.2 q hq]
   by_cases hc:q<i∨l.length≤q+i
   ·rw [if_pos hc,if_pos (by omega)]
   ·rw [if_neg hc,if_neg (by omega)]
theorem L1.done {l cur:List Rat} {i:Nat} (h:L1 l cur i) (hi:l.length≤2*i+1):cur=l.reverse:=by
 refine List.ext_getElem? fun q=>?_
 by_cases hq:q<l.length
 ·rw [h.2 q hq,List.getElem?_reverse hq]
  by_cases hc:q<i∨l.length≤q+i
  ·rw [if_pos hc]
  ·rw [if_neg hc,show l.length-1-q=q by omega]
 ·rw [List.getElem?_eq_none (by rw [h.1];omega),List.getElem?_eq_none (by simp;omega)]
theorem Oy {j:Nat} {l:List Rat} (hl:l.length≤1000000) (hne:0<l.length):
  Cj Tryz.prog Amb 82 [.one (.gl 10 l.length 3)] [(10,Bz (nmD j) l,Bz (nmD j) l.reverse)] (.tup []):=by
 have hdn:=Cq (k:= .i64) (show (IntKind.i64).wrap ((l.length:Int)-1)=((l.length-1:Nat):Int) by rw [show ((l.length:Int)-1)=((l.length-1:Nat):Int) by omega];exact IntWalk.i64_in _ (by omega))
 apply AW Tryz.func82 rfl rfl rfl rfl
 case hpf=>
  simp only [List.all_cons,List.all_nil,Bool.and_true,Bool.and_eq_true]
  exact ⟨rfl,Kc _,Kc _⟩
 case hin=>simp [inA,inC]
 intro W0 base D μ0 hA hD
 repeat (first
  | refine Aq ?_|refine Ah ?_|refine Af rfl ?_|refine Ag rfl ?_
  | ((first|refine Ae (by kernel_rfl) ?_|refine Ak (by kernel_rfl) (by kernel_rfl) (by kernel_rfl) ?_)
     repeat (first
      | refine Al (hl:=?_)
      | refine Ad (hl:=?_)
      | refine As (hl:=?_)
      | refine At (hl:=?_)
      | refine Ax (hl:=?_)
      | refine Ab (hl:=?_)
      | refine AC (hl:=?_)
      | refine AB (hl:=?_)
      | refine AD (hl:=?_)
      | refine Au (hl:=?_)
      | refine Ao (hl:=?_))
     apply Ai.nil;try refine And.intro (by kernel_rfl) ?_)
  | refine Am ?_|refine An ?_)
 refine Cr (fun n σ=> ∃(i:Nat) (cur:List Rat),n=l.length-i∧2*i≤l.length∧L1 l cur i∧Wk ⟨W0,base,D,28,[10],μ0⟩ σ [(0,.one (.gl 10 l.length 3)),(2,AK (i:Nat)),(3,AK ((l.length:Int)-1-i))] [(10,Bz (nmD j) cur)]) (n:=l.length) ⟨0,l,by omega,by omega,.start l,?_⟩ ?_
 ·refine AT ?_ ?_ rfl
  ·repeat (first|exact Ac|(refine List.forall_mem_cons.2 ⟨?_,?_⟩;focus (first|exact Ent.of_eq rfl|(refine Ent.one' rfl ?_;(first|exact Aa.ratsLe (by omega)|exact Aa.ratsNil|exact Aa.glNil|(refine Aa.int ?_;omega)|(refine Aa.glLen ?_;first|omega|simp)|exact Aa.of_eq rfl|(refine Aa.q rfl ?_;omega)|exact Z0 _|exact Z2 _|exact Aa.z0 (k:=0)|exact Aa.z1 (k:=0)|exact Aa.z2 (k:=0)|exact Aa.z0|exact Aa.z1|exact Aa.z2))|(refine Ent.agg' rfl ?_;(repeat (first|exact EntL.nil' rfl|(refine EntL.cons' rfl ?_ ?_;focus (first|exact Aa.ratsLe (by omega)|exact Aa.ratsNil|exact Aa.glNil|(refine Aa.int ?_;omega)|(refine Aa.glLen ?_;first|omega|simp)|exact Aa.of_eq rfl|(refine Aa.q rfl ?_;omega)|exact Z0 _|exact Z2 _|exact Aa.z0 (k:=0)|exact Aa.z1 (k:=0)|exact Aa.z2 (k:=0)|exact Aa.z0|exact Aa.z1|exact Aa.z2))));done))))
  ·repeat (first|exact Ac|(refine List.forall_mem_cons.2 ⟨?_,?_⟩;focus (first|exact Ap inferInstance|(refine AG rfl ?_ rfl;focus ((repeat (first|exact EntL.nil' rfl|(refine EntL.cons' rfl ?_ ?_;focus (first|exact Aa.ratsLe (by omega)|exact Aa.ratsNil|exact Aa.glNil|(refine Aa.int ?_;omega)|(refine Aa.glLen ?_;first|omega|simp)|exact Aa.of_eq rfl|(refine Aa.q rfl ?_;omega)|exact Z0 _|exact Z2 _|exact Aa.z0 (k:=0)|exact Aa.z1 (k:=0)|exact Aa.z2 (k:=0)|exact Aa.z0|exact Aa.z1|exact Aa.z2))));done)))))
 intro n σ hI
 obtain ⟨i,cur,hn,hi0,hcur,hw⟩:=hI
 refine Dp hw ?_
 clear hw
 by_cases hi:(i:Int)<(l.length:Int)-1-i
 ·obtain ⟨q,hq,hqe⟩: ∃q:Nat,(l.length:Int)-1-i=(q:Int)∧q+i+1=l.length:=⟨l.length-1-i,by omega,by omega⟩
  rw [hq] at hi⊢
  have hcl:=hcur.1
  obtain ⟨x,hx,hx'⟩:=DN (l:=cur) (i:=i) (by omega)
  obtain ⟨y,hy,hy'⟩:=DN (l:=cur) (i:=q) (by omega)
  have bi:=Cf (k:= .i64) (decide_eq_true (show (i:Int)<(q:Int) from hi))
  have b1:=BJ (k:= .i64) (show (IntKind.i64).wrap ((i:Int)+1)=((i+1:Nat):Int) from IntWalk.i64_in _ (by omega))
  have b2:=Cq (k:= .i64) (show (IntKind.i64).wrap ((q:Int)-1)=(q:Int)-1 from IntWalk.i64_in _ (by omega))
  have hlen:(Bz (nmD j) cur).length=l.length*3:=by rw [B6 (n:=3) inferInstance,hcl]
  have lt1:(0:Int)≤((i:Nat):Int)∧((i:Nat):Int)<(l.length:Nat):=by omega
  have lt2:(0:Int)≤((q:Nat):Int)∧((q:Nat):Int)<(l.length:Nat):=by omega
  have st1:((i:Nat):Int).toNat*3+3≤(Bz (nmD j) cur).length:=by rw [hlen,Int.toNat_natCast];omega
  have st2:((q:Nat):Int).toNat*3+3≤(Bz (nmD j) cur).length:=by rw [hlen,Int.toNat_natCast];omega
  have ld1:=JG (f:=nmD j) (n:=3) inferInstance hx
  have ld2:=JG (f:=nmD j) (n:=3) inferInstance hy
  repeat (first
   | refine Aq ?_|refine Ah ?_|refine Af rfl ?_|refine Ag rfl ?_
   | ((first|refine Ae (by kernel_rfl) ?_|refine Ak (by kernel_rfl) (by kernel_rfl) (by kernel_rfl) ?_)
      repeat (first
       | refine FN (k:=10) st1 (hl:=?_)
       | refine FN (k:=10) st2 (hl:=?_)
       | refine GU (k:=10) st1 ld1 (hl:=?_)
       | refine GU (k:=10) st2 ld2 (hl:=?_)
       | refine Al (hl:=?_)
       | refine Ad (hl:=?_)
       | refine As (hl:=?_)
       | refine At (hl:=?_)
       | refine Ax (hl:=?_)
       | refine Ab (hl:=?_)
       | refine AC (hl:=?_)
       | refine AB (hl:=?_)
       | refine AD (hl:=?_)
       | refine Au (hl:=?_)
       | refine Ao (hl:=?_)
       | refine Gd lt1 (hl:=?_)
       | refine Gd lt2 (hl:=?_))
      apply Ai.nil;try refine And.intro (by kernel_rfl) ?_)
   | refine Am ?_|refine An ?_)
  refine ⟨n-1,by omega,i+1,(cur.set i y).set q x,by omega,by omega,hcur.step hqe (by omega) hx' hy',?_⟩
  refine AT ?_ ?_ rfl
  ·repeat (first|exact Ac|(refine List.forall_mem_cons.2 ⟨?_,?_⟩;focus (first|exact Ent.of_eq rfl|(refine Ent.one' rfl ?_;(first|exact Aa.ratsLe (by omega)|exact Aa.ratsNil|exact Aa.glNil|(refine Aa.int ?_;omega)|(refine Aa.glLen ?_;first|omega|simp)|exact Aa.of_eq rfl|(refine Aa.q rfl ?_;omega)|exact Z0 _|exact Z2 _|exact Aa.z0 (k:=0)|exact Aa.z1 (k:=0)|exact Aa.z2 (k:=0)|exact Aa.z0|exact Aa.z1|exact Aa.z2))|(refine Ent.agg' rfl ?_;(repeat (first|exact EntL.nil' rfl|(refine EntL.cons' rfl ?_ ?_;focus (first|exact Aa.ratsLe (by omega)|exact Aa.ratsNil|exact Aa.glNil|(refine Aa.int ?_;omega)|(refine Aa.glLen ?_;first|omega|simp)|exact Aa.of_eq rfl|(refine Aa.q rfl ?_;omega)|exact Z0 _|exact Z2 _|exact Aa.z0 (k:=0)|exact Aa.z1 (k:=0)|exact Aa.z2 (k:=0)|exact Aa.z0|exact Aa.z1|exact Aa.z2))));done))))
  ·repeat (first|exact Ac|(refine List.forall_mem_cons.2 ⟨?_,?_⟩;focus (first|exact Ap inferInstance|(exact N7 (z:=(Bz (nmD j) cur).length) inferInstance (GR.set inferInstance (i:=q) (GR.set inferInstance (i:=i) GR.base (show i<cur.length by omega) (EntL.of_eq rfl)) (show q<(cur.set i y).length by rw [List.length_set];omega) (EntL.of_eq rfl)) (by rw [List.length_set,List.length_set];exact B6 inferInstance cur))|(refine AG rfl ?_ rfl;focus ((repeat (first|exact EntL.nil' rfl|(refine EntL.cons' rfl ?_ ?_;focus (first|exact Aa.ratsLe (by omega)|exact Aa.ratsNil|exact Aa.glNil|(refine Aa.int ?_;omega)|(refine Aa.glLen ?_;first|omega|simp)|exact Aa.of_eq rfl|(refine Aa.q rfl ?_;omega)|exact Z0 _|exact Z2 _|exact Aa.z0 (k:=0)|exact Aa.z1 (k:=0)|exact Aa.z2 (k:=0)|exact Aa.z0|exact Aa.z1|exact Aa.z2))));done)))))
 ·have bi:=Cf (k:= .i64) (decide_eq_false hi)
  have he:=hcur.done (by omega)
  subst he
  repeat (first
   | refine Aq ?_|refine Ah ?_|refine Af rfl ?_|refine Ag rfl ?_
   | ((first|refine Ae (by kernel_rfl) ?_|refine Ak (by kernel_rfl) (by kernel_rfl) (by kernel_rfl) ?_)
      repeat (first
       | refine Al (hl:=?_)
       | refine Ad (hl:=?_)
       | refine As (hl:=?_)
       | refine At (hl:=?_)
       | refine Ax (hl:=?_)
       | refine Ab (hl:=?_)
       | refine AC (hl:=?_)
       | refine AB (hl:=?_)
       | refine AD (hl:=?_)
       | refine Au (hl:=?_)
       | refine Ao (hl:=?_))
      apply Ai.nil;try refine And.intro (by kernel_rfl) ?_)
   | refine Am ?_|refine An ?_)
  refine And.intro (Or.inl rfl) ?_
  refine ⟨⟨[],.nil,.inr rfl,Ent.of_eq rfl⟩,?_⟩
  exact List.forall_mem_cons.2 ⟨(Ap (ks:= []) inferInstance).1,Ac⟩
theorem Tm {j js:Nat} {s x:Rat} (h1:j≤1000000) (h2:js≤1000000):
  Cj Tryz.prog Amb 81 [nm j x,.one (.ptr 901 0)] [(901,nmC js s,nmC js s)] (nm (js+j+3) (s-x)):=by
 have S1:=N4 (j:=js) (k:=j) (x:=s) (y:=x) (by omega) (by omega)
 apply AW Tryz.func81 rfl rfl rfl rfl rfl
 case hin=>simp [inA,inC]
 intro W0 base D μ0 hA hD
 repeat (first
  | refine Aq ?_|refine Ah ?_|refine Af rfl ?_|refine Ag rfl ?_
  | ((first|refine Ae (by kernel_rfl) ?_|refine Ak (by kernel_rfl) (by kernel_rfl) (by kernel_rfl) ?_)
     repeat (first
      | refine As (hl:=?_)
      | refine At (hl:=?_)
      | refine Dj (hl:=?_)
      | refine AA (hl:=?_)
      | refine Ar hA (hc:=S1) (hl:=?_))
     apply Ai.nil;try refine And.intro (by kernel_rfl) ?_)
  | refine Am ?_|refine An ?_)
 refine A9 (And.intro (Or.inr rfl) ?_)
 exact Uo (hb:=by repeat (first|exact Ac|refine List.forall_mem_cons.2 ⟨⟨rfl,rfl,rfl⟩,?_⟩))
theorem RS {g:FuncId} [hG:Fun Tryz.prog g] {j J j1:Nat} {l:List Rat} {h:Rat→Rat} {u:Rat} (hl:l.length≤1000000) (hne:0<l.length)
  (H: ∀x,Cj Tryz.prog Amb g [nm j x,.one (.ptr 901 0)] [(901,nmC j1 u,nmC j1 u)] (nm J (h x))):
  Dq Tryz.prog Amb 70 [.one (BF j l),.one (.fn g [(901,0)])] [(901,nmC j1 u,nmC j1 u)] [(10,Bz (nmD J) (l.map h))] (.one (.gl 10 (l.map h).length 3)):=by
 obtain ⟨N,hN⟩: ∃N,N=l.length:=⟨_,rfl⟩
 have hne':(!(Bz (nmD J) (l.map h)).isEmpty)=true:=by
  have:=Ke (f:=nmD J) inferInstance (by decide) (show 0<(l.map h).length by simpa using hne)
  cases hb:Bz (nmD J) (l.map h) with
  | nil=>rw [hb] at this;cases this
  | cons a b=>rfl
 refine Gw Tryz.func70 rfl rfl rfl rfl (by
  simp only [List.all_cons,List.all_nil,Bool.and_true,Bool.and_eq_true]
  exact ⟨⟨by simp [inA,inC],by simp [inC]⟩,D0 _ _,hne'⟩) (by simp [inA,inC]) (by simp) (by simp) ?_
 intro W0 base D μ0 hA hD
 repeat (first
  | refine Aq ?_|refine Ah ?_|refine Af rfl ?_|refine Ag rfl ?_
  | ((first|refine Ae (by kernel_rfl) ?_|refine Ak (by kernel_rfl) (by kernel_rfl) (by kernel_rfl) ?_)
     repeat (first
      | refine Al (hl:=?_)
      | refine Ad (hl:=?_)
      | refine As (hl:=?_)
      | refine At (hl:=?_)
      | refine AA (hl:=?_)
      | refine Ax (hl:=?_)
      | refine Ab (hl:=?_)
      | refine AC (hl:=?_)
      | refine AB (hl:=?_)
      | refine AD (hl:=?_)
      | refine Au (hl:=?_)
      | refine Ao (hl:=?_)
      | refine Py hne (by omega) (by omega) (hl:=?_))
     apply Ai.nil;try refine And.intro (by kernel_rfl) ?_)
  | refine Am ?_|refine An ?_)
 refine Cr (fun n σ=> ∃(i:Nat) (cur:List Rat),n=N-i∧i≤N∧cur=(l.take i).map h++List.replicate (l.length-i) 0∧Wk ⟨W0,base,D,26,[901],μ0⟩ σ [(1,.one (.fn g [(901,0)])),(5,.one (.gl 10 l.length 3)),(11,.one (BF j l)),(12,AK (l.length:Nat)),(13,AK (i:Nat))] [(10,Bz (nmD J) cur),(901,nmC j1 u)]) (n:=N) ⟨0,List.replicate l.length 0,by omega,by omega,by simp,?_⟩ ?_
 ·refine AT ?_ ?_ rfl
  ·repeat (first|exact Ac|(refine List.forall_mem_cons.2 ⟨?_,?_⟩;focus (first|exact Ent.of_eq rfl|(refine Ent.one' rfl ?_;(first|exact Aa.ratsLe (by omega)|exact Aa.ratsNil|exact Aa.glNil|(refine Aa.int ?_;omega)|(refine Aa.glLen ?_;first|omega|simp)|exact Aa.of_eq rfl|(refine Aa.q rfl ?_;omega)|exact Z0 _|exact Z2 _|exact Aa.z0 (k:=0)|exact Aa.z1 (k:=0)|exact Aa.z2 (k:=0)|exact Aa.z0|exact Aa.z1|exact Aa.z2))|(refine Ent.agg' rfl ?_;(repeat (first|exact EntL.nil' rfl|(refine EntL.cons' rfl ?_ ?_;focus (first|exact Aa.ratsLe (by omega)|exact Aa.ratsNil|exact Aa.glNil|(refine Aa.int ?_;omega)|(refine Aa.glLen ?_;first|omega|simp)|exact Aa.of_eq rfl|(refine Aa.q rfl ?_;omega)|exact Z0 _|exact Z2 _|exact Aa.z0 (k:=0)|exact Aa.z1 (k:=0)|exact Aa.z2 (k:=0)|exact Aa.z0|exact Aa.z1|exact Aa.z2))));done))))
  ·repeat (first|exact Ac|(refine List.forall_mem_cons.2 ⟨?_,?_⟩;focus (first|exact Ap inferInstance|(refine Jf inferInstance ?_;(repeat (first|exact EntL.nil' rfl|(refine EntL.cons' rfl ?_ ?_;focus (first|exact Aa.ratsLe (by omega)|exact Aa.ratsNil|exact Aa.glNil|(refine Aa.int ?_;omega)|(refine Aa.glLen ?_;first|omega|simp)|exact Aa.of_eq rfl|(refine Aa.q rfl ?_;omega)|exact Z0 _|exact Z2 _|exact Aa.z0 (k:=0)|exact Aa.z1 (k:=0)|exact Aa.z2 (k:=0)|exact Aa.z0|exact Aa.z1|exact Aa.z2))));done)|(refine AG rfl ?_ rfl;focus ((repeat (first|exact EntL.nil' rfl|(refine EntL.cons' rfl ?_ ?_;focus (first|exact Aa.ratsLe (by omega)|exact Aa.ratsNil|exact Aa.glNil|(refine Aa.int ?_;omega)|(refine Aa.glLen ?_;first|omega|simp)|exact Aa.of_eq rfl|(refine Aa.q rfl ?_;omega)|exact Z0 _|exact Z2 _|exact Aa.z0 (k:=0)|exact Aa.z1 (k:=0)|exact Aa.z2 (k:=0)|exact Aa.z0|exact Aa.z1|exact Aa.z2))));done)))))
 intro n σ hI
 obtain ⟨i,cur,hn,hi0,hcur,hw⟩:=hI
 refine Dp hw ?_
 clear hw
 have hcl:cur.length=l.length:=by rw [hcur];simp;omega
 by_cases hi:i<l.length
 ·obtain ⟨x,hx,hx'⟩:=DN hi
  have bi:=Cf (k:= .i64) (decide_eq_true (show (i:Int)<(l.length:Int) by omega))
  have hin:=BJ (k:= .i64) (show (IntKind.i64).wrap ((i:Int)+1)=((i+1:Nat):Int) from IntWalk.i64_in _ (by omega))
  have hlt:(0:Int)≤((i:Nat):Int)∧((i:Nat):Int)<(l.length:Nat):=by omega
  have hst:((i:Nat):Int).toNat*3+3≤(Bz (nmD J) cur).length:=by rw [B6 (n:=3) inferInstance,hcl,Int.toNat_natCast];omega
  repeat (first
   | refine Aq ?_|refine Ah ?_|refine Af rfl ?_|refine Ag rfl ?_
   | ((first|refine Ae (by kernel_rfl) ?_|refine Ak (by kernel_rfl) (by kernel_rfl) (by kernel_rfl) ?_)
      repeat (first
       | refine FN hst (hl:=?_)
       | refine Al (hl:=?_)
       | refine Ad (hl:=?_)
       | refine As (hl:=?_)
       | refine At (hl:=?_)
       | refine AA (hl:=?_)
       | refine Ax (hl:=?_)
       | refine Ab (hl:=?_)
       | refine AC (hl:=?_)
       | refine AB (hl:=?_)
       | refine AD (hl:=?_)
       | refine Au (hl:=?_)
       | refine Ao (hl:=?_)
       | refine Cl hx (by omega) (hl:=?_)
       | refine Jk hA [(901,nmC j1 u)] (H x) (hl:=?_)
       | refine Gd hlt (hl:=?_))
      apply Ai.nil;try refine And.intro (by kernel_rfl) ?_)
   | refine Am ?_|refine An ?_)
  refine ⟨n-1,by omega,i+1,cur.set i (h x),by omega,by omega,?_,?_⟩
  ·rw [hcur];exact NF rfl hx'
  ·refine AT ?_ ?_ rfl
   ·repeat (first|exact Ac|(refine List.forall_mem_cons.2 ⟨?_,?_⟩;focus (first|exact Ent.of_eq rfl|(refine Ent.one' rfl ?_;(first|exact Aa.ratsLe (by omega)|exact Aa.ratsNil|exact Aa.glNil|(refine Aa.int ?_;omega)|(refine Aa.glLen ?_;first|omega|simp)|exact Aa.of_eq rfl|(refine Aa.q rfl ?_;omega)|exact Z0 _|exact Z2 _|exact Aa.z0 (k:=0)|exact Aa.z1 (k:=0)|exact Aa.z2 (k:=0)|exact Aa.z0|exact Aa.z1|exact Aa.z2))|(refine Ent.agg' rfl ?_;(repeat (first|exact EntL.nil' rfl|(refine EntL.cons' rfl ?_ ?_;focus (first|exact Aa.ratsLe (by omega)|exact Aa.ratsNil|exact Aa.glNil|(refine Aa.int ?_;omega)|(refine Aa.glLen ?_;first|omega|simp)|exact Aa.of_eq rfl|(refine Aa.q rfl ?_;omega)|exact Z0 _|exact Z2 _|exact Aa.z0 (k:=0)|exact Aa.z1 (k:=0)|exact Aa.z2 (k:=0)|exact Aa.z0|exact Aa.z1|exact Aa.z2))));done))))
   ·repeat (first|exact Ac|(refine List.forall_mem_cons.2 ⟨?_,?_⟩;focus (first|exact Ap inferInstance|(refine N6 inferInstance (i:=i) (show i<cur.length by omega) ?_;(repeat (first|exact EntL.nil' rfl|(refine EntL.cons' rfl ?_ ?_;focus (first|exact Aa.ratsLe (by omega)|exact Aa.ratsNil|exact Aa.glNil|(refine Aa.int ?_;omega)|(refine Aa.glLen ?_;first|omega|simp)|exact Aa.of_eq rfl|(refine Aa.q rfl ?_;omega)|exact Z0 _|exact Z2 _|exact Aa.z0 (k:=0)|exact Aa.z1 (k:=0)|exact Aa.z2 (k:=0)|exact Aa.z0|exact Aa.z1|exact Aa.z2))));done)|(refine AG rfl ?_ rfl;focus ((repeat (first|exact EntL.nil' rfl|(refine EntL.cons' rfl ?_ ?_;focus (first|exact Aa.ratsLe (by omega)|exact Aa.ratsNil|exact Aa.glNil|(refine Aa.int ?_;omega)|(refine Aa.glLen ?_;first|omega|simp)|exact Aa.of_eq rfl|(refine Aa.q rfl ?_;omega)|exact Z0 _|exact Z2 _|exact Aa.z0 (k:=0)|exact Aa.z1 (k:=0)|exact Aa.z2 (k:=0)|exact Aa.z0|exact Aa.z1|exact Aa.z2))));done)))))
 ·have bi:=Cf (k:= .i64) (decide_eq_false (show ¬(i:Int)<(l.length:Int) by omega))
  have he:cur=l.map h:=by rw [hcur,List.take_of_length_le (by omega),show l.length-i=0 by omega];simp
  subst he
  repeat (first
   | refine Aq ?_|refine Ah ?_|refine Af rfl ?_|refine Ag rfl ?_
   | ((first|refine Ae (by kernel_rfl) ?_|refine Ak (by kernel_rfl) (by kernel_rfl) (by kernel_rfl) ?_)
      repeat (first
       | refine Al (hl:=?_)
       | refine Ad (hl:=?_)
       | refine As (hl:=?_)
       | refine At (hl:=?_)
       | refine AA (hl:=?_)
       | refine Ax (hl:=?_)
       | refine Ab (hl:=?_)
       | refine AC (hl:=?_)
       | refine AB (hl:=?_)
       | refine AD (hl:=?_)
       | refine Au (hl:=?_)
       | refine Ao (hl:=?_))
      apply Ai.nil;try refine And.intro (by kernel_rfl) ?_)
   | refine Am ?_|refine An ?_)
  refine A9 (And.intro (Or.inr rfl) (SQ (ResIs.tmp rfl) (Ent.one' rfl (Aa.glLen (by simp))) ?_ ?_))
  ·repeat (first|exact Ac|refine List.forall_mem_cons.2 ⟨⟨rfl,rfl,rfl⟩,?_⟩)
  ·exact List.forall_mem_cons.2 ⟨.inl (Ap inferInstance),Ac⟩
theorem PX {j:Nat} {l:List Rat} (hj:j≤10000) (hl:l.length≤1000000) (hne:0<l.length):
  Ctr Tryz.prog Amb 34 [.one (BF j l)] (.one (BF (3*j+6) (IG l))):=by
 have G1:=PY (j:=j) hl hne
 obtain ⟨R,hR⟩: ∃R,R=l.map fun x=>Fp l+FD l-x:=⟨_,rfl⟩
 have hRl:R.length=l.length:=by rw [hR];simp
 have e:IG l=R.reverse:=by rw [hR];unfold IG;rw [List.map_reverse]
 rw [e]
 clear e
 generalize Fp l=u at*
 generalize FD l=v at*
 have A1:=Rl (j:=j) (k:=j) (x:=u) (y:=v) (by omega) (by omega)
 have E1:=(RS (g:=81) (j:=j) (J:=j+j+3+j+3) (j1:=j+j+3) (u:=u+v) (l:=l) (h:=fun x=>u+v-x) hl hne (fun x=>Tm (by omega) (by omega))).ren (swp 901 5) (NA 901 5) rfl
 have E2:Dq Tryz.prog Amb 70 [.one (BF j l),.one (.fn 81 [(5,0)])] [(5,nmC (j+j+3) (u+v),nmC (j+j+3) (u+v))] [(10,Bz (nmD (j+j+3+j+3)) R)] (.one (.gl 10 R.length 3)):=by
  subst hR
  have hh:=E1
  simp only [List.map_cons,List.map_nil] at hh
  rw [show (Bz (nmD (j+j+3+j+3)) (l.map fun x=>u+v-x)).map (Fo (swp 901 5))=Bz (nmD (j+j+3+j+3)) (l.map fun x=>u+v-x) from Jq (Kc _)] at hh
  exact hh
 have V1:=Oy (j:=j+j+3+j+3) (l:=R) (by omega) (by omega)
 have hbl:0<(Bz (nmD (j+j+3+j+3)) R).length:=Ke (n:=3) inferInstance (by decide) (by omega)
 have hbr:(Bz (nmD (j+j+3+j+3)) R).length=(Bz (nmD (j+j+3+j+3)) R.reverse).length:=by rw [B6 (n:=3) inferInstance,B6 (n:=3) inferInstance,List.length_reverse]
 refine AW Tryz.func34 rfl rfl rfl rfl rfl rfl ?_
 intro W0 base D μ0 hA hD
 repeat (first
  | refine Aq ?_|refine Ah ?_|refine Af rfl ?_|refine Ag rfl ?_
  | ((first|refine Ae (by kernel_rfl) ?_|refine Ak (by kernel_rfl) (by kernel_rfl) (by kernel_rfl) ?_)
     repeat (first
      | refine Al (hl:=?_)
      | refine Ad (hl:=?_)
      | refine As (hl:=?_)
      | refine At (hl:=?_)
      | refine AA (hl:=?_)
      | refine BW (hl:=?_)
      | refine ER (hl:=?_)
      | refine Ao (hl:=?_)
      | refine Ar hA (hc:=G1) (hl:=?_)
      | refine Ar hA (hc:=A1) (hl:=?_)
      | refine Pz hA [(5,nmC (j+j+3) (u+v))] E2 hbl (hl:=?_)
      | refine Rw hA (len:=R.length) (n:=3) V1 ⟨by omega,hbr,hbl⟩ (hl:=?_))
     apply Ai.nil;try refine And.intro (by kernel_rfl) ?_)
  | refine Am ?_|refine An ?_)
 refine Dp (ss:= [(2,.one (.gl 10 R.reverse.length 3))]) (bs:= [(10,Bz (nmD (j+j+3+j+3)) R.reverse)]) ?_ ?_
 ·refine AT ?_ ?_ rfl
  ·repeat (first|exact Ac|(refine List.forall_mem_cons.2 ⟨?_,?_⟩;focus (first|exact Ent.of_eq rfl|(refine Ent.one' rfl ?_;(first|exact Aa.ratsLe (by omega)|exact Aa.ratsNil|exact Aa.glNil|(refine Aa.int ?_;omega)|(refine Aa.glLen ?_;first|omega|simp)|exact Aa.of_eq rfl|(refine Aa.q rfl ?_;omega)|exact Z0 _|exact Z2 _|exact Aa.z0 (k:=0)|exact Aa.z1 (k:=0)|exact Aa.z2 (k:=0)|exact Aa.z0|exact Aa.z1|exact Aa.z2))|(refine Ent.agg' rfl ?_;(repeat (first|exact EntL.nil' rfl|(refine EntL.cons' rfl ?_ ?_;focus (first|exact Aa.ratsLe (by omega)|exact Aa.ratsNil|exact Aa.glNil|(refine Aa.int ?_;omega)|(refine Aa.glLen ?_;first|omega|simp)|exact Aa.of_eq rfl|(refine Aa.q rfl ?_;omega)|exact Z0 _|exact Z2 _|exact Aa.z0 (k:=0)|exact Aa.z1 (k:=0)|exact Aa.z2 (k:=0)|exact Aa.z0|exact Aa.z1|exact Aa.z2))));done))))
  ·repeat (first|exact Ac|(refine List.forall_mem_cons.2 ⟨?_,?_⟩;focus (first|exact Ap inferInstance|(exact N7 (z:=(Bz (nmD (j+j+3+j+3)) R).length) inferInstance GR.whole (by rw [hbr];exact B6 inferInstance _))|(refine AG rfl ?_ rfl;focus ((repeat (first|exact EntL.nil' rfl|(refine EntL.cons' rfl ?_ ?_;focus (first|exact Aa.ratsLe (by omega)|exact Aa.ratsNil|exact Aa.glNil|(refine Aa.int ?_;omega)|(refine Aa.glLen ?_;first|omega|simp)|exact Aa.of_eq rfl|(refine Aa.q rfl ?_;omega)|exact Z0 _|exact Z2 _|exact Aa.z0 (k:=0)|exact Aa.z1 (k:=0)|exact Aa.z2 (k:=0)|exact Aa.z0|exact Aa.z1|exact Aa.z2))));done)))))
 refine Dg 10 hD (ss:= [(2,.one (BF (j+j+3+j+3) R.reverse))]) (bs:= []) ?_ ?_
 ·refine Ie ?_ ?_ rfl
  ·repeat (first|exact Ac|(refine List.forall_mem_cons.2 ⟨?_,?_⟩;focus (first|exact FH inferInstance|refine FzA.ent ?_;first|exact Ent.of_eq rfl|(refine Ent.one' rfl ?_;(first|exact Aa.ratsLe (by omega)|exact Aa.ratsNil|exact Aa.glNil|(refine Aa.int ?_;omega)|(refine Aa.glLen ?_;first|omega|simp)|exact Aa.of_eq rfl|(refine Aa.q rfl ?_;omega)|exact Z0 _|exact Z2 _|exact Aa.z0 (k:=0)|exact Aa.z1 (k:=0)|exact Aa.z2 (k:=0)|exact Aa.z0|exact Aa.z1|exact Aa.z2))|(refine Ent.agg' rfl ?_;(repeat (first|exact EntL.nil' rfl|(refine EntL.cons' rfl ?_ ?_;focus (first|exact Aa.ratsLe (by omega)|exact Aa.ratsNil|exact Aa.glNil|(refine Aa.int ?_;omega)|(refine Aa.glLen ?_;first|omega|simp)|exact Aa.of_eq rfl|(refine Aa.q rfl ?_;omega)|exact Z0 _|exact Z2 _|exact Aa.z0 (k:=0)|exact Aa.z1 (k:=0)|exact Aa.z2 (k:=0)|exact Aa.z0|exact Aa.z1|exact Aa.z2))));done))))
  ·repeat (first|exact Ac|(refine List.forall_mem_cons.2 ⟨?_,?_⟩;focus (first|exact Ap inferInstance|(refine AG rfl ?_ rfl;focus ((repeat (first|exact EntL.nil' rfl|(refine EntL.cons' rfl ?_ ?_;focus (first|exact Aa.ratsLe (by omega)|exact Aa.ratsNil|exact Aa.glNil|(refine Aa.int ?_;omega)|(refine Aa.glLen ?_;first|omega|simp)|exact Aa.of_eq rfl|(refine Aa.q rfl ?_;omega)|exact Z0 _|exact Z2 _|exact Aa.z0 (k:=0)|exact Aa.z1 (k:=0)|exact Aa.z2 (k:=0)|exact Aa.z0|exact Aa.z1|exact Aa.z2))));done)))))
 refine A9 (And.intro (Or.inr rfl) ?_)
 exact Ct (hE:=(Ent.one' rfl (Aa.ratsLe (by omega))))
end Go.Proofs.YtoabfmaagnmlhaaGreatDoor
