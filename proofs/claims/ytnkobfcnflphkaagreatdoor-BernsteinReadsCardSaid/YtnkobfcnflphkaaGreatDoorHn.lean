/-
  Several texts in one: Na, Nb, Nc, Nd, Ne, Nf.
-/
import Derived.Test.YtnkobfcnflphkaaGreatDoorGk
import Derived.Test.YtnkobfcnflphkaaGreatDoorEv
namespace Go.Proofs.YtnkobfcnflphkaaGreatDoor
open Nat renaming le_refl→Zc
open List renaming getElem?_eq_getElem→Zd
open Go.RowKit
set_option linter.unusedVariables false
set_option linter.unusedSimpArgs false
set_option maxRecDepth 20000
set_option maxHeartbeats 4000000
abbrev nmD (j:Nat) (x:Rat):List D:= [.q x j 0,.q x j 1,.q x j 2]
abbrev Ap (j:Nat) (l:List Rat):C:=lsG 3 (nmD j) l
instance (j:Nat):Elm 3 (nmD j):=⟨fun _=>rfl,fun _=>rfl⟩
theorem Yg {W0 w:World} {x:Value} {r:Rat} {j k i:Nat} (h:j≤k) (hd:dd W0 w x (.q r j i)):dd W0 w x (.q r k i):=by
 unfold dd at hd⊢
 match i,hd with
 | 0,hd=>exact ⟨hd.1,Nat.zero_le _⟩
 | 1,hd=>exact ⟨hd.1,Nat.le_trans hd.2 h⟩
 | _+2,hd=>exact ⟨hd.1,Nat.le_trans hd.2 h⟩
theorem Xg {W0 w:World} {b j k:Nat} (h:j≤k): ∀ {l:List Rat} {off:Nat},ddL W0 w b off (l.flatMap (nmD j))→ddL W0 w b off (l.flatMap (nmD k))
 | [],_,hd=>hd
 | x::l,off,hd=>by
   rw [List.flatMap_cons] at hd⊢
   show ddL W0 w b off (.q x k 0:: .q x k 1:: .q x k 2::l.flatMap (nmD k))
   replace hd:ddL W0 w b off (.q x j 0:: .q x j 1:: .q x j 2::l.flatMap (nmD j)):=hd
   simp only [ddL] at hd⊢
   obtain ⟨⟨v0,a0,a1,a2⟩,⟨v1,b0,b1,b2⟩,⟨v2,c0,c1,c2⟩,r⟩:=hd
   exact ⟨⟨v0,a0,a1,Yg h a2⟩,⟨v1,b0,b1,Yg h b2⟩,⟨v2,c0,c1,Yg h c2⟩,Xg h r⟩
theorem Ag.ratsLe {j k:Nat} {l:List Rat} (h:j≤k):Ag (Ap j l) (Ap k l):=fun W0 μ sz w x hx=>by
 unfold cc dd at hx⊢
 obtain ⟨h0,ao,cap,h1,h2,h3⟩:=hx
 refine ⟨EI (f:=nmD k) (es:=3) (fun _=>rfl) l,ao,cap,h1,h2,fun hne=>?_⟩
 have hne':l.flatMap (nmD j)≠ []:=fun h0=>by
  cases l with
  | nil=>exact hne rfl
  | cons a l=>cases h0
 obtain ⟨b,off,h4,h5⟩:=h3 hne'
 exact ⟨b,off,h4,Xg h h5⟩
theorem Ag.ratsNil {j:Nat} :Ag (.v (.slice none 0 0)) (Ap j []):=fun W0 μ sz w x hx=>by
 have hx:x= .slice none 0 0:=hx
 unfold cc dd
 exact ⟨rfl,none,0,hx,Zc _,fun h=>absurd rfl h⟩
theorem Q6 {k:Nat} {x:Rat} (h:Sz k x.den):(toL (JS x)).length≤k:=by
 unfold JS
 split
 ·simp [toL]
 ·exact h
theorem Ag.qs {x:Rat} {j k i:Nat} (h:RSz k x):Ag (.q x j i) (.q x k i):=fun _ _ _ _ _ hv=>by
 match i with
 | 0=>exact ⟨hv.1,Nat.zero_le _⟩
 | 1=>exact ⟨hv.1,h.1⟩
 | _+2=>exact ⟨hv.1,Q6 h.2⟩
theorem Ag.qe {x y:Rat} {j k i:Nat} (e:x=y) (h:RSz k y):Ag (.q x j i) (.q y k i):=e▸Ag.qs (e▸h)
theorem EM {k:IntKind} {a b:Int} {c:Bool} (h:decide (a≠b)=c):It .neq k a b=some (.bool c):=by
 rw [←h]
 show some (Value.bool (a !=b))=_
 congr 2
 by_cases hab:a=b<;>simp [hab]
theorem Jh {j k:Nat} {l m:List Rat} (h1:l.length≤1000000000) (h2:m.length≤1000000000):
  Ctr Tryz.prog Amb 32 [.one (Ap j l),.one (Ap k m)] (.one (.v (.bool (decide (l=m))))):=by
 by_cases hlm:l.length=m.length
 ·have b0:=EM (k:= .i64) (a:=(l.length:Int)) (b:=(m.length:Int)) (decide_eq_false (show ¬(l.length:Int)≠(m.length:Int) by omega))
  refine Am Tryz.func32 rfl rfl rfl rfl rfl rfl ?_
  intro W0 base D μ0 hA hD
  repeat (first
   | refine Af ?_|refine Ac ?_|refine Aa rfl ?_|refine Ab rfl ?_
   | ((first|refine AI (by kernel_rfl) ?_|refine BL (by kernel_rfl) (by kernel_rfl) (by kernel_rfl) ?_)
      repeat (first
       | refine AZ (hl:=?_)
       | refine AC (hl:=?_)
       | refine BU (hl:=?_)
       | refine B5 (hl:=?_)
       | refine AO (hl:=?_)
       | refine FT (hl:=?_)
       | refine Cv (hl:=?_)
       | refine Cu (hl:=?_)
       | refine Cw (hl:=?_)
       | refine Cj (hl:=?_)
       | refine B8 (hl:=?_))
      apply Ai.nil;try refine And.intro (by kernel_rfl) ?_)
   | refine Ad ?_|refine Ae ?_)
  refine AK (fun n σ=> ∃i:Nat,n+i=l.length∧l.take i=m.take i∧Wk ⟨W0,base,D,27,[],μ0⟩ σ [(0,.one (Ap j l)),(1,.one (Ap k m)),(5,.one (.v (.int .i64 (i:Nat))))] []) (n:=l.length) ⟨0,by omega,by simp,?_⟩ ?_
  ·refine Dr ?_ ?_ rfl
   ·repeat (first|exact Aq|(refine List.forall_mem_cons.2 ⟨?_,?_⟩;focus (first|exact Ent.of_eq rfl|(refine Ent.one' rfl ?_;(first|exact Ag.ratsLe (by omega)|exact Ag.ratsNil|exact Ag.glNil|(refine Ag.int ?_;omega)|(refine Ag.glLen ?_;first|omega|simp)|exact Ag.of_eq rfl|(refine Ag.q rfl ?_;omega)|exact Z0 _|exact Z2 _|exact Ag.z0 (k:=0)|exact Ag.z1 (k:=0)|exact Ag.z2 (k:=0)|exact Ag.z0|exact Ag.z1|exact Ag.z2))|(refine Ent.agg' rfl ?_;(repeat (first|exact EntL.nil' rfl|(refine EntL.cons' rfl ?_ ?_;focus (first|exact Ag.ratsLe (by omega)|exact Ag.ratsNil|exact Ag.glNil|(refine Ag.int ?_;omega)|(refine Ag.glLen ?_;first|omega|simp)|exact Ag.of_eq rfl|(refine Ag.q rfl ?_;omega)|exact Z0 _|exact Z2 _|exact Ag.z0 (k:=0)|exact Ag.z1 (k:=0)|exact Ag.z2 (k:=0)|exact Ag.z0|exact Ag.z1|exact Ag.z2))));done))))
   ·repeat (first|exact Aq|(refine List.forall_mem_cons.2 ⟨?_,?_⟩;focus (first|exact AN inferInstance|(refine BB rfl ?_ rfl;focus ((repeat (first|exact EntL.nil' rfl|(refine EntL.cons' rfl ?_ ?_;focus (first|exact Ag.ratsLe (by omega)|exact Ag.ratsNil|exact Ag.glNil|(refine Ag.int ?_;omega)|(refine Ag.glLen ?_;first|omega|simp)|exact Ag.of_eq rfl|(refine Ag.q rfl ?_;omega)|exact Z0 _|exact Z2 _|exact Ag.z0 (k:=0)|exact Ag.z1 (k:=0)|exact Ag.z2 (k:=0)|exact Ag.z0|exact Ag.z1|exact Ag.z2))));done)))))
  intro n σ hI
  obtain ⟨i,hn,ht,hw⟩:=hI
  refine A5 hw ?_
  clear hw
  by_cases hi:i<l.length
  ·have bi:=AJ (k:= .i64) (decide_eq_true (show (i:Int)<(l.length:Int) by omega))
   obtain ⟨x,hx⟩: ∃x,l[((i:Nat):Int).toNat]?=some x:=⟨_,by rw [Int.toNat_natCast];exact Zd hi⟩
   obtain ⟨y,hy⟩: ∃y,m[((i:Nat):Int).toNat]?=some y:=⟨_,by rw [Int.toNat_natCast];exact Zd (show i<m.length by omega)⟩
   have hin:=AL (k:= .i64) (show (IntKind.i64).wrap ((i:Int)+1)=((i+1:Nat):Int) from IntWalk.i64_in _ (by omega))
   have S1:=TS (j:=j) (k:=k) (x:=x) (y:=y)
   have hx':=hx
   have hy':=hy
   rw [Int.toNat_natCast] at hx' hy'
   by_cases hxy:x=y
   ·rw [decide_eq_true hxy] at S1
    repeat (first
     | refine Af ?_|refine Ac ?_|refine Aa rfl ?_|refine Ab rfl ?_
     | ((first|refine AI (by kernel_rfl) ?_|refine BL (by kernel_rfl) (by kernel_rfl) (by kernel_rfl) ?_)
        repeat (first
         | refine AZ (hl:=?_)
         | refine AC (hl:=?_)
         | refine BU (hl:=?_)
         | refine B5 (hl:=?_)
         | refine AO (hl:=?_)
         | refine FT (hl:=?_)
         | refine Cv (hl:=?_)
         | refine Cu (hl:=?_)
         | refine Cw (hl:=?_)
         | refine Cj (hl:=?_)
         | refine B8 (hl:=?_)
         | refine G0 hx (by omega) (hl:=?_)
         | refine G0 hy (by omega) (hl:=?_)
         | refine Ay hA (hc:=S1) (hl:=?_))
        apply Ai.nil;try refine And.intro (by kernel_rfl) ?_)
     | refine Ad ?_|refine Ae ?_)
    refine ⟨n-1,by omega,i+1,by omega,?_,?_⟩
    ·rw [List.take_add_one,List.take_add_one,ht,hx',hy',hxy]
    ·refine Dr ?_ ?_ rfl
     ·repeat (first|exact Aq|(refine List.forall_mem_cons.2 ⟨?_,?_⟩;focus (first|exact Ent.of_eq rfl|(refine Ent.one' rfl ?_;(first|exact Ag.ratsLe (by omega)|exact Ag.ratsNil|exact Ag.glNil|(refine Ag.int ?_;omega)|(refine Ag.glLen ?_;first|omega|simp)|exact Ag.of_eq rfl|(refine Ag.q rfl ?_;omega)|exact Z0 _|exact Z2 _|exact Ag.z0 (k:=0)|exact Ag.z1 (k:=0)|exact Ag.z2 (k:=0)|exact Ag.z0|exact Ag.z1|exact Ag.z2))|(refine Ent.agg' rfl ?_;(repeat (first|exact EntL.nil' rfl|(refine EntL.cons' rfl ?_ ?_;focus (first|exact Ag.ratsLe (by omega)|exact Ag.ratsNil|exact Ag.glNil|(refine Ag.int ?_;omega)|(refine Ag.glLen ?_;first|omega|simp)|exact Ag.of_eq rfl|(refine Ag.q rfl ?_;omega)|exact Z0 _|exact Z2 _|exact Ag.z0 (k:=0)|exact Ag.z1 (k:=0)|exact Ag.z2 (k:=0)|exact Ag.z0|exact Ag.z1|exact Ag.z2))));done))))
     ·repeat (first|exact Aq|(refine List.forall_mem_cons.2 ⟨?_,?_⟩;focus (first|exact AN inferInstance|(refine BB rfl ?_ rfl;focus ((repeat (first|exact EntL.nil' rfl|(refine EntL.cons' rfl ?_ ?_;focus (first|exact Ag.ratsLe (by omega)|exact Ag.ratsNil|exact Ag.glNil|(refine Ag.int ?_;omega)|(refine Ag.glLen ?_;first|omega|simp)|exact Ag.of_eq rfl|(refine Ag.q rfl ?_;omega)|exact Z0 _|exact Z2 _|exact Ag.z0 (k:=0)|exact Ag.z1 (k:=0)|exact Ag.z2 (k:=0)|exact Ag.z0|exact Ag.z1|exact Ag.z2))));done)))))
   ·rw [decide_eq_false hxy] at S1
    have hne:l≠m:=fun e=>hxy (by rw [e,hy'] at hx';exact (Option.some.inj hx').symm)
    rw [decide_eq_false hne]
    repeat (first
     | refine Af ?_|refine Ac ?_|refine Aa rfl ?_|refine Ab rfl ?_
     | ((first|refine AI (by kernel_rfl) ?_|refine BL (by kernel_rfl) (by kernel_rfl) (by kernel_rfl) ?_)
        repeat (first
         | refine AZ (hl:=?_)
         | refine AC (hl:=?_)
         | refine BU (hl:=?_)
         | refine B5 (hl:=?_)
         | refine AO (hl:=?_)
         | refine FT (hl:=?_)
         | refine Cv (hl:=?_)
         | refine Cu (hl:=?_)
         | refine Cw (hl:=?_)
         | refine Cj (hl:=?_)
         | refine B8 (hl:=?_)
         | refine G0 hx (by omega) (hl:=?_)
         | refine G0 hy (by omega) (hl:=?_)
         | refine Ay hA (hc:=S1) (hl:=?_))
        apply Ai.nil;try refine And.intro (by kernel_rfl) ?_)
     | refine Ad ?_|refine Ae ?_)
    refine As (And.intro (Or.inr rfl) ?_)
    exact AX
  ·have bi:=AJ (k:= .i64) (decide_eq_false (show ¬(i:Int)<(l.length:Int) by omega))
   have he:l=m:=by
    rw [List.take_of_length_le (by omega),List.take_of_length_le (by omega)] at ht
    exact ht
   rw [decide_eq_true he]
   repeat (first
    | refine Af ?_|refine Ac ?_|refine Aa rfl ?_|refine Ab rfl ?_
    | ((first|refine AI (by kernel_rfl) ?_|refine BL (by kernel_rfl) (by kernel_rfl) (by kernel_rfl) ?_)
       repeat (first
        | refine AZ (hl:=?_)
        | refine AC (hl:=?_)
        | refine BU (hl:=?_)
        | refine B5 (hl:=?_)
        | refine AO (hl:=?_)
        | refine FT (hl:=?_)
        | refine Cv (hl:=?_)
        | refine Cu (hl:=?_)
        | refine Cw (hl:=?_)
        | refine Cj (hl:=?_)
        | refine B8 (hl:=?_))
       apply Ai.nil;try refine And.intro (by kernel_rfl) ?_)
    | refine Ad ?_|refine Ae ?_)
   refine As (And.intro (Or.inr rfl) ?_)
   exact AX
 ·have b0:=EM (k:= .i64) (a:=(l.length:Int)) (b:=(m.length:Int)) (decide_eq_true (show (l.length:Int)≠(m.length:Int) by omega))
  rw [decide_eq_false (show ¬l=m from fun e=>hlm (by rw [e]))]
  refine Am Tryz.func32 rfl rfl rfl rfl rfl rfl ?_
  intro W0 base D μ0 hA hD
  repeat (first
   | refine Af ?_|refine Ac ?_|refine Aa rfl ?_|refine Ab rfl ?_
   | ((first|refine AI (by kernel_rfl) ?_|refine BL (by kernel_rfl) (by kernel_rfl) (by kernel_rfl) ?_)
      repeat (first
       | refine AZ (hl:=?_)
       | refine AC (hl:=?_)
       | refine BU (hl:=?_)
       | refine B5 (hl:=?_)
       | refine AO (hl:=?_)
       | refine FT (hl:=?_)
       | refine Cv (hl:=?_)
       | refine Cu (hl:=?_)
       | refine Cw (hl:=?_)
       | refine Cj (hl:=?_)
       | refine B8 (hl:=?_))
      apply Ai.nil;try refine And.intro (by kernel_rfl) ?_)
   | refine Ad ?_|refine Ae ?_)
  refine As (And.intro (Or.inr rfl) ?_)
  exact AX
theorem FG {l:List Rat} {i:Nat} (h:i<l.length): ∃x,l[((i:Nat):Int).toNat]?=some x∧l[i]?=some x:=⟨_,by rw [Int.toNat_natCast];exact Zd h,Zd h⟩
abbrev At (n:Int):AV:= .one (.v (.int .i64 n))
theorem Cb {α:Type} {n:Nat} {f:α→List D} (hf:Elm n f) {l:List α} (hn:0<n) (h:0<l.length):0<(An f l).length:=by rw [AA hf];exact Nat.mul_pos h hn
theorem FH {l:List Rat} {i:Nat} (h:i<l.length):l[((i:Nat):Int).toNat]?=some (l.getD i 0):=by
 rw [Int.toNat_natCast,List.getD_eq_getElem?_getD,Zd h];rfl
theorem V6 {l:List Rat} {i n:Nat} {x:Rat} {h:Rat→Rat} (hn:n=l.length) (hx:l[i]?=some x):((l.take i).map h++List.replicate (n-i) 0).set i (h x)=(l.take (i+1)).map h++List.replicate (n-(i+1)) 0:=by
 have hi:=(List.getElem?_eq_some_iff.1 hx).1
 have e:n-i=(n-(i+1))+1:=by omega
 rw [e,List.replicate_succ,List.set_append_right _ _ (by rw [List.length_map,List.length_take];omega),List.length_map,List.length_take,Nat.min_eq_left (by omega),Nat.sub_self,List.set_cons_zero,List.take_add_one,hx,List.map_append,List.append_assoc]
 rfl
theorem Lc {P:Program} {r:ResultVar} {R a:AV} {σ:St} {bs:List (Nat×List C×List C)} {ns:List (Nat×List C)} (h:ResIs P σ r a) (hE:Ent a R) (hb: ∀p∈bs,σ.sz p.1=p.2.2.length∧rdL (σ.m p.1) 0 p.2.2.length=p.2.2∧p.2.2.all nlB=true) (hn: ∀q∈ns,DL σ [] q∨DL σ (ns.map (·.1)) q):Fin P [r] bs R σ∧Vx ns σ:=
 ⟨UN h hE hb,fun q hq=>by rcases hn q hq with h|h<;>exact h.1⟩
def Ql (l cur:List Rat) (i:Nat):Prop:=cur.length=l.length∧ ∀q,q<l.length→cur[q]?=if q<i∨l.length≤q+i then l[l.length-1-q]? else l[q]?
theorem Ql.start (l:List Rat):Ql l l 0:=⟨rfl,fun q hq=>by rw [if_neg (by omega)]⟩
theorem Ql.step {l cur:List Rat} {i j:Nat} {x y:Rat} (h:Ql l cur i) (hj:j+i+1=l.length) (hij:i<j) (hx:cur[i]?=some x) (hy:cur[j]?=some y):Ql l ((cur.set i y).set j x) (i+1):=by
 refine ⟨by rw [List.length_set,List.length_set];exact h.1,fun q hq=>?_⟩
 have e1:=h.2 i (by omega)
 rw [if_neg (by omega),hx] at e1
 have e2:=h.2 j (by omega)
 rw [if_neg (by omega),hy] at e2
 by_cases hqj:q=j
 ·subst hqj
  rw [List.getElem?_set_self (by rw [List.length_set,h.1];omega),if_pos (by omega),show l.length-1-q=i by omega,←e1]
 ·rw [List.getElem?_set_ne (Ne.symm hqj)]
  by_cases hqi:q=i
  ·subst hqi
   rw [List.getElem?_set_self (by rw [h.1];omega),if_pos (by omega),show l.length-1-q=j by omega,←e2]
  ·rw [List.getElem?_set_ne (Ne.symm hqi),h.2 q hq]
   by_cases hc:q<i∨l.length≤q+i
   ·rw [if_pos hc,if_pos (by omega)]
   ·rw [if_neg hc,if_neg (by omega)]
theorem Ql.done {l cur:List Rat} {i:Nat} (h:Ql l cur i) (hi:l.length≤2*i+1):cur=l.reverse:=by
 refine List.ext_getElem? fun q=>?_
 by_cases hq:q<l.length
 ·rw [h.2 q hq,List.getElem?_reverse hq]
  by_cases hc:q<i∨l.length≤q+i
  ·rw [if_pos hc]
  ·rw [if_neg hc,show l.length-1-q=q by omega]
 ·rw [List.getElem?_eq_none (by rw [h.1];omega),List.getElem?_eq_none (by simp;omega)]
end Go.Proofs.YtnkobfcnflphkaaGreatDoor
