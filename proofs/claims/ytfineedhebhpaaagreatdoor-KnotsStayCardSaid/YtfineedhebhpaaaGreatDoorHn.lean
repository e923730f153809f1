/-
  Several texts in one: Nb, Nc, Nd, Ne, Nf.
-/
import Derived.Test.YtfineedhebhpaaaGreatDoorHy
namespace Go.Proofs.YtfineedhebhpaaaGreatDoor
open List renaming getElem?_eq_getElem→Xw
open Go.RowKit
set_option linter.unusedVariables false
set_option linter.unusedSimpArgs false
set_option maxRecDepth 20000
set_option maxHeartbeats 4000000
def Fz (l:List Rat):Rat:=l.getD 0 0
def Ea (l:List Rat):Rat:=l.getD (l.length-1) 0
theorem Nn {l:List Rat} (h:0<l.length):l[(0:Int).toNat]?=some (Fz l):=by
 show l[0]?=_
 unfold Fz
 rw [List.getD_eq_getElem?_getD,Xw h];rfl
theorem M6 {l:List Rat} (h:0<l.length):l[((l.length-1:Nat):Int).toNat]?=some (Ea l):=by
 rw [Int.toNat_natCast]
 unfold Ea
 rw [List.getD_eq_getElem?_getD,Xw (show l.length-1<l.length by omega)];rfl
def GN (l:List Rat):List Rat:=l.reverse.map fun x=>Fz l+Ea l-x
theorem CX {l:List Rat} {i:Nat} (h:i<l.length): ∃x,l[((i:Nat):Int).toNat]?=some x∧l[i]?=some x:=⟨_,by rw [Int.toNat_natCast];exact Xw h,Xw h⟩
def GA (l:List Rat) (a b:Rat):List Rat:=l.map fun x=>a+(x-Fz l)*((b-a)/(Ea l-Fz l))
theorem JB {x y:Rat} :Cm x y≥0↔ ¬x<y:=by
 unfold Cm
 by_cases h:x<y
 ·rw [if_pos h];simp [h]
 ·rw [if_neg h]
  split<;>simp [h]
abbrev Au (n:Int):AV:= .one (.v (.int .i64 n))
theorem EJ {α:Type} {n:Nat} {f:α→List D} (hf:Elm n f) {l:List α} (hn:0<n) (h:0<l.length):0<(Al f l).length:=by rw [A5 hf];exact Nat.mul_pos h hn
theorem WG {n d:Int} (h:(decide (-9223372036854775808≤n)&&decide (n<9223372036854775808)&&decide (1≤d)&&decide (d<9223372036854775808))=true):Ctr Tryz.prog Amb 151 [Au n,Au d] (.tup [nm 2 ((n:Rat)/(d:Rat)),Au 0]):=by
 simp only [Bool.and_eq_true,decide_eq_true_eq] at h
 obtain ⟨⟨⟨h1,h2⟩,h3⟩,h4⟩:=h
 have e:AH (decide (n<0) !=decide (d<0)) n.natAbs d.natAbs=(n:Rat)/(d:Rat):=by
  rw [decide_eq_false (show ¬d<0 by omega),Bool.bne_false]
  unfold AH
  rw [Is,Rat.mkRat_eq_div]
  congr 1
  have:((d.natAbs:Nat):Int)=d:=by omega
  rw [←Rat.intCast_natCast,this]
 refine Nx fun W0 μ sz w u v ht hu hv=>?_
 cases hu
 cases hv
 refine (Th n d h1 h2 (by omega) h4 (by omega) w ht).mono ?_
 rintro e' w' ⟨r,rfl,k2,k3⟩
 rw [e] at k2
 refine ⟨_,rfl,k3,[r,.int .i64 0],rfl,rfl,fun i a b ha hb=>?_⟩
 match i with
 | 0=>simp at ha hb;subst ha;subst hb;exact MR k2 (by rw [←e];exact PF (AL _ _ (by omega)) (AL _ _ (by omega)) (by omega))
 | 1=>simp at ha hb;subst ha;subst hb;rfl
 | i+2=>simp at ha
def smR (l:List Rat) (i:Nat):Nat→Rat
 | 0=>0
 | q+1=>smR l i q+l.getD (i+(q+1)) 0
def Ge (l:List Rat) (p:Nat):List Rat:=(List.range (l.length-p-1)).map fun i=>smR l i p*(((1:Int):Rat)/((p:Int):Rat))
theorem LC {l:List Rat} {i:Nat} (h:i<l.length):l[((i:Nat):Int).toNat]?=some (l.getD i 0):=by
 rw [Int.toNat_natCast,List.getD_eq_getElem?_getD,Xw h];rfl
theorem KU {j p:Nat} {l:List Rat} (hl:l.length≤1000000) (hp:p+1≤l.length):Ctr Tryz.prog Amb 131 [.one (BI j l),Au (p:Nat)] (Au ((l.length-p-1:Nat):Int)):=by
 have b1:=Cq (k:= .i64) (show (IntKind.i64).wrap ((l.length:Int)-p)=((l.length-p:Nat):Int) by rw [show ((l.length:Int)-p)=((l.length-p:Nat):Int) by omega];exact IntWalk.i64_in _ (by omega))
 have b2:=Cq (k:= .i64) (show (IntKind.i64).wrap (((l.length-p:Nat):Int)-1)=((l.length-p-1:Nat):Int) by rw [show (((l.length-p:Nat):Int)-1)=((l.length-p-1:Nat):Int) by omega];exact IntWalk.i64_in _ (by omega))
 refine AK Tryz.func131 rfl rfl rfl rfl rfl rfl ?_
 intro W0 base D μ0 hA hD
 repeat (first|refine Aj ?_|refine Ae ?_|refine Ac rfl ?_|refine Ad rfl ?_|refine AW ?_|refine AX ?_|refine Ag ?_|refine Ah ?_)
 refine AU (And.intro (Or.inr rfl) ?_)
 exact Cw
theorem Hs {p:Nat} (hp:1≤p∧p≤6):Ctr Tryz.prog Amb 150 [Au (p:Nat)] (.one (.v (.bool true))):=by
 have b1:=Ky (k:= .i64) (decide_eq_true (show (p:Int)≥1 by omega))
 have b2:=JH (k:= .i64) (decide_eq_true (show (p:Int)≤6 by omega))
 refine AK Tryz.func150 rfl rfl rfl rfl rfl rfl ?_
 intro W0 base D μ0 hA hD
 repeat (first|refine Aj ?_|refine Ae ?_|refine Ac rfl ?_|refine Ad rfl ?_|refine AW ?_|refine AX ?_|refine Ag ?_|refine Ah ?_)
 refine AU (And.intro (Or.inr rfl) ?_)
 exact Cw
theorem IO {j p:Nat} {l:List Rat} (hj:j≤10000) (hl:l.length≤1000000) (hp:1≤p∧p≤6) (hlp:p+1≤l.length):
  Ctr Tryz.prog Amb 74 [.one (BI j l),Au (p:Nat)] (.one (BI (p*(j+3)+4) (Ge l p))):=by
 have P0:=Hs hp
 have P1:=KU (j:=j) hl hlp
 have F1:=WG (n:=1) (d:=(p:Int)) (by rw [decide_eq_true (show (1:Int)≤p by omega),decide_eq_true (show (p:Int)<9223372036854775808 by omega)];rfl)
 obtain ⟨N,hN⟩: ∃N,N=l.length-p-1:=⟨_,rfl⟩
 obtain ⟨R,hR⟩: ∃R,R=Ge l p:=⟨_,rfl⟩
 rw [←hR]
 unfold Ge at hR
 rw [←hN] at P1 hR
 generalize ((1:Int):Rat)/((p:Int):Rat)=t at*
 have hsz: ∀q,q≤p→q*(j+3)≤10000000:=fun q hq=>Nat.le_trans (Nat.mul_le_mul (show q≤100 by omega) (show j+3≤100000 by omega)) (by decide)
 refine AK Tryz.func74 rfl rfl rfl rfl rfl rfl ?_
 intro W0 base D μ0 hA hD
 repeat (first|refine Aj ?_|refine Ae ?_|refine Ac rfl ?_|refine Ad rfl ?_|refine AW ?_|refine AX ?_|refine Ag ?_|refine Ah ?_)
 refine Cs (fun n σ=> ∃(i:Nat) (done:List Rat),n=N-i∧i≤N∧done=(List.range i).map (fun i=>smR l i p*t)∧Wk ⟨W0,base,D,51,[],μ0⟩ σ [(0,.one (BI j l)),(1,Au (p:Nat)),(5,.one (.ptr 5 0)),(7,.one (.gl 900 done.length 3)),(22,Au (N:Nat)),(23,Au (i:Nat))] [(900,Al (nmD (p*(j+3)+4)) done),(5,nmC 2 t)]) (n:=N) ⟨0,[],by omega,by omega,by simp,?_⟩ ?_
 ·exact BN
 intro n σ hI
 obtain ⟨i,done,hn,hi0,hdone,hw⟩:=hI
 refine C7 hw ?_
 clear hw
 have hlen:done.length=i:=by rw [hdone];simp
 by_cases hi:i<N
 ·have bi:=BL (k:= .i64) (decide_eq_true (show (i:Int)<(N:Int) by omega))
  have hin:=BD (k:= .i64) (show (IntKind.i64).wrap ((i:Int)+1)=((i+1:Nat):Int) from IntWalk.i64_in _ (by omega))
  have hip:=BD (k:= .i64) (show (IntKind.i64).wrap (((i+1:Nat):Int)+(p:Int))=((i+1+p:Nat):Int) from IntWalk.i64_in _ (by omega))
  obtain ⟨m,hm⟩: ∃m,m=(l.take (i+1+p)).drop (i+1):=⟨_,rfl⟩
  have hml:m.length=p:=by rw [hm,List.length_drop,List.length_take];omega
  have hmg: ∀q,q<p→m[((q:Nat):Int).toNat]?=some (l.getD (i+(q+1)) 0):=fun q hq=>by
   rw [Int.toNat_natCast,hm,List.getElem?_drop,List.getElem?_take,if_pos (by omega),show i+1+q=i+(q+1) by omega,List.getD_eq_getElem?_getD,Xw (by omega)];rfl
  repeat (first|refine Aj ?_|refine Ae ?_|refine Ac rfl ?_|refine Ad rfl ?_|refine AW ?_|refine AX ?_|refine Ag ?_|refine Ah ?_)
  rw [←hm]
  refine Cs (fun b σ=> ∃(q:Nat),b=p-q∧q≤p∧Wk ⟨W0,base,D,51,[],μ0⟩ σ [(0,.one (BI j l)),(1,Au (p:Nat)),(5,.one (.ptr 5 0)),(7,.one (.gl 900 done.length 3)),(22,Au (N:Nat)),(23,Au (i:Nat)),(9,.one (.ptr 9 0)),(33,.one (BI j m)),(34,Au (p:Nat)),(35,Au (q:Nat))] [(900,Al (nmD (p*(j+3)+4)) done),(5,nmC 2 t),(9,nmC (q*(j+3)) (smR l i q))]) (n:=p) ⟨0,by omega,by omega,?_⟩ ?_
  ·exact BN
  intro b σ hI
  obtain ⟨q,hb,hq0,hw⟩:=hI
  refine C7 hw ?_
  clear hw
  by_cases hq:q<p
  ·have bq:=BL (k:= .i64) (decide_eq_true (show (q:Int)<(p:Int) by omega))
   have hin2:=BD (k:= .i64) (show (IntKind.i64).wrap ((q:Int)+1)=((q+1:Nat):Int) from IntWalk.i64_in _ (by omega))
   have hx:=hmg q hq
   have h5:=hsz q hq0
   have A3:=Ua (j:=q*(j+3)) (k:=j) (x:=smR l i q) (y:=l.getD (i+(q+1)) 0) (by omega) (by omega)
   repeat (first|refine Aj ?_|refine Ae ?_|refine Ac rfl ?_|refine Ad rfl ?_|refine AW ?_|refine AX ?_|refine Ag ?_|refine Ah ?_)
   have e5:q*(j+3)+j+3=(q+1)*(j+3):=by rw [Nat.add_mul];omega
   refine ⟨b-1,by omega,q+1,by omega,by omega,?_⟩
   rw [←e5]
   exact BN
  ·obtain rfl:q=p:=by omega
   have bq:=BL (k:= .i64) (decide_eq_false (show ¬(q:Int)<(q:Int) by omega))
   have h5:=hsz q hq0
   have M3:=VP (j:=q*(j+3)) (k:=2) (x:=smR l i q) (y:=t) (by omega) (by omega)
   repeat (first|refine Aj ?_|refine Ae ?_|refine Ac rfl ?_|refine Ad rfl ?_|refine AW ?_|refine AX ?_|refine Ag ?_|refine Ah ?_)
   try refine Aj ?_
   refine Dr 5 (by simp only [List.take_succ_cons,List.take_zero,List.drop_succ_cons,List.drop_zero];exact ⟨rfl,rfl⟩) (by kernel_rfl) ?_
   repeat (first
    | refine Aq (hl:=?_)
    | refine Ai (hl:=?_)
    | refine AA (hl:=?_)
    | refine Ay (hl:=?_)
    | refine AG (hl:=?_)
    | refine CT (hl:=?_)
    | refine AJ (hl:=?_)
    | refine Ak (hl:=?_)
    | refine Cy (hl:=?_)
    | refine AO (hl:=?_)
    | refine AN (hl:=?_)
    | refine AP (hl:=?_)
    | refine AB (hl:=?_)
    | refine Av (hl:=?_)
    | refine BO (hl:=?_)
    | refine Ap hA (hc:=M3) (hl:=?_))
   apply Ab.nil
   refine Hq (k:=900) (ss:= [(0,.one (BI j l)),(1,Au (q:Nat)),(5,.one (.ptr 5 0)),(22,Au (N:Nat)),(23,Au (i:Nat))]) (bs:= [(5,nmC 2 t)]) (ns:=(nmC (q*(j+3)+2+2) (smR l i q*t))) hD ?_ ?_ ?_
   ·exact ⟨by omega,by omega⟩
   ·exact BN
   repeat (refine FC rfl ?_;(first|refine Ai (hl:=?_)|refine Aq (hl:=?_)|refine Ay (hl:=?_));apply Ab.nil)
   refine FD ?_
   repeat (first|refine Aj ?_|refine Ae ?_|refine Ac rfl ?_|refine Ad rfl ?_|refine AW ?_|refine AX ?_|refine Ag ?_|refine Ah ?_)
   refine ⟨n-1,by omega,i+1,done++ [smR l i q*t],by omega,by omega,?_,?_⟩
   ·rw [hdone,List.range_succ,List.map_append];rfl
   ·exact BN
 ·have bi:=BL (k:= .i64) (decide_eq_false (show ¬(i:Int)<(N:Int) by omega))
  have he:done=R:=by rw [hdone,hR,show i=N by omega]
  subst he
  repeat (first|refine Aj ?_|refine Ae ?_|refine Ac rfl ?_|refine Ad rfl ?_|refine AW ?_|refine AX ?_|refine Ag ?_|refine Ah ?_)
  refine Ek 900 hD (ss:= [(4,.one (BI (p*(j+3)+4) done))]) (bs:= []) ?_ ?_
  ·exact TE
  refine AU (And.intro (Or.inr rfl) ?_)
  exact Cw
theorem Ss {j:Nat} {l:List Rat} (hl:l.length≤1000000) (hne:0<l.length):Ctr Tryz.prog Amb 143 [.one (BI j l)] (.tup [nm j (Fz l),nm j (Ea l)]):=by
 have g0:=Nn hne
 have g1:=M6 hne
 have hdn:=Cq (k:= .i64) (show (IntKind.i64).wrap ((l.length:Int)-1)=((l.length-1:Nat):Int) by rw [show ((l.length:Int)-1)=((l.length-1:Nat):Int) by omega];exact IntWalk.i64_in _ (by omega))
 have b0:=Fx (k:= .i64) (decide_eq_false (show ¬(l.length:Int)=0 by omega))
 refine AK Tryz.func143 rfl rfl rfl rfl rfl rfl ?_
 intro W0 base D μ0 hA hD
 repeat (first|refine Aj ?_|refine Ae ?_|refine Ac rfl ?_|refine Ad rfl ?_|refine AW ?_|refine AX ?_|refine Ag ?_|refine Ah ?_)
 refine AU (And.intro (Or.inr rfl) ?_)
 exact P4
theorem KT {l:List Rat} {i n:Nat} {x:Rat} {h:Rat→Rat} (hn:n=l.length) (hx:l[i]?=some x):((l.take i).map h++List.replicate (n-i) 0).set i (h x)=(l.take (i+1)).map h++List.replicate (n-(i+1)) 0:=by
 have hi:=(List.getElem?_eq_some_iff.1 hx).1
 have e:n-i=(n-(i+1))+1:=by omega
 rw [e,List.replicate_succ,List.set_append_right _ _ (by rw [List.length_map,List.length_take];omega),List.length_map,List.length_take,Nat.min_eq_left (by omega),Nat.sub_self,List.set_cons_zero,List.take_add_one,hx,List.map_append,List.append_assoc]
 rfl
theorem Np {P:Program} {r:ResultVar} {R a:AV} {σ:St} {bs:List (Nat×List C×List C)} {ns:List (Nat×List C)} (h:ResIs P σ r a) (hE:Ent a R) (hb: ∀p∈bs,σ.sz p.1=p.2.2.length∧rdL (σ.m p.1) 0 p.2.2.length=p.2.2∧p.2.2.all nlB=true) (hn: ∀q∈ns,D0 σ [] q∨D0 σ (ns.map (·.1)) q):Fin P [r] bs R σ∧Vz ns σ:=
 ⟨TF h hE hb,fun q hq=>by rcases hn q hq with h|h<;>exact h.1⟩
theorem UN {g:FuncId} [hG:Fun Tryz.prog g] {j J j1 j2 j3:Nat} {l:List Rat} {h:Rat→Rat} {u v w:Rat} (hl:l.length≤1000000) (hne:0<l.length)
  (H: ∀x,B9 Tryz.prog Amb g [nm j x,.one (.ptr 901 0),.one (.ptr 902 0),.one (.ptr 903 0)] [(901,nmC j1 u,nmC j1 u),(902,nmC j2 v,nmC j2 v),(903,nmC j3 w,nmC j3 w)] (nm J (h x))):
  Dd Tryz.prog Amb 142 [.one (BI j l),.one (.fn g [(901,0),(902,0),(903,0)])] [(901,nmC j1 u,nmC j1 u),(902,nmC j2 v,nmC j2 v),(903,nmC j3 w,nmC j3 w)] [(10,Al (nmD J) (l.map h))] (.one (.gl 10 (l.map h).length 3)):=by
 obtain ⟨N,hN⟩: ∃N,N=l.length:=⟨_,rfl⟩
 have hne':(!(Al (nmD J) (l.map h)).isEmpty)=true:=by
  have:=EJ (f:=nmD J) inferInstance (by decide) (show 0<(l.map h).length by simpa using hne)
  cases hb:Al (nmD J) (l.map h) with
  | nil=>rw [hb] at this;cases this
  | cons a b=>rfl
 refine Ei Tryz.func142 rfl rfl rfl rfl (by
  simp only [List.all_cons,List.all_nil,Bool.and_true,Bool.and_eq_true]
  exact ⟨⟨by simp [inA,inC],by simp [inC]⟩,BM _ _,hne'⟩) (by simp [inA,inC]) (by simp) (by simp) ?_
 intro W0 base D μ0 hA hD
 repeat (first
  | refine Aj ?_|refine Ae ?_|refine Ac rfl ?_|refine Ad rfl ?_
  | ((first|refine An (by kernel_rfl) ?_|refine Az (by kernel_rfl) (by kernel_rfl) (by kernel_rfl) ?_)
     repeat (first
      | refine Aq (hl:=?_)
      | refine Ai (hl:=?_)
      | refine AA (hl:=?_)
      | refine Ay (hl:=?_)
      | refine AG (hl:=?_)
      | refine AJ (hl:=?_)
      | refine Ak (hl:=?_)
      | refine AO (hl:=?_)
      | refine AN (hl:=?_)
      | refine AP (hl:=?_)
      | refine AB (hl:=?_)
      | refine Av (hl:=?_)
      | refine NR hne (by omega) (by omega) (hl:=?_))
     apply Ab.nil;try refine And.intro (by kernel_rfl) ?_)
  | refine Ag ?_|refine Ah ?_)
 refine Cs (fun n σ=> ∃(i:Nat) (cur:List Rat),n=N-i∧i≤N∧cur=(l.take i).map h++List.replicate (l.length-i) 0∧Wk ⟨W0,base,D,26,[901,902,903],μ0⟩ σ [(1,.one (.fn g [(901,0),(902,0),(903,0)])),(5,.one (.gl 10 l.length 3)),(11,.one (BI j l)),(12,Au (l.length:Nat)),(13,Au (i:Nat))] [(10,Al (nmD J) cur),(901,nmC j1 u),(902,nmC j2 v),(903,nmC j3 w)]) (n:=N) ⟨0,List.replicate l.length 0,by omega,by omega,by simp,?_⟩ ?_
 ·refine DP ?_ ?_ rfl
  ·repeat (first|exact Ao|(refine List.forall_mem_cons.2 ⟨?_,?_⟩;focus (first|exact Ent.of_eq rfl|(refine Ent.one' rfl ?_;(first|exact Aa.ratsLe (by omega)|exact Aa.ratsNil|exact Aa.glNil|(refine Aa.int ?_;omega)|(refine Aa.glLen ?_;first|omega|simp)|exact Aa.of_eq rfl|(refine Aa.q rfl ?_;omega)|exact Z0 _|exact Z2 _|exact Aa.z0 (k:=0)|exact Aa.z1 (k:=0)|exact Aa.z2 (k:=0)|exact Aa.z0|exact Aa.z1|exact Aa.z2))|(refine Ent.agg' rfl ?_;(repeat (first|exact EntL.nil' rfl|(refine EntL.cons' rfl ?_ ?_;focus (first|exact Aa.ratsLe (by omega)|exact Aa.ratsNil|exact Aa.glNil|(refine Aa.int ?_;omega)|(refine Aa.glLen ?_;first|omega|simp)|exact Aa.of_eq rfl|(refine Aa.q rfl ?_;omega)|exact Z0 _|exact Z2 _|exact Aa.z0 (k:=0)|exact Aa.z1 (k:=0)|exact Aa.z2 (k:=0)|exact Aa.z0|exact Aa.z1|exact Aa.z2))));done))))
  ·repeat (first|exact Ao|(refine List.forall_mem_cons.2 ⟨?_,?_⟩;focus (first|exact BH inferInstance|(refine Hk inferInstance ?_;(repeat (first|exact EntL.nil' rfl|(refine EntL.cons' rfl ?_ ?_;focus (first|exact Aa.ratsLe (by omega)|exact Aa.ratsNil|exact Aa.glNil|(refine Aa.int ?_;omega)|(refine Aa.glLen ?_;first|omega|simp)|exact Aa.of_eq rfl|(refine Aa.q rfl ?_;omega)|exact Z0 _|exact Z2 _|exact Aa.z0 (k:=0)|exact Aa.z1 (k:=0)|exact Aa.z2 (k:=0)|exact Aa.z0|exact Aa.z1|exact Aa.z2))));done)|(refine D5 rfl ?_ rfl;focus ((repeat (first|exact EntL.nil' rfl|(refine EntL.cons' rfl ?_ ?_;focus (first|exact Aa.ratsLe (by omega)|exact Aa.ratsNil|exact Aa.glNil|(refine Aa.int ?_;omega)|(refine Aa.glLen ?_;first|omega|simp)|exact Aa.of_eq rfl|(refine Aa.q rfl ?_;omega)|exact Z0 _|exact Z2 _|exact Aa.z0 (k:=0)|exact Aa.z1 (k:=0)|exact Aa.z2 (k:=0)|exact Aa.z0|exact Aa.z1|exact Aa.z2))));done)))))
 intro n σ hI
 obtain ⟨i,cur,hn,hi0,hcur,hw⟩:=hI
 refine C7 hw ?_
 clear hw
 have hcl:cur.length=l.length:=by rw [hcur];simp;omega
 by_cases hi:i<l.length
 ·obtain ⟨x,hx,hx'⟩:=CX hi
  have bi:=BL (k:= .i64) (decide_eq_true (show (i:Int)<(l.length:Int) by omega))
  have hin:=BD (k:= .i64) (show (IntKind.i64).wrap ((i:Int)+1)=((i+1:Nat):Int) from IntWalk.i64_in _ (by omega))
  have hlt:(0:Int)≤((i:Nat):Int)∧((i:Nat):Int)<(l.length:Nat):=by omega
  have hst:((i:Nat):Int).toNat*3+3≤(Al (nmD J) cur).length:=by rw [A5 (n:=3) inferInstance,hcl,Int.toNat_natCast];omega
  repeat (first
   | refine Aj ?_|refine Ae ?_|refine Ac rfl ?_|refine Ad rfl ?_
   | ((first|refine An (by kernel_rfl) ?_|refine Az (by kernel_rfl) (by kernel_rfl) (by kernel_rfl) ?_)
      repeat (first
       | refine EY hst (hl:=?_)
       | refine Aq (hl:=?_)
       | refine Ai (hl:=?_)
       | refine AA (hl:=?_)
       | refine Ay (hl:=?_)
       | refine AG (hl:=?_)
       | refine AJ (hl:=?_)
       | refine Ak (hl:=?_)
       | refine AO (hl:=?_)
       | refine AN (hl:=?_)
       | refine AP (hl:=?_)
       | refine AB (hl:=?_)
       | refine Av (hl:=?_)
       | refine Cz hx (by omega) (hl:=?_)
       | refine DK hA [(901,nmC j1 u),(902,nmC j2 v),(903,nmC j3 w)] (H x) (hl:=?_)
       | refine G3 hlt (hl:=?_))
      apply Ab.nil;try refine And.intro (by kernel_rfl) ?_)
   | refine Ag ?_|refine Ah ?_)
  refine ⟨n-1,by omega,i+1,cur.set i (h x),by omega,by omega,?_,?_⟩
  ·rw [hcur];exact KT rfl hx'
  ·refine DP ?_ ?_ rfl
   ·repeat (first|exact Ao|(refine List.forall_mem_cons.2 ⟨?_,?_⟩;focus (first|exact Ent.of_eq rfl|(refine Ent.one' rfl ?_;(first|exact Aa.ratsLe (by omega)|exact Aa.ratsNil|exact Aa.glNil|(refine Aa.int ?_;omega)|(refine Aa.glLen ?_;first|omega|simp)|exact Aa.of_eq rfl|(refine Aa.q rfl ?_;omega)|exact Z0 _|exact Z2 _|exact Aa.z0 (k:=0)|exact Aa.z1 (k:=0)|exact Aa.z2 (k:=0)|exact Aa.z0|exact Aa.z1|exact Aa.z2))|(refine Ent.agg' rfl ?_;(repeat (first|exact EntL.nil' rfl|(refine EntL.cons' rfl ?_ ?_;focus (first|exact Aa.ratsLe (by omega)|exact Aa.ratsNil|exact Aa.glNil|(refine Aa.int ?_;omega)|(refine Aa.glLen ?_;first|omega|simp)|exact Aa.of_eq rfl|(refine Aa.q rfl ?_;omega)|exact Z0 _|exact Z2 _|exact Aa.z0 (k:=0)|exact Aa.z1 (k:=0)|exact Aa.z2 (k:=0)|exact Aa.z0|exact Aa.z1|exact Aa.z2))));done))))
   ·repeat (first|exact Ao|(refine List.forall_mem_cons.2 ⟨?_,?_⟩;focus (first|exact BH inferInstance|(refine Iz inferInstance (i:=i) (show i<cur.length by omega) ?_;(repeat (first|exact EntL.nil' rfl|(refine EntL.cons' rfl ?_ ?_;focus (first|exact Aa.ratsLe (by omega)|exact Aa.ratsNil|exact Aa.glNil|(refine Aa.int ?_;omega)|(refine Aa.glLen ?_;first|omega|simp)|exact Aa.of_eq rfl|(refine Aa.q rfl ?_;omega)|exact Z0 _|exact Z2 _|exact Aa.z0 (k:=0)|exact Aa.z1 (k:=0)|exact Aa.z2 (k:=0)|exact Aa.z0|exact Aa.z1|exact Aa.z2))));done)|(refine D5 rfl ?_ rfl;focus ((repeat (first|exact EntL.nil' rfl|(refine EntL.cons' rfl ?_ ?_;focus (first|exact Aa.ratsLe (by omega)|exact Aa.ratsNil|exact Aa.glNil|(refine Aa.int ?_;omega)|(refine Aa.glLen ?_;first|omega|simp)|exact Aa.of_eq rfl|(refine Aa.q rfl ?_;omega)|exact Z0 _|exact Z2 _|exact Aa.z0 (k:=0)|exact Aa.z1 (k:=0)|exact Aa.z2 (k:=0)|exact Aa.z0|exact Aa.z1|exact Aa.z2))));done)))))
 ·have bi:=BL (k:= .i64) (decide_eq_false (show ¬(i:Int)<(l.length:Int) by omega))
  have he:cur=l.map h:=by rw [hcur,List.take_of_length_le (by omega),show l.length-i=0 by omega];simp
  subst he
  repeat (first
   | refine Aj ?_|refine Ae ?_|refine Ac rfl ?_|refine Ad rfl ?_
   | ((first|refine An (by kernel_rfl) ?_|refine Az (by kernel_rfl) (by kernel_rfl) (by kernel_rfl) ?_)
      repeat (first
       | refine Aq (hl:=?_)
       | refine Ai (hl:=?_)
       | refine AA (hl:=?_)
       | refine Ay (hl:=?_)
       | refine AG (hl:=?_)
       | refine AJ (hl:=?_)
       | refine Ak (hl:=?_)
       | refine AO (hl:=?_)
       | refine AN (hl:=?_)
       | refine AP (hl:=?_)
       | refine AB (hl:=?_)
       | refine Av (hl:=?_))
      apply Ab.nil;try refine And.intro (by kernel_rfl) ?_)
   | refine Ag ?_|refine Ah ?_)
  refine AU (And.intro (Or.inr rfl) (Np (ResIs.tmp rfl) (Ent.one' rfl (Aa.glLen (by simp))) ?_ ?_))
  ·repeat (first|exact Ao|refine List.forall_mem_cons.2 ⟨⟨rfl,rfl,rfl⟩,?_⟩)
  ·exact List.forall_mem_cons.2 ⟨.inl (BH inferInstance),Ao⟩
theorem Wi {j ja jf js:Nat} {a u t x:Rat} (h1:j≤1000000) (h2:ja≤1000000) (h3:jf≤1000000) (h4:js≤1000000):
  B9 Tryz.prog Amb 149 [nm j x,.one (.ptr 901 0),.one (.ptr 902 0),.one (.ptr 903 0)] [(901,nmC ja a,nmC ja a),(902,nmC jf u,nmC jf u),(903,nmC js t,nmC js t)] (nm (ja+(j+jf+3+js+2)+3) (a+(x-u)*t)):=by
 have S1:=Qb (j:=j) (k:=jf) (x:=x) (y:=u) (by omega) (by omega)
 have M1:=VP (j:=j+jf+3) (k:=js) (x:=x-u) (y:=t) (by omega) (by omega)
 have A1:=Ua (j:=ja) (k:=j+jf+3+js+2) (x:=a) (y:=(x-u)*t) (by omega) (by omega)
 apply AK Tryz.func149 rfl rfl rfl rfl rfl
 case hin=>simp [inA,inC]
 intro W0 base D μ0 hA hD
 repeat (first
  | refine Aj ?_|refine Ae ?_|refine Ac rfl ?_|refine Ad rfl ?_
  | ((first|refine An (by kernel_rfl) ?_|refine Az (by kernel_rfl) (by kernel_rfl) (by kernel_rfl) ?_)
     repeat (first
      | refine AA (hl:=?_)
      | refine Ay (hl:=?_)
      | refine Ct (hl:=?_)
      | refine AG (hl:=?_)
      | refine Ap hA (hc:=S1) (hl:=?_)
      | refine Ap hA (hc:=M1) (hl:=?_)
      | refine Ap hA (hc:=A1) (hl:=?_))
     apply Ab.nil;try refine And.intro (by kernel_rfl) ?_)
  | refine Ag ?_|refine Ah ?_)
 refine AU (And.intro (Or.inr rfl) ?_)
 exact TH (hb:=by repeat (first|exact Ao|refine List.forall_mem_cons.2 ⟨⟨rfl,rfl,rfl⟩,?_⟩))
theorem Su {g:FuncId} [hG:Fun Tryz.prog g] {j J j1 j2 j3:Nat} {l:List Rat} {h:Rat→Rat} {u v w:Rat} (hl:l.length≤1000000) (hne:0<l.length)
  (H: ∀x,B9 Tryz.prog Amb g [nm j x,.one (.ptr 901 0),.one (.ptr 902 0),.one (.ptr 903 0)] [(901,nmC j1 u,nmC j1 u),(902,nmC j2 v,nmC j2 v),(903,nmC j3 w,nmC j3 w)] (nm J (h x))):
  B9 Tryz.prog Amb 142 [.one (BI j l),.one (.fn g [(4,0),(8,0),(10,0)])] [(4,nmC j1 u,nmC j1 u),(8,nmC j2 v,nmC j2 v),(10,nmC j3 w,nmC j3 w)] (.one (BI J (l.map h))):=
 ((UN hl hne H).freeze inferInstance rfl (by simp) (.inr ⟨rfl,List.forall_mem_cons.2 ⟨rfl,List.forall_mem_cons.2 ⟨rfl,Ao⟩⟩⟩) rfl).ren (fun k=>if k=901 then 4 else if k=902 then 8 else 10) (by simp) rfl rfl
theorem Mn {j ja jb:Nat} {l:List Rat} {a b:Rat} (hj:j≤10000) (h1:ja≤10000) (h2:jb≤10000) (hl:l.length≤1000000) (hne:0<l.length) (hd:Ea l-Fz l≠0):
  Ctr Tryz.prog Amb 73 [.one (BI j l),nm ja a,nm jb b] (if a<b then .tup [.one (BI (2*ja+jb+4*j+16) (GA l a b)),Au 0] else .tup [.one (BI (2*ja+jb+4*j+16) []),Au 7]):=by
 have C1:=NC (j:=ja) (k:=jb) (x:=a) (y:=b) (by omega) (by omega)
 by_cases hab:a<b
 ·have bc:=Ky (k:= .i64) (decide_eq_false (show ¬Cm a b≥0 from fun h=>JB.1 h hab))
  rw [if_pos hab]
  have G1:=Ss (j:=j) hl hne
  unfold GA
  generalize Fz l=u at*
  generalize Ea l=v at*
  have S1:=Qb (j:=jb) (k:=ja) (x:=b) (y:=a) (by omega) (by omega)
  have S2:=Qb (j:=j) (k:=j) (x:=v) (y:=u) (by omega) (by omega)
  have O1:=Xg (j:=jb+ja+3) (k:=j+j+3) (x:=b-a) (y:=v-u) (by omega) (by omega) hd
  generalize (b-a)/(v-u)=t at*
  have b0:=Gg (k:= .i64) (a:=0) (b:=0) (c:=false) rfl
  have E1:=Su (g:=149) (j:=j) (J:=ja+(j+j+3+(jb+ja+3+(j+j+3)+2)+2)+3) (l:=l) (h:=fun x=>a+(x-u)*t) hl hne (fun x=>Wi (ja:=ja) (jf:=j) (js:=jb+ja+3+(j+j+3)+2) (a:=a) (u:=u) (t:=t) (by omega) (by omega) (by omega) (by omega))
  refine AK Tryz.func73 rfl rfl rfl rfl rfl rfl ?_
  intro W0 base D μ0 hA hD
  repeat (first
   | refine Aj ?_|refine Ae ?_|refine Ac rfl ?_|refine Ad rfl ?_
   | ((first|refine An (by kernel_rfl) ?_|refine Az (by kernel_rfl) (by kernel_rfl) (by kernel_rfl) ?_)
      repeat (first
       | refine Aq (hl:=?_)
       | refine Ai (hl:=?_)
       | refine AA (hl:=?_)
       | refine Ay (hl:=?_)
       | refine Ct (hl:=?_)
       | refine AG (hl:=?_)
       | refine CT (hl:=?_)
       | refine AJ (hl:=?_)
       | refine BV (hl:=?_)
       | refine Av (hl:=?_)
       | refine Ap hA (hc:=C1) (hl:=?_)
       | refine Ap hA (hc:=G1) (hl:=?_)
       | refine Ap hA (hc:=S1) (hl:=?_)
       | refine Ap hA (hc:=S2) (hl:=?_)
       | refine Ap hA (hc:=O1) (hl:=?_)
       | refine DK hA [(4,nmC ja a),(8,nmC j u),(10,nmC (jb+ja+3+(j+j+3)+2) t)] E1 (hl:=?_))
      apply Ab.nil;try refine And.intro (by kernel_rfl) ?_)
   | refine Ag ?_|refine Ah ?_)
  refine AU (And.intro (Or.inr rfl) ?_)
  exact P4 (hE:=(Ent.tup rfl (EntT.cons (Ent.one' rfl (Aa.ratsLe (by omega))) rfl rfl (EntT.cons (Ent.of_eq rfl) rfl rfl EntT.nil))))
 ·have bc:=Ky (k:= .i64) (decide_eq_true (JB.2 hab))
  rw [if_neg hab]
  refine AK Tryz.func73 rfl rfl rfl rfl rfl rfl ?_
  intro W0 base D μ0 hA hD
  repeat (first
   | refine Aj ?_|refine Ae ?_|refine Ac rfl ?_|refine Ad rfl ?_
   | ((first|refine An (by kernel_rfl) ?_|refine Az (by kernel_rfl) (by kernel_rfl) (by kernel_rfl) ?_)
      repeat (first
       | refine Aq (hl:=?_)
       | refine Ai (hl:=?_)
       | refine AA (hl:=?_)
       | refine Ay (hl:=?_)
       | refine Ct (hl:=?_)
       | refine AG (hl:=?_)
       | refine CT (hl:=?_)
       | refine AJ (hl:=?_)
       | refine BV (hl:=?_)
       | refine Av (hl:=?_)
       | refine Ap hA (hc:=C1) (hl:=?_))
      apply Ab.nil;try refine And.intro (by kernel_rfl) ?_)
   | refine Ag ?_|refine Ah ?_)
  refine AU (And.intro (Or.inr rfl) ?_)
  exact P4 (hE:=(Ent.tup rfl (EntT.cons (Ent.one' rfl Aa.ratsNil) rfl rfl (EntT.cons (Ent.of_eq rfl) rfl rfl EntT.nil))))
def NO (l cur:List Rat) (i:Nat):Prop:=cur.length=l.length∧ ∀q,q<l.length→cur[q]?=if q<i∨l.length≤q+i then l[l.length-1-q]? else l[q]?
theorem NO.start (l:List Rat):NO l l 0:=⟨rfl,fun q hq=>by rw [if_neg (by omega)]⟩
theorem NO.step {l cur:List Rat} {i j:Nat} {x y:Rat} (h:NO l cur i) (hj:j+i+1=l.length) (hij:i<j) (hx:cur[i]?=some x) (hy:cur[j]?=some y):NO l ((cur.set i y).set j x) (i+1):=by
 refine ⟨by rw [List.length_set,List.length_set];exact h.1,fun q hq=>?_⟩
 have e1:=h.2 i (by omega)
 rw [if_neg (by omega),hx] at e1
 have e2:=h.2 j (by omega)
 rw [if_neg (by omega),hy] at e2
 by_cases hqj:q=j
 ·subst hqj
  rw [List.getElem?_set_self (by rw [List.length_set,h.1];omega),if_pos (by omega),show l.length-1-q=i by omega,←e1]
 ·rw [List.getElem?_set_ne (Ne.symm hqj)]
  by_cases hqi:q=i
  ·subst hqi
   rw [List.getElem?_set_self (by rw [h.1];omega),if_pos (by omega),show l.length-1-q=j by omega,←e2]
  ·rw [List.getElem?_set_ne (Ne.symm hqi),h.2 q hq]
   by_cases hc:q<i∨l.length≤q+i
   ·rw [if_pos hc,if_pos (by omega)]
   ·rw [if_neg hc,if_neg (by omega)]
theorem NO.done {l cur:List Rat} {i:Nat} (h:NO l cur i) (hi:l.length≤2*i+1):cur=l.reverse:=by
 refine List.ext_getElem? fun q=>?_
 by_cases hq:q<l.length
 ·rw [h.2 q hq,List.getElem?_reverse hq]
  by_cases hc:q<i∨l.length≤q+i
  ·rw [if_pos hc]
  ·rw [if_neg hc,show l.length-1-q=q by omega]
 ·rw [List.getElem?_eq_none (by rw [h.1];omega),List.getElem?_eq_none (by simp;omega)]
theorem QR {j:Nat} {l:List Rat} (hl:l.length≤1000000) (hne:0<l.length):
  B9 Tryz.prog Amb 147 [.one (.gl 10 l.length 3)] [(10,Al (nmD j) l,Al (nmD j) l.reverse)] (.tup []):=by
 have hdn:=Cq (k:= .i64) (show (IntKind.i64).wrap ((l.length:Int)-1)=((l.length-1:Nat):Int) by rw [show ((l.length:Int)-1)=((l.length-1:Nat):Int) by omega];exact IntWalk.i64_in _ (by omega))
 apply AK Tryz.func147 rfl rfl rfl rfl
 case hpf=>
  simp only [List.all_cons,List.all_nil,Bool.and_true,Bool.and_eq_true]
  exact ⟨rfl,Fs _,Fs _⟩
 case hin=>simp [inA,inC]
 intro W0 base D μ0 hA hD
 repeat (first
  | refine Aj ?_|refine Ae ?_|refine Ac rfl ?_|refine Ad rfl ?_
  | ((first|refine An (by kernel_rfl) ?_|refine Az (by kernel_rfl) (by kernel_rfl) (by kernel_rfl) ?_)
     repeat (first
      | refine Aq (hl:=?_)
      | refine Ai (hl:=?_)
      | refine AA (hl:=?_)
      | refine Ay (hl:=?_)
      | refine AJ (hl:=?_)
      | refine Ak (hl:=?_)
      | refine AO (hl:=?_)
      | refine AN (hl:=?_)
      | refine AP (hl:=?_)
      | refine AB (hl:=?_)
      | refine Av (hl:=?_))
     apply Ab.nil;try refine And.intro (by kernel_rfl) ?_)
  | refine Ag ?_|refine Ah ?_)
 refine Cs (fun n σ=> ∃(i:Nat) (cur:List Rat),n=l.length-i∧2*i≤l.length∧NO l cur i∧Wk ⟨W0,base,D,28,[10],μ0⟩ σ [(0,.one (.gl 10 l.length 3)),(2,Au (i:Nat)),(3,Au ((l.length:Int)-1-i))] [(10,Al (nmD j) cur)]) (n:=l.length) ⟨0,l,by omega,by omega,.start l,?_⟩ ?_
 ·refine DP ?_ ?_ rfl
  ·repeat (first|exact Ao|(refine List.forall_mem_cons.2 ⟨?_,?_⟩;focus (first|exact Ent.of_eq rfl|(refine Ent.one' rfl ?_;(first|exact Aa.ratsLe (by omega)|exact Aa.ratsNil|exact Aa.glNil|(refine Aa.int ?_;omega)|(refine Aa.glLen ?_;first|omega|simp)|exact Aa.of_eq rfl|(refine Aa.q rfl ?_;omega)|exact Z0 _|exact Z2 _|exact Aa.z0 (k:=0)|exact Aa.z1 (k:=0)|exact Aa.z2 (k:=0)|exact Aa.z0|exact Aa.z1|exact Aa.z2))|(refine Ent.agg' rfl ?_;(repeat (first|exact EntL.nil' rfl|(refine EntL.cons' rfl ?_ ?_;focus (first|exact Aa.ratsLe (by omega)|exact Aa.ratsNil|exact Aa.glNil|(refine Aa.int ?_;omega)|(refine Aa.glLen ?_;first|omega|simp)|exact Aa.of_eq rfl|(refine Aa.q rfl ?_;omega)|exact Z0 _|exact Z2 _|exact Aa.z0 (k:=0)|exact Aa.z1 (k:=0)|exact Aa.z2 (k:=0)|exact Aa.z0|exact Aa.z1|exact Aa.z2))));done))))
  ·repeat (first|exact Ao|(refine List.forall_mem_cons.2 ⟨?_,?_⟩;focus (first|exact BH inferInstance|(refine D5 rfl ?_ rfl;focus ((repeat (first|exact EntL.nil' rfl|(refine EntL.cons' rfl ?_ ?_;focus (first|exact Aa.ratsLe (by omega)|exact Aa.ratsNil|exact Aa.glNil|(refine Aa.int ?_;omega)|(refine Aa.glLen ?_;first|omega|simp)|exact Aa.of_eq rfl|(refine Aa.q rfl ?_;omega)|exact Z0 _|exact Z2 _|exact Aa.z0 (k:=0)|exact Aa.z1 (k:=0)|exact Aa.z2 (k:=0)|exact Aa.z0|exact Aa.z1|exact Aa.z2))));done)))))
 intro n σ hI
 obtain ⟨i,cur,hn,hi0,hcur,hw⟩:=hI
 refine C7 hw ?_
 clear hw
 by_cases hi:(i:Int)<(l.length:Int)-1-i
 ·obtain ⟨q,hq,hqe⟩: ∃q:Nat,(l.length:Int)-1-i=(q:Int)∧q+i+1=l.length:=⟨l.length-1-i,by omega,by omega⟩
  rw [hq] at hi⊢
  have hcl:=hcur.1
  obtain ⟨x,hx,hx'⟩:=CX (l:=cur) (i:=i) (by omega)
  obtain ⟨y,hy,hy'⟩:=CX (l:=cur) (i:=q) (by omega)
  have bi:=BL (k:= .i64) (decide_eq_true (show (i:Int)<(q:Int) from hi))
  have b1:=BD (k:= .i64) (show (IntKind.i64).wrap ((i:Int)+1)=((i+1:Nat):Int) from IntWalk.i64_in _ (by omega))
  have b2:=Cq (k:= .i64) (show (IntKind.i64).wrap ((q:Int)-1)=(q:Int)-1 from IntWalk.i64_in _ (by omega))
  have hlen:(Al (nmD j) cur).length=l.length*3:=by rw [A5 (n:=3) inferInstance,hcl]
  have lt1:(0:Int)≤((i:Nat):Int)∧((i:Nat):Int)<(l.length:Nat):=by omega
  have lt2:(0:Int)≤((q:Nat):Int)∧((q:Nat):Int)<(l.length:Nat):=by omega
  have st1:((i:Nat):Int).toNat*3+3≤(Al (nmD j) cur).length:=by rw [hlen,Int.toNat_natCast];omega
  have st2:((q:Nat):Int).toNat*3+3≤(Al (nmD j) cur).length:=by rw [hlen,Int.toNat_natCast];omega
  have ld1:=Lg (f:=nmD j) (n:=3) inferInstance hx
  have ld2:=Lg (f:=nmD j) (n:=3) inferInstance hy
  repeat (first
   | refine Aj ?_|refine Ae ?_|refine Ac rfl ?_|refine Ad rfl ?_
   | ((first|refine An (by kernel_rfl) ?_|refine Az (by kernel_rfl) (by kernel_rfl) (by kernel_rfl) ?_)
      repeat (first
       | refine EY (k:=10) st1 (hl:=?_)
       | refine EY (k:=10) st2 (hl:=?_)
       | refine Io (k:=10) st1 ld1 (hl:=?_)
       | refine Io (k:=10) st2 ld2 (hl:=?_)
       | refine Aq (hl:=?_)
       | refine Ai (hl:=?_)
       | refine AA (hl:=?_)
       | refine Ay (hl:=?_)
       | refine AJ (hl:=?_)
       | refine Ak (hl:=?_)
       | refine AO (hl:=?_)
       | refine AN (hl:=?_)
       | refine AP (hl:=?_)
       | refine AB (hl:=?_)
       | refine Av (hl:=?_)
       | refine G3 lt1 (hl:=?_)
       | refine G3 lt2 (hl:=?_))
      apply Ab.nil;try refine And.intro (by kernel_rfl) ?_)
   | refine Ag ?_|refine Ah ?_)
  refine ⟨n-1,by omega,i+1,(cur.set i y).set q x,by omega,by omega,hcur.step hqe (by omega) hx' hy',?_⟩
  refine DP ?_ ?_ rfl
  ·repeat (first|exact Ao|(refine List.forall_mem_cons.2 ⟨?_,?_⟩;focus (first|exact Ent.of_eq rfl|(refine Ent.one' rfl ?_;(first|exact Aa.ratsLe (by omega)|exact Aa.ratsNil|exact Aa.glNil|(refine Aa.int ?_;omega)|(refine Aa.glLen ?_;first|omega|simp)|exact Aa.of_eq rfl|(refine Aa.q rfl ?_;omega)|exact Z0 _|exact Z2 _|exact Aa.z0 (k:=0)|exact Aa.z1 (k:=0)|exact Aa.z2 (k:=0)|exact Aa.z0|exact Aa.z1|exact Aa.z2))|(refine Ent.agg' rfl ?_;(repeat (first|exact EntL.nil' rfl|(refine EntL.cons' rfl ?_ ?_;focus (first|exact Aa.ratsLe (by omega)|exact Aa.ratsNil|exact Aa.glNil|(refine Aa.int ?_;omega)|(refine Aa.glLen ?_;first|omega|simp)|exact Aa.of_eq rfl|(refine Aa.q rfl ?_;omega)|exact Z0 _|exact Z2 _|exact Aa.z0 (k:=0)|exact Aa.z1 (k:=0)|exact Aa.z2 (k:=0)|exact Aa.z0|exact Aa.z1|exact Aa.z2))));done))))
  ·repeat (first|exact Ao|(refine List.forall_mem_cons.2 ⟨?_,?_⟩;focus (first|exact BH inferInstance|(exact Qc (z:=(Al (nmD j) cur).length) inferInstance (Im.set inferInstance (i:=q) (Im.set inferInstance (i:=i) Im.base (show i<cur.length by omega) (EntL.of_eq rfl)) (show q<(cur.set i y).length by rw [List.length_set];omega) (EntL.of_eq rfl)) (by rw [List.length_set,List.length_set];exact A5 inferInstance cur))|(refine D5 rfl ?_ rfl;focus ((repeat (first|exact EntL.nil' rfl|(refine EntL.cons' rfl ?_ ?_;focus (first|exact Aa.ratsLe (by omega)|exact Aa.ratsNil|exact Aa.glNil|(refine Aa.int ?_;omega)|(refine Aa.glLen ?_;first|omega|simp)|exact Aa.of_eq rfl|(refine Aa.q rfl ?_;omega)|exact Z0 _|exact Z2 _|exact Aa.z0 (k:=0)|exact Aa.z1 (k:=0)|exact Aa.z2 (k:=0)|exact Aa.z0|exact Aa.z1|exact Aa.z2))));done)))))
 ·have bi:=BL (k:= .i64) (decide_eq_false hi)
  have he:=hcur.done (by omega)
  subst he
  repeat (first
   | refine Aj ?_|refine Ae ?_|refine Ac rfl ?_|refine Ad rfl ?_
   | ((first|refine An (by kernel_rfl) ?_|refine Az (by kernel_rfl) (by kernel_rfl) (by kernel_rfl) ?_)
      repeat (first
       | refine Aq (hl:=?_)
       | refine Ai (hl:=?_)
       | refine AA (hl:=?_)
       | refine Ay (hl:=?_)
       | refine AJ (hl:=?_)
       | refine Ak (hl:=?_)
       | refine AO (hl:=?_)
       | refine AN (hl:=?_)
       | refine AP (hl:=?_)
       | refine AB (hl:=?_)
       | refine Av (hl:=?_))
      apply Ab.nil;try refine And.intro (by kernel_rfl) ?_)
   | refine Ag ?_|refine Ah ?_)
  refine And.intro (Or.inl rfl) ?_
  refine ⟨⟨[],.nil,.inr rfl,Ent.of_eq rfl⟩,?_⟩
  exact List.forall_mem_cons.2 ⟨(BH (ks:= []) inferInstance).1,Ao⟩
theorem Wh {j js:Nat} {s x:Rat} (h1:j≤1000000) (h2:js≤1000000):
  B9 Tryz.prog Amb 145 [nm j x,.one (.ptr 901 0)] [(901,nmC js s,nmC js s)] (nm (js+j+3) (s-x)):=by
 have S1:=Qb (j:=js) (k:=j) (x:=s) (y:=x) (by omega) (by omega)
 apply AK Tryz.func145 rfl rfl rfl rfl rfl
 case hin=>simp [inA,inC]
 intro W0 base D μ0 hA hD
 repeat (first
  | refine Aj ?_|refine Ae ?_|refine Ac rfl ?_|refine Ad rfl ?_
  | ((first|refine An (by kernel_rfl) ?_|refine Az (by kernel_rfl) (by kernel_rfl) (by kernel_rfl) ?_)
     repeat (first
      | refine AA (hl:=?_)
      | refine Ay (hl:=?_)
      | refine Ct (hl:=?_)
      | refine AG (hl:=?_)
      | refine Ap hA (hc:=S1) (hl:=?_))
     apply Ab.nil;try refine And.intro (by kernel_rfl) ?_)
  | refine Ag ?_|refine Ah ?_)
 refine AU (And.intro (Or.inr rfl) ?_)
 exact TH (hb:=by repeat (first|exact Ao|refine List.forall_mem_cons.2 ⟨⟨rfl,rfl,rfl⟩,?_⟩))
theorem UO {g:FuncId} [hG:Fun Tryz.prog g] {j J j1:Nat} {l:List Rat} {h:Rat→Rat} {u:Rat} (hl:l.length≤1000000) (hne:0<l.length)
  (H: ∀x,B9 Tryz.prog Amb g [nm j x,.one (.ptr 901 0)] [(901,nmC j1 u,nmC j1 u)] (nm J (h x))):
  Dd Tryz.prog Amb 142 [.one (BI j l),.one (.fn g [(901,0)])] [(901,nmC j1 u,nmC j1 u)] [(10,Al (nmD J) (l.map h))] (.one (.gl 10 (l.map h).length 3)):=by
 obtain ⟨N,hN⟩: ∃N,N=l.length:=⟨_,rfl⟩
 have hne':(!(Al (nmD J) (l.map h)).isEmpty)=true:=by
  have:=EJ (f:=nmD J) inferInstance (by decide) (show 0<(l.map h).length by simpa using hne)
  cases hb:Al (nmD J) (l.map h) with
  | nil=>rw [hb] at this;cases this
  | cons a b=>rfl
 refine Ei Tryz.func142 rfl rfl rfl rfl (by
  simp only [List.all_cons,List.all_nil,Bool.and_true,Bool.and_eq_true]
  exact ⟨⟨by simp [inA,inC],by simp [inC]⟩,BM _ _,hne'⟩) (by simp [inA,inC]) (by simp) (by simp) ?_
 intro W0 base D μ0 hA hD
 repeat (first
  | refine Aj ?_|refine Ae ?_|refine Ac rfl ?_|refine Ad rfl ?_
  | ((first|refine An (by kernel_rfl) ?_|refine Az (by kernel_rfl) (by kernel_rfl) (by kernel_rfl) ?_)
     repeat (first
      | refine Aq (hl:=?_)
      | refine Ai (hl:=?_)
      | refine AA (hl:=?_)
      | refine Ay (hl:=?_)
      | refine AG (hl:=?_)
      | refine AJ (hl:=?_)
      | refine Ak (hl:=?_)
      | refine AO (hl:=?_)
      | refine AN (hl:=?_)
      | refine AP (hl:=?_)
      | refine AB (hl:=?_)
      | refine Av (hl:=?_)
      | refine NR hne (by omega) (by omega) (hl:=?_))
     apply Ab.nil;try refine And.intro (by kernel_rfl) ?_)
  | refine Ag ?_|refine Ah ?_)
 refine Cs (fun n σ=> ∃(i:Nat) (cur:List Rat),n=N-i∧i≤N∧cur=(l.take i).map h++List.replicate (l.length-i) 0∧Wk ⟨W0,base,D,26,[901],μ0⟩ σ [(1,.one (.fn g [(901,0)])),(5,.one (.gl 10 l.length 3)),(11,.one (BI j l)),(12,Au (l.length:Nat)),(13,Au (i:Nat))] [(10,Al (nmD J) cur),(901,nmC j1 u)]) (n:=N) ⟨0,List.replicate l.length 0,by omega,by omega,by simp,?_⟩ ?_
 ·refine DP ?_ ?_ rfl
  ·repeat (first|exact Ao|(refine List.forall_mem_cons.2 ⟨?_,?_⟩;focus (first|exact Ent.of_eq rfl|(refine Ent.one' rfl ?_;(first|exact Aa.ratsLe (by omega)|exact Aa.ratsNil|exact Aa.glNil|(refine Aa.int ?_;omega)|(refine Aa.glLen ?_;first|omega|simp)|exact Aa.of_eq rfl|(refine Aa.q rfl ?_;omega)|exact Z0 _|exact Z2 _|exact Aa.z0 (k:=0)|exact Aa.z1 (k:=0)|exact Aa.z2 (k:=0)|exact Aa.z0|exact Aa.z1|exact Aa.z2))|(refine Ent.agg' rfl ?_;(repeat (first|exact EntL.nil' rfl|(refine EntL.cons' rfl ?_ ?_;focus (first|exact Aa.ratsLe (by omega)|exact Aa.ratsNil|exact Aa.glNil|(refine Aa.int ?_;omega)|(refine Aa.glLen ?_;first|omega|simp)|exact Aa.of_eq rfl|(refine Aa.q rfl ?_;omega)|exact Z0 _|exact Z2 _|exact Aa.z0 (k:=0)|exact Aa.z1 (k:=0)|exact Aa.z2 (k:=0)|exact Aa.z0|exact Aa.z1|exact Aa.z2))));done))))
  ·repeat (first|exact Ao|(refine List.forall_mem_cons.2 ⟨?_,?_⟩;focus (first|exact BH inferInstance|(refine Hk inferInstance ?_;(repeat (first|exact EntL.nil' rfl|(refine EntL.cons' rfl ?_ ?_;focus (first|exact Aa.ratsLe (by omega)|exact Aa.ratsNil|exact Aa.glNil|(refine Aa.int ?_;omega)|(refine Aa.glLen ?_;first|omega|simp)|exact Aa.of_eq rfl|(refine Aa.q rfl ?_;omega)|exact Z0 _|exact Z2 _|exact Aa.z0 (k:=0)|exact Aa.z1 (k:=0)|exact Aa.z2 (k:=0)|exact Aa.z0|exact Aa.z1|exact Aa.z2))));done)|(refine D5 rfl ?_ rfl;focus ((repeat (first|exact EntL.nil' rfl|(refine EntL.cons' rfl ?_ ?_;focus (first|exact Aa.ratsLe (by omega)|exact Aa.ratsNil|exact Aa.glNil|(refine Aa.int ?_;omega)|(refine Aa.glLen ?_;first|omega|simp)|exact Aa.of_eq rfl|(refine Aa.q rfl ?_;omega)|exact Z0 _|exact Z2 _|exact Aa.z0 (k:=0)|exact Aa.z1 (k:=0)|exact Aa.z2 (k:=0)|exact Aa.z0|exact Aa.z1|exact Aa.z2))));done)))))
 intro n σ hI
 obtain ⟨i,cur,hn,hi0,hcur,hw⟩:=hI
 refine C7 hw ?_
 clear hw
 have hcl:cur.length=l.length:=by rw [hcur];simp;omega
 by_cases hi:i<l.length
 ·obtain ⟨x,hx,hx'⟩:=CX hi
  have bi:=BL (k:= .i64) (decide_eq_true (show (i:Int)<(l.length:Int) by omega))
  have hin:=BD (k:= .i64) (show (IntKind.i64).wrap ((i:Int)+1)=((i+1:Nat):Int) from IntWalk.i64_in _ (by omega))
  have hlt:(0:Int)≤((i:Nat):Int)∧((i:Nat):Int)<(l.length:Nat):=by omega
  have hst:((i:Nat):Int).toNat*3+3≤(Al (nmD J) cur).length:=by rw [A5 (n:=3) inferInstance,hcl,Int.toNat_natCast];omega
  repeat (first
   | refine Aj ?_|refine Ae ?_|refine Ac rfl ?_|refine Ad rfl ?_
   | ((first|refine An (by kernel_rfl) ?_|refine Az (by kernel_rfl) (by kernel_rfl) (by kernel_rfl) ?_)
      repeat (first
       | refine EY hst (hl:=?_)
       | refine Aq (hl:=?_)
       | refine Ai (hl:=?_)
       | refine AA (hl:=?_)
       | refine Ay (hl:=?_)
       | refine AG (hl:=?_)
       | refine AJ (hl:=?_)
       | refine Ak (hl:=?_)
       | refine AO (hl:=?_)
       | refine AN (hl:=?_)
       | refine AP (hl:=?_)
       | refine AB (hl:=?_)
       | refine Av (hl:=?_)
       | refine Cz hx (by omega) (hl:=?_)
       | refine DK hA [(901,nmC j1 u)] (H x) (hl:=?_)
       | refine G3 hlt (hl:=?_))
      apply Ab.nil;try refine And.intro (by kernel_rfl) ?_)
   | refine Ag ?_|refine Ah ?_)
  refine ⟨n-1,by omega,i+1,cur.set i (h x),by omega,by omega,?_,?_⟩
  ·rw [hcur];exact KT rfl hx'
  ·refine DP ?_ ?_ rfl
   ·repeat (first|exact Ao|(refine List.forall_mem_cons.2 ⟨?_,?_⟩;focus (first|exact Ent.of_eq rfl|(refine Ent.one' rfl ?_;(first|exact Aa.ratsLe (by omega)|exact Aa.ratsNil|exact Aa.glNil|(refine Aa.int ?_;omega)|(refine Aa.glLen ?_;first|omega|simp)|exact Aa.of_eq rfl|(refine Aa.q rfl ?_;omega)|exact Z0 _|exact Z2 _|exact Aa.z0 (k:=0)|exact Aa.z1 (k:=0)|exact Aa.z2 (k:=0)|exact Aa.z0|exact Aa.z1|exact Aa.z2))|(refine Ent.agg' rfl ?_;(repeat (first|exact EntL.nil' rfl|(refine EntL.cons' rfl ?_ ?_;focus (first|exact Aa.ratsLe (by omega)|exact Aa.ratsNil|exact Aa.glNil|(refine Aa.int ?_;omega)|(refine Aa.glLen ?_;first|omega|simp)|exact Aa.of_eq rfl|(refine Aa.q rfl ?_;omega)|exact Z0 _|exact Z2 _|exact Aa.z0 (k:=0)|exact Aa.z1 (k:=0)|exact Aa.z2 (k:=0)|exact Aa.z0|exact Aa.z1|exact Aa.z2))));done))))
   ·repeat (first|exact Ao|(refine List.forall_mem_cons.2 ⟨?_,?_⟩;focus (first|exact BH inferInstance|(refine Iz inferInstance (i:=i) (show i<cur.length by omega) ?_;(repeat (first|exact EntL.nil' rfl|(refine EntL.cons' rfl ?_ ?_;focus (first|exact Aa.ratsLe (by omega)|exact Aa.ratsNil|exact Aa.glNil|(refine Aa.int ?_;omega)|(refine Aa.glLen ?_;first|omega|simp)|exact Aa.of_eq rfl|(refine Aa.q rfl ?_;omega)|exact Z0 _|exact Z2 _|exact Aa.z0 (k:=0)|exact Aa.z1 (k:=0)|exact Aa.z2 (k:=0)|exact Aa.z0|exact Aa.z1|exact Aa.z2))));done)|(refine D5 rfl ?_ rfl;focus ((repeat (first|exact EntL.nil' rfl|(refine EntL.cons' rfl ?_ ?_;focus (first|exact Aa.ratsLe (by omega)|exact Aa.ratsNil|exact Aa.glNil|(refine Aa.int ?_;omega)|(refine Aa.glLen ?_;first|omega|simp)|exact Aa.of_eq rfl|(refine Aa.q rfl ?_;omega)|exact Z0 _|exact Z2 _|exact Aa.z0 (k:=0)|exact Aa.z1 (k:=0)|exact Aa.z2 (k:=0)|exact Aa.z0|exact Aa.z1|exact Aa.z2))));done)))))
 ·have bi:=BL (k:= .i64) (decide_eq_false (show ¬(i:Int)<(l.length:Int) by omega))
  have he:cur=l.map h:=by rw [hcur,List.take_of_length_le (by omega),show l.length-i=0 by omega];simp
  subst he
  repeat (first
   | refine Aj ?_|refine Ae ?_|refine Ac rfl ?_|refine Ad rfl ?_
   | ((first|refine An (by kernel_rfl) ?_|refine Az (by kernel_rfl) (by kernel_rfl) (by kernel_rfl) ?_)
      repeat (first
       | refine Aq (hl:=?_)
       | refine Ai (hl:=?_)
       | refine AA (hl:=?_)
       | refine Ay (hl:=?_)
       | refine AG (hl:=?_)
       | refine AJ (hl:=?_)
       | refine Ak (hl:=?_)
       | refine AO (hl:=?_)
       | refine AN (hl:=?_)
       | refine AP (hl:=?_)
       | refine AB (hl:=?_)
       | refine Av (hl:=?_))
      apply Ab.nil;try refine And.intro (by kernel_rfl) ?_)
   | refine Ag ?_|refine Ah ?_)
  refine AU (And.intro (Or.inr rfl) (Np (ResIs.tmp rfl) (Ent.one' rfl (Aa.glLen (by simp))) ?_ ?_))
  ·repeat (first|exact Ao|refine List.forall_mem_cons.2 ⟨⟨rfl,rfl,rfl⟩,?_⟩)
  ·exact List.forall_mem_cons.2 ⟨.inl (BH inferInstance),Ao⟩
theorem Mm {j:Nat} {l:List Rat} (hj:j≤10000) (hl:l.length≤1000000) (hne:0<l.length):
  Ctr Tryz.prog Amb 72 [.one (BI j l)] (.one (BI (3*j+6) (GN l))):=by
 have G1:=Ss (j:=j) hl hne
 obtain ⟨R,hR⟩: ∃R,R=l.map fun x=>Fz l+Ea l-x:=⟨_,rfl⟩
 have hRl:R.length=l.length:=by rw [hR];simp
 have e:GN l=R.reverse:=by rw [hR];unfold GN;rw [List.map_reverse]
 rw [e]
 clear e
 generalize Fz l=u at*
 generalize Ea l=v at*
 have A1:=Ua (j:=j) (k:=j) (x:=u) (y:=v) (by omega) (by omega)
 have E1:=(UO (g:=145) (j:=j) (J:=j+j+3+j+3) (j1:=j+j+3) (u:=u+v) (l:=l) (h:=fun x=>u+v-x) hl hne (fun x=>Wh (by omega) (by omega))).ren (swp 901 5) (Ip 901 5) rfl
 have E2:Dd Tryz.prog Amb 142 [.one (BI j l),.one (.fn 145 [(5,0)])] [(5,nmC (j+j+3) (u+v),nmC (j+j+3) (u+v))] [(10,Al (nmD (j+j+3+j+3)) R)] (.one (.gl 10 R.length 3)):=by
  subst hR
  have hh:=E1
  simp only [List.map_cons,List.map_nil] at hh
  rw [show (Al (nmD (j+j+3+j+3)) (l.map fun x=>u+v-x)).map (E6 (swp 901 5))=Al (nmD (j+j+3+j+3)) (l.map fun x=>u+v-x) from Fl (Fs _)] at hh
  exact hh
 have V1:=QR (j:=j+j+3+j+3) (l:=R) (by omega) (by omega)
 have hbl:0<(Al (nmD (j+j+3+j+3)) R).length:=EJ (n:=3) inferInstance (by decide) (by omega)
 have hbr:(Al (nmD (j+j+3+j+3)) R).length=(Al (nmD (j+j+3+j+3)) R.reverse).length:=by rw [A5 (n:=3) inferInstance,A5 (n:=3) inferInstance,List.length_reverse]
 refine AK Tryz.func72 rfl rfl rfl rfl rfl rfl ?_
 intro W0 base D μ0 hA hD
 repeat (first
  | refine Aj ?_|refine Ae ?_|refine Ac rfl ?_|refine Ad rfl ?_
  | ((first|refine An (by kernel_rfl) ?_|refine Az (by kernel_rfl) (by kernel_rfl) (by kernel_rfl) ?_)
     repeat (first
      | refine Aq (hl:=?_)
      | refine Ai (hl:=?_)
      | refine AA (hl:=?_)
      | refine Ay (hl:=?_)
      | refine AG (hl:=?_)
      | refine CT (hl:=?_)
      | refine BV (hl:=?_)
      | refine Av (hl:=?_)
      | refine Ap hA (hc:=G1) (hl:=?_)
      | refine Ap hA (hc:=A1) (hl:=?_)
      | refine EZ hA [(5,nmC (j+j+3) (u+v))] E2 hbl (hl:=?_)
      | refine Ps hA (len:=R.length) (n:=3) V1 ⟨by omega,hbr,hbl⟩ (hl:=?_))
     apply Ab.nil;try refine And.intro (by kernel_rfl) ?_)
  | refine Ag ?_|refine Ah ?_)
 refine C7 (ss:= [(2,.one (.gl 10 R.reverse.length 3))]) (bs:= [(10,Al (nmD (j+j+3+j+3)) R.reverse)]) ?_ ?_
 ·refine DP ?_ ?_ rfl
  ·repeat (first|exact Ao|(refine List.forall_mem_cons.2 ⟨?_,?_⟩;focus (first|exact Ent.of_eq rfl|(refine Ent.one' rfl ?_;(first|exact Aa.ratsLe (by omega)|exact Aa.ratsNil|exact Aa.glNil|(refine Aa.int ?_;omega)|(refine Aa.glLen ?_;first|omega|simp)|exact Aa.of_eq rfl|(refine Aa.q rfl ?_;omega)|exact Z0 _|exact Z2 _|exact Aa.z0 (k:=0)|exact Aa.z1 (k:=0)|exact Aa.z2 (k:=0)|exact Aa.z0|exact Aa.z1|exact Aa.z2))|(refine Ent.agg' rfl ?_;(repeat (first|exact EntL.nil' rfl|(refine EntL.cons' rfl ?_ ?_;focus (first|exact Aa.ratsLe (by omega)|exact Aa.ratsNil|exact Aa.glNil|(refine Aa.int ?_;omega)|(refine Aa.glLen ?_;first|omega|simp)|exact Aa.of_eq rfl|(refine Aa.q rfl ?_;omega)|exact Z0 _|exact Z2 _|exact Aa.z0 (k:=0)|exact Aa.z1 (k:=0)|exact Aa.z2 (k:=0)|exact Aa.z0|exact Aa.z1|exact Aa.z2))));done))))
  ·repeat (first|exact Ao|(refine List.forall_mem_cons.2 ⟨?_,?_⟩;focus (first|exact BH inferInstance|(exact Qc (z:=(Al (nmD (j+j+3+j+3)) R).length) inferInstance Im.whole (by rw [hbr];exact A5 inferInstance _))|(refine D5 rfl ?_ rfl;focus ((repeat (first|exact EntL.nil' rfl|(refine EntL.cons' rfl ?_ ?_;focus (first|exact Aa.ratsLe (by omega)|exact Aa.ratsNil|exact Aa.glNil|(refine Aa.int ?_;omega)|(refine Aa.glLen ?_;first|omega|simp)|exact Aa.of_eq rfl|(refine Aa.q rfl ?_;omega)|exact Z0 _|exact Z2 _|exact Aa.z0 (k:=0)|exact Aa.z1 (k:=0)|exact Aa.z2 (k:=0)|exact Aa.z0|exact Aa.z1|exact Aa.z2))));done)))))
 refine Ek 10 hD (ss:= [(2,.one (BI (j+j+3+j+3) R.reverse))]) (bs:= []) ?_ ?_
 ·refine VJ ?_ ?_ rfl
  ·repeat (first|exact Ao|(refine List.forall_mem_cons.2 ⟨?_,?_⟩;focus (first|exact OZ inferInstance|refine FzA.ent ?_;first|exact Ent.of_eq rfl|(refine Ent.one' rfl ?_;(first|exact Aa.ratsLe (by omega)|exact Aa.ratsNil|exact Aa.glNil|(refine Aa.int ?_;omega)|(refine Aa.glLen ?_;first|omega|simp)|exact Aa.of_eq rfl|(refine Aa.q rfl ?_;omega)|exact Z0 _|exact Z2 _|exact Aa.z0 (k:=0)|exact Aa.z1 (k:=0)|exact Aa.z2 (k:=0)|exact Aa.z0|exact Aa.z1|exact Aa.z2))|(refine Ent.agg' rfl ?_;(repeat (first|exact EntL.nil' rfl|(refine EntL.cons' rfl ?_ ?_;focus (first|exact Aa.ratsLe (by omega)|exact Aa.ratsNil|exact Aa.glNil|(refine Aa.int ?_;omega)|(refine Aa.glLen ?_;first|omega|simp)|exact Aa.of_eq rfl|(refine Aa.q rfl ?_;omega)|exact Z0 _|exact Z2 _|exact Aa.z0 (k:=0)|exact Aa.z1 (k:=0)|exact Aa.z2 (k:=0)|exact Aa.z0|exact Aa.z1|exact Aa.z2))));done))))
  ·repeat (first|exact Ao|(refine List.forall_mem_cons.2 ⟨?_,?_⟩;focus (first|exact BH inferInstance|(refine D5 rfl ?_ rfl;focus ((repeat (first|exact EntL.nil' rfl|(refine EntL.cons' rfl ?_ ?_;focus (first|exact Aa.ratsLe (by omega)|exact Aa.ratsNil|exact Aa.glNil|(refine Aa.int ?_;omega)|(refine Aa.glLen ?_;first|omega|simp)|exact Aa.of_eq rfl|(refine Aa.q rfl ?_;omega)|exact Z0 _|exact Z2 _|exact Aa.z0 (k:=0)|exact Aa.z1 (k:=0)|exact Aa.z2 (k:=0)|exact Aa.z0|exact Aa.z1|exact Aa.z2))));done)))))
 refine AU (And.intro (Or.inr rfl) ?_)
 exact Cw (hE:=(Ent.one' rfl (Aa.ratsLe (by omega))))
end Go.Proofs.YtfineedhebhpaaaGreatDoor
