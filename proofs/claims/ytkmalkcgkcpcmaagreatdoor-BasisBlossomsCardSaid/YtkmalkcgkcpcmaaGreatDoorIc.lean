/-
  Several texts in one: Nr, Ns, Nt, Nu, Nv.
-/
import Derived.Test.YtkmalkcgkcpcmaaGreatDoorHy
import Derived.Test.YtkmalkcgkcpcmaaGreatDoorIb
import Derived.Test.YtkmalkcgkcpcmaaGreatDoorIa
namespace Go.Proofs.YtkmalkcgkcpcmaaGreatDoor
open Nat renaming le_refl→Yh
open Go.RowKit
set_option linter.unusedVariables false
set_option linter.unusedSimpArgs false
set_option maxRecDepth 20000
set_option maxHeartbeats 4000000
theorem L0 {l:List Rat} {i:Nat} {x:Rat} (h:l[i]?=some x):l.drop i=x::l.drop (i+1):=by
 obtain ⟨hi,hx⟩:=List.getElem?_eq_some_iff.1 h
 rw [←hx]
 exact List.drop_eq_getElem_cons hi
set_option maxHeartbeats 1000000
def gr:List Rat→List (Rat×Nat)
 | []=> []
 | x::l=>match gr l with
   | []=> [(x,1)]
   | (y,c)::g=>if x=y then (y,c+1)::g else (x,1)::(y,c)::g
theorem Xa {l:List Rat} (h:gr l= []):l= []:=by
 cases l with
 | nil=>rfl
 | cons x l=>
   unfold gr at h
   split at h
   ·cases h
   ·split at h<;>cases h
theorem Qp {x:Rat} {l:List Rat} {y:Rat} {c:Nat} {g:List (Rat×Nat)} (h:gr (x::l)=(y,c)::g):y=x:=by
 unfold gr at h
 split at h
 ·cases h;rfl
 ·split at h
  ·rename_i hxy
   cases h
   exact hxy.symm
  ·cases h;rfl
theorem NK {x:Rat} {l:List Rat} (h:gr l= []):gr (x::l)= [(x,1)]:=by
 show (match gr l with|[]=> [(x,1)]|(y,c)::g=>if x=y then (y,c+1)::g else (x,1)::(y,c)::g)=_
 rw [h]
theorem NJ {x:Rat} {l:List Rat} {c:Nat} {g:List (Rat×Nat)} (h:gr l=(x,c)::g):gr (x::l)=(x,c+1)::g:=by
 show (match gr l with|[]=> [(x,1)]|(y,c)::g=>if x=y then (y,c+1)::g else (x,1)::(y,c)::g)=_
 rw [h]
 exact if_pos rfl
theorem NI {x y:Rat} {l:List Rat} {c:Nat} {g:List (Rat×Nat)} (h:gr l=(y,c)::g) (hxy:x≠y):gr (x::l)=(x,1)::(y,c)::g:=by
 show (match gr l with|[]=> [(x,1)]|(y,c)::g=>if x=y then (y,c+1)::g else (x,1)::(y,c)::g)=_
 rw [h]
 exact if_neg hxy
def BT:List (Rat×Nat)→Nat
 | []=>0
 | (_,c)::g=>c+BT g
def rg:Nat→List (Rat×Nat)→List (Nat×Nat)
 | _,[]=> []
 | s,(_,c)::g=>(s,s+c)::rg (s+c) g
theorem Ly {l:List Rat} : ∀ {n i f:Nat} {h:i+n=l.length} {hf:f≤i},(Jd l n i f h hf).map (·.1)=match gr (l.drop i) with|[]=> []|(_,c)::g=>(f,i+c)::rg (i+c) g
 | 0,i,f,h,hf=>by
   rw [List.drop_eq_nil_of_le (by omega)]
   rfl
 | n+1,i,f,h,hf=>by
   obtain ⟨x,hx,hx'⟩:=BC (l:=l) (i:=i) (by omega)
   rw [L0 hx']
   by_cases hq:i+1<l.length∧l.getD i 0=l.getD (i+1) 0
   ·obtain ⟨y,hy,hy'⟩:=BC (l:=l) (i:=i+1) hq.1
    have hxy:x=y:=by
     have h1:=hq.2
     rw [AS hx',AS hy'] at h1
     exact h1
    subst hxy
    rw [P8 hq,Ly (n:=n)]
    have hd:=L0 hy'
    cases hg:gr (l.drop (i+1)) with
    | nil=>rw [Xa hg] at hd;cases hd
    | cons b g=>
      obtain ⟨z,c⟩:=b
      have hz:z=x:=by rw [hd] at hg;exact Qp hg
      subst hz
      rw [NJ hg]
      show (f,i+1+c)::rg (i+1+c) g=(f,i+(c+1))::rg (i+(c+1)) g
      rw [show i+1+c=i+(c+1) by omega]
   ·rw [P7 hq,List.map_cons,Ly (n:=n)]
    cases hg:gr (l.drop (i+1)) with
    | nil=>rw [NK hg];rfl
    | cons b g=>
      obtain ⟨z,c⟩:=b
      have hlt:i+1<l.length:=by
       by_cases hh:i+1<l.length
       ·exact hh
       ·rw [List.drop_eq_nil_of_le (by omega)] at hg;cases hg
      obtain ⟨y,hy,hy'⟩:=BC (l:=l) (i:=i+1) hlt
      have hz:z=y:=by rw [L0 hy'] at hg;exact Qp hg
      have hxy:x≠z:=fun e=>hq ⟨hlt,by rw [AS hx',AS hy',e,hz]⟩
      rw [NI hg hxy]
      rfl
theorem P6 {l:List Rat} :(FM l).map (·.1)=rg 0 (gr l):=by
 unfold FM
 rw [Ly,List.drop_zero]
 cases gr l with
 | nil=>rfl
 | cons b g=>obtain ⟨y,c⟩:=b;rfl
def G9:List (Rat×Nat)→Prop
 | []=>True
 | (y,_)::g=>(∀a∈g,y<a.1)∧G9 g
def rep:List (Rat×Nat)→List Rat
 | []=> []
 | (y,c)::g=>List.replicate c y++rep g
theorem Fo: ∀ {g h:List (Rat×Nat)},rep (g++h)=rep g++rep h
 | [],_=>rfl
 | (y,c)::g,h=>by
   show List.replicate c y++rep (g++h)=(List.replicate c y++rep g)++rep h
   rw [Fo (g:=g),List.append_assoc]
theorem EC: ∀ {g:List (Rat×Nat)},(rep g).length=BT g
 | []=>rfl
 | (y,c)::g=>by
   show (List.replicate c y++rep g).length=c+BT g
   rw [List.length_append,List.length_replicate,EC (g:=g)]
theorem TS {y:Rat} {L:List Rat} {g:List (Rat×Nat)} (h:gr L=g) (hd: ∀a∈g.head?,y≠a.1): ∀ {c:Nat},gr (List.replicate (c+1) y++L)=(y,c+1)::g
 | 0=>by
   show gr (y::L)=_
   cases g with
   | nil=>exact NK h
   | cons b g=>
     obtain ⟨z,d⟩:=b
     exact NI h (hd (z,d) rfl)
 | c+1=>by
   show gr (y::(List.replicate (c+1) y++L))=_
   exact NJ (TS h hd (c:=c))
theorem Pr: ∀ {g:List (Rat×Nat)},G9 g→(∀a∈g,1≤a.2)→gr (rep g)=g
 | [],_,_=>rfl
 | (y,c)::g,hi,hp=>by
   have h1:1≤c:=hp _ List.mem_cons_self
   obtain ⟨d,rfl⟩: ∃d,c=d+1:=⟨c-1,by omega⟩
   refine TS (Pr hi.2 fun a ha=>hp a (List.mem_cons_of_mem _ ha)) fun a ha e=>?_
   have hm:a∈g:=by
    cases g with
    | nil=>cases ha
    | cons b g=>cases ha;exact List.mem_cons_self
   have:=hi.1 a hm
   rw [e] at this
   exact absurd this Rat.lt_irrefl
inductive KInv (p:Nat) (t:Rat):List (Rat×Nat)→Prop
 | first:KInv p t [(t,p+1)]
 | more {t0:Rat} {mid:List (Rat×Nat)} {c:Nat} (h1:1≤c) (h2:c≤p) (hm: ∀a∈mid,1≤a.2∧a.2≤p) (hi:G9 ((t0,p+1)::(mid++ [(t,c)]))):KInv p t ((t0,p+1)::(mid++ [(t,c)]))
theorem HJ {t u:Rat} {d e:Nat} : ∀ {g:List (Rat×Nat)},G9 (g++ [(t,d)])→t<u→G9 (g++ [(t,d)]++ [(u,e)])
 | [],_,h=>⟨fun a ha=>by rw [List.mem_singleton.1 ha];exact h,⟨fun a ha=>(by cases ha),trivial⟩⟩
 | (y,c)::g,hi,h=>by
   refine ⟨fun a ha=>?_,HJ hi.2 h⟩
   have hyt:y<t:=hi.1 (t,d) (List.mem_append.2 (.inr List.mem_cons_self))
   rcases List.mem_append.1 ha with ha|ha
   ·exact hi.1 a ha
   ·rw [List.mem_singleton.1 ha]
    show y<u
    grind
theorem KH {t:Rat} {d e:Nat} : ∀ {g:List (Rat×Nat)},G9 (g++ [(t,d)])→G9 (g++ [(t,e)])
 | [],_=>⟨fun a ha=>(by cases ha),trivial⟩
 | (y,c)::g,hi=>by
   refine ⟨fun a ha=>?_,KH hi.2⟩
   rcases List.mem_append.1 ha with ha|ha
   ·exact hi.1 a (List.mem_append.2 (.inl ha))
   ·rw [List.mem_singleton.1 ha]
    exact hi.1 (t,d) (List.mem_append.2 (.inr List.mem_cons_self))
theorem KInv.new {p:Nat} {t u:Rat} {g:List (Rat×Nat)} (h:KInv p t g) (htu:t<u) (hp:1≤p):KInv p u (g++ [(u,1)]):=by
 cases h with
 | first=>exact .more (mid:= []) (Yh 1) hp (fun a ha=>by cases ha) ⟨fun a ha=>by rw [List.mem_singleton.1 ha];exact htu,⟨fun a ha=>(by cases ha),trivial⟩⟩
 | more h1 h2 hm hi=>
   rename_i t0 mid c
   have:(t0,p+1)::(mid++ [(t,c)])++ [(u,1)]=(t0,p+1)::((mid++ [(t,c)])++ [(u,1)]):=rfl
   rw [this]
   refine .more (Yh 1) hp (fun a ha=>?_) ?_
   ·rcases List.mem_append.1 ha with ha|ha
    ·exact hm a ha
    ·rw [List.mem_singleton.1 ha];exact ⟨h1,h2⟩
   ·exact HJ (g:=(t0,p+1)::mid) hi htu
theorem KInv.done {p:Nat} {t u:Rat} {g:List (Rat×Nat)} (h:KInv p t g) (htu:t<u): ∃t0 mid,g++ [(u,p+1)]=(t0,p+1)::(mid++ [(u,p+1)])∧(∀a∈mid,1≤a.2∧a.2≤p)∧G9 ((t0,p+1)::(mid++ [(u,p+1)])):=by
 cases h with
 | first=>exact ⟨t,[],rfl,fun a ha=>(by cases ha),fun a ha=>by rw [List.mem_singleton.1 ha];exact htu,fun a ha=>(by cases ha),trivial⟩
 | more h1 h2 hm hi=>
   rename_i t0 mid c
   refine ⟨t0,mid++ [(t,c)],rfl,fun a ha=>?_,HJ (g:=(t0,p+1)::mid) hi htu⟩
   rcases List.mem_append.1 ha with ha|ha
   ·exact hm a ha
   ·rw [List.mem_singleton.1 ha];exact ⟨h1,h2⟩
theorem S8 {t0 t:Rat} {p c:Nat} {mid:List (Rat×Nat)} :rep ((t0,p+1)::(mid++ [(t,c)]))++ [t]=rep ((t0,p+1)::(mid++ [(t,c+1)])):=by
 show (List.replicate (p+1) t0++rep (mid++ [(t,c)]))++ [t]=List.replicate (p+1) t0++rep (mid++ [(t,c+1)])
 rw [Fo,Fo,List.append_assoc,List.append_assoc]
 congr 2
 show (List.replicate c t++ [])++ [t]=List.replicate (c+1) t++ []
 rw [List.append_nil,List.append_nil,←List.replicate_succ']
theorem S6 {t0 t:Rat} {p:Nat} {mid:List (Rat×Nat)} (hp:1≤p):(rep ((t0,p+1)::(mid++ [(t,p)]))).getD ((rep ((t0,p+1)::(mid++ [(t,p)]))).length-p) 0=t:=by
 have e:rep ((t0,p+1)::(mid++ [(t,p)]))=(List.replicate (p+1) t0++rep mid)++List.replicate p t:=by
  show List.replicate (p+1) t0++rep (mid++ [(t,p)])=_
  rw [Fo,List.append_assoc]
  congr 2
  show List.replicate p t++ []=_
  rw [List.append_nil]
 rw [e,List.length_append,List.length_replicate,Nat.add_sub_cancel,List.getD_eq_getElem?_getD,List.getElem?_append_right (Yh _),Nat.sub_self,List.getElem?_replicate,if_pos (by omega)]
 rfl
theorem W6 {l:List Int} {p n:Nat} {t:Rat} {ks:List Rat} (h:(knC l p t ks n).1=true):t<(knT l p t ks n).1:=by
 rw [NA h]
 obtain ⟨x1,_,_⟩:=Co l (knC l p t ks n).2 (m:=3) (by decide)
 obtain ⟨y1,_,_⟩:=Co l (nxt l (knC l p t ks n).2 3).2 (m:=2) (by decide)
 generalize (nxt l (nxt l (knC l p t ks n).2 3).2 2).1=b at*
 generalize (nxt l (knC l p t ks n).2 3).1=a at*
 have h1:(0:Rat)<((1+a:Int):Rat)/((1+b:Int):Rat):=by
  rw [Rat.div_def]
  refine Rat.mul_pos ?_ (Rat.inv_pos.2 ?_)
  ·exact_mod_cast (show (0:Int)<1+a by omega)
  ·exact_mod_cast (show (0:Int)<1+b by omega)
 show t<t+_
 grind
theorem LW {l:List Int} {p:Nat} (hp:1≤p): ∀ {m:Nat} {s:Rat×List Rat×Nat} {g:List (Rat×Nat)},KInv p s.1 g→s.2.1=rep g→ ∃g',KInv p (knL l p m s).1 g'∧(knL l p m s).2.1=rep g'
 | 0,s,g,h,hr=>⟨g,h,hr⟩
 | m+1,s,g,h,hr=>by
   obtain ⟨t,ks,n⟩:=s
   have h:KInv p t g:=h
   have hr:ks=rep g:=hr
   show ∃g',KInv p (knL l p m ((knT l p t ks n).1,ks++ [(knT l p t ks n).1],(knT l p t ks n).2)).1 g'∧_=_
   by_cases hc:(knC l p t ks n).1=true
   ·have hgt:=W6 hc
    refine LW hp (h.new hgt hp) ?_
    show ks++ [_]=_
    rw [Fo,hr]
    rfl
   ·have ht:(knT l p t ks n).1=t:=by rw [Qn hc]
    have hlen: ¬ks.length=p+1:=fun e=>hc (by unfold knC;rw [if_pos e])
    have hne: ¬t=ks.getD (ks.length-p) 0:=fun e=>hc (by
     unfold knC
     rw [if_neg hlen]
     split
     ·rfl
     ·exact decide_eq_true e)
    cases h with
    | first=>
      exfalso
      apply hlen
      rw [hr,EC]
      rfl
    | @more t0 mid c h1 h2 hm hi=>
      have hcp:c<p:=by
       rcases Nat.lt_or_ge c p with hh|hh
       ·exact hh
       ·exfalso
        have:c=p:=by omega
        subst this
        rw [hr] at hne
        exact hne (S6 hp).symm
      refine LW hp (s:=((knT l p t ks n).1,ks++ [(knT l p t ks n).1],(knT l p t ks n).2)) (g:=(t0,p+1)::(mid++ [(t,c+1)])) ?_ ?_
      ·show KInv p (knT l p t ks n).1 _
       rw [ht]
       exact .more (by omega) (by omega) hm (KH (g:=(t0,p+1)::mid) hi)
      ·show ks++ [(knT l p t ks n).1]=_
       rw [ht,hr]
       exact S8
theorem Po {l:List Int} {p inner n:Nat} (hp:1≤p): ∃t0 u mid,knR l p inner n=rep ((t0,p+1)::(mid++ [(u,p+1)]))∧(∀a∈mid,1≤a.2∧a.2≤p)∧G9 ((t0,p+1)::(mid++ [(u,p+1)])):=by
 obtain ⟨g,hk,hr⟩:=LW (l:=l) (p:=p) hp (m:=(nxt l (nxt l n 4).2 (inner+1:Nat)).1.toNat) (s:=((((nxt l n 4).1-2:Int):Rat),List.replicate (p+1) (((nxt l n 4).1-2:Int):Rat),(nxt l (nxt l n 4).2 (inner+1:Nat)).2)) KInv.first (by show _=List.replicate (p+1) _++ [];rw [List.append_nil])
 have hlt:(knS l p inner n).1<(knS l p inner n).1+((1:Int):Rat):=by
  have e:((1:Int):Rat)=1:=rfl
  rw [e]
  grind
 obtain ⟨t0,mid,he,hm,hi⟩:=KInv.done (t:=(knS l p inner n).1) hk hlt
 refine ⟨t0,_,mid,?_,hm,hi⟩
 rw [←he,Fo]
 show (knS l p inner n).2.1++List.replicate (p+1) _=rep g++(List.replicate (p+1) _++ [])
 rw [List.append_nil]
 congr 1
set_option maxHeartbeats 4000000
theorem Vg {j k:Nat} {x y:Rat} (hj:j≤100000000) (hk:k≤100000000) (h0:y≠0):Ctr Tryz.prog Amb 115 [nm j x,nm k y] (nm (j+k+2) (x/y)):=by
 have Q1:=XX (j:=j) (k:=k) (x:=x) (y:=y) hj hk h0
 refine As Tryz.func115 rfl rfl rfl rfl rfl rfl ?_
 intro W0 base D μ0 hA hD
 repeat (first|refine Ah ?_|refine Ad ?_|refine Ab rfl ?_|refine Ac rfl ?_|refine AT ?_|refine AU ?_|refine Ae ?_|refine Af ?_)
 refine AG (And.intro (Or.inr rfl) ?_)
 exact B7
theorem P4 {j k m:Nat} {lo hi t:Rat} (hj:j≤1000000) (hk:k≤1000000) (hm:m≤1000000) (h0:hi-lo≠0):Ctr Tryz.prog Amb 86 [nm j lo,nm k hi,nm m t] (nm (m+j+3+(k+j+3)+2) ((t-lo)/(hi-lo))):=by
 have S1:=Qy (j:=m) (k:=j) (x:=t) (y:=lo) (by omega) (by omega)
 have S2:=Qy (j:=k) (k:=j) (x:=hi) (y:=lo) (by omega) (by omega)
 have O1:=Vg (j:=m+j+3) (k:=k+j+3) (x:=t-lo) (y:=hi-lo) (by omega) (by omega) h0
 refine As Tryz.func86 rfl rfl rfl rfl rfl rfl ?_
 intro W0 base D μ0 hA hD
 repeat (first|refine Ah ?_|refine Ad ?_|refine Ab rfl ?_|refine Ac rfl ?_|refine AT ?_|refine AU ?_|refine Ae ?_|refine Af ?_)
 refine AG (And.intro (Or.inr rfl) ?_)
 exact B7
def Dw (l:List Rat) (p i:Nat):List Rat:=(l.take (i+1+p)).drop (i+1-p)
theorem MJ {j p i:Nat} {l:List Rat} (hj:j≤1000000) (hl:l.length≤1000000) (hp:1≤p∧p≤6) (hi:p≤i) (hi2:i+p+1<l.length) (hlt:l.getD i 0<l.getD (i+1) 0):
  Ctr Tryz.prog Amb 90 [.one (Ax j l),Aj (p:Nat),Aj (i:Nat)] (.tup [.one (Ax j (Dw l p i)),Aj 0]):=by
 have p1:=BO (k:= .i64) (decide_eq_false (show ¬((p:Nat):Int)<1 by omega))
 have p2:=D4 (k:= .i64) (decide_eq_false (show ¬((p:Nat):Int)>6 by omega))
 have P1:=EB (j:=j) (p:=p) hl (by omega)
 have b1:=BO (k:= .i64) (decide_eq_false (show ¬((i:Nat):Int)<((p:Nat):Int) by omega))
 have b2:=FE (k:= .i64) (decide_eq_false (show ¬((i:Nat):Int)≥((l.length-p-1:Nat):Int) by omega))
 have hin:=AZ (k:= .i64) (show (IntKind.i64).wrap ((i:Int)+1)=((i+1:Nat):Int) from IntWalk.i64_in _ (by omega))
 have s1:=BB (k:= .i64) (show (IntKind.i64).wrap (((i+1:Nat):Int)-(p:Int))=((i+1-p:Nat):Int) by rw [show (((i+1:Nat):Int)-(p:Int))=((i+1-p:Nat):Int) by omega];exact IntWalk.i64_in _ (by omega))
 have a1:=AZ (k:= .i64) (show (IntKind.i64).wrap (((i+1:Nat):Int)+(p:Int))=((i+1+p:Nat):Int) by rw [show (((i+1:Nat):Int)+(p:Int))=((i+1+p:Nat):Int) by omega];exact IntWalk.i64_in _ (by omega))
 obtain ⟨x,hx,hx'⟩:=BC (l:=l) (i:=i) (by omega)
 obtain ⟨y,hy,hy'⟩:=BC (l:=l) (i:=i+1) (by omega)
 rw [AS hx',AS hy'] at hlt
 have C1:=Qz (j:=j) (k:=j) (x:=x) (y:=y) (by omega) (by omega)
 have b3:=FE (k:= .i64) (decide_eq_false (show ¬C4 x y≥0 from fun h=>Fy.1 h hlt))
 unfold Dw
 refine As Tryz.func90 rfl rfl rfl rfl rfl rfl ?_
 intro W0 base D μ0 hA hD
 repeat (first|refine Ah ?_|refine Ad ?_|refine Ab rfl ?_|refine Ac rfl ?_|refine AT ?_|refine AU ?_|refine Ae ?_|refine Af ?_)
 refine AG (And.intro (Or.inr rfl) ?_)
 exact CW
end Go.Proofs.YtkmalkcgkcpcmaaGreatDoor
