/-
  Several texts in one: Nr, Ns, Nt, Nu, Nv.
-/
import Derived.Test.YtfineedhebhpaaaGreatDoorHy
import Derived.Test.YtfineedhebhpaaaGreatDoorIb
import Derived.Test.YtfineedhebhpaaaGreatDoorIa
namespace Go.Proofs.YtfineedhebhpaaaGreatDoor
open Nat renaming le_refl→Xv
open Go.RowKit
set_option linter.unusedVariables false
set_option linter.unusedSimpArgs false
set_option maxRecDepth 20000
set_option maxHeartbeats 4000000
def tms (t:Rat):List Rat→Nat
 | []=>0
 | x::l=>(if x=t then 1 else 0)+tms t l
theorem NU (t:Rat): ∀l:List Rat,tms t l≤l.length
 | []=>Xv _
 | x::l=>by
   have:=NU t l
   unfold tms
   rw [List.length_cons]
   split<;>omega
theorem GS {l:List Rat} {i:Nat} {x:Rat} (h:l[i]?=some x):l.drop i=x::l.drop (i+1):=by
 obtain ⟨hi,hx⟩:=List.getElem?_eq_some_iff.1 h
 rw [←hx]
 exact List.drop_eq_getElem_cons hi
def Il:Option Rat→List Rat→Bool
 | _,[]=>true
 | none,x::r=>Il (some x) r
 | some y,x::r=>if Cm x y<0 then false else Il (some x) r
set_option maxHeartbeats 1000000
theorem Mf {l:List Rat} : ∀ {n:Nat},NY l n=true↔ ∀i,i<n→ ¬Cm (l.getD (i+1) 0) (l.getD i 0)<0
 | 0=>⟨fun _ i h=>absurd h (Nat.not_lt_zero i),fun _=>rfl⟩
 | n+1=>by
   unfold NY
   by_cases h:Cm (l.getD (n+1) 0) (l.getD n 0)<0
   ·rw [if_pos h]
    exact ⟨fun h=>(by cases h),fun hh=>absurd h (hh n (Nat.lt_succ_self n))⟩
   ·rw [if_neg h,Mf (n:=n)]
    constructor
    ·intro hh i hi
     by_cases he:i=n
     ·subst he;exact h
     ·exact hh i (by omega)
    ·intro hh i hi
     exact hh i (by omega)
theorem NG: ∀ {r:List Rat} {y:Rat},Il (some y) r=true↔ ∀i,i<r.length→ ¬Cm ((y::r).getD (i+1) 0) ((y::r).getD i 0)<0
 | [],y=>⟨fun _ i h=>absurd h (Nat.not_lt_zero i),fun _=>rfl⟩
 | x::r,y=>by
   unfold Il
   by_cases h:Cm x y<0
   ·rw [if_pos h]
    exact ⟨fun h=>(by cases h),fun hh=>absurd h (hh 0 (Nat.zero_lt_succ _))⟩
   ·rw [if_neg h,NG (r:=r)]
    constructor
    ·intro hh i hi
     cases i with
     | zero=>exact h
     | succ i=>exact hh i (by rw [List.length_cons] at hi;omega)
    ·intro hh i hi
     exact hh (i+1) (by rw [List.length_cons];omega)
theorem UI {l:List Rat} (h:0<l.length):srt l=Il none l:=by
 cases l with
 | nil=>cases h
 | cons y r=>
   show NY (y::r) r.length=Il (some y) r
   rw [Bool.eq_iff_iff,Mf,NG]
def gr:List Rat→List (Rat×Nat)
 | []=> []
 | x::l=>match gr l with
   | []=> [(x,1)]
   | (y,c)::g=>if x=y then (y,c+1)::g else (x,1)::(y,c)::g
theorem Ws {l:List Rat} (h:gr l= []):l= []:=by
 cases l with
 | nil=>rfl
 | cons x l=>
   unfold gr at h
   split at h
   ·cases h
   ·split at h<;>cases h
theorem PY {x:Rat} {l:List Rat} {y:Rat} {c:Nat} {g:List (Rat×Nat)} (h:gr (x::l)=(y,c)::g):y=x:=by
 unfold gr at h
 split at h
 ·cases h;rfl
 ·split at h
  ·rename_i hxy
   cases h
   exact hxy.symm
  ·cases h;rfl
theorem Nl {x:Rat} {l:List Rat} (h:gr l= []):gr (x::l)= [(x,1)]:=by
 show (match gr l with|[]=> [(x,1)]|(y,c)::g=>if x=y then (y,c+1)::g else (x,1)::(y,c)::g)=_
 rw [h]
theorem Nk {x:Rat} {l:List Rat} {c:Nat} {g:List (Rat×Nat)} (h:gr l=(x,c)::g):gr (x::l)=(x,c+1)::g:=by
 show (match gr l with|[]=> [(x,1)]|(y,c)::g=>if x=y then (y,c+1)::g else (x,1)::(y,c)::g)=_
 rw [h]
 exact if_pos rfl
theorem Nj {x y:Rat} {l:List Rat} {c:Nat} {g:List (Rat×Nat)} (h:gr l=(y,c)::g) (hxy:x≠y):gr (x::l)=(x,1)::(y,c)::g:=by
 show (match gr l with|[]=> [(x,1)]|(y,c)::g=>if x=y then (y,c+1)::g else (x,1)::(y,c)::g)=_
 rw [h]
 exact if_neg hxy
def BE:List (Rat×Nat)→Nat
 | []=>0
 | (_,c)::g=>c+BE g
def rg:Nat→List (Rat×Nat)→List (Nat×Nat)
 | _,[]=> []
 | s,(_,c)::g=>(s,s+c)::rg (s+c) g
theorem La {l:List Rat} : ∀ {n i f:Nat} {h:i+n=l.length} {hf:f≤i},(IT l n i f h hf).map (·.1)=match gr (l.drop i) with|[]=> []|(_,c)::g=>(f,i+c)::rg (i+c) g
 | 0,i,f,h,hf=>by
   rw [List.drop_eq_nil_of_le (by omega)]
   rfl
 | n+1,i,f,h,hf=>by
   obtain ⟨x,hx,hx'⟩:=CX (l:=l) (i:=i) (by omega)
   rw [GS hx']
   by_cases hq:i+1<l.length∧l.getD i 0=l.getD (i+1) 0
   ·obtain ⟨y,hy,hy'⟩:=CX (l:=l) (i:=i+1) hq.1
    have hxy:x=y:=by
     have h1:=hq.2
     rw [DV hx',DV hy'] at h1
     exact h1
    subst hxy
    rw [PE hq,La (n:=n)]
    have hd:=GS hy'
    cases hg:gr (l.drop (i+1)) with
    | nil=>rw [Ws hg] at hd;cases hd
    | cons b g=>
      obtain ⟨z,c⟩:=b
      have hz:z=x:=by rw [hd] at hg;exact PY hg
      subst hz
      rw [Nk hg]
      show (f,i+1+c)::rg (i+1+c) g=(f,i+(c+1))::rg (i+(c+1)) g
      rw [show i+1+c=i+(c+1) by omega]
   ·rw [PD hq,List.map_cons,La (n:=n)]
    cases hg:gr (l.drop (i+1)) with
    | nil=>rw [Nl hg];rfl
    | cons b g=>
      obtain ⟨z,c⟩:=b
      have hlt:i+1<l.length:=by
       by_cases hh:i+1<l.length
       ·exact hh
       ·rw [List.drop_eq_nil_of_le (by omega)] at hg;cases hg
      obtain ⟨y,hy,hy'⟩:=CX (l:=l) (i:=i+1) hlt
      have hz:z=y:=by rw [GS hy'] at hg;exact PY hg
      have hxy:x≠z:=fun e=>hq ⟨hlt,by rw [DV hx',DV hy',e,hz]⟩
      rw [Nj hg hxy]
      rfl
theorem PC {l:List Rat} :(D3 l).map (·.1)=rg 0 (gr l):=by
 unfold D3
 rw [La,List.drop_zero]
 cases gr l with
 | nil=>rfl
 | cons b g=>obtain ⟨y,c⟩:=b;rfl
def Et:List (Rat×Nat)→Prop
 | []=>True
 | (y,_)::g=>(∀a∈g,y<a.1)∧Et g
theorem Qk {α β:Type} {f:α→β} {q:β→Bool} : ∀ {l:List α},(l.map f).all q=l.all fun x=>q (f x)
 | []=>rfl
 | x::l=>by rw [List.map_cons,List.all_cons,List.all_cons,Qk]
def rep:List (Rat×Nat)→List Rat
 | []=> []
 | (y,c)::g=>List.replicate c y++rep g
theorem Eu: ∀ {g h:List (Rat×Nat)},rep (g++h)=rep g++rep h
 | [],_=>rfl
 | (y,c)::g,h=>by
   show List.replicate c y++rep (g++h)=(List.replicate c y++rep g)++rep h
   rw [Eu (g:=g),List.append_assoc]
theorem DL: ∀ {g:List (Rat×Nat)},(rep g).length=BE g
 | []=>rfl
 | (y,c)::g=>by
   show (List.replicate c y++rep g).length=c+BE g
   rw [List.length_append,List.length_replicate,DL (g:=g)]
theorem Tw {y:Rat} {L:List Rat} {g:List (Rat×Nat)} (h:gr L=g) (hd: ∀a∈g.head?,y≠a.1): ∀ {c:Nat},gr (List.replicate (c+1) y++L)=(y,c+1)::g
 | 0=>by
   show gr (y::L)=_
   cases g with
   | nil=>exact Nl h
   | cons b g=>
     obtain ⟨z,d⟩:=b
     exact Nj h (hd (z,d) rfl)
 | c+1=>by
   show gr (y::(List.replicate (c+1) y++L))=_
   exact Nk (Tw h hd (c:=c))
theorem OY: ∀ {g:List (Rat×Nat)},Et g→(∀a∈g,1≤a.2)→gr (rep g)=g
 | [],_,_=>rfl
 | (y,c)::g,hi,hp=>by
   have h1:1≤c:=hp _ List.mem_cons_self
   obtain ⟨d,rfl⟩: ∃d,c=d+1:=⟨c-1,by omega⟩
   refine Tw (OY hi.2 fun a ha=>hp a (List.mem_cons_of_mem _ ha)) fun a ha e=>?_
   have hm:a∈g:=by
    cases g with
    | nil=>cases ha
    | cons b g=>cases ha;exact List.mem_cons_self
   have:=hi.1 a hm
   rw [e] at this
   exact absurd this Rat.lt_irrefl
theorem P8 {x y:Rat} (h:y≤x): ¬Cm x y<0:=Int.not_lt.2 (JB.2 (Rat.not_lt.2 h))
theorem LO {y:Rat} {L:List Rat} (h:Il (some y) L=true): ∀ {c:Nat} {x:Rat},x≤y→Il (some x) (List.replicate (c+1) y++L)=true
 | 0,x,hx=>by
   show (if Cm y x<0 then false else Il (some y) L)=true
   rw [if_neg (P8 hx)]
   exact h
 | c+1,x,hx=>by
   show (if Cm y x<0 then false else Il (some y) (List.replicate (c+1) y++L))=true
   rw [if_neg (P8 hx)]
   exact LO h (c:=c) Rat.le_refl
theorem Qg: ∀ {g:List (Rat×Nat)} {x:Rat},Et g→(∀a∈g,1≤a.2)→(∀a∈g,x≤a.1)→Il (some x) (rep g)=true
 | [],_,_,_,_=>rfl
 | (y,c)::g,x,hi,hp,hx=>by
   have h1:1≤c:=hp _ List.mem_cons_self
   obtain ⟨d,rfl⟩: ∃d,c=d+1:=⟨c-1,by omega⟩
   exact LO (Qg hi.2 (fun a ha=>hp a (List.mem_cons_of_mem _ ha)) fun a ha=>Rat.le_of_lt (hi.1 a ha)) (hx _ List.mem_cons_self)
theorem UH {y:Rat} {c:Nat} {g:List (Rat×Nat)} (hi:Et ((y,c)::g)) (hp: ∀a∈(y,c)::g,1≤a.2):srt (rep ((y,c)::g))=true:=by
 have h1:1≤c:=hp _ List.mem_cons_self
 obtain ⟨d,rfl⟩: ∃d,c=d+1:=⟨c-1,by omega⟩
 have hl:0<(rep ((y,d+1)::g)).length:=by
  rw [DL]
  show 0<d+1+BE g
  omega
 rw [UI hl]
 have hL:Il (some y) (rep g)=true:=Qg hi.2 (fun a ha=>hp a (List.mem_cons_of_mem _ ha)) fun a ha=>Rat.le_of_lt (hi.1 a ha)
 cases d with
 | zero=>exact hL
 | succ d=>exact LO hL (c:=d) Rat.le_refl
theorem Qj {p n:Nat} {z:Rat} : ∀ {mid:List (Rat×Nat)} {s:Nat},0<s→s+BE (mid++ [(z,p+1)])=n→(∀a∈mid,a.2≤p)→((rg s (mid++ [(z,p+1)])).all fun x=>okR n p x)=true
 | [],s,hs,hn,_=>by
   have hn:s+(p+1+0)=n:=hn
   show (okR n p (s,s+(p+1))&&true)=true
   rw [Bool.and_true]
   unfold okR
   rw [if_neg (by rintro ⟨_,h⟩;have h:s+(p+1)<n:=h;omega)]
   exact decide_eq_true (Nat.add_sub_cancel_left s (p+1))
 | (y,c)::mid,s,hs,hn,hm=>by
   have hn:s+(c+BE (mid++ [(z,p+1)]))=n:=hn
   have hc:c≤p:=hm _ List.mem_cons_self
   have ht:p+1≤BE (mid++ [(z,p+1)]):=by
    have: ∀m:List (Rat×Nat),BE (m++ [(z,p+1)])=BE m+(p+1):=by
     intro m
     induction m with
     | nil=>show p+1+0=0+(p+1);omega
     | cons b m ih=>obtain ⟨w,e⟩:=b;show e+BE (m++ [(z,p+1)])=e+BE m+(p+1);rw [ih];omega
    rw [this];omega
   show (okR n p (s,s+c)&&(rg (s+c) (mid++ [(z,p+1)])).all fun x=>okR n p x)=true
   rw [Qj (by omega) (by omega) fun a ha=>hm a (List.mem_cons_of_mem _ ha),Bool.and_true]
   unfold okR
   rw [if_pos (show 0<s∧s+c<n by constructor<;>omega)]
   exact decide_eq_true (show s+c-s≤p by omega)
inductive KInv (p:Nat) (t:Rat):List (Rat×Nat)→Prop
 | first:KInv p t [(t,p+1)]
 | more {t0:Rat} {mid:List (Rat×Nat)} {c:Nat} (h1:1≤c) (h2:c≤p) (hm: ∀a∈mid,1≤a.2∧a.2≤p) (hi:Et ((t0,p+1)::(mid++ [(t,c)]))):KInv p t ((t0,p+1)::(mid++ [(t,c)]))
theorem Hd {t u:Rat} {d e:Nat} : ∀ {g:List (Rat×Nat)},Et (g++ [(t,d)])→t<u→Et (g++ [(t,d)]++ [(u,e)])
 | [],_,h=>⟨fun a ha=>by rw [List.mem_singleton.1 ha];exact h,⟨fun a ha=>(by cases ha),trivial⟩⟩
 | (y,c)::g,hi,h=>by
   refine ⟨fun a ha=>?_,Hd hi.2 h⟩
   have hyt:y<t:=hi.1 (t,d) (List.mem_append.2 (.inr List.mem_cons_self))
   rcases List.mem_append.1 ha with ha|ha
   ·exact hi.1 a ha
   ·rw [List.mem_singleton.1 ha]
    show y<u
    grind
theorem Kh {t:Rat} {d e:Nat} : ∀ {g:List (Rat×Nat)},Et (g++ [(t,d)])→Et (g++ [(t,e)])
 | [],_=>⟨fun a ha=>(by cases ha),trivial⟩
 | (y,c)::g,hi=>by
   refine ⟨fun a ha=>?_,Kh hi.2⟩
   rcases List.mem_append.1 ha with ha|ha
   ·exact hi.1 a (List.mem_append.2 (.inl ha))
   ·rw [List.mem_singleton.1 ha]
    exact hi.1 (t,d) (List.mem_append.2 (.inr List.mem_cons_self))
theorem KInv.new {p:Nat} {t u:Rat} {g:List (Rat×Nat)} (h:KInv p t g) (htu:t<u) (hp:1≤p):KInv p u (g++ [(u,1)]):=by
 cases h with
 | first=>exact .more (mid:= []) (Xv 1) hp (fun a ha=>by cases ha) ⟨fun a ha=>by rw [List.mem_singleton.1 ha];exact htu,⟨fun a ha=>(by cases ha),trivial⟩⟩
 | more h1 h2 hm hi=>
   rename_i t0 mid c
   have:(t0,p+1)::(mid++ [(t,c)])++ [(u,1)]=(t0,p+1)::((mid++ [(t,c)])++ [(u,1)]):=rfl
   rw [this]
   refine .more (Xv 1) hp (fun a ha=>?_) ?_
   ·rcases List.mem_append.1 ha with ha|ha
    ·exact hm a ha
    ·rw [List.mem_singleton.1 ha];exact ⟨h1,h2⟩
   ·exact Hd (g:=(t0,p+1)::mid) hi htu
theorem KInv.done {p:Nat} {t u:Rat} {g:List (Rat×Nat)} (h:KInv p t g) (htu:t<u): ∃t0 mid,g++ [(u,p+1)]=(t0,p+1)::(mid++ [(u,p+1)])∧(∀a∈mid,1≤a.2∧a.2≤p)∧Et ((t0,p+1)::(mid++ [(u,p+1)])):=by
 cases h with
 | first=>exact ⟨t,[],rfl,fun a ha=>(by cases ha),fun a ha=>by rw [List.mem_singleton.1 ha];exact htu,fun a ha=>(by cases ha),trivial⟩
 | more h1 h2 hm hi=>
   rename_i t0 mid c
   refine ⟨t0,mid++ [(t,c)],rfl,fun a ha=>?_,Hd (g:=(t0,p+1)::mid) hi htu⟩
   rcases List.mem_append.1 ha with ha|ha
   ·exact hm a ha
   ·rw [List.mem_singleton.1 ha];exact ⟨h1,h2⟩
theorem SO {t0 t:Rat} {p c:Nat} {mid:List (Rat×Nat)} :rep ((t0,p+1)::(mid++ [(t,c)]))++ [t]=rep ((t0,p+1)::(mid++ [(t,c+1)])):=by
 show (List.replicate (p+1) t0++rep (mid++ [(t,c)]))++ [t]=List.replicate (p+1) t0++rep (mid++ [(t,c+1)])
 rw [Eu,Eu,List.append_assoc,List.append_assoc]
 congr 2
 show (List.replicate c t++ [])++ [t]=List.replicate (c+1) t++ []
 rw [List.append_nil,List.append_nil,←List.replicate_succ']
theorem SM {t0 t:Rat} {p:Nat} {mid:List (Rat×Nat)} (hp:1≤p):(rep ((t0,p+1)::(mid++ [(t,p)]))).getD ((rep ((t0,p+1)::(mid++ [(t,p)]))).length-p) 0=t:=by
 have e:rep ((t0,p+1)::(mid++ [(t,p)]))=(List.replicate (p+1) t0++rep mid)++List.replicate p t:=by
  show List.replicate (p+1) t0++rep (mid++ [(t,p)])=_
  rw [Eu,List.append_assoc]
  congr 2
  show List.replicate p t++ []=_
  rw [List.append_nil]
 rw [e,List.length_append,List.length_replicate,Nat.add_sub_cancel,List.getD_eq_getElem?_getD,List.getElem?_append_right (Xv _),Nat.sub_self,List.getElem?_replicate,if_pos (by omega)]
 rfl
theorem Wq {l:List Int} {p n:Nat} {t:Rat} {ks:List Rat} (h:(knC l p t ks n).1=true):t<(knT l p t ks n).1:=by
 rw [Nc h]
 obtain ⟨x1,_,_⟩:=EN l (knC l p t ks n).2 (m:=3) (by decide)
 obtain ⟨y1,_,_⟩:=EN l (nxt l (knC l p t ks n).2 3).2 (m:=2) (by decide)
 generalize (nxt l (nxt l (knC l p t ks n).2 3).2 2).1=b at*
 generalize (nxt l (knC l p t ks n).2 3).1=a at*
 have h1:(0:Rat)<((1+a:Int):Rat)/((1+b:Int):Rat):=by
  rw [Rat.div_def]
  refine Rat.mul_pos ?_ (Rat.inv_pos.2 ?_)
  ·exact_mod_cast (show (0:Int)<1+a by omega)
  ·exact_mod_cast (show (0:Int)<1+b by omega)
 show t<t+_
 grind
theorem LB {l:List Int} {p:Nat} (hp:1≤p): ∀ {m:Nat} {s:Rat×List Rat×Nat} {g:List (Rat×Nat)},KInv p s.1 g→s.2.1=rep g→ ∃g',KInv p (knL l p m s).1 g'∧(knL l p m s).2.1=rep g'
 | 0,s,g,h,hr=>⟨g,h,hr⟩
 | m+1,s,g,h,hr=>by
   obtain ⟨t,ks,n⟩:=s
   have h:KInv p t g:=h
   have hr:ks=rep g:=hr
   show ∃g',KInv p (knL l p m ((knT l p t ks n).1,ks++ [(knT l p t ks n).1],(knT l p t ks n).2)).1 g'∧_=_
   by_cases hc:(knC l p t ks n).1=true
   ·have hgt:=Wq hc
    refine LB hp (h.new hgt hp) ?_
    show ks++ [_]=_
    rw [Eu,hr]
    rfl
   ·have ht:(knT l p t ks n).1=t:=by rw [PW hc]
    have hlen: ¬ks.length=p+1:=fun e=>hc (by unfold knC;rw [if_pos e])
    have hne: ¬t=ks.getD (ks.length-p) 0:=fun e=>hc (by
     unfold knC
     rw [if_neg hlen]
     split
     ·rfl
     ·exact decide_eq_true e)
    cases h with
    | first=>
      exfalso
      apply hlen
      rw [hr,DL]
      rfl
    | @more t0 mid c h1 h2 hm hi=>
      have hcp:c<p:=by
       rcases Nat.lt_or_ge c p with hh|hh
       ·exact hh
       ·exfalso
        have:c=p:=by omega
        subst this
        rw [hr] at hne
        exact hne (SM hp).symm
      refine LB hp (s:=((knT l p t ks n).1,ks++ [(knT l p t ks n).1],(knT l p t ks n).2)) (g:=(t0,p+1)::(mid++ [(t,c+1)])) ?_ ?_
      ·show KInv p (knT l p t ks n).1 _
       rw [ht]
       exact .more (by omega) (by omega) hm (Kh (g:=(t0,p+1)::mid) hi)
      ·show ks++ [(knT l p t ks n).1]=_
       rw [ht,hr]
       exact SO
theorem OU {l:List Int} {p inner n:Nat} (hp:1≤p): ∃t0 u mid,knR l p inner n=rep ((t0,p+1)::(mid++ [(u,p+1)]))∧(∀a∈mid,1≤a.2∧a.2≤p)∧Et ((t0,p+1)::(mid++ [(u,p+1)])):=by
 obtain ⟨g,hk,hr⟩:=LB (l:=l) (p:=p) hp (m:=(nxt l (nxt l n 4).2 (inner+1:Nat)).1.toNat) (s:=((((nxt l n 4).1-2:Int):Rat),List.replicate (p+1) (((nxt l n 4).1-2:Int):Rat),(nxt l (nxt l n 4).2 (inner+1:Nat)).2)) KInv.first (by show _=List.replicate (p+1) _++ [];rw [List.append_nil])
 have hlt:(knS l p inner n).1<(knS l p inner n).1+((1:Int):Rat):=by
  have e:((1:Int):Rat)=1:=rfl
  rw [e]
  grind
 obtain ⟨t0,mid,he,hm,hi⟩:=KInv.done (t:=(knS l p inner n).1) hk hlt
 refine ⟨t0,_,mid,?_,hm,hi⟩
 rw [←he,Eu]
 show (knS l p inner n).2.1++List.replicate (p+1) _=rep g++(List.replicate (p+1) _++ [])
 rw [List.append_nil]
 congr 1
theorem Wj {p:Nat} {t0 u:Rat} {mid:List (Rat×Nat)} (hp:1≤p) (hm: ∀a∈mid,1≤a.2∧a.2≤p) (hi:Et ((t0,p+1)::(mid++ [(u,p+1)]))):srt (rep ((t0,p+1)::(mid++ [(u,p+1)])))=true∧((D3 (rep ((t0,p+1)::(mid++ [(u,p+1)])))).all fun x=>okR (rep ((t0,p+1)::(mid++ [(u,p+1)]))).length p x.1)=true:=by
 have hpos: ∀a∈(t0,p+1)::(mid++ [(u,p+1)]),1≤a.2:=fun a ha=>by
  rcases List.mem_cons.1 ha with rfl|ha
  ·exact Nat.le_add_left 1 p
  ·rcases List.mem_append.1 ha with ha|ha
   ·exact (hm a ha).1
   ·rw [List.mem_singleton.1 ha];exact Nat.le_add_left 1 p
 refine ⟨UH hi hpos,?_⟩
 have e1: ∀l:List Rat,((D3 l).all fun x=>okR l.length p x.1)=(rg 0 (gr l)).all fun x=>okR l.length p x:=fun l=>by rw [←PC,Qk]
 rw [e1,OY hi hpos,DL]
 show (okR _ p (0,0+(p+1))&&(rg (0+(p+1)) (mid++ [(u,p+1)])).all fun x=>okR _ p x)=true
 rw [Qj (by omega) (by rw [Nat.zero_add];rfl) fun a ha=>(hm a ha).2,Bool.and_true]
 unfold okR
 rw [if_neg (fun h=>absurd h.1 (Nat.lt_irrefl 0))]
 exact decide_eq_true (Nat.add_sub_cancel_left 0 (p+1))
set_option maxHeartbeats 4000000
theorem PA {j jt:Nat} {l:List Rat} {t:Rat} (hl:l.length≤1000000):Ctr Tryz.prog Amb 66 [.one (BI j l),nm jt t] (Au (tms t l:Nat)):=by
 obtain ⟨T,hT⟩: ∃T,T=tms t l:=⟨_,rfl⟩
 have hTl:=NU t l
 rw [←hT] at hTl⊢
 refine AK Tryz.func66 rfl rfl rfl rfl rfl rfl ?_
 intro W0 base D μ0 hA hD
 repeat (first|refine Aj ?_|refine Ae ?_|refine Ac rfl ?_|refine Ad rfl ?_|refine AW ?_|refine AX ?_|refine Ag ?_|refine Ah ?_)
 refine Cs (fun m σ=> ∃i c:Nat,m=l.length-i∧i≤l.length∧c+tms t (l.drop i)=T∧Wk ⟨W0,base,D,21,[],μ0⟩ σ [(3,.one (.ptr 3 0)),(5,Au (c:Nat)),(8,.one (BI j l)),(9,Au (l.length:Nat)),(10,Au (i:Nat))] [(3,nmC jt t)]) (n:=l.length) ⟨0,0,rfl,Nat.zero_le _,by rw [hT,Nat.zero_add];rfl,?_⟩ ?_
 ·exact BN
 intro m σ hI
 obtain ⟨i,c,hm,hi0,hS,hw⟩:=hI
 refine C7 hw ?_
 clear hw
 by_cases hi:i<l.length
 ·have bi:=BL (k:= .i64) (decide_eq_true (show (i:Int)<(l.length:Int) by omega))
  have hin:=BD (k:= .i64) (show (IntKind.i64).wrap ((i:Int)+1)=((i+1:Nat):Int) from IntWalk.i64_in _ (by omega))
  have hcn:=BD (k:= .i64) (show (IntKind.i64).wrap ((c:Int)+1)=((c+1:Nat):Int) from IntWalk.i64_in _ (by omega))
  obtain ⟨x,hx,hx'⟩:=CX hi
  rw [GS hx'] at hS
  unfold tms at hS
  have S1:=T9 (j:=j) (k:=jt) (x:=x) (y:=t)
  by_cases hxt:x=t
  ·rw [decide_eq_true hxt] at S1
   rw [if_pos hxt] at hS
   by_cases hii:i=c
   ·subst hii
    repeat (first|refine Aj ?_|refine Ae ?_|refine Ac rfl ?_|refine Ad rfl ?_|refine AW ?_|refine AX ?_|refine Ag ?_|refine Ah ?_)
    refine ⟨l.length-(i+1),by omega,i+1,i+1,rfl,by omega,by omega,?_⟩
    exact BN
   ·repeat (first|refine Aj ?_|refine Ae ?_|refine Ac rfl ?_|refine Ad rfl ?_|refine AW ?_|refine AX ?_|refine Ag ?_|refine Ah ?_)
    refine ⟨l.length-(i+1),by omega,i+1,c+1,rfl,by omega,by omega,?_⟩
    exact BN
  ·rw [decide_eq_false hxt] at S1
   rw [if_neg hxt] at hS
   clear hcn
   repeat (first|refine Aj ?_|refine Ae ?_|refine Ac rfl ?_|refine Ad rfl ?_|refine AW ?_|refine AX ?_|refine Ag ?_|refine Ah ?_)
   refine ⟨l.length-(i+1),by omega,i+1,c,rfl,by omega,by omega,?_⟩
   exact BN
 ·have bi:=BL (k:= .i64) (decide_eq_false (show ¬(i:Int)<(l.length:Int) by omega))
  rw [List.drop_eq_nil_of_le (by omega)] at hS
  have hcT:c=T:=by simpa [tms] using hS
  subst hcT
  repeat (first|refine Aj ?_|refine Ae ?_|refine Ac rfl ?_|refine Ad rfl ?_|refine AW ?_|refine AX ?_|refine Ag ?_|refine Ah ?_)
  refine AU (And.intro (Or.inr rfl) ?_)
  exact Cw
end Go.Proofs.YtfineedhebhpaaaGreatDoor
