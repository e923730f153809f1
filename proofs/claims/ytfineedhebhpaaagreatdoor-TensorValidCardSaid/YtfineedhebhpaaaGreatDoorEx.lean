/-
  Several texts in one: Eg, Eh, Ei, Ej.
-/
import Derived.Test.YtfineedhebhpaaaGreatDoorEy
import Derived.Laws.Tables
import Derived.Laws.StructEq
namespace Go.Proofs.YtfineedhebhpaaaGreatDoor
open List renaming getElem?_eq_getElem→Yv
open Nat renaming le_refl→Yu
open Go.RowKit
set_option linter.unusedVariables false
set_option linter.unusedSimpArgs false
def Sa (X:Ctx) (Q:Exit→St→Prop):Exit→Act→World→Prop:=fun e a w=> ∃σ,Q e σ∧CN X σ a w
def Aw (P:Program) (X:Ctx) (c:Code) (σ:St) (Q:Exit→St→Prop):Prop:= ∀a w,CN X σ a w→c.wp P (Sa X Q) a w
def Wv (next:St→Prop) (Q:Exit→St→Prop):Exit→St→Prop
 | .normal,σ=>next σ
 | e,σ=>Q e σ
def UT (id:Nat) (Q:Exit→St→Prop):Exit→St→Prop
 | .exit id',σ=>if id'=id then Q .normal σ else Q (.exit id') σ
 | e,σ=>Q e σ
section
variable {P:Program} {X:Ctx} {σ:St} {Q:Exit→St→Prop}
theorem Aw.mono {c:Code} {Q':Exit→St→Prop} (h:Aw P X c σ Q) (hq: ∀e σ,Q e σ→Q' e σ):Aw P X c σ Q':=fun a w hc=>wp_mono (h a w hc) fun _ _ _ ⟨σ',h1,h2⟩=>⟨σ',hq _ _ h1,h2⟩
theorem Aw.of {c:Code} {σ':St} (hw: ∀a w,CN X σ a w→CN X σ' a w) (h:Aw P X c σ' Q):Aw P X c σ Q:=fun a w hc=>h a w (hw a w hc)
theorem Ad (h:Q .normal σ):Aw P X .skip σ Q:=fun _ _ hc=>wp_skip ⟨σ,h,hc⟩
theorem Ae {id:Nat} (h:Q (.exit id) σ):Aw P X (.exit id) σ Q:=fun _ _ hc=>wp_exit ⟨σ,h,hc⟩
theorem Ap (h:Q .ret σ):Aw P X .ret σ Q:=fun _ _ hc=>wp_ret ⟨σ,h,hc⟩
theorem Ag {x y:Code} (h:Aw P X x σ (Wv (fun σ'=>Aw P X y σ' Q) Q)):Aw P X (.seq x y) σ Q:=fun a w hc=>
 wp_seq (wp_mono (h a w hc) fun e a' w' ⟨σ',h1,h2⟩=>by
  cases e with
  | normal=>exact h1 a' w' h2
  | _=>exact ⟨σ',h1,h2⟩)
theorem Ac {id:Nat} {c:Code} (h:Aw P X c σ (UT id Q)):Aw P X (.block id c) σ Q:=fun a w hc=>
 wp_block (wp_mono (h a w hc) fun e a' w' ⟨σ',h1,h2⟩=>by
  cases e with
  | exit id'=>
    simp only [UT] at h1
    simp only [Exit.inBlock]
    by_cases hi:id'=id
    ·rw [if_pos hi] at h1⊢;exact ⟨σ',h1,h2⟩
    ·rw [if_neg hi] at h1⊢;exact ⟨σ',h1,h2⟩
  | _=>exact ⟨σ',h1,h2⟩)
theorem Md {a:Act} {w:World} (hc:CN X σ a w) {c:Operand} {b:Bool} (h:evC σ.s c= .one (.v (.bool b))):a.eval c= .bool b:=by
 obtain ⟨_,_,μ,hc⟩:=hc
 have:=hc.ev c
 rw [h] at this
 exact this
theorem Wo {c:Operand} {x y:Code} {b:Bool} (h:evC σ.s c= .one (.v (.bool b))) (ht:b=true→Aw P X x σ Q) (hf:b=false→Aw P X y σ Q):Aw P X (.cond c x y) σ Q:=fun a w hc=>
 wp_cond_split (Md hc h) (fun e=>ht e a w hc) (fun e=>hf e a w hc)
theorem Aa {c:Operand} {x y:Code} (h:evC σ.s c= .one (.v (.bool true))) (ht:Aw P X x σ Q):Aw P X (.cond c x y) σ Q:=fun a w hc=>wp_cond_true (Md hc h) (ht a w hc)
theorem Ab {c:Operand} {x y:Code} (h:evC σ.s c= .one (.v (.bool false))) (hf:Aw P X y σ Q):Aw P X (.cond c x y) σ Q:=fun a w hc=>wp_cond_false (Md hc h) (hf a w hc)
theorem QP {id:Nat} {l:List Oper} {es:List Eff} {σ':St} (hm:P.follows .mixedOrders=true) (hd:N9 l=true)
  (hn:(l.all fun o=>match o.dst with|some t=>Nat.blt t X.n|none=>true)=true) (hr:Run P X l l σ es σ') (hc:chk l es=true) (hq:Q .normal σ'):Aw P X (.region id l.toArray true) σ Q:=fun _ _ h=>
 Nl hm hd hn hr hc h fun _ _ h2=>⟨σ',hq,h2⟩
theorem TA {ops:List Oper} {K:Exit→Act→World→Prop} (hn: ∀(j:Nat) o',ops[j]?=some o'→ ∀t,o'.dst=some t→t<X.n): ∀ {r:List Oper} {σ σ':St} {es:List Eff},Run P X ops r σ es σ'→(∀o∈r,o∈ops)→(∀a w,CN X σ' a w→K .normal a w)→ ∀ {a:Act} {w:World},CN X σ a w→wpList P ops.toArray K r a w:=by
 intro r σ σ' es h
 induction h with
 | nil=>exact fun _ hK a w hc=>wpList_nil (hK a w hc)
 | cons hD hr ha hl ih=>
   intro hm hK a w hc
   refine wpList_step fun K' hK'=>?_
   rename_i o l σ σ' e es
   obtain ⟨i,hi,hio⟩:=List.mem_iff_getElem.1 (hm o List.mem_cons_self)
   have ho:ops[i]?=some o:=by rw [List.getElem?_eq_getElem hi,hio]
   unfold Ms at hD
   cases hg:o.guard with
   | none=>
     rw [hg] at hD
     rw [if_pos (by simp [Region.wanted,hg])]
     exact hD σ (fun _ _=> .inl rfl) (fun k _=> .inr rfl) hr ha a w hc K' K fun a' w' hc'=>hK' _ _ (ih (fun o ho=>hm o (List.mem_cons_of_mem _ ho)) hK hc')
   | some gw=>
     obtain ⟨g,want⟩:=gw
     rw [hg] at hD
     obtain ⟨o',ho',d,hd,hh⟩:=hD
     have hdn:=hn g o' ho' d hd
     rcases hh with ⟨h1,h2⟩|⟨h1,rfl⟩|⟨h1,rfl⟩
     ·have hy:=Ej hc ho' hd h1 hdn
      rw [if_pos (by simp [Region.wanted,hg,hy])]
      exact h2 σ (fun _ _=> .inl rfl) (fun k _=> .inr rfl) hr ha a w hc K' K fun a' w' hc'=>hK' _ _ (ih (fun o ho=>hm o (List.mem_cons_of_mem _ ho)) hK hc')
     ·have hy:=Ej hc ho' hd h1 hdn
      rw [if_neg (by simp [Region.wanted,hg,hy])]
      obtain ⟨W,hW,μ,hc⟩:=hc
      exact hK' _ _ (ih (fun o ho=>hm o (List.mem_cons_of_mem _ ho)) hK ⟨W,hW,μ,Ck hc (fun t ht=>hn i o ho t ht) rfl⟩)
     ·have hy:=Gd hc ho' hd h1 hdn
      rw [if_neg (by simp [Region.wanted,hg,hy])]
      obtain ⟨W,hW,μ,hc⟩:=hc
      exact hK' _ _ (ih (fun o ho=>hm o (List.mem_cons_of_mem _ ho)) hK ⟨W,hW,μ,Ck hc (fun t ht=>hn i o ho t ht) rfl⟩)
theorem Oi {id:Nat} {l:List Oper} {es:List Eff} {σ':St} (hn:(l.all fun o=>match o.dst with|some t=>Nat.blt t X.n|none=>true)=true) (hr:Run P X l l σ es σ') (hq:Q .normal σ'):Aw P X (.region id l.toArray false) σ Q:=fun a w h=>
 wp_region_lit (TA (fun j o' ho t ht=>by
  have:=List.all_eq_true.1 hn o' (List.mem_of_getElem? ho)
  rw [ht] at this
  simpa using this) hr (fun _ h=>h) (fun _ _ h2=>⟨σ',hq,h2⟩) h)
theorem AW {c:Code} (I:Nat→St→Prop) {n:Nat} (h0:I n σ) (round: ∀n σ,I n σ→Aw P X c σ (Wv (fun σ'=> ∃m,m<n∧I m σ') Q)):Aw P X (.loop c) σ Q:=by
 intro a w hc b k cs
 have key: ∀n σ a w,I n σ→CN X σ a w→ ∃e a' w',Sa X Q e a' w'∧Arrives P (lone (b.at a (.code c:: .inLoop c::k)) cs w) b k cs e a' w':=by
  intro n
  induction n using Nat.strongRecOn with
  | _ n ih=>
    intro σ a w hI hc
    obtain ⟨e,a₁,w₁,⟨σ1,hq,hc1⟩,harr⟩:=round n σ hI a w hc b (.inLoop c::k) cs
    cases e with
    | normal=>
      obtain ⟨m,hlt,hI₁⟩:=hq
      obtain ⟨e₂,a₂,w₂,hq₂,harr₂⟩:=ih m hlt σ1 a₁ w₁ hI₁ hc1
      exact ⟨e₂,a₂,w₂,hq₂,.of_steps (Steps.trans harr (.one step_inLoop)) harr₂⟩
    | exit id=>exact ⟨_,a₁,w₁,⟨σ1,hq,hc1⟩,.pass (x:= .inLoop c) rfl (fun _ _=> .inl (by simp)) harr⟩
    | goto l=>exact ⟨_,a₁,w₁,⟨σ1,hq,hc1⟩,.pass (x:= .inLoop c) rfl (fun _ _=> .inl (by simp)) harr⟩
    | ret=>exact ⟨_,a₁,w₁,⟨σ1,hq,hc1⟩,.pass (x:= .inLoop c) rfl (fun _ _=> .inl (by simp)) harr⟩
    | panic ch=>exact ⟨_,a₁,w₁,⟨σ1,hq,hc1⟩,.pass (x:= .inLoop c) rfl (fun _ _=> .inl (by simp)) harr⟩
    | outgrown=>exact ⟨_,a₁,w₁,⟨σ1,hq,hc1⟩,.pass (x:= .inLoop c) rfl (fun _ _=> .inl (by simp)) harr⟩
 obtain ⟨e,a',w',hq,harr⟩:=key _ σ a w h0 hc
 exact ⟨e,a',w',hq,.of_steps (.one step_loop) harr⟩
end
def lk {α:Type} (d:α):List (Nat×α)→Nat→α
 | [],_=>d
 | p::r,k=>match Nat.beq p.1 k with|true=>p.2|false=>lk d r k
def stL (ss:List (Nat×AV)) (bs:List (Nat×List C)):St:=⟨lk .junk ss,fun k o=>(lk [] bs k).getD o (.v (.bool false)),fun k=>(lk [] bs k).length⟩
theorem Ga {α:Type} {d:α} : ∀ {l:List (Nat×α)} {k:Nat},lk d l k=d∨(k,lk d l k)∈l
 | [],_=> .inl rfl
 | p::r,k=>by
   show (match Nat.beq p.1 k with|true=>p.2|false=>lk d r k)=d∨(k,match Nat.beq p.1 k with|true=>p.2|false=>lk d r k)∈p::r
   cases hb:Nat.beq p.1 k with
   | true=>
     have:=Nat.eq_of_beq_eq_true hb
     exact .inr (by subst this;exact List.mem_cons_self)
   | false=>
     rcases Ga (l:=r) (k:=k) (d:=d) with h|h
     ·exact .inl h
     ·exact .inr (List.mem_cons_of_mem _ h)
def inC (ks:List Nat):C→Bool
 | .ptr k _=>ks.any (Nat.beq k)
 | .fn _ caps=>caps.all fun p=>ks.any (Nat.beq p.1)
 | .gl k _ _=>ks.any (Nat.beq k)
 | .sx k _ _ _ _=>ks.any (Nat.beq k)
 | _=>true
def inA (ks:List Nat):AV→Bool
 | .one c=>inC ks c
 | .agg cs=>cs.all (inC ks)
 | .junk=>true
 | .tup l=>l.all fun a=>match a with | .one c=>inC ks c | .agg cs=>cs.all (inC ks) | .junk=>true | .tup _=>false
theorem cc.move {W0:World} {μ μ':Nat→Nat×Nat} {sz sz':Nat→Nat} {w:World} {x:Value} {c:C} {ks:List Nat} (h:cc W0 μ sz w x c) (hp:inC ks c=true) (hk: ∀k∈ks,μ' k=μ k∧(sz k≠0→sz' k≠0)):cc W0 μ' sz' w x c:=by
 cases c with
 | v y=>exact h
 | q r j i=>
   match i with
   | 0=>exact h
   | 1=>exact h
   | _+2=>exact h
 | ptr i off=>
   obtain ⟨k,hm,hb⟩:=List.any_eq_true.1 hp
   have:=Nat.eq_of_beq_eq_true hb
   subst this
   exact ⟨by rw [(hk _ hm).1];exact h.1,(hk _ hm).2 h.2⟩
 | fn f caps=>
   have hh: ∀p∈caps,μ' p.1=μ p.1∧(sz p.1≠0→sz' p.1≠0):=fun p hpm=>by
    obtain ⟨k,hm,hb⟩:=List.any_eq_true.1 (List.all_eq_true.1 hp p hpm)
    rw [Nat.eq_of_beq_eq_true hb]
    exact hk _ hm
   refine ⟨?_,fun p hpm=>(hh p hpm).2 (h.2 p hpm)⟩
   rw [h.1]
   congr 2
   exact List.map_congr_left fun p hp=>by rw [(hh p hp).1]
 | ints l=>exact h
 | iptr n=>exact h
 | gl i len es=>
   obtain ⟨k,hm,hb⟩:=List.any_eq_true.1 hp
   have:=Nat.eq_of_beq_eq_true hb
   subst this
   obtain ⟨ao,c,h1,h2,h3,h4⟩:=h
   refine ⟨ao,c,h1,h2,h3,fun hl=>?_⟩
   obtain ⟨h5,h6,h7⟩:=h4 hl
   rw [(hk _ hm).1]
   exact ⟨h5,h6,(hk _ hm).2 h7⟩
 | ls es n cs=>exact h
 | fp cs=>exact h
 | sx i off len cap es=>
   obtain ⟨k,hm,hb⟩:=List.any_eq_true.1 hp
   have:=Nat.eq_of_beq_eq_true hb
   subst this
   obtain ⟨h1,h2,h3,h4⟩:=h
   exact ⟨by rw [(hk _ hm).1];exact h1,h2,by rw [(hk _ hm).1];exact h3,(hk _ hm).2 h4⟩
 | ny=>exact h
theorem cv0.move {W0:World} {μ μ':Nat→Nat×Nat} {sz sz':Nat→Nat} {w:World} {x:Value} {c:AV} {ks:List Nat} (h:cv0 W0 μ sz w x c) (hp:inA ks c=true) (hk: ∀k∈ks,μ' k=μ k∧(sz k≠0→sz' k≠0)):cv0 W0 μ' sz' w x c:=by
 cases c with
 | one c=>exact cc.move h hp hk
 | agg cs=>obtain ⟨l,rfl,hl⟩:=h;exact ⟨l,rfl,hl.map fun a b hb hh=>hh.move (List.all_eq_true.1 hp b hb) hk⟩
 | tup l=>exact h
 | junk=>trivial
theorem cv.move {W0:World} {μ μ':Nat→Nat×Nat} {sz sz':Nat→Nat} {w:World} {x:Value} {c:AV} {ks:List Nat} (h:cv W0 μ sz w x c) (hp:inA ks c=true) (hk: ∀k∈ks,μ' k=μ k∧(sz k≠0→sz' k≠0)):cv W0 μ' sz' w x c:=by
 cases c with
 | one c=>exact cc.move h hp hk
 | agg cs=>exact cv0.move (c:= .agg cs) h hp hk
 | tup l=>
   obtain ⟨vs,rfl,hl⟩:=h
   refine ⟨vs,rfl,hl.map fun a b hb hh=>hh.move (ks:=ks) ?_ hk⟩
   have:=List.all_eq_true.1 hp b hb
   cases b with
   | tup l=>cases this
   | _=>exact this
 | junk=>trivial
theorem cc.keep {W0:World} {μ:Nat→Nat×Nat} {sz sz':Nat→Nat} {w:World} {x:Value} {c:C} {ks:List Nat} (h:cc W0 μ sz w x c) (hp:inC ks c=true) (hk: ∀k∈ks,sz k≠0→sz' k≠0):cc W0 μ sz' w x c:=h.move hp fun k h=>⟨rfl,hk k h⟩
theorem cv.keep {W0:World} {μ:Nat→Nat×Nat} {sz sz':Nat→Nat} {w:World} {x:Value} {c:AV} {ks:List Nat} (h:cv W0 μ sz w x c) (hp:inA ks c=true) (hk: ∀k∈ks,sz k≠0→sz' k≠0):cv W0 μ sz' w x c:=h.move hp fun k h=>⟨rfl,hk k h⟩
theorem A7 {c:C} (h:pfC c=true) (ks:List Nat):inC ks c=true:=by
 cases c with
 | ptr k o=>cases h
 | fn f caps=>
   cases caps with
   | nil=>rfl
   | cons _ _=>cases h
 | gl k l e=>cases h
 | sx k o l c e=>cases h
 | _=>rfl
theorem LX {l:List C} (h:l.all pfC=true) (ks:List Nat):l.all (inC ks)=true:=List.all_eq_true.2 fun c hc=>A7 (List.all_eq_true.1 h c hc) ks
theorem XT {a:AV} (h:pf a=true) (ks:List Nat):inA ks a=true:=by
 cases a with
 | one c=>exact A7 h ks
 | agg cs=>exact LX h ks
 | junk=>rfl
 | tup l=>
   refine List.all_eq_true.2 fun b hb=>?_
   have:=List.all_eq_true.1 (show l.all pf0=true from h) b hb
   cases b with
   | one c=>exact A7 this ks
   | agg cs=>exact LX this ks
   | junk=>rfl
   | tup l=>cases this
structure Wk (X:Ctx) (σ:St) (ss:List (Nat×AV)) (bs:List (Nat×List C)):Prop where
 slot: ∀p∈ss,Ent (σ.s p.1) p.2
 blk: ∀p∈bs,σ.sz p.1=p.2.length∧ ∀(i:Nat) c,p.2[i]?=some c→Af (σ.m p.1 i) c∧nl c
 ins:(ss.all fun p=>inA (bs.map (·.1)) p.2)=true
 inb:(bs.all fun p=>p.2.all (inC (bs.map (·.1))))=true
 nd:(bs.map (·.1)).Nodup
 ps:(X.ps.all fun k=>(bs.map (·.1)).any (Nat.beq k))=true
theorem Fo {α:Type} {d:α} : ∀ {l:List (Nat×α)},(l.map (·.1)).Nodup→ ∀p∈l,lk d l p.1=p.2
 | [],_,_,h=>by cases h
 | q::r,hnd,p,h=>by
   rw [List.map_cons,List.nodup_cons] at hnd
   show (match Nat.beq q.1 p.1 with|true=>q.2|false=>lk d r p.1)=p.2
   rcases List.mem_cons.1 h with rfl|h
   ·simp
   ·cases hb:Nat.beq q.1 p.1 with
    | true=>
      have:=Nat.eq_of_beq_eq_true hb
      exact absurd (List.mem_map.2 ⟨p,h,this.symm⟩) hnd.1
    | false=>exact Fo hnd.2 p h
theorem Wk.c {X:Ctx} {σ:St} {ss:List (Nat×AV)} {bs:List (Nat×List C)} (h:Wk X σ ss bs) {μ:Nat→Nat×Nat} {a:Act} {w:World} (hc:Cn X μ σ a w):Cn X μ (stL ss bs) a w:=by
 have hks: ∀k∈bs.map (·.1),σ.sz k≠0→(stL ss bs).sz k≠0:=fun k hk=>by
  obtain ⟨p,hp,rfl⟩:=List.mem_map.1 hk
  show _→(lk [] bs p.1).length≠0
  rw [Fo h.nd p hp,(h.blk p hp).1]
  exact id
 have hsz: ∀k,(stL ss bs).sz k≠0→ ∃p∈bs,p.1=k∧lk [] bs k=p.2∧σ.sz k=p.2.length:=fun k hk=>by
  rcases Ga (l:=bs) (k:=k) (d:= []) with h1|h1
  ·exact absurd (by show (lk [] bs k).length=0;rw [h1];rfl) hk
  ·exact ⟨_,h1,rfl,rfl,(h.blk _ h1).1⟩
 have hsz': ∀k,(stL ss bs).sz k≠0→σ.sz k≠0:=fun k hk=>by
  obtain ⟨p,hp,rfl,h1,h2⟩:=hsz k hk
  rw [h2,←h1]
  exact hk
 refine ⟨hc.w0,hc.kd,hc.defers,hc.size,fun t=>?_,fun k hk=>?_,fun k k' hk hk'=>hc.inj k k' (hsz' k hk) (hsz' k' hk'),fun k hk=>hc.own k (hsz' k hk),fun k hk=>⟨(hc.par k hk).1,?_⟩⟩
 ·show cv _ _ _ _ _ (lk .junk ss t)
  rcases Ga (l:=ss) (k:=t) (d:=AV.junk) with h1|h1
  ·rw [h1];trivial
  ·exact (h.slot _ h1 _ _ _ _ _ (hc.slot t)).keep (List.all_eq_true.1 h.ins _ h1) hks
 ·obtain ⟨p,hp,rfl,h1,h2⟩:=hsz k hk
  obtain ⟨cs,e,h3,h4,h8,h5⟩:=hc.blk p.1 (hsz' _ hk)
  refine ⟨cs,e,h3,h4,?_,fun o x hx=>⟨(h5 o x hx).1,fun hol=>?_⟩⟩
  ·show (lk [] bs p.1).length≤_;rw [h1,←h2];exact h8
  ·replace hol:o<(lk [] bs p.1).length:=hol
   rw [h1] at hol
   have hm:(stL ss bs).m p.1 o=p.2[o]:=by
    show (lk [] bs p.1).getD o _=_
    rw [h1,List.getD_eq_getElem?_getD,Yv hol]
    rfl
   obtain ⟨h6,h7⟩:=(h.blk p hp).2 o _ (Yv hol)
   rw [hm]
   exact ⟨(h6 _ _ _ _ _ ((h5 o x hx).2 (by rw [h2];exact hol)).1).keep (List.all_eq_true.1 (List.all_eq_true.1 h.inb p hp) _ (List.getElem_mem hol)) hks,h7⟩
 ·obtain ⟨k',hm,hb⟩:=List.any_eq_true.1 (List.all_eq_true.1 h.ps k hk)
  have e:=Nat.eq_of_beq_eq_true hb
  subst e
  exact hks _ hm (hc.par k hk).2
theorem Wk.at {X:Ctx} {σ:St} {ss:List (Nat×AV)} {bs:List (Nat×List C)} (h:Wk X σ ss bs) (W:World):Wk (X.at W) σ ss bs:=⟨h.slot,h.blk,h.ins,h.inb,h.nd,h.ps⟩
theorem Wk.cn {X:Ctx} {σ:St} {ss:List (Nat×AV)} {bs:List (Nat×List C)} (h:Wk X σ ss bs) {a:Act} {w:World} (hc:CN X σ a w):CN X (stL ss bs) a w:=
 hc.map fun W _ ⟨μ,hc⟩=>⟨μ,(h.at W).c hc⟩
inductive ResIs (P:Program) (σ:St):ResultVar→AV→Prop
 | tmp {t:Tmp} {a:AV} (h:σ.s t=a):ResIs P σ (.tmp t) a
 | cell {t:Tmp} {ty:TypeId} {agg:Bool} {n k off:Nat} (hT:Tsz P ty agg n) (h:σ.s t= .one (.ptr k off)) (hz:Nat.ble (off+n) (σ.sz k)=true) (hn:Nat.blt 0 n=true) (h0:(agg || Nat.beq n 1)=true):ResIs P σ (.cell t ty) (mkA agg (rdL (σ.m k) off n))
inductive Kk (P:Program) (σ:St):List ResultVar→List AV→Prop
 | nil:Kk P σ [] []
 | cons {r:ResultVar} {a:AV} {rs:List ResultVar} {as:List AV} (h:ResIs P σ r a) (hl:Kk P σ rs as):Kk P σ (r::rs) (a::as)
def Ue:List AV→AV
 | [a]=>a
 | l=> .tup l
def Fin (P:Program) (rs:List ResultVar) (bs:List (Nat×List C×List C)) (R:AV) (σ:St):Prop:=
 (∃as,Kk P σ rs as∧(as.length=1∨as.all (fun a=>match a with | .tup _=>false|_=>true)=true)∧Ent (Ue as) R)∧ ∀p∈bs,σ.sz p.1=p.2.2.length∧ ∀(i:Nat) c,p.2.2[i]?=some c→Af (σ.m p.1 i) c∧nl c
def Ib (tmps:Array Value):ResultVar→Sem Value
 | .tmp t=>pure (tmps.getD t undef)
 | .cell t ty=>do loadVar ty (←asAddr (tmps.getD t undef))
theorem VI {P:Program} {X:Ctx} {σ:St} {μ:Nat→Nat×Nat} {a:Act} {w:World} (h:Cn X μ σ a w) {r:ResultVar} {av:AV} (hr:ResIs P σ r av):
  ∃v,(Ib a.tmps r).run P w= .ok v w∧cv X.W0 μ σ.sz w v av:=by
 cases hr with
 | tmp h1=>rename_i t;exact ⟨_,rfl,by rw [←h1];exact h.slot t⟩
 | cell hT h1 hz hn h0=>
   rename_i t ty agg n k off
   have hp:=h.slot t
   rw [h1] at hp
   obtain ⟨hp,hk⟩:=hp
   have hz:=Nat.le_of_ble_eq_true hz
   have hn:0<n:=by simpa using hn
   obtain ⟨vs,hvl,hrg,hth,hv⟩:=h.slice (k:=k) (off:=off) (n:=n) hk (by omega)
   have hall:B5 (cc X.W0 μ σ.sz w) vs (rdL (σ.m k) off n):=⟨by rw [EL];exact hvl,fun i v c hvi hci=>by
    have hi:i<n:=by have:=(List.getElem?_eq_some_iff.1 hci).1;rw [EL] at this;exact this
    rw [DB _ _ _ _ hi] at hci
    cases hci
    exact (hv i v hvi).1⟩
   cases agg with
   | true=>
     obtain ⟨d,hu,hrow⟩:=hT.row
     have:=run_loadVar_mid (P:=P) w (μ k).1 off ty vs d hrg hu hrow (by rw [hT.info,hvl])
     refine ⟨.agg vs.toArray,?_,vs,rfl,hall⟩
     simp only [Ib,hp,asAddr,Sem.run_bind,Sem.run_pure,Result.andThen_ok,this]
   | false=>
     have hn1:n=1:=by simpa using h0
     subst hn1
     obtain ⟨v,rfl⟩: ∃v,vs= [v]:=by
      match vs,hvl with
      | [v],_=>exact ⟨v,rfl⟩
     refine ⟨v,?_,hall.2 0 v (σ.m k off) rfl rfl⟩
     have h2:w.cell? ⟨(μ k).1,off,none⟩=some v:=hrg 0 v rfl
     simp [Ib,hp,asAddr,loadVar,hT.isAgg w,h2]
theorem TG {P:Program} {X:Ctx} {σ:St} {μ:Nat→Nat×Nat} {a:Act} {w:World} (h:Cn X μ σ a w) {rs:List ResultVar} {as:List AV} (hr:Kk P σ rs as):
  ∃vs:List Value,(rs.mapM (Ib a.tmps)).run P w= .ok vs w∧B5 (cv X.W0 μ σ.sz w) vs as:=by
 induction hr with
 | nil=>exact ⟨[],rfl,rfl,fun i a b h=>by simp at h⟩
 | cons h1 _ ih=>
   obtain ⟨v,hv,hc⟩:=VI h h1
   obtain ⟨vs,hvs,hcs⟩:=ih
   refine ⟨v::vs,?_,by simp [hcs.1],fun i x y hx hy=>?_⟩
   ·rw [List.mapM_cons,Sem.run_bind,hv,Result.andThen_ok,Sem.run_bind,hvs,Result.andThen_ok]
    rfl
   ·cases i with
    | zero=>simp at hx hy;subst hx;subst hy;exact hc
    | succ i=>exact hcs.2 i x y (by simpa using hx) (by simpa using hy)
theorem NX {P:Program} {X:Ctx} {fn:Func} {bs:List (Nat×List C×List C)} {R:AV} {σ:St} {μ:Nat→Nat×Nat} {a:Act} {w:World} (h:Cn X μ σ a w) (hf:Fin P fn.results.toList bs R σ):
  ∃v,(results fn a.tmps).run P w= .ok v w∧cv X.W0 μ σ.sz w v R:=by
 obtain ⟨⟨as,hr,hj,hE⟩,_⟩:=hf
 obtain ⟨vs,hvs,hall⟩:=TG h hr
 have hlen:=hall.1
 have e:(results fn a.tmps).run P w= .ok (if h:vs.toArray.size=1 then vs.toArray[0] else .tuple vs.toArray) w:=by
  have key: ∀g:ResultVar→Sem Value,(∀r,g r=Ib a.tmps r)→(do let vs←fn.results.mapM g;pure (if h:vs.size=1 then vs[0] else .tuple vs):Sem Value).run P w= .ok (if h:vs.toArray.size=1 then vs.toArray[0] else .tuple vs.toArray) w:=by
   intro g hg
   obtain rfl:g=Ib a.tmps:=funext hg
   rw [Sem.run_bind,Array.mapM_eq_mapM_toList,map_eq_pure_bind,Sem.run_bind,hvs]
   rfl
  exact key _ fun r=>by cases r<;>rfl
 refine ⟨_,e,hE _ _ _ _ _ ?_⟩
 by_cases h1:vs.length=1
 ·obtain ⟨v,rfl⟩: ∃v,vs= [v]:=by
   match vs,h1 with
   | [v],_=>exact ⟨v,rfl⟩
  obtain ⟨b,rfl⟩: ∃b,as= [b]:=by
   match as,hlen with
   | [b],_=>exact ⟨b,rfl⟩
  rw [dif_pos (by simp)]
  exact hall.2 0 v b rfl rfl
 ·rw [dif_neg (by simpa using h1)]
  have hj':as.all (fun a=>match a with | .tup _=>false|_=>true)=true:=by
   rcases hj with hj|hj
   ·exact absurd (hlen.trans hj) h1
   ·exact hj
  have:Ue as= .tup as:=by
   unfold Ue
   split
   ·simp at hlen;exact absurd hlen h1
   ·rfl
  rw [this]
  refine ⟨vs,rfl,hall.1,fun i x y hx hy=>?_⟩
  have h2:=hall.2 i x y hx hy
  have h3:=List.all_eq_true.1 hj' y (List.mem_of_getElem? hy)
  cases y with
  | tup l=>cases h3
  | _=>exact h2
def GF:Nat→List AV→List (Nat×AV)
 | _,[]=> []
 | i,a::l=>(i,a)::GF (i+1) l
theorem QQ: ∀ {as:List AV} {k t:Nat},lk .junk (GF k as) t= .junk∨ ∃i a,t=k+i∧as[i]?=some a∧lk .junk (GF k as) t=a
 | [],_,_=> .inl rfl
 | a::as,k,t=>by
   show (match Nat.beq k t with|true=>a|false=>lk .junk (GF (k+1) as) t)= .junk∨_
   cases hb:Nat.beq k t with
   | true=>
     have:=Nat.eq_of_beq_eq_true hb
     refine .inr ⟨0,a,this.symm,rfl,?_⟩
     show (match Nat.beq k t with|true=>a|false=>lk .junk (GF (k+1) as) t)=a
     rw [hb]
   | false=>
     rcases QQ (as:=as) (k:=k+1) (t:=t) with h|⟨i,b,h1,h2,h3⟩
     ·exact .inl h
     ·refine .inr ⟨i+1,b,by omega,by simpa using h2,?_⟩
      show (match Nat.beq k t with|true=>a|false=>lk .junk (GF (k+1) as) t)=b
      rw [hb]
      exact h3
def U6 (ns:List (Nat×List C)) (σ:St):Prop:= ∀q∈ns,σ.sz q.1=q.2.length∧ ∀(i:Nat) c,q.2[i]?=some c→Af (σ.m q.1 i) c∧nl c
theorem J6 {P:Program} {A:World→Prop} {f:FuncId} {fn:Func} {c:Code} {args:List AV} {bs:List (Nat×List C×List C)} {ns:List (Nat×List C)} {R:AV} (hf:P.funcs[f]?=some fn) (hb:fn.body=some c) (hn:Nat.ble args.length fn.ntmps=true)
  (hout:(inA (bs.map (·.1)++ns.map (·.1)) R&&bs.all (fun p=>p.2.1.all (inC (bs.map (·.1)))&&p.2.2.all (inC (bs.map (·.1)++ns.map (·.1))))&&ns.all fun q=>q.2.all (inC (bs.map (·.1)++ns.map (·.1)))&&!q.2.isEmpty)=true) (hin:(args.all fun a=>inA (bs.map (·.1)) a)=true) (hnd2:(ns.map (·.1)).Nodup) (hdis: ∀p∈bs,∀q∈ns,q.1≠p.1)
  (h: ∀X:Ctx,A X.W0→X.n=fn.ntmps→X.ps=bs.map (·.1)→(∀g,X.D g→ ∃k∈X.ps,g=(X.μ0 k).1)→Aw P X c (stL (GF 0 args) (bs.map fun p=>(p.1,p.2.1))) (fun e σ=>(e= .normal∨e= .ret)∧Fin P fn.results.toList bs R σ∧U6 ns σ)):C7 P A f args bs ns R:=by
 intro W0 w μ sz vs hA hk hbs hinj hnz hv
 have hn:=Nat.le_of_ble_eq_true hn
 simp only [Bool.and_eq_true,List.all_eq_true] at hout
 obtain ⟨⟨hpR,hpb⟩,hpn⟩:=hout
 let X:Ctx:=⟨W0,w,fun g=> ∃p∈bs,g=(μ p.1).1,fn.ntmps,bs.map (·.1),μ⟩
 have hszl: ∀k,(stL (GF 0 args) (bs.map fun p=>(p.1,p.2.1))).sz k≠0→ ∃p∈bs,p.1=k∧lk [] (bs.map fun p=>(p.1,p.2.1)) k=p.2.1:=fun k hk=>by
  rcases Ga (l:=bs.map fun p=>(p.1,p.2.1)) (k:=k) (d:= []) with h1|h1
  ·exact absurd (by show (lk [] _ k).length=0;rw [h1];rfl) hk
  ·obtain ⟨p,hp,he⟩:=List.mem_map.1 h1
   simp only [Prod.mk.injEq] at he
   exact ⟨p,hp,he.1,he.2.symm⟩
 have hlive: ∀k∈bs.map (·.1),(stL (GF 0 args) (bs.map fun p=>(p.1,p.2.1))).sz k≠0:=fun k hk=>by
  obtain ⟨p,hp,rfl⟩:=List.mem_map.1 hk
  have: ∀(l:List (Nat×List C×List C)),(∀p∈l,p.2.1≠ [])→ ∀p∈l,lk [] (l.map fun p=>(p.1,p.2.1)) p.1≠ []:=by
   intro l
   induction l with
   | nil=>intro _ p h;cases h
   | cons q l ih=>
     intro hne p hp
     show (match Nat.beq q.1 p.1 with|true=>q.2.1|false=>lk [] (l.map fun p=>(p.1,p.2.1)) p.1)≠ []
     cases hb:Nat.beq q.1 p.1 with
     | true=>exact hne q List.mem_cons_self
     | false=>
       rcases List.mem_cons.1 hp with rfl|hp
       ·simp at hb
       ·exact ih (fun r hr=>hne r (List.mem_cons_of_mem _ hr)) p hp
  intro h0
  exact this bs (fun p hp=>(hbs p hp).2.1) p hp (List.eq_nil_of_length_eq_zero h0)
 have hcn:CN X (stL (GF 0 args) (bs.map fun p=>(p.1,p.2.1))) { tmps:=vs.toArray++Array.replicate (fn.ntmps-vs.toArray.size) undef,defers:= [] } w:=by
  refine C0.cn ⟨μ,hk,.refl _ _,rfl,?_,fun t=>?_,fun k hkz=>?_,fun k k' hk1 hk2 hkk=>?_,fun k hkz=>?_,fun k hkp=>⟨rfl,hlive k hkp⟩⟩
  ·have:=hv.1
   simp
   show _=fn.ntmps
   omega
  ·show cv W0 μ _ w _ (lk .junk (GF 0 args) t)
   rcases QQ (as:=args) (k:=0) (t:=t) with h1|⟨i,b,h1,h2,h3⟩
   ·rw [h1];trivial
   ·rw [h3]
    rw [Nat.zero_add] at h1
    subst h1
    have hil:t<vs.length:=by rw [hv.1];exact (List.getElem?_eq_some_iff.1 h2).1
    have hev:(vs.toArray++Array.replicate (fn.ntmps-vs.toArray.size) undef).getD t undef=vs[t]:=by
     simp [Array.getD_eq_getD_getElem?,Array.getElem?_append,hil]
    rw [hev]
    exact (hv.2 t _ b (Yv hil) h2).keep (List.all_eq_true.1 hin b (List.mem_of_getElem? h2)) fun k hk _=>hlive k hk
  ·obtain ⟨p,hp,rfl,hl⟩:=hszl k hkz
   obtain ⟨h1,h2,h3,ca,e,h4,h5,h6,h7,h8,h9⟩:=hbs p hp
   refine ⟨ca,e,h4,h5,?_,fun o x hx=>⟨h7 o x hx,fun hol=>?_⟩⟩
   ·show (lk [] _ p.1).length≤_
    rw [hl]
    exact h6
   ·replace hol:o<(lk [] (bs.map fun p=>(p.1,p.2.1)) p.1).length:=hol
    rw [hl] at hol
    have hm:(stL (GF 0 args) (bs.map fun p=>(p.1,p.2.1))).m p.1 o=p.2.1[o]:=by
     show (lk [] _ p.1).getD o _=_
     rw [hl,List.getD_eq_getElem?_getD,Yv hol]
     rfl
    rw [hm]
    exact ⟨(h8 o x _ hx (Yv hol)).keep ((hpb p hp).1 _ (List.getElem_mem hol)) (fun k hk _=>hlive k hk),h9 _ (List.getElem_mem hol)⟩
  ·obtain ⟨p,hp,rfl,_⟩:=hszl k hk1
   obtain ⟨q,hq,rfl,_⟩:=hszl k' hk2
   exact hinj p hp q hq hkk
  ·obtain ⟨p,hp,rfl,_⟩:=hszl k hkz
   exact ⟨(hbs p hp).2.2.1,.inr ⟨p,hp,rfl⟩⟩
 refine calls_of_wp hf hb (wp_mono (h X hA rfl rfl (fun g ⟨p,hp,hg⟩=>⟨p.1,List.mem_map.2 ⟨p,hp,rfl⟩,hg⟩) _ _ hcn) ?_)
 rintro e a' w' ⟨σ',⟨he,hfin,hfn⟩,W',hG,μ',hcn'⟩
 obtain ⟨v,hv1,hv2⟩:=NX hcn' hfin
 have hpost: ∃r μ'' W',Ending.returned v= .returned r∧Kd (fun g=> ∃p∈bs,g=(μ p.1).1) w w'∧Gr W0 w W' w'∧(∀k,(∀q∈ns,q.1≠k)→μ'' k=μ k)∧cv W' μ'' (alZ sz ns) w' r R∧(∀p∈bs,EG W' μ'' (alZ sz ns) w' p.1 p.2.2)∧
   (∀q∈ns,w.heap.size≤(μ'' q.1).1∧ ¬alive W' (μ'' q.1).1∧EG W' μ'' (alZ sz ns) w' q.1 q.2)∧ ∀p∈ns,∀q∈ns,(μ'' p.1).1=(μ'' q.1).1→p.1=q.1:=by
  have hsn: ∀q∈ns,σ'.sz q.1≠0:=fun q hq h0=>by
   have h1:=(hfn q hq).1
   have h2:=(hpn q hq).2
   rw [h0] at h1
   rw [List.eq_nil_of_length_eq_zero h1.symm] at h2
   cases h2
  let μ'':Nat→Nat×Nat:=fun k=>if ∃q∈ns,q.1=k then μ' k else μ k
  have m1: ∀q∈ns,μ'' q.1=μ' q.1:=fun q hq=>if_pos ⟨q,hq,rfl⟩
  have m2: ∀k,(∀q∈ns,q.1≠k)→μ'' k=μ k:=fun k hk=>if_neg fun ⟨q,hq,he⟩=>hk q hq he
  have m3: ∀p∈bs,μ'' p.1=μ' p.1:=fun p hp=>by
   rw [m2 p.1 (hdis p hp)]
   exact (hcn'.par p.1 (List.mem_map.2 ⟨p,hp,rfl⟩)).1.symm
  have hmv: ∀k∈bs.map (·.1)++ns.map (·.1),μ'' k=μ' k∧(σ'.sz k≠0→alZ sz ns k≠0):=fun k hk=>by
   rcases List.mem_append.1 hk with hk|hk
   ·obtain ⟨p,hp,rfl⟩:=List.mem_map.1 hk
    refine ⟨m3 p hp,fun _=>?_⟩
    rw [Eg (hdis p hp),(hbs p hp).1]
    exact fun h0=>(hbs p hp).2.1 (List.eq_nil_of_length_eq_zero h0)
   ·obtain ⟨q,hq,rfl⟩:=List.mem_map.1 hk
    refine ⟨m1 q hq,fun _=>?_⟩
    rw [Mn hnd2 hq,←(hfn q hq).1]
    exact hsn q hq
  have hblk: ∀(k:Nat) (cs:List C),σ'.sz k≠0→μ'' k=μ' k→σ'.sz k=cs.length→(∀(i:Nat) c,cs[i]?=some c→Af (σ'.m k i) c∧nl c)→(∀c∈cs,inC (bs.map (·.1)++ns.map (·.1)) c=true)→EG W' μ'' (alZ sz ns) w' k cs:=fun k cs h0 h1 h2 h3 h4=>by
   obtain ⟨ca,e',b1,b2,b3,b4⟩:=hcn'.blk k h0
   refine ⟨ca,e',by rw [h1];exact b1,by rw [h1];exact b2,by rw [←h2];exact b3,fun o x hx=>(b4 o x hx).1,fun o x c hx hc=>?_,fun c hc=>?_⟩
   ·have hol:o<σ'.sz k:=by rw [h2];exact (List.getElem?_eq_some_iff.1 hc).1
    exact ((h3 o c hc).1 _ _ _ _ _ ((b4 o x hx).2 hol).1).move (h4 c (List.mem_of_getElem? hc)) hmv
   ·obtain ⟨o,ho,rfl⟩:=List.mem_iff_getElem.1 hc
    exact (h3 o _ (Yv ho)).2
  refine ⟨v,μ'',W',rfl,hcn'.kd,⟨hG.ext,hcn'.w0,hG.new⟩,m2,hv2.move hpR hmv,fun p hp=>?_,fun q hq=>⟨?_,?_,?_⟩,fun p hp q hq he=>?_⟩
  ·exact hblk p.1 p.2.2 (hcn'.par p.1 (List.mem_map.2 ⟨p,hp,rfl⟩)).2 (m3 p hp) (hfin.2 p hp).1 (hfin.2 p hp).2 fun c hc=>(hpb p hp).2 c hc
  ·rw [m1 q hq]
   rcases (hcn'.own q.1 (hsn q hq)).2 with h1|⟨p,hp,h1⟩
   ·exact h1
   ·exfalso
    have h2:=hcn'.par p.1 (List.mem_map.2 ⟨p,hp,rfl⟩)
    refine hdis p hp q hq (hcn'.inj q.1 p.1 (hsn q hq) h2.2 ?_)
    rw [h2.1]
    exact h1
  ·rw [m1 q hq]
   exact (hcn'.own q.1 (hsn q hq)).1
  ·exact hblk q.1 q.2 (hsn q hq) (m1 q hq) (hfn q hq).1 (hfn q hq).2 fun c hc=>(hpn q hq).1 c hc
  ·rw [m1 p hp,m1 q hq] at he
   exact hcn'.inj _ _ (hsn p hp) (hsn q hq) he
 rcases he with rfl|rfl
 ·exact ⟨hcn'.defers,v,hv1,hpost⟩
 ·exact ⟨hcn'.defers,v,hv1,hpost⟩
theorem Sq {P:Program} {A:World→Prop} {f:FuncId} {fn:Func} {c:Code} {args:List AV} {bs:List (Nat×List C×List C)} {R:AV} (hf:P.funcs[f]?=some fn) (hb:fn.body=some c) (hn:Nat.ble args.length fn.ntmps=true)
  (hpf:(pf R&&bs.all fun p=>p.2.1.all pfC&&p.2.2.all pfC)=true) (hin:(args.all fun a=>inA (bs.map (·.1)) a)=true)
  (h: ∀X:Ctx,A X.W0→X.n=fn.ntmps→X.ps=bs.map (·.1)→(∀g,X.D g→ ∃k∈X.ps,g=(X.μ0 k).1)→Aw P X c (stL (GF 0 args) (bs.map fun p=>(p.1,p.2.1))) (fun e σ=>(e= .normal∨e= .ret)∧Fin P fn.results.toList bs R σ)):BJ P A f args bs R:=by
 simp only [Bool.and_eq_true,List.all_eq_true] at hpf
 refine (J6 (ns:= []) hf hb hn ?_ hin .nil (fun p _ q hq=>by cases hq) fun X hA hXn hXp hXD=>(h X hA hXn hXp hXD).mono fun e σ hh=>⟨hh.1,hh.2,fun q hq=>(by cases hq)⟩).m
 simp only [Bool.and_eq_true,List.all_eq_true]
 refine ⟨⟨XT hpf.1 _,fun p hp=>⟨fun c hc=>A7 ((hpf.2 p hp).1 c hc) _,fun c hc=>A7 ((hpf.2 p hp).2 c hc) _⟩⟩,fun q hq=>(by cases hq)⟩
def PA (cs:List C):Nat→List C→List C
 | _,[]=>cs
 | o,c::r=>PA (cs.set o c) (o+1) r
theorem Qu {R:Value→C→Prop} : ∀ {vs:List Value} {ns:List C} {a:Array Value} {cs:List C} {off:Nat},B5 R vs ns→B5 R a.toList cs→B5 R (JQ a off vs).toList (PA cs off ns)
 | [],[],_,_,_,_,h=>h
 | [],_::_,_,_,_,h,_=>by have:=h.1;simp at this
 | _::_,[],_,_,_,h,_=>by have:=h.1;simp at this
 | v::vs,c::ns,a,cs,off,h,hf=>by
   refine Qu (vs:=vs) (ns:=ns) ⟨by have:=h.1;simpa using this,fun i p q hp hq=>h.2 (i+1) p q (by simpa using hp) (by simpa using hq)⟩ ⟨by simpa using hf.1,fun i p q hp hq=>?_⟩
   rw [Array.toList_setIfInBounds,List.getElem?_set] at hp
   rw [List.getElem?_set] at hq
   have hl:=hf.1
   simp at hl
   by_cases hi:off=i
   ·subst hi
    simp only [if_true] at hp hq
    split at hp
    ·rename_i hlt
     rw [if_pos (by simp at hlt;omega)] at hq
     cases hp
     cases hq
     exact h.2 0 _ _ rfl rfl
    ·cases hp
   ·rw [if_neg hi] at hp hq
    exact hf.2 i p q hp hq
theorem Lc (off:Nat): ∀(l:List Value) (k:Nat) (a:Array Value),(l.zipIdx k).foldl (fun cs (p:Value×Nat)=>cs.setIfInBounds (off+p.2) p.1) a=JQ a (off+k) l
 | [],_,_=>rfl
 | v::l,k,a=>by
   rw [List.zipIdx_cons,List.foldl_cons,Lc off l (k+1)]
   rfl
def Dk (pl:Nat→Option (Nat×Nat)) (cs:List C):List (Nat×AV)→Option (List C)
 | []=>some cs
 | (i,a)::rest=>match pl i with
   | none=>none
   | some (off,size)=>match Nat.beq (At a).length size&&Nat.ble (off+(At a).length) cs.length&&(Dg a || Nat.beq size 1) with
     | true=>Dk pl (PA cs off (At a)) rest
     | false=>none
theorem Oa {W0:World} {μ:Nat→Nat×Nat} {sz:Nat→Nat} {w:World} {v:Value} {a:AV} (h:cv W0 μ sz w v a) (ha:(Dg a || Nat.beq (At a).length 1)=true) (hn: ∀c∈At a,nl c):B5 (cc W0 μ sz w) v.cells.toList (At a):=by
 cases a with
 | one c=>
   have hno:=(cc.noL (c:=c) h (hn c (by simp [At]))).2
   have:v.cells= #[v]:=by cases v<;>first|rfl|(simp [Value.oneCell'] at hno)
   rw [this]
   exact ⟨rfl,fun i p q hp hq=>by
    cases i with
    | zero=>simp at hp;simp [At] at hq;subst hp;subst hq;exact h
    | succ i=>simp at hp⟩
 | agg cs=>
   obtain ⟨l,rfl,hl⟩:=h
   exact hl
 | tup l=>simp [At,Dg] at ha
 | junk=>simp [At,Dg] at ha
theorem I2 {W0:World} {μ:Nat→Nat×Nat} {sz:Nat→Nat} {w:World} {pl:Nat→Option (Nat×Nat)} : ∀ {ps:List (Nat×AV)} {vs:List (Nat×Value)} {a:Array Value} {cs cs':List C},vs.length=ps.length→(∀(i:Nat) p q,vs[i]?=some p→ps[i]?=some q→p.1=q.1∧cv W0 μ sz w p.2 q.2∧ ∀c∈At q.2,nl c)→
  B5 (cc W0 μ sz w) a.toList cs→Dk pl cs ps=some cs'→ ∃a',Instr.fill pl a vs=some a'∧B5 (cc W0 μ sz w) a'.toList cs'
 | [],[],a,cs,cs',_,_,h,hf=>by
   simp [Dk] at hf
   subst hf
   exact ⟨a,rfl,h⟩
 | [],_::_,_,_,_,hl,_,_,_=>by simp at hl
 | _::_,[],_,_,_,hl,_,_,_=>by simp at hl
 | (j,b)::ps,(i,v)::vs,a,cs,cs',hl,hh,h,hf=>by
   obtain ⟨h1,h2,h3⟩:=hh 0 _ _ rfl rfl
   replace h1:i=j:=h1
   subst h1
   unfold Dk at hf
   unfold Instr.fill
   cases hp:pl i with
   | none=>rw [hp] at hf;cases hf
   | some os=>
     obtain ⟨off,size⟩:=os
     rw [hp] at hf
     simp only at hf⊢
     cases hb:(Nat.beq (At b).length size&&Nat.ble (off+(At b).length) cs.length&&(Dg b || Nat.beq size 1)) with
     | false=>rw [hb] at hf;cases hf
     | true=>
       rw [hb] at hf
       simp only [Bool.and_eq_true] at hb
       obtain ⟨⟨b1,b2⟩,b3⟩:=hb
       have b1:(At b).length=size:=by simpa using b1
       have b2:=Nat.le_of_ble_eq_true b2
       have hcc:=Oa h2 (by rw [b1];exact b3) h3
       have hvl:v.cells.size=size:=by have:=hcc.1;simp at this;omega
       have hal:a.size=cs.length:=by have:=h.1;simpa using this
       rw [if_neg (by simp [hvl,hal];omega)]
       have e:v.cells.zipIdx.foldl (fun cs (x:Value×Nat)=>match x with|(c,j)=>cs.setIfInBounds (off+j) c) a=JQ a off v.cells.toList:=by
        rw [←Array.foldl_toList,Array.toList_zipIdx]
        exact Lc off v.cells.toList 0 a
       rw [e]
       exact I2 (by simpa using hl) (fun k p q hp hq=>hh (k+1) p q (by simpa using hp) (by simpa using hq)) (Qu hcc h) hf
def WJ (P:Program) (t:TypeId) (pl:List (Nat×Nat)):Bool:=
 match P.underlying t with
 | some (.struct fields)=>match fields.toList.mapM (fun f=>(P.info? f.type).map fun i=>(f.offset,i.size)) with
   | some l=>l==pl
   | none=>false
 | _=>false
class PS (P:Program) (t:TypeId) (pl:outParam (List (Nat×Nat))):Prop where
 ok:WJ P t pl=true
def WK (P:Program) (t:TypeId) (n:Nat):Bool:=
 match P.underlying t with
 | some (.array _ e)=>(P.info? e).map (·.size)==some n
 | _=>false
class XD (P:Program) (t:TypeId) (n:outParam Nat):Prop where
 ok:WK P t n=true
section
variable {P:Program} {dst:Option Tmp} {ty:TypeId} {pos:String} {af:Array Edge} {gd:Option (Nat×Bool)} {s:Nat→AV}
theorem JC {t:TypeId} {parts:Array (Nat×Operand)} {z:Value} {pl:Nat→Option (Nat×Nat)} {ps:List (Nat×AV)} {cs:List C} (hpl: ∀vs a',Instr.fill pl z.cells vs=some a'→P.built t vs=some a') (hps:parts.toList.map (fun p=>(p.1,evC s p.2))=ps) (hnl:(ps.all fun p=>(At p.2).all nlB)=true)
  (hf:Dk pl (z.cells.toList.map .v) ps=some cs):Dc P ⟨dst,.build t parts,ty,pos,af,gd⟩ s (.agg cs):=fun W0 μ sz w ρ hρ=>by
 obtain ⟨ol,rfl⟩: ∃ol:List (Nat×Operand),parts=ol.toArray:=⟨parts.toList,by simp⟩
 have hρ': ∀p∈ol,cv W0 μ sz w (ρ p.2) (evC s p.2):=fun p hp=>hρ p.2 (by simp [Op.operands];exact ⟨p.1,hp⟩)
 simp only at hps
 subst hps
 have hz:B5 (cc W0 μ sz w) z.cells.toList (z.cells.toList.map .v):=B5.self _
 obtain ⟨a',h1,h2⟩:=I2 (W0:=W0) (μ:=μ) (sz:=sz) (w:=w) (vs:=ol.map fun p=>(p.1,ρ p.2)) (by simp) (fun i p q hp hq=>by
  simp only [List.getElem?_map,Option.map_eq_some_iff] at hp hq
  obtain ⟨x,hx,rfl⟩:=hp
  obtain ⟨y,hy,rfl⟩:=hq
  rw [hx] at hy
  cases hy
  refine ⟨rfl,hρ' x (List.mem_of_getElem? hx),fun c hc=>DM ?_⟩
  have:=List.all_eq_true.1 hnl (x.1,evC s x.2) (List.mem_map.2 ⟨x,List.mem_of_getElem? hx,rfl⟩)
  exact List.all_eq_true.1 this c hc) hz hf
 refine ⟨.agg a',?_,a'.toList,by simp,h2⟩
 have h3:=run_build (P:=P) w t ((ol.map fun p=>(p.1,ρ p.2)).toArray) a' (hpl _ _ (by simpa using h1))
 simp [execOp]
 rw [show (List.map (fun x=>(x.fst,ρ x.snd)) ol)=ol.map fun p=>(p.1,ρ p.2) from rfl,h3]
 rfl
theorem Nt {t:TypeId} {parts:Array (Nat×Operand)} {z:Value} {pl:List (Nat×Nat)} [hZ:Zer P t z] [hB:PS P t pl] {ps:List (Nat×AV)} {cs:List C} (hps:parts.toList.map (fun p=>(p.1,evC s p.2))=ps) (hnl:(ps.all fun p=>(At p.2).all nlB)=true)
  (hf:Dk (pl[·]?) (z.cells.toList.map .v) ps=some cs):Dc P ⟨dst,.build t parts,ty,pos,af,gd⟩ s (.agg cs):=by
 refine JC (z:=z) (pl:=(pl[·]?)) (fun vs a' h=>?_) hps hnl hf
 have hb:=hB.ok
 have hz:=hZ.ok
 unfold WJ at hb
 split at hb
 ·rename_i fields hu
  split at hb
  ·rename_i l hl
   have:l=pl:=by simpa using hb
   subst this
   cases hi:P.info? t with
   | none=>rw [hi] at hz;cases hz
   | some it=>
     rw [hi] at hz
     have hz':it.zero=some z:=hz
     simp only [Program.built,hi,hu,hz',hl]
     simpa using h
  ·cases hb
 ·cases hb
theorem Nu {t:TypeId} {parts:Array (Nat×Operand)} {z:Value} {n:Nat} [hZ:Zer P t z] [hB:XD P t n] {ps:List (Nat×AV)} {cs:List C} (hps:parts.toList.map (fun p=>(p.1,evC s p.2))=ps) (hnl:(ps.all fun p=>(At p.2).all nlB)=true)
  (hf:Dk (fun i=>some (i*n,n)) (z.cells.toList.map .v) ps=some cs):Dc P ⟨dst,.build t parts,ty,pos,af,gd⟩ s (.agg cs):=by
 refine JC (z:=z) (pl:=fun i=>some (i*n,n)) (fun vs a' h=>?_) hps hnl hf
 have hb:=hB.ok
 have hz:=hZ.ok
 unfold WK at hb
 split at hb
 ·rename_i m e hu
  cases hi:P.info? t with
  | none=>rw [hi] at hz;cases hz
  | some it=>
    rw [hi] at hz
    have hz':it.zero=some z:=hz
    cases hie:P.info? e with
    | none=>rw [hie] at hb;simp at hb
    | some ie=>
      rw [hie] at hb
      have:ie.size=n:=by simpa using hb
      subst this
      simp only [Program.built,hi,hu,hz',hie]
      exact h
 ·cases hb
class Mr (P:Program) (t:TypeId) (k:outParam IntKind):Prop where
 ok:P.underlying t=some (.int k)
theorem LV {t u:TypeId} {x:Operand} {k k':IntKind} {n:Int} [h1:Mr P t k] [h2:Mr P u k'] (hx:evC s x= .one (.v (.int k n))):Dc P ⟨dst,.convert t u x,ty,pos,af,gd⟩ s (.one (.v (.int k' (k'.wrap n)))):=fun W0 μ sz w ρ hρ=>by
 have h:=hρ x (by simp [Op.operands])
 rw [hx] at h
 replace h:ρ x= .int k n:=h
 exact ⟨_,by simp [execOp,h,convert,run_underlying h1.ok w,run_underlying h2.ok w,Conv.intToInt],rfl⟩
class Q4 (P:Program) (t:TypeId):Prop where
 ok:P.underlying t=some .bool
theorem Ns {t u:TypeId} {x y:Operand} {a b:Bool} [h1:Q4 P t] (hx:evC s x= .one (.v (.bool a))) (hy:evC s y= .one (.v (.bool b))):Dc P ⟨dst,.binOp .eql t x y u,ty,pos,af,gd⟩ s (.one (.v (.bool (a==b)))):=fun W0 μ sz w ρ hρ=>by
 have h:=hρ x (by simp [Op.operands])
 rw [hx] at h
 replace h:ρ x= .bool a:=h
 have h':=hρ y (by simp [Op.operands])
 rw [hy] at h'
 replace h':ρ y= .bool b:=h'
 refine ⟨.bool (a==b),?_,rfl⟩
 have h3:=run_equalIn_bool' (P:=P) w 9999 t a b h1.ok
 have h4:(binOp .eql t (.bool a) (.bool b)).run P w= .ok (.bool (a==b)) w:=by
  show (do pure (Value.bool (←Op.equal t (.bool a) (.bool b))):Sem Value).run P w=_
  rw [Sem.run_bind]
  rw [show (Op.equal t (.bool a) (.bool b)).run P w= .ok (a==b) w from h3]
  rfl
 have h5:(eqGuard .eql t x y (.bool a) (.bool b)).run P w= .ok () w:=rfl
 show (do let v←(do eqGuard .eql t x y (ρ x) (ρ y);binOp .eql t (ρ x) (ρ y):Sem Value);pure (Next.value v):Sem Next).run P w=_
 rw [h,h',Sem.run_bind,Sem.run_bind,h5,Result.andThen_ok,h4]
 rfl
end
section
variable {P:Program} {X:Ctx} {ops l:List Oper} {σ σ':St} {es:List Eff}
variable {dst:Option Tmp} {ty:TypeId} {pos:String} {af:Array Edge} {gd:Option (Nat×Bool)} {s:Nat→AV} {z:Nat→Nat}
theorem Vu {t:TypeId} {x:Operand} {av:AV} {id:Nat} (hd: ∀t,dst=some t→t<X.n) (hx:evC s x=av) (ha:(Dg av || Nat.beq (At av).length 1)=true) (hnl:(At av).all nlB=true):
  Sim P X ⟨dst,.box t x,ty,pos,af,gd⟩ s z ⟨.one (.ptr id 0),[],[],[(id,At av)]⟩:=by
 refine Sim.of0 fun W=>?_
 replace hd: ∀t,dst=some t→t<(X.at W).n:=hd
 generalize X.at W=X at hd⊢
 intro σ hs hsz _ hal a w hc K Q hK
 obtain ⟨μ,hc⟩:=hc
 obtain ⟨hid,hne⟩:=hal.1 _ List.mem_cons_self
 have hev:=hc.ev x
 replace hev:=C5 (o:=⟨dst,.box t x,ty,pos,af,gd⟩) hs (by simp [Op.operands]) hev
 rw [hx] at hev
 have hnl': ∀c∈At av,nl c:=fun c hcm=>DM (List.all_eq_true.1 hnl c hcm)
 have hcc:=Oa hev ha hnl'
 have hrun:(execOp a.eval ⟨dst,.box t x,ty,pos,af,gd⟩).run P w= .ok (.value (.pointer (some ⟨w.heap.size,0,none⟩))) (w.alloc (.cells (a.eval x).cells t)):=by
  simp [execOp,Instr.box,newVar,newRow]
 unfold Oper.wp
 rw [hrun]
 have hkp:Kp w (w.alloc (.cells (a.eval x).cells t)):=(Below.refl _ _).alloc (Yu _) _
 have hnew:=hc.new (id:=id) hid (w':=w.alloc (.cells (a.eval x).cells t)) (g:=w.heap.size) (vs:=(a.eval x).cells) (e:=t) hkp (Yu _) (heap_alloc_new w _) hne
  (by have:=hcc.1;simp at this;show (At av).length≤_;omega) (fun o x hx=>by
   have hol:=(Array.getElem?_eq_some_iff.1 hx).1
   have h1:=hcc.1
   simp at h1
   have hc:=Yv (l:=At av) (i:=o) (by omega)
   exact (hcc.2 o x _ (by simpa using hx) hc).noL (hnl' _ (List.getElem_mem _))) (fun o x c hx hc=>(hcc.2 o x c (by simpa using hx) hc).mono (Kl.of_kp hkp) fun i hi=>⟨rfl,hi⟩) hnl'
 refine hK _ _ ⟨upd μ id (w.heap.size,(a.eval x).cells.size),?_⟩
 refine Ck hnew (d:=dst) hd (v:= .pointer (some ⟨w.heap.size,0,none⟩)) (av:= .one (.ptr id 0)) ⟨by rw [AI],?_⟩
 show upd σ.sz id _ id≠0
 rw [AI]
 intro h0
 exact hne (List.eq_nil_of_length_eq_zero h0)
theorem VF {t:TypeId} {x:Operand} {av:AV} (id:Nat) (hg:gOk ops σ.s gd) (hd: ∀t,dst=some t→t<X.n) (hx:evC σ.s x=av) (ha:(Dg av || Nat.beq (At av).length 1)=true) (hnl:(At av).all nlB=true) (hf:Nat.beq (σ.sz id) 0=true) (hne:(At av).isEmpty=false)
  (hl:Run P X ops l (σ.app dst ⟨.one (.ptr id 0),[],[],[(id,At av)]⟩) es σ'):
  Run P X ops (⟨dst,.box t x,ty,pos,af,gd⟩::l) σ (⟨.one (.ptr id 0),[],[],[(id,At av)]⟩::es) σ':=
 Run.step hg (Vu hd hx ha hnl) (fun p hp=>by cases hp) (EE (by simpa using hf) fun h=>by
  rw [h] at hne
  cases hne) hl
theorem TT {t:TypeId} {x:Operand} {ls:List Int} (hu: ∃e,P.underlying t=some (.slice e)) (hx:evC s x= .one (.ints ls)):Dc P ⟨dst,.call ⟨.builtin .len,#[x],#[t]⟩,ty,pos,af,gd⟩ s (.one (.v (.int .i64 ls.length))):=fun W0 μ sz w ρ hρ=>by
 have h:=hρ x (by simp [Op.operands,Call.operands])
 rw [hx] at h
 obtain ⟨ao,cap,hv,_⟩:=h
 obtain ⟨e,hu⟩:=hu
 exact ⟨_,by simp [execOp,resolve,invoke,builtin,Builtin.len_,run_underlying hu w,hv,goInt],rfl⟩
theorem Lx {t:TypeId} {x:Operand} [hT:Tsz P t false 1] {n:Int} (hd: ∀t,dst=some t→t<X.n) (hx:evC s x= .one (.iptr n)):Sim P X ⟨dst,.load t x,ty,pos,af,gd⟩ s z ⟨.one (.v (.int .i64 n)),[],[],[]⟩:=by
 refine Sim.of0 fun W=>?_
 replace hd: ∀t,dst=some t→t<(X.at W).n:=hd
 generalize X.at W=X at hd⊢
 intro σ hs _ _ _ a w hc K Q hK
 obtain ⟨μ,hc⟩:=hc
 have hev:=hc.ev x
 replace hev:=C5 (o:=⟨dst,.load t x,ty,pos,af,gd⟩) hs (by simp [Op.operands]) hev
 rw [hx] at hev
 obtain ⟨b,off,hp,hcell⟩:=hev
 have hw:w.cell? ⟨b,off,none⟩=some (.int .i64 n):=hc.w0.cell hcell
 have hrun:(execOp a.eval ⟨dst,.load t x,ty,pos,af,gd⟩).run P w= .ok (.value (.int .i64 n)) w:=by
  simp [execOp,hp,Instr.loadAt,Instr.sureAddr,loadVar,hT.isAgg w,hw]
 unfold Oper.wp
 rw [hrun]
 exact hK _ _ ⟨μ,Ck hc hd rfl⟩
theorem LG {t:TypeId} {x:Operand} [hT:Tsz P t false 1] {n:Int} (hg:gOk ops σ.s gd) (hd: ∀t,dst=some t→t<X.n) (hx:evC σ.s x= .one (.iptr n)) (hl:Run P X ops l (σ.app dst ⟨.one (.v (.int .i64 n)),[],[],[]⟩) es σ'):
  Run P X ops (⟨dst,.load t x,ty,pos,af,gd⟩::l) σ (⟨.one (.v (.int .i64 n)),[],[],[]⟩::es) σ':=
 Run.step hg (Lx hd hx) (fun p hp=>by cases hp) Ct hl
theorem Jz {t:TypeId} {x y:Operand} {ls:List Int} {i n:Int} (hu: ∃e,P.underlying t=some (.slice e)∧Tsz P e false 1) (hx:evC s x= .one (.ints ls)) (hy:evC s y= .one (.v (.int .i64 i))) (hi:0≤i) (hn:ls[i.toNat]?=some n):
  Dc P ⟨dst,.indexAddr t x y,ty,pos,af,gd⟩ s (.one (.iptr n)):=fun W0 μ sz w ρ hρ=>by
 have h:=hρ x (by simp [Op.operands])
 rw [hx] at h
 obtain ⟨ao,cap,hv,hh⟩:=h
 have h2:=hρ y (by simp [Op.operands])
 rw [hy] at h2
 replace h2:ρ y= .int .i64 i:=h2
 obtain ⟨e,hu,hT⟩:=hu
 have hlt:=(List.getElem?_eq_some_iff.1 hn).1
 obtain ⟨b,off,rfl,hc⟩:=hh (by intro h0;rw [h0] at hlt;simp at hlt)
 refine ⟨.pointer (some ⟨b,off+i.toNat,none⟩),?_,b,off+i.toNat,rfl,hc _ _ hn⟩
 have:i<ls.length:=by omega
 simp [execOp,Instr.indexAt,run_underlying hu w,hv,h2,asIntOf,hi,this,hT.size w,Addr.add_mid]
end
def dB (n:Nat):Option Tmp→Bool
 | some t=>Nat.blt t n
 | none=>true
theorem Dd {n:Nat} {d:Option Tmp} (h:dB n d=true): ∀t,d=some t→t<n:=fun t e=>by subst e;simpa [dB] using h
theorem Ent.of_eq {a b:AV} (h:a=b):Ent a b:=h▸Ent.same
theorem Ents.same: ∀ {l:List AV},Ents l l
 | []=> .nil
 | _::_=> .cons .same .same
theorem Ents.of_eq {l m:List AV} (h:l=m):Ents l m:=h▸Ents.same
theorem Af.of_eq {c d:C} (h:c=d):Af c d:=h▸Af.same
theorem EntL.of_eq: ∀ {l m:List C},l=m→EntL l m
 | [],_,h=>h▸ .nil
 | _::_,_,h=>h▸ .cons .same (EntL.of_eq rfl)
theorem Ent.agg' {a:AV} {l m:List C} (h:a= .agg l) (hl:EntL l m):Ent a (.agg m):=h▸Ent.agg hl
theorem Ent.one' {a:AV} {c d:C} (h:a= .one c) (hc:Af c d):Ent a (.one d):=h▸Ent.one hc
theorem EntL.cons' {l:List C} {c d:C} {r m:List C} (h:l=c::r) (hc:Af c d) (hl:EntL r m):EntL l (d::m):=h▸EntL.cons hc hl
theorem EntL.nil' {l:List C} (h:l= []):EntL l []:=h▸EntL.nil
theorem Ents.cons' {l:List AV} {a b:AV} {r m:List AV} (h:l=a::r) (hc:Ent a b) (hl:Ents r m):Ents l (b::m):=h▸Ents.cons hc hl
theorem Ents.nil' {l:List AV} (h:l= []):Ents l []:=h▸Ents.nil
def E0:AV→Bool
 | .tup _=>false
 | _=>true
theorem Xu {W0:World} {μ:Nat→Nat×Nat} {sz:Nat→Nat} {w:World} {v:Value} {a:AV} (h:E0 a=true) (hc:cv0 W0 μ sz w v a):cv W0 μ sz w v a:=by
 cases a<;>first|exact hc|cases h
theorem Xv {W0:World} {μ:Nat→Nat×Nat} {sz:Nat→Nat} {w:World} {v:Value} {a:AV} (h:E0 a=true) (hc:cv W0 μ sz w v a):cv0 W0 μ sz w v a:=by
 cases a<;>first|exact hc|cases h
inductive EntT:List AV→List AV→Prop
 | nil:EntT [] []
 | cons {a b:AV} {l m:List AV} (h:Ent a b) (h1:E0 a=true) (h2:E0 b=true) (hl:EntT l m):EntT (a::l) (b::m)
theorem EntT.all2 {W0:World} {μ:Nat→Nat×Nat} {sz:Nat→Nat} {w:World} {as bs:List AV} (h:EntT as bs): ∀ {vs:List Value},B5 (cv0 W0 μ sz w) vs as→B5 (cv0 W0 μ sz w) vs bs:=by
 induction h with
 | nil=>exact fun hv=>hv
 | cons h h1 h2 _ ih=>
   intro vs hv
   cases vs with
   | nil=>have:=hv.1;simp at this
   | cons v vs=>
     have h3:=ih (vs:=vs) ⟨by have:=hv.1;simpa using this,fun i a b ha hb=>hv.2 (i+1) a b (by simpa using ha) (by simpa using hb)⟩
     refine ⟨by have:=h3.1;simp [this],fun i a b ha hb=>?_⟩
     cases i with
     | zero=>
       simp at ha hb
       subst ha;subst hb
       exact Xv h2 (h _ _ _ _ _ (Xu h1 (hv.2 0 _ _ rfl rfl)))
     | succ i=>exact h3.2 i a b (by simpa using ha) (by simpa using hb)
theorem Ent.tup {a:AV} {l m:List AV} (h:a= .tup l) (hl:EntT l m):Ent a (.tup m):=h▸fun _ _ _ _ _ ⟨vs,hv,hh⟩=>⟨vs,hv,hl.all2 hh⟩
def Ah (P:Program) (X:Ctx) (ops l:List Oper) (σ:St) (K:List Eff→St→Prop):Prop:= ∃es σ',Run P X ops l σ es σ'∧K es σ'
theorem Ah.nil {P:Program} {X:Ctx} {ops:List Oper} {σ:St} {K:List Eff→St→Prop} (h:K [] σ):Ah P X ops [] σ K:=⟨[],σ,.nil,h⟩
theorem Ah.of {P:Program} {X:Ctx} {ops l l':List Oper} {σ σ':St} {e:Eff} {K:List Eff→St→Prop} (h: ∀es σ'',Run P X ops l σ' es σ''→Run P X ops l' σ (e::es) σ'') (hl:Ah P X ops l σ' (fun es σ'=>K (e::es) σ')):Ah P X ops l' σ K:=by
 obtain ⟨es,σ'',h1,h2⟩:=hl
 exact ⟨_,_,h _ _ h1,h2⟩
class Mq (P:Program) (t:TypeId) (e:outParam TypeId):Prop where
 ok:P.underlying t=some (.slice e)
section
variable {P:Program} {X:Ctx} {ops l:List Oper} {σ:St} {K:List Eff→St→Prop}
variable {dst:Option Tmp} {ty:TypeId} {pos:String} {af:Array Edge} {gd:Option (Nat×Bool)}
theorem WU {op:Op} {g:Nat} {want:Bool} (hg:ID ops σ.s g= .one (.v (.bool (!want)))) (hl:Ah P X ops l (σ.app dst FR) (fun es σ'=>K (FR::es) σ')):Ah P X ops (⟨dst,op,ty,pos,af,some (g,want)⟩::l) σ K:=
 .of (fun _ _ hl=>Ty hg hl) hl
theorem BR {o:Oper} {av:AV} (hg:gOk ops σ.s o.guard) (hd:dB X.n o.dst=true) (h:Dc P o σ.s av) (hl:Ah P X ops l (σ.app o.dst ⟨av,[],[],[]⟩) (fun es σ'=>K (⟨av,[],[],[]⟩::es) σ')):Ah P X ops (o::l) σ K:=
 .of (fun _ _ hl=>run_pure hg (Dd hd) h hl) hl
theorem WW {x:Operand} {av:AV} (hg:gOk ops σ.s gd) (hd:dB X.n dst=true) (hx:evC σ.s x=av) (hl:Ah P X ops l (σ.app dst ⟨av,[],[],[]⟩) (fun es σ'=>K (⟨av,[],[],[]⟩::es) σ')):
  Ah P X ops (⟨dst,.move x,ty,pos,af,gd⟩::l) σ K:=BR (o:=⟨dst,.move x,ty,pos,af,gd⟩) hg hd (RY hx) hl
theorem SO {x:Operand} {av:AV} (hg:gOk ops σ.s gd) (hd:dB X.n dst=true) (hx:evC σ.s x=av) (hl:Ah P X ops l (σ.app dst ⟨av,[],[],[]⟩) (fun es σ'=>K (⟨av,[],[],[]⟩::es) σ')):
  Ah P X ops (⟨dst,.assign x,ty,pos,af,gd⟩::l) σ K:=BR (o:=⟨dst,.assign x,ty,pos,af,gd⟩) hg hd (Nv hx) hl
theorem Vg {c x y:Operand} {av:AV} (hg:gOk ops σ.s gd) (hd:dB X.n dst=true) (hc:evC σ.s c= .one (.v (.bool true))) (hx:evC σ.s x=av) (hl:Ah P X ops l (σ.app dst ⟨av,[],[],[]⟩) (fun es σ'=>K (⟨av,[],[],[]⟩::es) σ')):
  Ah P X ops (⟨dst,.pick c x y,ty,pos,af,gd⟩::l) σ K:=BR (o:=⟨dst,.pick c x y,ty,pos,af,gd⟩) hg hd (Pg hc hx) hl
theorem Vh {c x y:Operand} {av:AV} (hg:gOk ops σ.s gd) (hd:dB X.n dst=true) (hc:evC σ.s c= .one (.v (.bool false))) (hx:evC σ.s y=av) (hl:Ah P X ops l (σ.app dst ⟨av,[],[],[]⟩) (fun es σ'=>K (⟨av,[],[],[]⟩::es) σ')):
  Ah P X ops (⟨dst,.pick c x y,ty,pos,af,gd⟩::l) σ K:=BR (o:=⟨dst,.pick c x y,ty,pos,af,gd⟩) hg hd (Ph hc hx) hl
theorem MF {t:TypeId} {x:Operand} {i fo:Nat} {agg:Bool} {n:Nat} [hF:Fld P t i fo agg n] {k off:Nat} (hg:gOk ops σ.s gd) (hd:dB X.n dst=true) (hx:evC σ.s x= .one (.ptr k off)) (hl:Ah P X ops l (σ.app dst ⟨.one (.ptr k (off+fo)),[],[],[]⟩) (fun es σ'=>K (⟨.one (.ptr k (off+fo)),[],[],[]⟩::es) σ')):
  Ah P X ops (⟨dst,.fieldAddr t x i,ty,pos,af,gd⟩::l) σ K:=BR (o:=⟨dst,.fieldAddr t x i,ty,pos,af,gd⟩) hg hd (JB (hF:=hF) hx) hl
theorem ME {t:TypeId} {x y:Operand} {len:Nat} {agg:Bool} {n:Nat} [hF:Ary P t len agg n] {k off:Nat} {ik:IntKind} {i:Int} (hg:gOk ops σ.s gd) (hd:dB X.n dst=true) (hx:evC σ.s x= .one (.ptr k off)) (hy:evC σ.s y= .one (.v (.int ik i))) (hc:(decide (0≤i)&&decide (i<len))=true) (hl:Ah P X ops l (σ.app dst ⟨.one (.ptr k (off+i.toNat*n)),[],[],[]⟩) (fun es σ'=>K (⟨.one (.ptr k (off+i.toNat*n)),[],[],[]⟩::es) σ')):
  Ah P X ops (⟨dst,.indexAddr t x y,ty,pos,af,gd⟩::l) σ K:=BR (o:=⟨dst,.indexAddr t x y,ty,pos,af,gd⟩) hg hd (JA (hF:=hF) hx hy hc) hl
theorem Vj {t:TypeId} {x:Operand} {i off:Nat} {agg:Bool} {n:Nat} [hF:Fld P t i off agg n] {cs:List C} (hg:gOk ops σ.s gd) (hd:dB X.n dst=true) (hx:evC σ.s x= .agg cs) (hc:(Nat.ble (off+n) cs.length&&(agg || Nat.beq n 1))=true) (hl:Ah P X ops l (σ.app dst ⟨mkA agg ((cs.drop off).take n),[],[],[]⟩) (fun es σ'=>K (⟨mkA agg ((cs.drop off).take n),[],[],[]⟩::es) σ')):
  Ah P X ops (⟨dst,.field t x i,ty,pos,af,gd⟩::l) σ K:=BR (o:=⟨dst,.field t x i,ty,pos,af,gd⟩) hg hd (Pk (hF:=hF) hx (Bool.and_eq_true _ _▸hc).1 (Bool.and_eq_true _ _▸hc).2 rfl) hl
theorem Vi {t:TypeId} {x y:Operand} {len:Nat} {agg:Bool} {n:Nat} [hF:Ary P t len agg n] {cs:List C} {k:IntKind} {i:Int} (hg:gOk ops σ.s gd) (hd:dB X.n dst=true) (hx:evC σ.s x= .agg cs) (hy:evC σ.s y= .one (.v (.int k i))) (hi:(decide (0≤i)&&decide (i<len))=true) (hc:(Nat.ble (i.toNat*n+n) cs.length&&(agg || Nat.beq n 1))=true) (hl:Ah P X ops l (σ.app dst ⟨mkA agg ((cs.drop (i.toNat*n)).take n),[],[],[]⟩) (fun es σ'=>K (⟨mkA agg ((cs.drop (i.toNat*n)).take n),[],[],[]⟩::es) σ')):
  Ah P X ops (⟨dst,.index t x y,ty,pos,af,gd⟩::l) σ K:=BR (o:=⟨dst,.index t x y,ty,pos,af,gd⟩) hg hd (Pj (hF:=hF) hx hy hi (Bool.and_eq_true _ _▸hc).1 (Bool.and_eq_true _ _▸hc).2 rfl) hl
theorem SM {t:TypeId} {parts:Array (Nat×Operand)} {z:Value} {pl:List (Nat×Nat)} [hZ:Zer P t z] [hB:PS P t pl] {ps:List (Nat×AV)} {cs:List C} (hg:gOk ops σ.s gd) (hd:dB X.n dst=true) (hx:parts.toList.map (fun p=>(p.1,evC σ.s p.2))=ps) (hy:(ps.all fun p=>(At p.2).all nlB)=true) (hc:Dk (pl[·]?) (z.cells.toList.map .v) ps=some cs) (hl:Ah P X ops l (σ.app dst ⟨.agg cs,[],[],[]⟩) (fun es σ'=>K (⟨.agg cs,[],[],[]⟩::es) σ')):
  Ah P X ops (⟨dst,.build t parts,ty,pos,af,gd⟩::l) σ K:=BR (o:=⟨dst,.build t parts,ty,pos,af,gd⟩) hg hd (Nt (hZ:=hZ) (hB:=hB) hx hy hc) hl
theorem SN {t:TypeId} {parts:Array (Nat×Operand)} {z:Value} {n:Nat} [hZ:Zer P t z] [hB:XD P t n] {ps:List (Nat×AV)} {cs:List C} (hg:gOk ops σ.s gd) (hd:dB X.n dst=true) (hx:parts.toList.map (fun p=>(p.1,evC σ.s p.2))=ps) (hy:(ps.all fun p=>(At p.2).all nlB)=true) (hc:Dk (fun i=>some (i*n,n)) (z.cells.toList.map .v) ps=some cs) (hl:Ah P X ops l (σ.app dst ⟨.agg cs,[],[],[]⟩) (fun es σ'=>K (⟨.agg cs,[],[],[]⟩::es) σ')):
  Ah P X ops (⟨dst,.build t parts,ty,pos,af,gd⟩::l) σ K:=BR (o:=⟨dst,.build t parts,ty,pos,af,gd⟩) hg hd (Nu (hZ:=hZ) (hB:=hB) hx hy hc) hl
theorem XK {op:BinOp} {t u:TypeId} {x y:Operand} {k:IntKind} {a b:Int} {v:Value} (hg:gOk ops σ.s gd) (hd:dB X.n dst=true) (hx:evC σ.s x= .one (.v (.int k a))) (hy:evC σ.s y= .one (.v (.int k b))) (hc:Gl op k a b=some v) (hl:Ah P X ops l (σ.app dst ⟨.one (.v v),[],[],[]⟩) (fun es σ'=>K (⟨.one (.v v),[],[],[]⟩::es) σ')):
  Ah P X ops (⟨dst,.binOp op t x y u,ty,pos,af,gd⟩::l) σ K:=BR (o:=⟨dst,.binOp op t x y u,ty,pos,af,gd⟩) hg hd (TU hx hy hc) hl
theorem SK {t u:TypeId} {x y:Operand} {a b:Bool} [hT:Q4 P t] (hg:gOk ops σ.s gd) (hd:dB X.n dst=true) (hx:evC σ.s x= .one (.v (.bool a))) (hy:evC σ.s y= .one (.v (.bool b))) (hl:Ah P X ops l (σ.app dst ⟨.one (.v (.bool (a==b))),[],[],[]⟩) (fun es σ'=>K (⟨.one (.v (.bool (a==b))),[],[],[]⟩::es) σ')):
  Ah P X ops (⟨dst,.binOp .eql t x y u,ty,pos,af,gd⟩::l) σ K:=BR (o:=⟨dst,.binOp .eql t x y u,ty,pos,af,gd⟩) hg hd (Ns (h1:=hT) hx hy) hl
theorem XF {t:TypeId} {x:Operand} {b:Bool} (hg:gOk ops σ.s gd) (hd:dB X.n dst=true) (hx:evC σ.s x= .one (.v (.bool b))) (hl:Ah P X ops l (σ.app dst ⟨.one (.v (.bool (!b))),[],[],[]⟩) (fun es σ'=>K (⟨.one (.v (.bool (!b))),[],[],[]⟩::es) σ')):
  Ah P X ops (⟨dst,.unOp .not t x,ty,pos,af,gd⟩::l) σ K:=BR (o:=⟨dst,.unOp .not t x,ty,pos,af,gd⟩) hg hd (TP hx) hl
theorem Q8 {x:Operand} {i:Nat} {as:List AV} {a:AV} (hg:gOk ops σ.s gd) (hd:dB X.n dst=true) (hx:evC σ.s x= .tup as) (hc:as[i]?=some a) (hl:Ah P X ops l (σ.app dst ⟨a,[],[],[]⟩) (fun es σ'=>K (⟨a,[],[],[]⟩::es) σ')):
  Ah P X ops (⟨dst,.extract x i,ty,pos,af,gd⟩::l) σ K:=BR (o:=⟨dst,.extract x i,ty,pos,af,gd⟩) hg hd (LT hx hc) hl
theorem Ox {x:Operand} {k off:Nat} (hg:gOk ops σ.s gd) (hd:dB X.n dst=true) (hx:evC σ.s x= .one (.ptr k off)) (hl:Ah P X ops l (σ.app dst ⟨.one (.ptr k off),[],[],[]⟩) (fun es σ'=>K (⟨.one (.ptr k off),[],[],[]⟩::es) σ')):
  Ah P X ops (⟨dst,.nilCheck x,ty,pos,af,gd⟩::l) σ K:=BR (o:=⟨dst,.nilCheck x,ty,pos,af,gd⟩) hg hd (Kq hx) hl
theorem Lq {x:Operand} {f:FuncId} {caps:List (Nat×Nat)} (hg:gOk ops σ.s gd) (hd:dB X.n dst=true) (hx:evC σ.s x= .one (.fn f caps)) (hl:Ah P X ops l (σ.app dst ⟨.one (.fn f caps),[],[],[]⟩) (fun es σ'=>K (⟨.one (.fn f caps),[],[],[]⟩::es) σ')):
  Ah P X ops (⟨dst,.nilCheck x,ty,pos,af,gd⟩::l) σ K:=BR (o:=⟨dst,.nilCheck x,ty,pos,af,gd⟩) hg hd (IL hx) hl
theorem Q9 {t u:TypeId} {x:Operand} {k k':IntKind} {n m:Int} [hT:Mr P t k] [hU:Mr P u k'] (hg:gOk ops σ.s gd) (hd:dB X.n dst=true) (hx:evC σ.s x= .one (.v (.int k n))) (hc:k'.wrap n=m) (hl:Ah P X ops l (σ.app dst ⟨.one (.v (.int k' m)),[],[],[]⟩) (fun es σ'=>K (⟨.one (.v (.int k' m)),[],[],[]⟩::es) σ')):
  Ah P X ops (⟨dst,.convert t u x,ty,pos,af,gd⟩::l) σ K:=by
 subst hc
 exact BR (o:=⟨dst,.convert t u x,ty,pos,af,gd⟩) hg hd (LV (h1:=hT) (h2:=hU) hx) hl
theorem WV {t:TypeId} {x:Operand} {k:IntKind} {n m:Int} (hg:gOk ops σ.s gd) (hd:dB X.n dst=true) (hx:evC σ.s x= .one (.v (.int k n))) (hc:k.wrap (0-n)=m) (hl:Ah P X ops l (σ.app dst ⟨.one (.v (.int k m)),[],[],[]⟩) (fun es σ'=>K (⟨.one (.v (.int k m)),[],[],[]⟩::es) σ')):
  Ah P X ops (⟨dst,.unOp .neg t x,ty,pos,af,gd⟩::l) σ K:=by
 subst hc
 exact BR (o:=⟨dst,.unOp .neg t x,ty,pos,af,gd⟩) hg hd (TQ hx) hl
theorem Oy {f:FuncId} {capt:Array Operand} {caps:List (Nat×Nat)} (hg:gOk ops σ.s gd) (hd:dB X.n dst=true) (hx:capt.toList.map (evC σ.s)=caps.map fun p=> .one (.ptr p.1 p.2)) (hl:Ah P X ops l (σ.app dst ⟨.one (.fn f caps),[],[],[]⟩) (fun es σ'=>K (⟨.one (.fn f caps),[],[],[]⟩::es) σ')):
  Ah P X ops (⟨dst,.makeFunc (.func f) #[] capt,ty,pos,af,gd⟩::l) σ K:=BR (o:=⟨dst,.makeFunc (.func f) #[] capt,ty,pos,af,gd⟩) hg hd (Kr hx) hl
theorem XI {t e:TypeId} {x:Operand} {ls:List Int} [hT:Mq P t e] (hg:gOk ops σ.s gd) (hd:dB X.n dst=true) (hx:evC σ.s x= .one (.ints ls)) (hl:Ah P X ops l (σ.app dst ⟨.one (.v (.int .i64 ls.length)),[],[],[]⟩) (fun es σ'=>K (⟨.one (.v (.int .i64 ls.length)),[],[],[]⟩::es) σ')):
  Ah P X ops (⟨dst,.call ⟨.builtin .len,#[x],#[t]⟩,ty,pos,af,gd⟩::l) σ K:=BR (o:=⟨dst,.call ⟨.builtin .len,#[x],#[t]⟩,ty,pos,af,gd⟩) hg hd (TT ⟨e,hT.ok⟩ hx) hl
theorem MC {t e:TypeId} {x y:Operand} {ls:List Int} {i n:Int} [hT:Mq P t e] [hE:Tsz P e false 1] (hg:gOk ops σ.s gd) (hd:dB X.n dst=true) (hx:evC σ.s x= .one (.ints ls)) (hy:evC σ.s y= .one (.v (.int .i64 i))) (hi:0≤i) (hc:ls[i.toNat]?=some n) (hl:Ah P X ops l (σ.app dst ⟨.one (.iptr n),[],[],[]⟩) (fun es σ'=>K (⟨.one (.iptr n),[],[],[]⟩::es) σ')):
  Ah P X ops (⟨dst,.indexAddr t x y,ty,pos,af,gd⟩::l) σ K:=BR (o:=⟨dst,.indexAddr t x y,ty,pos,af,gd⟩) hg hd (Jz ⟨e,hT.ok,hE⟩ hx hy hi hc) hl
theorem WX {t:TypeId} {x:Operand} {agg:Bool} {n:Nat} [hT:Tsz P t agg n] {k off:Nat} (hg:gOk ops σ.s gd) (hd:dB X.n dst=true) (hx:evC σ.s x= .one (.ptr k off)) (hz:(Nat.ble (off+n) (σ.sz k)&&Nat.blt 0 n&&(agg || Nat.beq n 1))=true)
  (hl:Ah P X ops l (σ.app dst ⟨mkA agg (rdL (σ.m k) off n),[(k,off,rdL (σ.m k) off n)],[],[]⟩) (fun es σ'=>K (⟨mkA agg (rdL (σ.m k) off n),[(k,off,rdL (σ.m k) off n)],[],[]⟩::es) σ')):
  Ah P X ops (⟨dst,.load t x,ty,pos,af,gd⟩::l) σ K:=by
 simp only [Bool.and_eq_true] at hz
 exact .of (fun _ _ hl=>Nb hg (Dd hd) hx hz.1.1 hz.1.2 hz.2 hl) hl
theorem Vf {t:TypeId} {x y:Operand} {agg:Bool} {n:Nat} [hT:Tsz P t agg n] {k off:Nat} {av:AV} (hg:gOk ops σ.s gd) (hd:dB X.n dst=true) (hx:evC σ.s x= .one (.ptr k off)) (hy:evC σ.s y=av) (hc:(Nat.beq (At av).length n&&(Dg av || Nat.beq n 1)&&Nat.ble (off+n) (σ.sz k)&&Nat.blt 0 n&&(At av).all nlB)=true)
  (hl:Ah P X ops l (σ.app dst ⟨.junk,[],[(k,off,At av)],[]⟩) (fun es σ'=>K (⟨.junk,[],[(k,off,At av)],[]⟩::es) σ')):
  Ah P X ops (⟨dst,.store t x y,ty,pos,af,gd⟩::l) σ K:=by
 simp only [Bool.and_eq_true] at hc
 exact .of (fun _ _ hl=>Js hg (Dd hd) hx hy hc.1.1.1.1 hc.1.1.1.2 hc.1.1.2 hc.1.2 hc.2 hl) hl
theorem Vn {d:Nat} {t:TypeId} {zv:Value} [hZ:Zer P t zv] (hg:gOk ops σ.s gd) (hd:dB X.n (some d)=true) (hf:(Nat.beq (σ.sz d) 0&&!zv.cells.toList.isEmpty)=true)
  (hl:Ah P X ops l (σ.app (some d) ⟨.one (.ptr d 0),[],[],[(d,zv.cells.toList.map .v)]⟩) (fun es σ'=>K (⟨.one (.ptr d 0),[],[],[(d,zv.cells.toList.map .v)]⟩::es) σ')):
  Ah P X ops (⟨some d,.alloc t,ty,pos,af,gd⟩::l) σ K:=by
 simp only [Bool.and_eq_true,Bool.not_eq_true'] at hf
 exact .of (fun _ _ hl=>RD d hg (Dd hd) hf.1 hf.2 hl) hl
theorem XJ {d:Nat} {t:TypeId} {x:Operand} {av:AV} (hg:gOk ops σ.s gd) (hd:dB X.n (some d)=true) (hx:evC σ.s x=av) (hc:((Dg av || Nat.beq (At av).length 1)&&(At av).all nlB&&Nat.beq (σ.sz d) 0&&!(At av).isEmpty)=true)
  (hl:Ah P X ops l (σ.app (some d) ⟨.one (.ptr d 0),[],[],[(d,At av)]⟩) (fun es σ'=>K (⟨.one (.ptr d 0),[],[],[(d,At av)]⟩::es) σ')):
  Ah P X ops (⟨some d,.box t x,ty,pos,af,gd⟩::l) σ K:=by
 simp only [Bool.and_eq_true,Bool.not_eq_true'] at hc
 exact .of (fun _ _ hl=>VF d hg (Dd hd) hx hc.1.1.1 hc.1.1.2 hc.1.2 hc.2 hl) hl
theorem Q7 {t:TypeId} {x:Operand} [hT:Tsz P t false 1] {n:Int} (hg:gOk ops σ.s gd) (hd:dB X.n dst=true) (hx:evC σ.s x= .one (.iptr n)) (hl:Ah P X ops l (σ.app dst ⟨.one (.v (.int .i64 n)),[],[],[]⟩) (fun es σ'=>K (⟨.one (.v (.int .i64 n)),[],[],[]⟩::es) σ')):
  Ah P X ops (⟨dst,.load t x,ty,pos,af,gd⟩::l) σ K:= .of (fun _ _ hl=>LG hg (Dd hd) hx hl) hl
theorem SL {A:World→Prop} [MonoA A] (hA:A X.W0) {c:Call} {f:FuncId} [hF:Fun P f] {as:List AV} {R:AV} (hg:gOk ops σ.s gd) (hd:dB X.n dst=true) (hcl:BA σ.s c.callee=some (f,[])) (has:Ents (c.args.toList.map (evC σ.s)) as) (hc:Ctr P A f as R)
  (hl:Ah P X ops l (σ.app dst ⟨R,[],[],[]⟩) (fun es σ'=>K (⟨R,[],[],[]⟩::es) σ')):Ah P X ops (⟨dst,.call c,ty,pos,af,gd⟩::l) σ K:=by
 have hc':BJ P A f (c.args.toList.map (evC σ.s)) (([]:List (Nat×List C)).map (fun p=>(p.1,p.2,p.2))++ []) R:=BJ.weak hc has Ent.same
 have hS:=MZ (X:=X) (dst:=dst) (ty:=ty) (pos:=pos) (af:=af) (gd:=gd) (s:=σ.s) (z:=σ.sz) hA (c:=c) (caps:= []) (ro:= []) (rw:= []) (R:=R) (Dd hd) hcl rfl (by rw [List.append_nil];exact hc') rfl rfl (by simp) rfl
 exact .of (fun _ _ hl=>Run.step hg hS (fun p hp=>by cases hp) Ct hl) hl
theorem Vl {A:World→Prop} [MonoA A] (hA:A X.W0) {c:Call} {f:FuncId} [hF:Fun P f] {as caps:List AV} {ro:List (Nat×List C)} {rw:List (Nat×List C×List C)} {R:AV} (hg:gOk ops σ.s gd) (hd:dB X.n dst=true) (hcl:BA σ.s c.callee=some (f,caps))
  (has:Ents (c.args.toList.map (evC σ.s)++caps) as) (hc:BJ P A f as (ro.map (fun p=>(p.1,p.2,p.2))++rw) R)
  (hro: ∀p∈ro,rdL (σ.m p.1) 0 p.2.length=p.2) (hrw: ∀p∈rw,rdL (σ.m p.1) 0 p.2.1.length=p.2.1)
  (hb:(ro.all (fun p=>EH σ.sz p.2.length p)&&rw.all (fun p=>EH σ.sz p.2.2.length (p.1,p.2.1))&&((ro.map (·.1)++rw.map (·.1)).all fun k=>(c.args.toList.map (evC σ.s)++caps).any (KY k)))=true) (hnd:(ro.map (·.1)++rw.map (·.1)).Nodup)
  (hl:Ah P X ops l (σ.app dst ⟨R,ro.map (fun p=>(p.1,0,p.2))++rw.map (fun p=>(p.1,0,p.2.1)),rw.map (fun p=>(p.1,0,p.2.2)),[]⟩) (fun es σ'=>K (⟨R,ro.map (fun p=>(p.1,0,p.2))++rw.map (fun p=>(p.1,0,p.2.1)),rw.map (fun p=>(p.1,0,p.2.2)),[]⟩::es) σ')):
  Ah P X ops (⟨dst,.call c,ty,pos,af,gd⟩::l) σ K:=by
 simp only [Bool.and_eq_true] at hb
 have hc':BJ P A f (c.args.toList.map (evC σ.s)++caps) (ro.map (fun p=>(p.1,p.2,p.2))++rw) R:=BJ.weak hc has Ent.same
 have hS:=MZ (X:=X) (dst:=dst) (ty:=ty) (pos:=pos) (af:=af) (gd:=gd) (s:=σ.s) (z:=σ.sz) hA (c:=c) (caps:=caps) (ro:=ro) (rw:=rw) (R:=R) (Dd hd) hcl rfl hc' hb.1.1 hb.1.2 hnd hb.2
 refine .of (fun _ _ hl=>Run.step hg hS (fun p hp i c' hi=>?_) Ct hl) hl
 have key: ∀(k:Nat) (cs:List C),rdL (σ.m k) 0 cs.length=cs→cs[i]?=some c'→σ.m k (0+i)=c':=fun k cs h hi=>by
  have hlt:=(List.getElem?_eq_some_iff.1 hi).1
  have h2:=DB (σ.m k) cs.length 0 i hlt
  rw [h,hi] at h2
  exact (Option.some.inj h2).symm
 rcases List.mem_append.1 hp with h|h
 ·obtain ⟨q,hq,rfl⟩:=List.mem_map.1 h
  exact key q.1 q.2 (hro q hq) hi
 ·obtain ⟨q,hq,rfl⟩:=List.mem_map.1 h
  exact key q.1 q.2.1 (hrw q hq) hi
end
theorem AQ {P:Program} {X:Ctx} {σ:St} {Q:Exit→St→Prop} {id:Nat} {l:List Oper} (hn:(l.all fun o=>match o.dst with|some t=>Nat.blt t X.n|none=>true)=true) (hr:Ah P X l l σ fun _ σ'=>Q .normal σ'):Aw P X (.region id l.toArray false) σ Q:=by
 obtain ⟨es,σ',h1,h2⟩:=hr
 exact Oi hn h1 h2
theorem BO {P:Program} {X:Ctx} {σ:St} {Q:Exit→St→Prop} {id:Nat} {l:List Oper} (hm:P.follows .mixedOrders=true) (hd:N9 l=true) (hn:(l.all fun o=>match o.dst with|some t=>Nat.blt t X.n|none=>true)=true) (hr:Ah P X l l σ fun es σ'=>chk l es=true∧Q .normal σ'):Aw P X (.region id l.toArray true) σ Q:=by
 obtain ⟨es,σ',h1,h2,h3⟩:=hr
 exact QP hm hd hn h1 h2 h3
theorem Aj {P:Program} {A:World→Prop} {f:FuncId} {fn:Func} {c:Code} {args:List AV} {bs:List (Nat×List C×List C)} {R:AV} {n:Nat} {rs:List ResultVar} (hf:P.funcs[f]?=some fn) (hb:fn.body=some c) (hn:fn.ntmps=n) (hrs:fn.results=rs.toArray) (hle:Nat.ble args.length n=true)
  (hpf:(pf R&&bs.all fun p=>p.2.1.all pfC&&p.2.2.all pfC)=true) (hin:(args.all fun a=>inA (bs.map (·.1)) a)=true)
  (h: ∀(W0 base:World) (D:Nat→Prop) (μ0:Nat→Nat×Nat),A W0→(∀g,D g→ ∃k∈bs.map (·.1),g=(μ0 k).1)→Aw P ⟨W0,base,D,n,bs.map (·.1),μ0⟩ c (stL (GF 0 args) (bs.map fun p=>(p.1,p.2.1))) (fun e σ=>(e= .normal∨e= .ret)∧Fin P rs bs R σ)):BJ P A f args bs R:=by
 subst hn
 refine Sq hf hb hle hpf hin fun X hA h1 h2 h3=>?_
 obtain ⟨W0,base,D,n',ps,μ0⟩:=X
 subst h1
 subst h2
 rw [hrs]
 exact h W0 base D μ0 hA h3
theorem CV {P:Program} {A:World→Prop} {f:FuncId} {fn:Func} {c:Code} {args:List AV} {bs:List (Nat×List C×List C)} {ns:List (Nat×List C)} {R:AV} {n:Nat} {rs:List ResultVar} (hf:P.funcs[f]?=some fn) (hb:fn.body=some c) (hn:fn.ntmps=n) (hrs:fn.results=rs.toArray) (hle:Nat.ble args.length n=true)
  (hout:(inA (bs.map (·.1)++ns.map (·.1)) R&&bs.all (fun p=>p.2.1.all (inC (bs.map (·.1)))&&p.2.2.all (inC (bs.map (·.1)++ns.map (·.1))))&&ns.all fun q=>q.2.all (inC (bs.map (·.1)++ns.map (·.1)))&&!q.2.isEmpty)=true) (hin:(args.all fun a=>inA (bs.map (·.1)) a)=true) (hnd2:(ns.map (·.1)).Nodup) (hdis: ∀p∈bs,∀q∈ns,q.1≠p.1)
  (h: ∀(W0 base:World) (D:Nat→Prop) (μ0:Nat→Nat×Nat),A W0→(∀g,D g→ ∃k∈bs.map (·.1),g=(μ0 k).1)→Aw P ⟨W0,base,D,n,bs.map (·.1),μ0⟩ c (stL (GF 0 args) (bs.map fun p=>(p.1,p.2.1))) (fun e σ=>(e= .normal∨e= .ret)∧Fin P rs bs R σ∧U6 ns σ)):C7 P A f args bs ns R:=by
 subst hn
 refine J6 hf hb hle hout hin hnd2 hdis fun X hA h1 h2 h3=>?_
 obtain ⟨W0,base,D,n',ps,μ0⟩:=X
 subst h1
 subst h2
 rw [hrs]
 exact h W0 base D μ0 hA h3
theorem V3 {P:Program} {r:ResultVar} {R a:AV} {σ:St} (h:ResIs P σ r a) (hE:Ent a R):Fin P [r] [] R σ:=⟨⟨[a],.cons h .nil,.inl rfl,hE⟩,fun p hp=>by cases hp⟩
theorem QC {P:Program} {r1 r2:ResultVar} {R a b:AV} {σ:St} (h1:ResIs P σ r1 a) (h2:ResIs P σ r2 b) (ha:([a,b].all fun a=>match a with | .tup _=>false|_=>true)=true) (hE:Ent (.tup [a,b]) R):Fin P [r1,r2] [] R σ:=
 ⟨⟨[a,b],.cons h1 (.cons h2 .nil),.inr ha,hE⟩,fun p hp=>by cases hp⟩
end Go.Proofs.YtfineedhebhpaaaGreatDoor
