/-
  Several texts in one: Eo, Ep, Eq, Er, Et, Eu.
-/
import Derived.Test.YtgdlialkjiblpaaGreatDoorEw
import Derived.Deep.AppendSrc
import Derived.Great.BuildSlice
import Derived.Laws.MakeOwn
namespace Go.Proofs.YtgdlialkjiblpaaGreatDoor
open Go.RowKit
set_option linter.unusedVariables false
set_option linter.unusedSimpArgs false
class Sle (P:Program) (t:TypeId) (e:outParam TypeId) (agg:outParam Bool) (n bytes:outParam Nat) (z:outParam Value):Prop where
 hu:P.underlying t=some (.slice e)
 hT:tszB P e agg n=true
 hi:(P.info? e).map (fun i=>(i.size,i.bytes))=some (n,bytes)
 hz:((P.info? e).bind (·.zero))=some z
 ok:(Nat.blt 0 n&&Nat.beq z.cells.size n&&z.cells.toList.all noLB)=true
section
variable {P:Program} {t e:TypeId} {agg:Bool} {n bytes:Nat} {z:Value}
theorem Sle.info (S:Sle P t e agg n bytes z): ∃i,P.info? e=some i∧i.zero=some z∧i.size=n∧i.bytes=bytes:=by
 have h1:=S.hi
 have h2:=S.hz
 cases h:P.info? e with
 | none=>rw [h] at h1;cases h1
 | some i=>
   rw [h] at h1 h2
   simp at h1 h2
   exact ⟨i,rfl,h2,h1.1,h1.2⟩
theorem Sle.pos (S:Sle P t e agg n bytes z):0<n:=by
 have:=S.ok
 simp only [Bool.and_eq_true] at this
 simpa using this.1.1
theorem Sle.size (S:Sle P t e agg n bytes z):z.cells.size=n:=by
 have:=S.ok
 simp only [Bool.and_eq_true] at this
 exact Nat.eq_of_beq_eq_true this.1.2
theorem Sle.nl (S:Sle P t e agg n bytes z):z.cells.toList.all noLB=true:=by
 have:=S.ok
 simp only [Bool.and_eq_true] at this
 exact this.2
end
theorem ddL_of {W0 w:World} {b:Nat} : ∀ {ds:List D} {off:Nat},(∀(i:Nat) d,ds[i]?=some d→ ∃v,W0.cell? ⟨b,off+i,none⟩=some v∧noL v∧dd W0 w v d)→ddL W0 w b off ds
 | [],_,_=>by unfold ddL;trivial
 | d::ds,off,h=>by
   unfold ddL
   refine ⟨h 0 d rfl,ddL_of fun i d' hi=>?_⟩
   have:=h (i+1) d' (by simpa using hi)
   rw [show off+1+i=off+(i+1) by omega]
   exact this
theorem cc_toC {W0:World} {μ:Nat→Nat×Nat} {sz:Nat→Nat} {w:World} {x:Value} {d:D} :cc W0 μ sz w x (toC d)↔dd W0 w x d:=by
 cases d with
 | v y=>unfold toC dd;exact Iff.rfl
 | q r j i=>
   unfold dd
   match i with
   | 0=>exact Iff.rfl
   | 1=>exact Iff.rfl
   | _+2=>exact Iff.rfl
 | lst es n cs=>exact Iff.rfl
abbrev lsG {α:Type} (es:Nat) (f:α→List D) (l:List α):C:= .ls es l.length (l.flatMap f)
theorem flat_len {α:Type} {es:Nat} {f:α→List D} (hf: ∀a,(f a).length=es): ∀(l:List α),(l.flatMap f).length=l.length*es
 | []=>by simp
 | a::l=>by rw [List.flatMap_cons,List.length_append,hf,flat_len hf l,List.length_cons,Nat.add_mul];omega
theorem flat_drop {α:Type} {es:Nat} {f:α→List D} (hf: ∀a,(f a).length=es): ∀(l:List α) (i:Nat),(l.flatMap f).drop (i*es)=(l.drop i).flatMap f
 | l,0=>by simp
 | [],i+1=>by simp
 | a::l,i+1=>by
   rw [List.flatMap_cons,List.drop_succ_cons,←flat_drop hf l i,show (i+1)*es=(f a).length+i*es by rw [hf,Nat.add_mul];omega,List.drop_append]
   simp
theorem flat_at {α:Type} {es:Nat} {f:α→List D} (hf: ∀a,(f a).length=es) {l:List α} {i:Nat} {a:α} (h:l[i]?=some a):((l.flatMap f).drop (i*es)).take es=f a:=by
 rw [flat_drop hf]
 obtain ⟨hi,he⟩:=List.getElem?_eq_some_iff.1 h
 rw [List.drop_eq_getElem_cons hi,List.flatMap_cons,he,List.take_append,hf]
 have:(f a).length=es:=hf a
 simp [←this]
section
variable {P:Program} {X:Ctx} {ops l:List Oper} {σ:St} {K:List Eff→St→Prop} {s:Nat→AV} {z:Nat→Nat}
variable {dst:Option Tmp} {ty:TypeId} {pos:String} {af:Array Edge} {gd:Option (Nat×Bool)}
end
end Go.Proofs.YtgdlialkjiblpaaGreatDoor
namespace Go.Proofs.YtgdlialkjiblpaaGreatDoor
open Go.RowKit
set_option linter.unusedVariables false
set_option linter.unusedSimpArgs false
def frz (W:World) (g:Nat) (o:Obj):World:= { W with heap:=(W.heap++Array.replicate (g+1-W.heap.size) (Obj.cells #[] 0 (0,0))).setIfInBounds g o }
theorem frz_at (W:World) (g:Nat) (o:Obj):(frz W g o).heap[g]?=some o:=by
 have h:g<(W.heap++Array.replicate (g+1-W.heap.size) (Obj.cells #[] 0 (0,0))).size:=by simp;omega
 show ((W.heap++_).setIfInBounds g o)[g]?=_
 rw [Array.getElem?_setIfInBounds_self,if_pos h]
theorem frz_ne (W:World) {g g':Nat} (o:Obj) (h:g'≠g) (hl:g'<W.heap.size):(frz W g o).heap[g']?=W.heap[g']?:=by
 show ((W.heap++_).setIfInBounds g o)[g']?=_
 rw [Array.getElem?_setIfInBounds_ne (Ne.symm h),Array.getElem?_append_left hl]
theorem frz_alive {W:World} {g g':Nat} {o:Obj} (h:alive (frz W g o) g'):g'=g∨alive W g':=by
 by_cases hg:g'=g
 ·exact .inl hg
 ·obtain ⟨c,e,fz,h1,h2⟩:=h
  by_cases hl:g'<W.heap.size
  ·rw [frz_ne W o hg hl] at h1
   exact .inr ⟨c,e,fz,h1,h2⟩
  ·exfalso
   replace h1:((W.heap++Array.replicate (g+1-W.heap.size) (Obj.cells #[] 0 (0,0))).setIfInBounds g o)[g']?=some (.cells c e fz):=h1
   rw [Array.getElem?_setIfInBounds_ne (Ne.symm hg),Array.getElem?_append_right (by omega)] at h1
   have h3:=(Array.getElem?_eq_some_iff.1 h1).1
   rw [Array.getElem?_eq_getElem h3,Array.getElem_replicate] at h1
   cases h1
   exact h2 rfl
theorem frz_ext {W:World} {g:Nat} (o:Obj) (h: ¬alive W g):Ext W (frz W g o):=fun g' hg=>frz_ne W o (fun e=>h (e▸hg)) (alive_lt hg)
inductive FzC (σ:St) (k:Nat):C→C→Prop
 | ent {c d:C} (h:EntC c d):FzC σ k c d
 | gl {len es:Nat} {ds:List D} (hl:ds.length=len*es) (hz:len*es≤σ.sz k) (hd: ∀(i:Nat) d,ds[i]?=some d→EntC (σ.m k i) (toC d)):FzC σ k (.gl k len es) (.ls es len ds)
inductive FzA (σ:St) (k:Nat):AV→AV→Prop
 | ent {a b:AV} (h:Ent a b):FzA σ k a b
 | one {c d:C} (h:FzC σ k c d):FzA σ k (.one c) (.one d)
 | agg {l m:List C} (h:l.length=m.length) (hh: ∀(i:Nat) c d,l[i]?=some c→m[i]?=some d→FzC σ k c d):FzA σ k (.agg l) (.agg m)
structure Fk (X:Ctx) (σ:St) (k:Nat) (ss:List (Nat×AV)) (bs:List (Nat×List C)):Prop where
 slot: ∀p∈ss,FzA σ k (σ.s p.1) p.2
 blk: ∀p∈bs,σ.sz p.1=p.2.length∧ ∀(i:Nat) c,p.2[i]?=some c→FzC σ k (σ.m p.1 i) c∧nl c
 ins:(ss.all fun p=>inA (bs.map (·.1)) p.2)=true
 inb:(bs.all fun p=>p.2.all (inC (bs.map (·.1))))=true
 nd:(bs.map (·.1)).Nodup
 ps:(X.ps.all fun k=>(bs.map (·.1)).any (Nat.beq k))=true
 out:k∉X.ps
 kb:(bs.all fun p=>!Nat.beq p.1 k)=true
theorem Fk.c0 {X:Ctx} {σ:St} {k:Nat} {ss:List (Nat×AV)} {bs:List (Nat×List C)} (h:Fk X σ k ss bs) (hD: ∀g,X.D g→ ∃k∈X.ps,g=(X.μ0 k).1) {a:Act} {w:World} (hc:C0 X σ a w):CN X (stL ss bs) a w:=by
 obtain ⟨μ,hc⟩:=hc
 obtain ⟨W,hE,hF,hG,hcell⟩: ∃W,Ext X.W0 W∧Fr W w∧(∀g,alive W g→alive X.W0 g∨(σ.sz k≠0∧g=(μ k).1))∧(σ.sz k≠0→ ∀(o:Nat) v,w.cell? ⟨(μ k).1,o,none⟩=some v→W.cell? ⟨(μ k).1,o,none⟩=some v):=by
  by_cases hk:σ.sz k=0
  ·exact ⟨X.W0,.refl _,hc.w0,fun g h=> .inl h,fun h=>absurd hk h⟩
  ·obtain ⟨cs,e,b1,b2,b3,b4⟩:=hc.blk k hk
   refine ⟨frz X.W0 (μ k).1 (.cells cs e (0,0)),frz_ext _ (hc.own k hk).1,fun g hg=>?_,fun g hg=>?_,fun _ o v hv=>?_⟩
   ·rcases frz_alive hg with rfl | h1
    ·rw [frz_at,b1]
    ·by_cases hgk:g=(μ k).1
     ·subst hgk;exact absurd h1 (hc.own k hk).1
     ·rw [hc.w0 g h1,frz_ne _ _ hgk (alive_lt h1)]
   ·rcases frz_alive hg with rfl | h1
    ·exact .inr ⟨hk,rfl⟩
    ·exact .inl h1
   ·rw [World.cell?_of_block (w:=w) (by rw [frz_at,b1])]
    exact hv
 have fc: ∀ {x:Value} {c d:C},FzC σ k c d→cc X.W0 μ σ.sz w x c→cc W μ σ.sz w x d:=fun {x c d} hf hx=>by
  cases hf with
  | ent h=>exact (h _ _ _ _ _ hx).mono (.refl _) (fun i hi=>⟨rfl,hi⟩) hE
  | gl hl hz hd=>
    rename_i len es ds
    obtain ⟨ao,cp,rfl,h2,_,h4⟩:=hx
    unfold cc dd
    refine ⟨hl,ao,cp,rfl,h2,fun hne=>?_⟩
    have hp:=List.length_pos_iff.2 hne
    obtain ⟨rfl,_,h6⟩:=h4 (fun h0=>by rw [h0] at hl;simp at hl;exact hne hl)
    refine ⟨(μ k).1,0,rfl,ddL_of fun i d hi=>?_⟩
    obtain ⟨cs,e,b1,b2,b3,b4⟩:=hc.blk k h6
    have hi':=(List.getElem?_eq_some_iff.1 hi).1
    have hic:i<cs.size:=by omega
    obtain ⟨v1,v2⟩:=b4 i _ (Array.getElem?_eq_getElem hic)
    obtain ⟨v3,v4⟩:=v2 (by omega)
    rw [Nat.zero_add]
    refine ⟨cs[i],hcell h6 i _ ?_,v1,?_⟩
    ·rw [cell_of_row w _ _ cs e (0,0) b1];exact Array.getElem?_eq_getElem hic
    ·exact cc_toC.1 ((hd i d hi _ _ _ _ _ v3).mono (.refl _) (fun i hi=>⟨rfl,hi⟩) hE)
 have fa: ∀ {x:Value} {c d:AV},FzA σ k c d→cv X.W0 μ σ.sz w x c→cv W μ σ.sz w x d:=fun {x c d} hf hx=>by
  cases hf with
  | ent h=>exact (h _ _ _ _ _ hx).mono (.refl _) (fun i hi=>⟨rfl,hi⟩) hE
  | one h=>exact fc h hx
  | agg h1 h2=>
    rename_i l m
    obtain ⟨vs,rfl,hv⟩:=hx
    refine ⟨vs,rfl,hv.1.trans h1,fun i v d hvi hdi=>?_⟩
    have hil:i<l.length:=by rw [h1];exact (List.getElem?_eq_some_iff.1 hdi).1
    exact fc (h2 i _ d (List.getElem?_eq_getElem hil) hdi) (hv.2 i v _ hvi (List.getElem?_eq_getElem hil))
 have hks: ∀k'∈bs.map (·.1),σ.sz k'≠0→(stL ss bs).sz k'≠0:=fun k' hk'=>by
  obtain ⟨p,hp,rfl⟩:=List.mem_map.1 hk'
  show _→(lk [] bs p.1).length≠0
  rw [lk_of_mem h.nd p hp,(h.blk p hp).1]
  exact id
 have hsz: ∀k',(stL ss bs).sz k'≠0→ ∃p∈bs,p.1=k'∧lk [] bs k'=p.2∧σ.sz k'=p.2.length:=fun k' hk'=>by
  rcases lk_mem (l:=bs) (k:=k') (d:= []) with h1 | h1
  ·exact absurd (by show (lk [] bs k').length=0;rw [h1];rfl) hk'
  ·exact ⟨_,h1,rfl,rfl,(h.blk _ h1).1⟩
 have hsz': ∀k',(stL ss bs).sz k'≠0→σ.sz k'≠0:=fun k' hk'=>by
  obtain ⟨p,hp,rfl,h1,h2⟩:=hsz k' hk'
  rw [h2,←h1]
  exact hk'
 have hgrow:Grow X W:=⟨hE,fun g hg=>by
  rcases hG g hg with h1 | ⟨h1,rfl⟩
  ·exact .inl h1
  ·rcases (hc.own k h1).2 with h2 | h2
   ·exact .inr h2
   ·exfalso
    obtain ⟨k',hk',he⟩:=hD _ h2
    have h3:=hc.par k' hk'
    rw [←h3.1] at he
    exact h.out (hc.inj k k' h1 h3.2 he▸hk')⟩
 have hown: ∀k',(stL ss bs).sz k'≠0→ ¬alive W (μ k').1:=fun k' hk' ha=>by
  obtain ⟨p,hp,rfl,_⟩:=hsz k' hk'
  rcases hG _ ha with h1 | ⟨h1,h2⟩
  ·exact (hc.own p.1 (hsz' _ hk')).1 h1
  ·have h3:=hc.inj p.1 k (hsz' _ hk') h1 h2
   have h4:=List.all_eq_true.1 h.kb p hp
   simp [h3] at h4
 refine ⟨W,hgrow,μ,hF,hc.kd,hc.defers,hc.size,fun t=>?_,fun k' hk'=>?_,fun i j hi hj=>hc.inj i j (hsz' i hi) (hsz' j hj),fun k' hk'=>⟨hown k' hk',(hc.own k' (hsz' k' hk')).2⟩,fun k' hk'=>⟨(hc.par k' hk').1,?_⟩⟩
 ·show cv _ _ _ _ _ (lk .junk ss t)
  rcases lk_mem (l:=ss) (k:=t) (d:=AV.junk) with h1 | h1
  ·rw [h1];trivial
  ·exact (fa (h.slot _ h1) (hc.slot t)).keep (List.all_eq_true.1 h.ins _ h1) hks
 ·obtain ⟨p,hp,rfl,h1,h2⟩:=hsz k' hk'
  obtain ⟨cs,e,h3,h4,h8,h5⟩:=hc.blk p.1 (hsz' _ hk')
  refine ⟨cs,e,h3,h4,?_,fun o x hx=>⟨(h5 o x hx).1,fun hol=>?_⟩⟩
  ·show (lk [] bs p.1).length≤_;rw [h1,←h2];exact h8
  ·replace hol:o<(lk [] bs p.1).length:=hol
   rw [h1] at hol
   have hm:(stL ss bs).m p.1 o=p.2[o]:=by
    show (lk [] bs p.1).getD o _=_
    rw [h1,List.getD_eq_getElem?_getD,List.getElem?_eq_getElem hol]
    rfl
   obtain ⟨h6,h7⟩:=(h.blk p hp).2 o _ (List.getElem?_eq_getElem hol)
   rw [hm]
   exact ⟨(fc h6 ((h5 o x hx).2 (by rw [h2];exact hol)).1).keep (List.all_eq_true.1 (List.all_eq_true.1 h.inb p hp) _ (List.getElem_mem hol)) hks,h7⟩
 ·obtain ⟨k'',hm,hb⟩:=List.any_eq_true.1 (List.all_eq_true.1 h.ps k' hk')
  have e:=Nat.eq_of_beq_eq_true hb
  subst e
  exact hks _ hm (hc.par k' hk').2
theorem Fk.cn {X:Ctx} {σ:St} {k:Nat} {ss:List (Nat×AV)} {bs:List (Nat×List C)} (h:Fk X σ k ss bs) (hD: ∀g,X.D g→ ∃k∈X.ps,g=(X.μ0 k).1) {a:Act} {w:World} (hc:CN X σ a w):CN X (stL ss bs) a w:=by
 obtain ⟨W,hW,hc⟩:=hc
 exact CN.up hW (Fk.c0 (X:=X.at W) ⟨h.slot,h.blk,h.ins,h.inb,h.nd,h.ps,h.out,h.kb⟩ hD hc)
end Go.Proofs.YtgdlialkjiblpaaGreatDoor
namespace Go.Proofs.YtgdlialkjiblpaaGreatDoor
open Go.RowKit
set_option linter.unusedVariables false
set_option linter.unusedSimpArgs false
section
variable {P:Program} {X:Ctx} {ops l:List Oper} {σ:St} {K:List Eff→St→Prop} {s:Nat→AV} {z:Nat→Nat}
variable {dst:Option Tmp} {ty:TypeId} {pos:String} {af:Array Edge} {gd:Option (Nat×Bool)}
inductive Base (k:Nat) (n:Nat):C→Nat→Prop
 | gl {len:Nat} :Base k n (.gl k len n) len
 | nil:Base k n (.v (.slice none 0 0)) 0
theorem Base.cc {k n len:Nat} {c:C} (h:Base k n c len) {W0:World} {μ:Nat→Nat×Nat} {sz:Nat→Nat} {w:World} {x:Value} (hx:cc W0 μ sz w x c):cc W0 μ sz w x (.gl k len n):=by
 cases h with
 | gl=>exact hx
 | nil=>
   have hx:x= .slice none 0 0:=hx
   exact ⟨none,0,hx,Nat.le_refl _,fun _=>rfl,fun h=>absurd rfl h⟩
end
end Go.Proofs.YtgdlialkjiblpaaGreatDoor
namespace Go.Proofs.YtgdlialkjiblpaaGreatDoor
open Go.RowKit
set_option linter.unusedVariables false
set_option linter.unusedSimpArgs false
section
variable {P:Program} {X:Ctx} {Q:Exit→Act→World→Prop} {l tl:List Oper} {es:List Eff} {σ σ':St}
end
end Go.Proofs.YtgdlialkjiblpaaGreatDoor
namespace Go.Proofs.YtgdlialkjiblpaaGreatDoor
open Go.RowKit
set_option linter.unusedVariables false
set_option linter.unusedSimpArgs false
section
variable {P:Program} {X:Ctx} {ops l:List Oper} {σ:St} {K:List Eff→St→Prop} {s:Nat→AV} {z:Nat→Nat}
variable {dst:Option Tmp} {ty:TypeId} {pos:String} {af:Array Edge} {gd:Option (Nat×Bool)}
theorem v_loadG {t:TypeId} {x:Operand} {agg:Bool} {n:Nat} [hT:Tsz P t agg n] {k off:Nat} {cs:List C} (hz:off+n≤σ.sz k) (hm:rdL (σ.m k) off n=cs) (hg:gOk ops σ.s gd:=by first | exact trivial | exact rfl) (hd:dB X.n dst=true:=by exact rfl) (hx:evC σ.s x= .one (.ptr k off):=by exact rfl) (hc:(Nat.blt 0 n&&(agg || Nat.beq n 1))=true:=by exact rfl)
  (hl:RunK P X ops l (σ.app dst ⟨mkA agg cs,[(k,off,cs)],[],[]⟩) (fun es σ'=>K (⟨mkA agg cs,[(k,off,cs)],[],[]⟩::es) σ')):RunK P X ops (⟨dst,.load t x,ty,pos,af,gd⟩::l) σ K:=by
 subst hm
 simp only [Bool.and_eq_true] at hc
 exact .of (fun _ _ hl=>run_load hg (dB_ok hd) hx (Nat.ble_eq_true_of_le hz) hc.1 hc.2 hl) hl
theorem v_storeG {t:TypeId} {x y:Operand} {agg:Bool} {n:Nat} [hT:Tsz P t agg n] {k off:Nat} {av:AV} (hz:off+n≤σ.sz k) (hg:gOk ops σ.s gd:=by first | exact trivial | exact rfl) (hd:dB X.n dst=true:=by exact rfl) (hx:evC σ.s x= .one (.ptr k off):=by exact rfl) (hy:evC σ.s y=av:=by exact rfl) (hc:(Nat.beq (acells av).length n&&(isAggB av || Nat.beq n 1)&&Nat.blt 0 n&&(acells av).all nlB)=true:=by exact rfl)
  (hl:RunK P X ops l (σ.app dst ⟨.junk,[],[(k,off,acells av)],[]⟩) (fun es σ'=>K (⟨.junk,[],[(k,off,acells av)],[]⟩::es) σ')):RunK P X ops (⟨dst,.store t x y,ty,pos,af,gd⟩::l) σ K:=by
 simp only [Bool.and_eq_true] at hc
 exact .of (fun _ _ hl=>run_store' hg (dB_ok hd) hx hy hc.1.1.1 hc.1.1.2 (Nat.ble_eq_true_of_le hz) hc.1.2 hc.2 hl) hl
end
end Go.Proofs.YtgdlialkjiblpaaGreatDoor
namespace Go.Proofs.YtgdlialkjiblpaaGreatDoor
open Go.RowKit
set_option linter.unusedVariables false
set_option linter.unusedSimpArgs false
theorem aw_wk {P:Program} {X:Ctx} {σ:St} {ss:List (Nat×AV)} {bs:List (Nat×List C)} {c:Code} {Q:Exit→St→Prop} (h:Wk X σ ss bs) (ha:Aw P X c (stL ss bs) Q):Aw P X c σ Q:=fun a w hc=>ha a w (h.cn hc)
theorem nil_all {α:Type} {p:α→Prop} : ∀x∈([]:List α),p x:=fun _ h=>nomatch h
def ndB:List Nat→Bool
 | []=>true
 | a::l=>!l.any (Nat.beq a)&&ndB l
theorem ndB_ok: ∀ {l:List Nat},ndB l=true→l.Nodup
 | [],_=> .nil
 | a::l,h=>by
   have h:(!l.any (Nat.beq a)&&ndB l)=true:=h
   rw [Bool.and_eq_true] at h
   refine List.nodup_cons.2 ⟨fun hm=>?_,ndB_ok h.2⟩
   have h1:=h.1
   rw [Bool.not_eq_true',List.any_eq_false] at h1
   exact h1 a hm (Nat.beq_refl a)
def BlkOk (σ:St) (ks:List Nat) (p:Nat×List C):Prop:=(σ.sz p.1=p.2.length∧ ∀(i:Nat) c,p.2[i]?=some c→EntC (σ.m p.1 i) c∧nl c)∧p.2.all (inC ks)=true
theorem wk_mk {X:Ctx} {σ:St} {ss:List (Nat×AV)} {bs:List (Nat×List C)} (h1: ∀p∈ss,Ent (σ.s p.1) p.2) (h2: ∀p∈bs,BlkOk σ (bs.map (·.1)) p)
  (hb:((ss.all fun p=>inA (bs.map (·.1)) p.2)&&ndB (bs.map (·.1))&&(X.ps.all fun k=>(bs.map (·.1)).any (Nat.beq k)))=true):Wk X σ ss bs:=by
 simp only [Bool.and_eq_true] at hb
 exact ⟨h1,fun p hp=>(h2 p hp).1,hb.1.1,List.all_eq_true.2 fun p hp=>(h2 p hp).2,ndB_ok hb.1.2,hb.2⟩
theorem blk_ok {σ:St} {ks:List Nat} {k:Nat} {c:List C} (hz:σ.sz k=c.length) (hm:EntL (rdL (σ.m k) 0 c.length) c) (hn:(c.all nlB&&c.all (inC ks))=true):BlkOk σ ks (k,c):=by
 rw [Bool.and_eq_true] at hn
 refine ⟨⟨hz,fun i d hi=>?_⟩,hn.2⟩
 have hlt:=(List.getElem?_eq_some_iff.1 hi).1
 have h2:=rdL_get (σ.m k) c.length 0 i hlt
 rw [Nat.zero_add] at h2
 exact ⟨hm.get i _ d h2 hi,nlB_ok (List.all_eq_true.1 hn.1 d (List.mem_of_getElem? hi))⟩
theorem EntC.q2 {x:Rat} {j k i:Nat} (h:j≤k):EntC (.q x j i) (.q x k i):=EntC.q rfl h
abbrev blkL {α:Type} (f:α→List D) (l:List α):List C:=(l.flatMap f).map toC
class Elm {α:Type} (n:outParam Nat) (f:α→List D):Prop where
 len: ∀a,(f a).length=n
 nl: ∀a,((f a).all fun d=>nlB (toC d))=true
section
variable {α:Type} {n:Nat} {f:α→List D}
theorem blkL_len (hf:Elm n f) (l:List α):(blkL f l).length=l.length*n:=by rw [List.length_map,flat_len hf.len]
theorem blkL_nl (hf:Elm n f) (l:List α): ∀c∈blkL f l,nl c:=fun c hc=>by
 obtain ⟨d,hd,rfl⟩:=List.mem_map.1 hc
 obtain ⟨a,_,hda⟩:=List.mem_flatMap.1 hd
 exact nlB_ok (List.all_eq_true.1 (hf.nl a) d hda)
theorem toC_pf (d:D):pfC (toC d)=true:=by cases d<;>rfl
theorem blkL_in (ks:List Nat) (l:List α):(blkL f l).all (inC ks)=true:=List.all_eq_true.2 fun c hc=>by
 obtain ⟨d,_,rfl⟩:=List.mem_map.1 hc
 exact pfC_in (toC_pf d) ks
abbrev rowOf (cs:List C):Nat→C:=fun o=>cs.getD o (.v (.bool false))
theorem row_get {cs:List C} {i:Nat} {c:C} (h:cs[i]?=some c):rowOf cs i=c:=by show cs.getD i _=c;rw [List.getD_eq_getElem?_getD,h];rfl
def RowX (m:Nat→C) (cs:List C):Prop:= ∀(i:Nat) c,cs[i]?=some c→m i=c
theorem rowX_row {cs:List C} :RowX (rowOf cs) cs:=fun i c h=>row_get h
theorem rowX_laid {g:Nat→C} {cs:List C} :RowX (laid g 0 cs) cs:=fun i c h=>by
 have:=laid_in (f:=g) (off:=0) h
 rw [Nat.zero_add] at this
 exact this
theorem blk_keep (hf:Elm n f) {σ:St} {ks:List Nat} {k:Nat} {l:List α} (hz:σ.sz k=(blkL f l).length:=by exact rfl) (hm:RowX (σ.m k) (blkL f l):=by first | exact rowX_row | exact rowX_laid):BlkOk σ ks (k,blkL f l):=
 ⟨⟨hz,fun i c hi=>⟨EntC.of_eq (hm i c hi),blkL_nl hf l c (List.mem_of_getElem? hi)⟩⟩,blkL_in ks l⟩
theorem blkL_at (hf:Elm n f) {l:List α} {i:Nat} {a:α} (h:l[i]?=some a): ∀(o:Nat) c,((f a).map toC)[o]?=some c→(blkL f l)[i*n+o]?=some c:=fun o c hc=>by
 have h1:=flat_at hf.len h
 rw [List.getElem?_map] at hc⊢
 have:(l.flatMap f)[i*n+o]?=(f a)[o]?:=by
  rw [←h1,List.getElem?_take,if_pos,List.getElem?_drop]
  have:o<((f a).map toC).length:=by
   have:=(List.getElem?_eq_some_iff.1 (show ((f a).map toC)[o]?=some c by rw [List.getElem?_map];exact hc)).1
   exact this
  rw [List.length_map,hf.len] at this
  exact this
 rw [this]
 exact hc
theorem rdL_row (hf:Elm n f) {l:List α} {i:Nat} {a:α} (h:l[i]?=some a):rdL (rowOf (blkL f l)) (i*n) n=(f a).map toC:=by
 refine List.ext_getElem? fun o=>?_
 by_cases ho:o<n
 ·rw [rdL_get _ _ _ _ ho]
  have hl:o<((f a).map toC).length:=by rw [List.length_map,hf.len];exact ho
  rw [List.getElem?_eq_getElem hl]
  exact congrArg some (row_get (blkL_at hf h o _ (List.getElem?_eq_getElem hl)))
 ·rw [List.getElem?_eq_none (by rw [rdL_len];omega),List.getElem?_eq_none (by rw [List.length_map,hf.len];omega)]
theorem flat_set (hf:Elm n f): ∀ {l:List α} {i:Nat} {a:α},i<l.length→ ∀(o:Nat),((l.set i a).flatMap f)[o]?=if i*n≤o∧o<i*n+n then (f a)[o-i*n]? else (l.flatMap f)[o]?
 | [],_,_,h,_=>by simp at h
 | b::l,0,a,_,o=>by
   rw [List.set_cons_zero,List.flatMap_cons,List.flatMap_cons,Nat.zero_mul,Nat.zero_add,Nat.sub_zero]
   by_cases h:o<n
   ·rw [if_pos ⟨Nat.zero_le _,h⟩,List.getElem?_append_left (by rw [hf.len];exact h)]
   ·rw [if_neg (fun hh=>h hh.2),List.getElem?_append_right (by rw [hf.len];omega),List.getElem?_append_right (by rw [hf.len];omega),hf.len,hf.len]
 | b::l,i+1,a,h,o=>by
   rw [List.set_cons_succ,List.flatMap_cons,List.flatMap_cons]
   have e:(i+1)*n=i*n+n:=Nat.succ_mul i n
   by_cases ho:o<n
   ·rw [if_neg (fun hh=>by omega),List.getElem?_append_left (by rw [hf.len];exact ho),List.getElem?_append_left (by rw [hf.len];exact ho)]
   ·rw [List.getElem?_append_right (by rw [hf.len];omega),List.getElem?_append_right (by rw [hf.len];omega),hf.len,flat_set hf (by simpa using h)]
    by_cases hh:(i+1)*n≤o∧o<(i+1)*n+n
    ·rw [if_pos hh,if_pos (by omega),show o-n-i*n=o-(i+1)*n by omega]
    ·rw [if_neg hh,if_neg (by omega)]
end
theorem EntC.glNil {k n:Nat} :EntC (.v (.slice none 0 0)) (.gl k 0 n):=fun W0 μ sz w x hx=>⟨none,0,hx,Nat.le_refl _,fun _=>rfl,fun h=>absurd rfl h⟩
theorem EntC.glLen {k n a b:Nat} (h:a=b):EntC (.gl k a n) (.gl k b n):=h▸EntC.of_eq rfl
theorem EntC.int {k:IntKind} {a b:Int} (h:a=b):EntC (.v (.int k a)) (.v (.int k b)):=h▸EntC.of_eq rfl
section
variable {P:Program} {X:Ctx} {σ:St} {α:Type} {f:α→List D} {n:Nat} {ty:TypeId} {pos:String} {af:Array Edge}
end
section
variable {P:Program} {X:Ctx} {ops l:List Oper} {σ:St} {K:List Eff→St→Prop}
variable {dst:Option Tmp} {ty:TypeId} {pos:String} {af:Array Edge} {gd:Option (Nat×Bool)}
end
def RowE {α:Type} (f:α→List D) (m:Nat→C) (l:List α):Prop:= ∀(o:Nat) c,(blkL f l)[o]?=some c→EntC (m o) c
theorem RowE.base {α:Type} {f:α→List D} {l:List α} :RowE f (rowOf (blkL f l)) l:=fun o c hc=>EntC.of_eq (row_get hc)
theorem RowE.set {α:Type} {n:Nat} {f:α→List D} (hf:Elm n f) {m:Nat→C} {l:List α} (h:RowE f m l) {i:Nat} {a:α} {cs:List C} (hi:i<l.length) (he:EntL cs ((f a).map toC)):RowE f (laid m (i*n) cs) (l.set i a):=fun o c hc=>by
 have hcl:cs.length=n:=by rw [he.len,List.length_map,hf.len]
 replace hc:((l.set i a).flatMap f |>.map toC)[o]?=some c:=hc
 rw [List.getElem?_map,flat_set hf hi] at hc
 by_cases ho:i*n≤o∧o<i*n+n
 ·rw [if_pos ho,←List.getElem?_map] at hc
  obtain ⟨q,rfl⟩: ∃q,o=i*n+q:=⟨o-i*n,by omega⟩
  rw [Nat.add_sub_cancel_left] at hc
  have hq:q<cs.length:=by omega
  rw [laid_in (List.getElem?_eq_getElem hq)]
  exact he.get q _ c (List.getElem?_eq_getElem hq) hc
 ·rw [if_neg ho,←List.getElem?_map] at hc
  rw [laid_out (by omega)]
  exact h o c hc
theorem RowE.whole {α:Type} {f:α→List D} {m:Nat→C} {l:List α} :RowE f (laid m 0 (blkL f l)) l:=fun o c hc=>by
 have ho:=(List.getElem?_eq_some_iff.1 hc).1
 have:=laid_in (f:=m) (off:=0) hc
 rw [Nat.zero_add] at this
 rw [this]
 exact EntC.of_eq rfl
theorem blk_row {α:Type} {n:Nat} {f:α→List D} (hf:Elm n f) {σ:St} {ks:List Nat} {k z:Nat} {l:List α} {m:Nat→C} (h:RowE f m l) (hl:z=l.length*n) (hz:σ.sz k=z:=by exact rfl) (hm:σ.m k=m:=by exact rfl):BlkOk σ ks (k,blkL f l):=
 ⟨⟨by show σ.sz k=_;rw [hz,hl,blkL_len hf],fun i c hc=>⟨by show EntC (σ.m k i) c;rw [hm];exact h i c hc,blkL_nl hf _ c (List.mem_of_getElem? hc)⟩⟩,blkL_in ks l⟩
section
variable {P:Program} {X:Ctx} {ops l:List Oper} {σ:St} {K:List Eff→St→Prop}
variable {dst:Option Tmp} {ty:TypeId} {pos:String} {af:Array Edge} {gd:Option (Nat×Bool)}
end
end Go.Proofs.YtgdlialkjiblpaaGreatDoor
