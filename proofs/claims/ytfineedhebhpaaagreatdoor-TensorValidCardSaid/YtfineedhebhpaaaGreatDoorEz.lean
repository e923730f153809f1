/-
  Several texts in one: Ea, Eb, Ec.
-/
import Derived.Test.YtfineedhebhpaaaGreatDoorBa
import Derived.Test.YtfineedhebhpaaaGreatDoorGr
import Derived.Deep.MidRow
namespace Go.Proofs.YtfineedhebhpaaaGreatDoor
open Nat renaming le_refl→Yu
open List renaming getElem?_eq_getElem→Yv
open Go.RowKit
set_option linter.unusedVariables false
set_option linter.unusedSimpArgs false
inductive D where
 | v (x:Value)
 | q (x:Rat) (j i:Nat)
 | lst (es n:Nat) (cs:List D)
inductive C where
 | v (x:Value)
 | q (x:Rat) (j i:Nat)
 | ptr (k off:Nat)
 | fn (f:FuncId) (caps:List (Nat×Nat))
 | ints (l:List Int)
 | iptr (n:Int)
 | gl (k len es:Nat)
 | ls (es n:Nat) (cs:List D)
 | fp (cs:List D)
 | sx (k off len cap es:Nat)
 | ny
def toC:D→C
 | .v x=> .v x
 | .q x j i=> .q x j i
 | .lst es n cs=> .ls es n cs
inductive AV where
 | one (c:C)
 | agg (cs:List C)
 | tup (l:List AV)
 | junk
def JW (x:Rat):Nat:=if x.den=1 then 0 else x.den
def B5 {α β:Type} (R:α→β→Prop) (l:List α) (m:List β):Prop:=l.length=m.length∧ ∀(i:Nat) a b,l[i]?=some a→m[i]?=some b→R a b
def noL (x:Value):Prop:=(∀n,x≠ .int .u32 n)∧x.oneCell'=true
def alive (W:World) (g:Nat):Prop:= ∃c e fz,W.heap[g]?=some (.cells c e fz)∧c.size≠0
def Ext (W W':World):Prop:= ∀g,alive W g→W'.heap[g]?=W.heap[g]?
abbrev Fr (W w:World):Prop:=Ext W w
theorem Ext.refl (W:World):Ext W W:=fun _ _=>rfl
theorem Ext.alive {W W':World} (h:Ext W W') {g:Nat} (k:alive W g):alive W' g:=by
 obtain ⟨c,e,fz,h1,h2⟩:=k
 exact ⟨c,e,fz,(h g ⟨c,e,fz,h1,h2⟩).trans h1,h2⟩
theorem Ext.trans {A B C:World} (h:Ext A B) (k:Ext B C):Ext A C:=fun g hg=>(k g (h.alive hg)).trans (h g hg)
theorem Ext.of_kp {w w':World} (h:Kp w w'):Ext w w':=fun g ⟨c,e,fz,h1,_⟩=>h.block g (Array.getElem?_eq_some_iff.1 h1).1
theorem HJ {W:World} {g:Nat} (h:alive W g):g<W.heap.size:=by
 obtain ⟨c,e,fz,h1,_⟩:=h
 exact (Array.getElem?_eq_some_iff.1 h1).1
theorem Ks {W:World} {b o:Nat} {v:Value} (h:W.cell? ⟨b,o,none⟩=some v):alive W b:=by
 unfold World.cell? at h
 split at h
 ·rename_i c e fz hg
  simp at h
  refine ⟨c,e,fz,hg,fun h0=>?_⟩
  have:=(Array.getElem?_eq_some_iff.1 h).1
  omega
 ·cases h
theorem Ext.cell {W W':World} (h:Ext W W') {b o:Nat} {v:Value} (hc:W.cell? ⟨b,o,none⟩=some v):W'.cell? ⟨b,o,none⟩=some v:=by
 rw [World.cell?_of_block (w:=W) (h b (Ks hc))]
 exact hc
def qq (w:World) (x:Value) (r:Rat) (j:Nat):Nat→Prop
 | 0=>x= .bool (decide (r.num<0))∧0≤j
 | 1=>Rd w x (toL r.num.natAbs)∧(toL r.num.natAbs).length≤j
 | _=>Rd w x (toL (JW r))∧(toL (JW r)).length≤j
mutual
def dd (W0 w:World) (x:Value):D→Prop
 | .v y=>x=y
 | .q r j i=>qq w x r j i
 | .lst es n cs=>cs.length=n*es∧ ∃ao cap,x= .slice ao n cap∧n≤cap∧(cs≠ []→ ∃b off,ao=some ⟨b,off,none⟩∧ddL W0 w b off cs)
def ddL (W0 w:World) (b off:Nat):List D→Prop
 | []=>True
 | d::ds=>(∃v,W0.cell? ⟨b,off,none⟩=some v∧noL v∧dd W0 w v d)∧ddL W0 w b (off+1) ds
end
def IntsAt (W0:World) (x:Value) (l:List Int):Prop:=
 ∃ao cap,x= .slice ao l.length cap∧(l≠ []→ ∃b off,ao=some ⟨b,off,none⟩∧ ∀i n,l[i]?=some n→W0.cell? ⟨b,off+i,none⟩=some (.int .i64 n))
def cc (W0:World) (μ:Nat→Nat×Nat) (sz:Nat→Nat) (w:World) (x:Value):C→Prop
 | .v y=>x=y
 | .q r j 0=>x= .bool (decide (r.num<0))∧0≤j
 | .q r j 1=>Rd w x (toL r.num.natAbs)∧(toL r.num.natAbs).length≤j
 | .q r j _=>Rd w x (toL (JW r))∧(toL (JW r)).length≤j
 | .ptr k off=>x= .pointer (some ⟨(μ k).1,off,none⟩)∧sz k≠0
 | .fn f caps=>x= .func (.func f) #[] (caps.map fun p=>Value.pointer (some ⟨(μ p.1).1,p.2,none⟩)).toArray∧ ∀p∈caps,sz p.1≠0
 | .ints l=>IntsAt W0 x l
 | .iptr n=> ∃b off,x= .pointer (some ⟨b,off,none⟩)∧W0.cell? ⟨b,off,none⟩=some (.int .i64 n)
 | .gl k len es=> ∃ao c,x= .slice ao len c∧len≤c∧(len=0→c=0)∧(len≠0→ao=some ⟨(μ k).1,0,none⟩∧c*es≤(μ k).2∧sz k≠0)
 | .ls es n cs=>dd W0 w x (.lst es n cs)
 | .fp cs=> ∃b off,x= .pointer (some ⟨b,off,none⟩)∧cs≠ []∧ddL W0 w b off cs
 | .sx k off len cap es=>x= .slice (some ⟨(μ k).1,off*es,none⟩) len cap∧len≤cap∧(off+cap)*es≤(μ k).2∧sz k≠0
 | .ny=>noL x
def cv0 (W0:World) (μ:Nat→Nat×Nat) (sz:Nat→Nat) (w:World) (v:Value):AV→Prop
 | .one c=>cc W0 μ sz w v c
 | .agg cs=> ∃l,v= .agg l.toArray∧B5 (cc W0 μ sz w) l cs
 | .junk=>True
 | .tup _=>False
def cv (W0:World) (μ:Nat→Nat×Nat) (sz:Nat→Nat) (w:World) (v:Value):AV→Prop
 | .tup l=> ∃vs,v= .tuple vs.toArray∧B5 (cv0 W0 μ sz w) vs l
 | a=>cv0 W0 μ sz w v a
def nl:C→Prop
 | .v x=>noL x
 | _=>True
structure Kl (w w':World):Prop where
 size:w.heap.size≤w'.heap.size
 row: ∀(g:Nat) (c:Array Value) (e:TypeId) (fz:Nat×Nat),w.heap[g]?=some (.cells c e fz)→(∃(i:Nat) (n:Int),c[i]?=some (.int .u32 n))→w'.heap[g]?=w.heap[g]?
theorem Kl.refl (w:World):Kl w w:=⟨Yu _,fun _ _ _ _ _ _=>rfl⟩
theorem Kl.trans {a b c:World} (h:Kl a b) (k:Kl b c):Kl a c:=
 ⟨Nat.le_trans h.size k.size,fun g x e fz hg hu=>by
  have h1:=h.row g x e fz hg hu
  rw [k.row g x e fz (h1.trans hg) hu,h1]⟩
theorem Kl.of_kp {w w':World} (h:Kp w w'):Kl w w':=⟨h.size,fun g c e fz hg _=>h.block g (Array.getElem?_eq_some_iff.1 hg).1⟩
structure Kd (D:Nat→Prop) (w w':World):Prop where
 os:w'.os=w.os
 tape:w'.tape=w.tape
 output:w'.output=w.output
 size:w.heap.size≤w'.heap.size
 block: ∀k,k<w.heap.size→ ¬D k→w'.heap[k]?=w.heap[k]?
theorem Kd.refl (D:Nat→Prop) (w:World):Kd D w w:=⟨rfl,rfl,rfl,Yu _,fun _ _ _=>rfl⟩
theorem Kd.trans {D:Nat→Prop} {a b c:World} (h:Kd D a b) (k:Kd D b c):Kd D a c:=
 ⟨k.os.trans h.os,k.tape.trans h.tape,k.output.trans h.output,Nat.le_trans h.size k.size,fun i hi hd=>(k.block i (Nat.lt_of_lt_of_le hi h.size) hd).trans (h.block i hi hd)⟩
theorem Kd.of_kp {D:Nat→Prop} {w w':World} (h:Kp w w'):Kd D w w':=⟨h.os,h.tape,h.output,h.size,fun k hk _=>h.block k hk⟩
theorem Kd.kp {w w':World} (h:Kd (fun _=>False) w w'):Kp w w':=⟨h.os,h.tape,h.output,h.size,fun k hk=>h.block k hk id⟩
theorem Rd.kl {w w':World} {v:Value} {xs:List Nat} (h:Rd w v xs) (k:Kl w w'):Rd w' v xs:=by
 obtain ⟨ao,cap,rfl,h1,h2,h3,h4⟩:=h
 refine ⟨ao,cap,rfl,h1,h2,h3,fun hne=>?_⟩
 obtain ⟨b,off,rfl,hc⟩:=h4 hne
 refine ⟨b,off,rfl,fun i hi=>?_⟩
 have h5:=hc i hi
 have h6:w'.heap[b]?=w.heap[b]?:=by
  unfold World.cell? at h5
  split at h5
  ·rename_i c e fz hg
   simp at h5
   exact k.row b c e fz hg ⟨_,_,h5⟩
  ·cases h5
 rw [World.cell?_of_block (w:=w) h6]
 exact h5
theorem qq.kl {w w':World} {x:Value} {r:Rat} {j:Nat} : ∀ {i:Nat},qq w x r j i→Kl w w'→qq w' x r j i
 | 0,h,_=>h
 | 1,h,k=>⟨h.1.kl k,h.2⟩
 | _+2,h,k=>⟨h.1.kl k,h.2⟩
mutual
theorem dd.mono {W0 W0' w w':World} (he:Ext W0 W0') (k:Kl w w'): ∀ {d:D} {x:Value},dd W0 w x d→dd W0' w' x d
 | .v y,x,h=>by unfold dd at h⊢;exact h
 | .q r j i,x,h=>by unfold dd at h⊢;exact h.kl k
 | .lst es n cs,x,h=>by
   unfold dd at h⊢
   obtain ⟨h0,ao,cap,h1,h2,h3⟩:=h
   refine ⟨h0,ao,cap,h1,h2,fun hne=>?_⟩
   obtain ⟨b,off,h4,h5⟩:=h3 hne
   exact ⟨b,off,h4,ddL.mono he k h5⟩
theorem ddL.mono {W0 W0' w w':World} (he:Ext W0 W0') (k:Kl w w'): ∀ {ds:List D} {b off:Nat},ddL W0 w b off ds→ddL W0' w' b off ds
 | [],_,_,_=>by unfold ddL;trivial
 | d::ds,b,off,h=>by
   unfold ddL at h⊢
   obtain ⟨⟨v,h1,h2,h3⟩,h4⟩:=h
   exact ⟨⟨v,he.cell h1,h2,dd.mono he k h3⟩,ddL.mono he k h4⟩
end
theorem IntsAt.ext {W W':World} (he:Ext W W') {x:Value} {l:List Int} (h:IntsAt W x l):IntsAt W' x l:=by
 obtain ⟨ao,cap,h1,h2⟩:=h
 refine ⟨ao,cap,h1,fun hne=>?_⟩
 obtain ⟨b,off,h3,h4⟩:=h2 hne
 exact ⟨b,off,h3,fun i n hi=>he.cell (h4 i n hi)⟩
theorem cc.mono {W0 W0':World} {μ μ':Nat→Nat×Nat} {sz sz':Nat→Nat} {w w':World} {x:Value} {c:C} (h:cc W0 μ sz w x c) (k:Kl w w') (hm: ∀i,sz i≠0→μ' i=μ i∧sz' i≠0) (he:Ext W0 W0':=by exact Ext.refl _):cc W0' μ' sz' w' x c:=by
 cases c with
 | v y=>exact h
 | q r j i=>
   match i with
   | 0=>exact h
   | 1=>exact ⟨h.1.kl k,h.2⟩
   | _+2=>exact ⟨h.1.kl k,h.2⟩
 | ptr i off=>exact ⟨by rw [(hm i h.2).1];exact h.1,(hm i h.2).2⟩
 | fn f caps=>
   refine ⟨?_,fun p hp=>(hm _ (h.2 p hp)).2⟩
   rw [h.1]
   congr 2
   refine List.map_congr_left fun p hp=>?_
   rw [(hm _ (h.2 p hp)).1]
 | ints l=>exact IntsAt.ext he h
 | iptr n=>obtain ⟨b,off,h1,h2⟩:=h;exact ⟨b,off,h1,he.cell h2⟩
 | gl i len es=>
   obtain ⟨ao,c,h1,h2,h3,h4⟩:=h
   refine ⟨ao,c,h1,h2,h3,fun hl=>?_⟩
   obtain ⟨h5,h6,h7⟩:=h4 hl
   rw [(hm i h7).1]
   exact ⟨h5,h6,(hm i h7).2⟩
 | ls es n cs=>exact dd.mono he k h
 | fp cs=>obtain ⟨b,off,h1,h2,h3⟩:=h;exact ⟨b,off,h1,h2,ddL.mono he k h3⟩
 | sx i off len cap es=>obtain ⟨h1,h2,h3,h4⟩:=h;exact ⟨by rw [(hm i h4).1];exact h1,h2,by rw [(hm i h4).1];exact h3,(hm i h4).2⟩
 | ny=>exact h
theorem B5.mono {α β:Type} {R S:α→β→Prop} {l:List α} {m:List β} (h:B5 R l m) (hh: ∀a b,R a b→S a b):B5 S l m:=⟨h.1,fun i a b ha hb=>hh _ _ (h.2 i a b ha hb)⟩
theorem cv0.mono {W0 W0':World} {μ μ':Nat→Nat×Nat} {sz sz':Nat→Nat} {w w':World} {x:Value} {c:AV} (h:cv0 W0 μ sz w x c) (k:Kl w w') (hm: ∀i,sz i≠0→μ' i=μ i∧sz' i≠0) (he:Ext W0 W0':=by exact Ext.refl _):cv0 W0' μ' sz' w' x c:=by
 cases c with
 | one c=>exact cc.mono h k hm he
 | agg cs=>obtain ⟨l,rfl,hl⟩:=h;exact ⟨l,rfl,hl.mono fun _ _ hh=>hh.mono k hm he⟩
 | tup l=>exact h
 | junk=>trivial
theorem cv.mono {W0 W0':World} {μ μ':Nat→Nat×Nat} {sz sz':Nat→Nat} {w w':World} {x:Value} {c:AV} (h:cv W0 μ sz w x c) (k:Kl w w') (hm: ∀i,sz i≠0→μ' i=μ i∧sz' i≠0) (he:Ext W0 W0':=by exact Ext.refl _):cv W0' μ' sz' w' x c:=by
 cases c with
 | one c=>exact cc.mono h k hm he
 | agg cs=>exact cv0.mono (c:= .agg cs) h k hm he
 | tup l=>obtain ⟨vs,rfl,hl⟩:=h;exact ⟨vs,rfl,hl.mono fun _ _ hh=>hh.mono k hm he⟩
 | junk=>trivial
theorem cc.noL {W0:World} {μ:Nat→Nat×Nat} {sz:Nat→Nat} {w:World} {x:Value} {c:C} (h:cc W0 μ sz w x c) (hn:nl c):noL x:=by
 cases c with
 | v y=>cases h;exact hn
 | q r j i=>
   match i with
   | 0=>rw [h.1];exact ⟨fun n e=>(by cases e),rfl⟩
   | 1=>obtain ⟨_,_,rfl,_⟩:=h.1;exact ⟨fun n e=>(by cases e),rfl⟩
   | _+2=>obtain ⟨_,_,rfl,_⟩:=h.1;exact ⟨fun n e=>(by cases e),rfl⟩
 | ptr i off=>rw [h.1];exact ⟨fun n e=>(by cases e),rfl⟩
 | fn f caps=>rw [h.1];exact ⟨fun n e=>(by cases e),rfl⟩
 | ints l=>obtain ⟨_,_,rfl,_⟩:=h;exact ⟨fun n e=>(by cases e),rfl⟩
 | iptr n=>obtain ⟨_,_,rfl,_⟩:=h;exact ⟨fun n e=>(by cases e),rfl⟩
 | gl i len es=>obtain ⟨_,_,rfl,_⟩:=h;exact ⟨fun n e=>(by cases e),rfl⟩
 | ls es n cs=>unfold cc dd at h;obtain ⟨_,_,_,rfl,_⟩:=h;exact ⟨fun n e=>(by cases e),rfl⟩
 | fp cs=>obtain ⟨_,_,rfl,_⟩:=h;exact ⟨fun n e=>(by cases e),rfl⟩
 | sx i off len cap es=>rw [h.1];exact ⟨fun n e=>(by cases e),rfl⟩
 | ny=>exact h
structure St where
 s:Nat→AV
 m:Nat→Nat→C
 sz:Nat→Nat
def upd {α:Type} (f:Nat→α) (k:Nat) (a:α):Nat→α:=fun t=>match Nat.beq t k with|true=>a|false=>f t
theorem AI {α:Type} (f:Nat→α) (k:Nat) (a:α):upd f k a k=a:=by simp [upd]
theorem Cj {α:Type} {f:Nat→α} {k t:Nat} {a:α} (h:t≠k):upd f k a t=f t:=by
 have:Nat.beq t k=false:=by
  cases hb:Nat.beq t k with
  | false=>rfl
  | true=>exact absurd (Nat.eq_of_beq_eq_true hb) h
 simp [upd,this]
def laid (f:Nat→C) (off:Nat):List C→Nat→C
 | []=>f
 | c::cs=>laid (upd f off c) (off+1) cs
theorem Fq {off:Nat} : ∀ {cs:List C} {f:Nat→C} {o:Nat},o<off∨off+cs.length≤o→laid f off cs o=f o
 | [],_,_,_=>rfl
 | c::cs,f,o,h=>by
   simp only [List.length_cons] at h
   show laid (upd f off c) (off+1) cs o=f o
   rw [Fq (by omega),Cj (by omega)]
theorem Eb {off:Nat} : ∀ {cs:List C} {f:Nat→C} {i:Nat} {c:C},cs[i]?=some c→laid f off cs (off+i)=c
 | [],_,_,_,h=>by simp at h
 | d::cs,f,0,c,h=>by
   simp at h
   show laid (upd f off d) (off+1) cs (off+0)=c
   rw [Fq (by omega),Nat.add_zero,AI,h]
 | d::cs,f,i+1,c,h=>by
   show laid (upd f off d) (off+1) cs (off+(i+1))=c
   rw [show off+(i+1)=off+1+i from by omega]
   exact Eb (by simpa using h)
structure Eff where
 out:AV
 rd:List (Nat×Nat×List C)
 wr:List (Nat×Nat×List C)
 al:List (Nat×List C)
def Pf (s:Nat→AV) (d:Option Tmp) (a:AV):Nat→AV:=match d with|some t=>upd s t a|none=>s
def wrM (m:Nat→Nat→C):List (Nat×Nat×List C)→Nat→Nat→C
 | []=>m
 | p::r=>wrM (upd m p.1 (laid (m p.1) p.2.1 p.2.2)) r
def alR (l:List (Nat×List C)):List (Nat×Nat×List C):=l.map fun p=>(p.1,0,p.2)
def alZ (z:Nat→Nat):List (Nat×List C)→Nat→Nat
 | []=>z
 | p::r=>alZ (upd z p.1 p.2.length) r
def alS:List (Nat×List C)→Nat→Option Nat
 | [],_=>none
 | p::r,k=>(alS r k).or (if p.1=k then some p.2.length else none)
theorem UY: ∀(l:List (Nat×List C)) (z:Nat→Nat) (k:Nat),alZ z l k=(alS l k).getD (z k)
 | [],_,_=>rfl
 | p::r,z,k=>by
   show alZ (upd z p.1 p.2.length) r k=((alS r k).or (if p.1=k then some p.2.length else none)).getD (z k)
   rw [UY r]
   cases alS r k with
   | some c=>rfl
   | none=>
     show upd z p.1 p.2.length k=(if p.1=k then some p.2.length else none).getD (z k)
     by_cases h:p.1=k
     ·subst h;rw [AI,if_pos rfl];rfl
     ·rw [Cj (Ne.symm h),if_neg h];rfl
theorem Kh: ∀ {l:List (Nat×List C)} {k n:Nat},alS l k=some n→ ∃p∈l,p.1=k∧p.2.length=n
 | [],_,_,h=>by cases h
 | p::r,k,n,h=>by
   have h:(alS r k).or (if p.1=k then some p.2.length else none)=some n:=h
   cases hr:alS r k with
   | some c=>
     obtain ⟨q,hq,hh⟩:=Kh hr
     rw [hr] at h
     cases h
     exact ⟨q,List.mem_cons_of_mem _ hq,hh⟩
   | none=>
     rw [hr] at h
     by_cases hk:p.1=k
     ·rw [if_pos hk] at h
      cases h
      exact ⟨p,List.mem_cons_self,hk,rfl⟩
     ·rw [if_neg hk] at h;cases h
theorem H3: ∀ {l:List (Nat×List C)} {k:Nat},alS l k=none↔ ∀p∈l,p.1≠k
 | [],_=>⟨fun _ p hp=>(by cases hp),fun _=>rfl⟩
 | p::r,k=>by
   show (alS r k).or (if p.1=k then some p.2.length else none)=none↔_
   constructor
   ·intro h q hq
    cases hr:alS r k with
    | some c=>rw [hr] at h;cases h
    | none=>
      rw [hr] at h
      rcases List.mem_cons.1 hq with rfl|hq
      ·intro hk;rw [if_pos hk] at h;cases h
      ·exact H3.1 hr q hq
   ·intro h
    rw [H3.2 fun q hq=>h q (List.mem_cons_of_mem _ hq),if_neg (h p List.mem_cons_self)]
    rfl
def Eff.W (e:Eff):List (Nat×Nat×List C):=e.wr++alR e.al
def St.app (σ:St) (d:Option Tmp) (e:Eff):St:=⟨Pf σ.s d e.out,wrM σ.m e.W,alZ σ.sz e.al⟩
def IJ (p:Nat×Nat×List C) (k o:Nat):Option C:=if p.1=k∧p.2.1≤o then p.2.2[o-p.2.1]? else none
def wvL:List (Nat×Nat×List C)→Nat→Nat→Option C
 | [],_,_=>none
 | p::r,k,o=>(wvL r k o).or (IJ p k o)
theorem Qw (f:Nat→C) (off:Nat) (cs:List C) (o:Nat):laid f off cs o=(if off≤o then cs[o-off]? else none).getD (f o):=by
 by_cases h:off≤o
 ·rw [if_pos h]
  cases hc:cs[o-off]? with
  | none=>
    rw [List.getElem?_eq_none_iff] at hc
    exact Fq (by omega)
  | some c=>
    have:=Eb (f:=f) (off:=off) hc
    rw [show off+(o-off)=o from by omega] at this
    exact this
 ·rw [if_neg h];exact Fq (by omega)
theorem SF: ∀(l:List (Nat×Nat×List C)) (m:Nat→Nat→C) (k o:Nat),wrM m l k o=(wvL l k o).getD (m k o)
 | [],_,_,_=>rfl
 | p::r,m,k,o=>by
   show wrM (upd m p.1 _) r k o=_
   rw [SF r]
   show _=((wvL r k o).or (IJ p k o)).getD (m k o)
   cases wvL r k o with
   | some c=>rfl
   | none=>
     show upd m p.1 _ k o=(IJ p k o).getD (m k o)
     by_cases hk:k=p.1
     ·subst hk
      rw [AI,Qw]
      simp [IJ]
     ·rw [Cj hk]
      simp [IJ,Ne.symm hk]
theorem Ja: ∀ {l:List (Nat×Nat×List C)} {k o:Nat} {c:C},wvL l k o=some c→ ∃p∈l,p.1=k∧p.2.1≤o∧o<p.2.1+p.2.2.length
 | [],_,_,_,h=>by cases h
 | p::r,k,o,c,h=>by
   cases hw:wvL r k o with
   | some d=>
     obtain ⟨q,hq,hh⟩:=Ja hw
     exact ⟨q,List.mem_cons_of_mem _ hq,hh⟩
   | none=>
     have h2:IJ p k o=some c:=by
      have:(wvL r k o).or (IJ p k o)=some c:=h
      rw [hw] at this
      exact this
     unfold IJ at h2
     split at h2
     ·rename_i hh
      have:=(List.getElem?_eq_some_iff.1 h2).1
      exact ⟨p,List.mem_cons_self,hh.1,hh.2,by omega⟩
     ·cases h2
structure Ctx where
 W0:World
 base:World
 D:Nat→Prop
 n:Nat
 ps:List Nat
 μ0:Nat→Nat×Nat
structure Cn (X:Ctx) (μ:Nat→Nat×Nat) (σ:St) (a:Act) (w:World):Prop where
 w0:Fr X.W0 w
 kd:Kd X.D X.base w
 defers:a.defers= []
 size:a.tmps.size=X.n
 slot: ∀t,cv X.W0 μ σ.sz w (a.tmps.getD t undef) (σ.s t)
 blk: ∀k,σ.sz k≠0→ ∃(cs:Array Value) (e:TypeId),w.heap[(μ k).1]?=some (.cells cs e (0,0))∧cs.size=(μ k).2∧σ.sz k≤cs.size∧ ∀(o:Nat) x,cs[o]?=some x→noL x∧(o<σ.sz k→cc X.W0 μ σ.sz w x (σ.m k o)∧nl (σ.m k o))
 inj: ∀k k',σ.sz k≠0→σ.sz k'≠0→(μ k).1=(μ k').1→k=k'
 own: ∀k,σ.sz k≠0→ ¬alive X.W0 (μ k).1∧(X.base.heap.size≤(μ k).1∨X.D (μ k).1)
 par: ∀k∈X.ps,μ k=X.μ0 k∧σ.sz k≠0
def C0 (X:Ctx) (σ:St) (a:Act) (w:World):Prop:= ∃μ,Cn X μ σ a w
abbrev Ctx.at (X:Ctx) (W:World):Ctx:=⟨W,X.base,X.D,X.n,X.ps,X.μ0⟩
structure IR (X:Ctx) (W:World):Prop where
 ext:Ext X.W0 W
 new: ∀g,alive W g→alive X.W0 g∨X.base.heap.size≤g
theorem IR.refl (X:Ctx):IR X X.W0:=⟨.refl _,fun _ h=> .inl h⟩
theorem IR.trans {X:Ctx} {W V:World} (h:IR X W) (k:IR (X.at W) V):IR X V:=⟨h.ext.trans k.ext,fun g hg=>by
 rcases k.new g hg with h1|h1
 ·exact h.new g h1
 ·exact .inr h1⟩
def CN (X:Ctx) (σ:St) (a:Act) (w:World):Prop:= ∃W,IR X W∧C0 (X.at W) σ a w
theorem C0.cn {X:Ctx} {σ:St} {a:Act} {w:World} (h:C0 X σ a w):CN X σ a w:=⟨X.W0,.refl X,h⟩
theorem CN.map {X:Ctx} {σ σ':St} {a a':Act} {w w':World} (h:CN X σ a w) (hh: ∀W,IR X W→C0 (X.at W) σ a w→C0 (X.at W) σ' a' w'):CN X σ' a' w':=by
 obtain ⟨W,hg,h⟩:=h
 exact ⟨W,hg,hh W hg h⟩
def evC (s:Nat→AV):Operand→AV
 | .tmp t=>s t
 | .const (.agg cs)=> .agg (cs.toList.map .v)
 | .const v=> .one (.v v)
 | .global _=> .junk
 | .func f=> .one (.fn f [])
theorem B5.self {W0:World} {μ:Nat→Nat×Nat} {sz:Nat→Nat} {w:World} (l:List Value):B5 (cc W0 μ sz w) l (l.map .v):=by
 refine ⟨by simp,fun i a b ha hb=>?_⟩
 simp [ha] at hb
 subst hb
 exact rfl
theorem Cn.ev {X:Ctx} {μ:Nat→Nat×Nat} {σ:St} {a:Act} {w:World} (h:Cn X μ σ a w) (x:Operand):cv X.W0 μ σ.sz w (a.eval x) (evC σ.s x):=by
 cases x with
 | tmp t=>exact h.slot t
 | const v=>
   cases v with
   | agg cs=>exact ⟨cs.toList,by simp [Act.eval],B5.self _⟩
   | _=>exact rfl
 | global g=>exact trivial
 | func f=>exact ⟨rfl,fun p hp=>by cases hp⟩
theorem C0.drew {X:Ctx} {σ:St} {a:Act} {w:World} (h:C0 X σ a w):C0 X σ a w.drew:=by
 obtain ⟨μ,h⟩:=h
 have k:Kl w w.drew:=⟨Yu _,fun _ _ _ _ _ _=>rfl⟩
 exact ⟨μ,fun g hg=>h.w0 g hg,⟨h.kd.os,h.kd.tape,h.kd.output,h.kd.size,h.kd.block⟩,h.defers,h.size,fun t=>(h.slot t).mono k fun i hi=>⟨rfl,hi⟩,fun i hi=>by
  obtain ⟨cs,e,h1,h2,h4,h3⟩:=h.blk i hi
  exact ⟨cs,e,h1,h2,h4,fun o x hx=>⟨(h3 o x hx).1,fun ho=>⟨((h3 o x hx).2 ho).1.mono k fun i hi=>⟨rfl,hi⟩,((h3 o x hx).2 ho).2⟩⟩⟩,h.inj,h.own,h.par⟩
theorem CN.drew {X:Ctx} {σ:St} {a:Act} {w:World} (h:CN X σ a w):CN X σ a w.drew:=h.map fun _ _ h=>h.drew
def Gp (o:Oper):List Tmp:=o.op.operands.toList.filterMap fun | .tmp t=>some t|_=>none
def O9 (m:Nat→Nat→C) (rd:List (Nat×Nat×List C)):Prop:= ∀p∈rd,∀(i:Nat) c,p.2.2[i]?=some c→m p.1 (p.2.1+i)=c
def Ki (z:Nat→Nat) (al:List (Nat×List C)):Prop:=(∀p∈al,z p.1=0∧p.2≠ [])∧(al.map (·.1)).Nodup
theorem Ct {z:Nat→Nat} :Ki z []:=⟨fun p hp=>(by cases hp),.nil⟩
theorem EE {z:Nat→Nat} {k:Nat} {cs:List C} (h:z k=0) (hc:cs≠ []):Ki z [(k,cs)]:=⟨fun p hp=>by rw [List.mem_singleton.1 hp];exact ⟨h,hc⟩,by simp⟩
def Le (a b:AV):Prop:=b=a∨b= .junk
theorem Le.cv {a b:AV} (h:Le a b) {W0:World} {μ:Nat→Nat×Nat} {sz:Nat→Nat} {w:World} {v:Value} (hv:cv W0 μ sz w v a):cv W0 μ sz w v b:=by
 rcases h with h|h
 ·rw [h];exact hv
 ·rw [h];trivial
def Sim (P:Program) (X:Ctx) (o:Oper) (s:Nat→AV) (z:Nat→Nat) (e:Eff):Prop:=
 ∀σ:St,(∀t∈Gp o,Le (σ.s t) (s t))→(∀k,z k≠0→σ.sz k=0∨σ.sz k=z k)→O9 σ.m e.rd→Ki σ.sz e.al→ ∀a w,CN X σ a w→
  ∀(K:Act→World→Prop) (Q:Exit→Act→World→Prop),(∀a' w',CN X (σ.app o.dst e) a' w'→K a' w')→o.wp P a w K Q
def Yr (P:Program) (X:Ctx) (o:Oper) (s:Nat→AV) (z:Nat→Nat) (e:Eff):Prop:=
 ∀σ:St,(∀t∈Gp o,Le (σ.s t) (s t))→(∀k,z k≠0→σ.sz k=0∨σ.sz k=z k)→O9 σ.m e.rd→Ki σ.sz e.al→ ∀a w,C0 X σ a w→
  ∀(K:Act→World→Prop) (Q:Exit→Act→World→Prop),(∀a' w',C0 X (σ.app o.dst e) a' w'→K a' w')→o.wp P a w K Q
theorem Sim.of0 {P:Program} {X:Ctx} {o:Oper} {s:Nat→AV} {z:Nat→Nat} {e:Eff} (h: ∀W,Yr P (X.at W) o s z e):Sim P X o s z e:=
 fun σ h1 h2 h3 h4 a w ⟨W,hg,hc⟩ K Q hK=>h W σ h1 h2 h3 h4 a w hc K Q fun a' w' hc'=>hK a' w' ⟨W,hg,hc'⟩
def Yq (P:Program) (X:Ctx) (o:Oper) (s:Nat→AV) (z:Nat→Nat) (e:Eff):Prop:=
 ∀σ:St,(∀t∈Gp o,Le (σ.s t) (s t))→(∀k,z k≠0→σ.sz k=0∨σ.sz k=z k)→O9 σ.m e.rd→Ki σ.sz e.al→ ∀a w,C0 X σ a w→
  ∀(K:Act→World→Prop) (Q:Exit→Act→World→Prop),(∀a' w',CN X (σ.app o.dst e) a' w'→K a' w')→o.wp P a w K Q
theorem CN.up {X:Ctx} {W:World} (hg:IR X W) {σ:St} {a:Act} {w:World} (h:CN (X.at W) σ a w):CN X σ a w:=by
 obtain ⟨V,hV,h⟩:=h
 exact ⟨V,hg.trans hV,h⟩
theorem Sim.of1 {P:Program} {X:Ctx} {o:Oper} {s:Nat→AV} {z:Nat→Nat} {e:Eff} (h: ∀W,Ext X.W0 W→Yq P (X.at W) o s z e):Sim P X o s z e:=
 fun σ h1 h2 h3 h4 a w ⟨W,hg,hc⟩ K Q hK=>h W hg.ext σ h1 h2 h3 h4 a w hc K Q fun a' w' hc'=>hK a' w' (hc'.up hg)
class MonoA (A:World→Prop):Prop where
 up: ∀ {W W':World},A W→Ext W W'→A W'
def FR:Eff:=⟨.one (.v undef),[],[],[]⟩
def Ms (P:Program) (X:Ctx) (ops:List Oper) (o:Oper) (s:Nat→AV) (z:Nat→Nat) (e:Eff):Prop:=
 match o.guard with
 | none=>Sim P X o s z e
 | some (g,want)=> ∃o',ops[g]?=some o'∧ ∃d,o'.dst=some d∧(s d= .one (.v (.bool want))∧Sim P X o s z e∨s d= .one (.v (.bool (!want)))∧e=FR∨s d= .one (.v undef)∧e=FR)
def looks (ops:List Oper) (o:Oper):List Tmp:=Gp o++(match o.guard with|some (g,_)=>(match ops[g]? with|some o'=>o'.dst.toList|none=> [])|none=> [])
inductive Run (P:Program) (X:Ctx) (ops:List Oper):List Oper→St→List Eff→St→Prop
 | nil {σ:St} :Run P X ops [] σ [] σ
 | cons {o:Oper} {l:List Oper} {σ σ':St} {e:Eff} {es:List Eff} (h:Ms P X ops o σ.s σ.sz e) (hr:O9 σ.m e.rd) (ha:Ki σ.sz e.al) (hl:Run P X ops l (σ.app o.dst e) es σ'):Run P X ops (o::l) σ (e::es) σ'
theorem Qm {s:Nat→AV} {d:Option Tmp} {t:Nat} {a:AV} :Pf s d a t=if d=some t then a else s t:=by
 cases d with
 | none=>simp [Pf]
 | some d=>
   by_cases h:d=t
   ·subst h;simp [Pf,AI]
   ·rw [if_neg (by simpa using h)];exact Cj (Ne.symm h)
theorem Ck {X:Ctx} {μ:Nat→Nat×Nat} {σ:St} {a:Act} {w:World} (h:Cn X μ σ a w) {d:Option Tmp} (hd: ∀t,d=some t→t<X.n) {v:Value} {av:AV} (hv:cv X.W0 μ σ.sz w v av):Cn X μ ⟨Pf σ.s d av,σ.m,σ.sz⟩ (a.put d v) w:=by
 refine ⟨h.w0,h.kd,?_,?_,fun t=>?_,h.blk,h.inj,h.own,h.par⟩
 ·cases d<;>exact h.defers
 ·cases d with
  | none=>exact h.size
  | some d=>simp [Act.put,h.size]
 ·simp only [Qm]
  cases d with
  | none=>rw [if_neg (by simp)];exact h.slot t
  | some d=>
    by_cases hdt:d=t
    ·subst hdt
     rw [if_pos rfl]
     have hlt:d<a.tmps.size:=by rw [h.size];exact hd d rfl
     have:(a.put (some d) v).tmps.getD d undef=v:=by simp [Act.put,Array.getD_eq_getD_getElem?,hlt]
     rw [this];exact hv
    ·rw [if_neg (by simpa using hdt)]
     have:(a.put (some d) v).tmps.getD t undef=a.tmps.getD t undef:=by
      simp [Act.put,Array.getElem?_setIfInBounds_ne hdt]
     rw [this]
     exact h.slot t
theorem Ej {X:Ctx} {σ:St} {a:Act} {w:World} (h:CN X σ a w) {ops:List Oper} {g d:Nat} {o':Oper} (ho:ops[g]?=some o') (hd:o'.dst=some d) {b:Bool} (hs:σ.s d= .one (.v (.bool b))) (hn:d<X.n):
  yielded ops.toArray a.tmps g=some b:=by
 obtain ⟨_,_,μ,h⟩:=h
 have h1:=h.slot d
 rw [hs] at h1
 have hlt:d<a.tmps.size:=by rw [h.size];exact hn
 unfold yielded
 rw [List.getElem?_toArray,ho]
 simp only [Option.bind_some,hd]
 have h2:a.tmps[d]?=some (.bool b):=by
  have:a.tmps.getD d undef= .bool b:=h1
  simpa [Array.getD_eq_getD_getElem?,hlt] using this
 rw [h2]
theorem Gd {X:Ctx} {σ:St} {a:Act} {w:World} (h:CN X σ a w) {ops:List Oper} {g d:Nat} {o':Oper} (ho:ops[g]?=some o') (hd:o'.dst=some d) (hs:σ.s d= .one (.v undef)) (hn:d<X.n):
  yielded ops.toArray a.tmps g=none:=by
 obtain ⟨_,_,μ,h⟩:=h
 have h1:=h.slot d
 rw [hs] at h1
 have hlt:d<a.tmps.size:=by rw [h.size];exact hn
 unfold yielded
 rw [List.getElem?_toArray,ho]
 simp only [Option.bind_some,hd]
 have h2:a.tmps[d]?=some undef:=by
  have:a.tmps.getD d undef=undef:=h1
  simpa [Array.getD_eq_getD_getElem?,hlt] using this
 rw [h2]
 rfl
theorem Sj {P:Program} {X:Ctx} {l:List Oper} {Q:Exit→Act→World→Prop} {i:Nat} {o:Oper} (ho:l[i]?=some o) {s:Nat→AV} {z:Nat→Nat} {e:Eff} (hD:Ms P X l o s z e)
  (hn: ∀(j:Nat) o',l[j]?=some o'→ ∀t,o'.dst=some t→t<X.n) {σ:St} (hs: ∀t∈looks l o,σ.s t=s t) (hz: ∀k,z k≠0→σ.sz k=0∨σ.sz k=z k) (hr:O9 σ.m e.rd) (ha:Ki σ.sz e.al) {a:Act} {w:World} (h:CN X σ a w)
  {K:Act→World→Prop} (hK: ∀a' w',CN X (σ.app o.dst e) a' w'→K a' w'):wpOp P l.toArray Q i K a w:=by
 refine wpOp_step (by rw [List.getElem?_toArray];exact ho) fun K' hK'=>?_
 have hsl: ∀t∈Gp o,Le (σ.s t) (s t):=fun t ht=> .inl (hs t (List.mem_append.2 (.inl ht))).symm
 unfold Ms at hD
 cases hg:o.guard with
 | none=>
   rw [hg] at hD
   rw [if_pos (by simp [Region.wanted,hg])]
   exact hD σ hsl hz hr ha a w h K' Q fun a' w' hc=>hK' _ _ (hK _ _ hc)
 | some gw=>
   obtain ⟨g,want⟩:=gw
   rw [hg] at hD
   obtain ⟨o',ho',d,hd,hh⟩:=hD
   have hsd:σ.s d=s d:=hs d (List.mem_append.2 (.inr (by rw [hg];simp [ho',hd])))
   have hdn:=hn g o' ho' d hd
   rcases hh with ⟨h1,h2⟩|⟨h1,rfl⟩|⟨h1,rfl⟩
   ·have hy:=Ej h ho' hd (hsd.trans h1) hdn
    rw [if_pos (by simp [Region.wanted,hg,hy])]
    exact h2 σ hsl hz hr ha a w h K' Q fun a' w' hc=>hK' _ _ (hK _ _ hc)
   ·have hy:=Ej h ho' hd (hsd.trans h1) hdn
    rw [if_neg (by simp [Region.wanted,hg,hy])]
    obtain ⟨W,hW,μ,h⟩:=h
    exact hK' _ _ (hK _ _ ⟨W,hW,μ,Ck h (fun t ht=>hn i o ho t ht) rfl⟩)
   ·have hy:=Gd h ho' hd (hsd.trans h1) hdn
    rw [if_neg (by simp [Region.wanted,hg,hy])]
    obtain ⟨W,hW,μ,h⟩:=h
    exact hK' _ _ (hK _ _ ⟨W,hW,μ,Ck h (fun t ht=>hn i o ho t ht) rfl⟩)
def E5 {α:Type} (b:Nat→Bool):Nat→List (Option α)→α→α
 | _,[],x=>x
 | i,u::us,x=>E5 b (i+1) us (if b i then u.getD x else x)
theorem Et {α:Type} {b b':Nat→Bool} : ∀ {us:List (Option α)} {k:Nat} {x:α},(∀j,j<us.length→b (k+j)≠b' (k+j)→us[j]?=some none)→E5 b k us x=E5 b' k us x
 | [],_,_,_=>rfl
 | u::us,k,x,h=>by
   show E5 b (k+1) us _=E5 b' (k+1) us _
   have h0:(if b k then u.getD x else x)=(if b' k then u.getD x else x):=by
    by_cases hb:b k=b' k
    ·rw [hb]
    ·have:=h 0 (by simp) hb
     simp at this
     subst this
     simp
   rw [h0]
   exact Et fun j hj hne=>by
    have:=h (j+1) (by simpa using hj) (by rw [show k+(j+1)=k+1+j from by omega];exact hne)
    simpa using this
theorem Ir {α:Type} {b:Nat→Bool} {c:α} : ∀ {us:List (Option α)} {k i:Nat} {x:α},us[i]?=some (some c)→b (k+i)=true→(∀j,i<j→j<us.length→b (k+j)=true→us[j]?=some none)→E5 b k us x=c
 | [],_,_,_,h,_,_=>by simp at h
 | u::us,k,0,x,h,hb,hn=>by
   simp at h
   subst h
   show E5 b (k+1) us (if b k then c else x)=c
   rw [if_pos (by simpa using hb)]
   have:E5 b (k+1) us c=E5 (fun _=>false) (k+1) us c:=Et fun j hj hne=>by
    have hbt:b (k+1+j)=true:=by cases hb':b (k+1+j) with
     | true=>rfl
     | false=>exact absurd hb' hne
    have:=hn (j+1) (by omega) (by simpa using hj) (by rw [show k+(j+1)=k+1+j from by omega];exact hbt)
    simpa using this
   rw [this]
   clear this hn hb
   generalize k+1=n
   induction us generalizing n with
   | nil=>rfl
   | cons v us ih=>exact ih _
 | u::us,k,i+1,x,h,hb,hn=>by
   show E5 b (k+1) us _=c
   exact Ir (i:=i) (by simpa using h) (by rw [show k+1+i=k+(i+1) from by omega];exact hb) fun j hj hl hbj=>by
    have:=hn (j+1) (by omega) (by simpa using hl) (by rw [show k+(j+1)=k+1+j from by omega];exact hbj)
    simpa using this
def BH (b:Nat→Bool):Nat→List Oper→List Eff→St→St
 | i,o::l,e::es,σ=>BH b (i+1) l es (if b i then σ.app o.dst e else σ)
 | _,_,_,σ=>σ
structure Obs (α:Type) where
 see:St→α
 lays:Oper→Eff→Option α
 ok: ∀σ o e,see (σ.app o.dst e)=(lays o e).getD (see σ)
theorem Dz {α:Type} (V:Obs α) {b:Nat→Bool} : ∀ {l:List Oper} {es:List Eff} {k:Nat} {σ:St},V.see (BH b k l es σ)=E5 b k ((l.zip es).map fun p=>V.lays p.1 p.2) (V.see σ)
 | [],_,_,_=>by cases ‹List Eff› <;>rfl
 | _::_,[],_,_=>rfl
 | o::l,e::es,k,σ=>by
   show V.see (BH b (k+1) l es _)=E5 b (k+1) _ _
   rw [Dz V]
   congr 1
   by_cases hb:b k=true
   ·rw [if_pos hb,if_pos hb,V.ok]
   ·rw [if_neg hb,if_neg hb]
theorem FC {α:Type} (V:Obs α) {l:List Oper} {es:List Eff} {j:Nat} {o:Oper} {e:Eff} (h:l[j]?=some o) (he:es[j]?=some e) {u:Option α} :((l.zip es).map fun p=>V.lays p.1 p.2)[j]?=some u↔V.lays o e=u:=by
 simp only [List.getElem?_map,Option.map_eq_some_iff,List.getElem?_zip_eq_some,h,he,Option.some.injEq,Prod.exists]
 exact ⟨by rintro ⟨a,b,⟨rfl,rfl⟩,h⟩;exact h,fun h=>⟨_,_,⟨rfl,rfl⟩,h⟩⟩
def Ta (t:Nat):Obs AV:=⟨fun σ=>σ.s t,fun o e=>if o.dst=some t then some e.out else none,fun σ o e=>by
 show Pf σ.s o.dst e.out t=_
 rw [Qm];split<;>rfl⟩
def WH (k o:Nat):Obs C:=⟨fun σ=>σ.m k o,fun _ e=>wvL e.W k o,fun σ _ e=>SF e.W σ.m k o⟩
def CJ (k:Nat):Obs Nat:=⟨fun σ=>σ.sz k,fun _ e=>alS e.al k,fun σ o e=>UY e.al σ.sz k⟩
def ov (p q:Nat×Nat×List C):Bool:=Nat.beq p.1 q.1&&Nat.blt p.2.1 (q.2.1+q.2.2.length)&&Nat.blt q.2.1 (p.2.1+p.2.2.length)
theorem XU {p q:Nat×Nat×List C} {k o:Nat} (h:p.1=k∧p.2.1≤o∧o<p.2.1+p.2.2.length) (h2:q.1=k∧q.2.1≤o∧o<q.2.1+q.2.2.length):ov p q=true:=by
 unfold ov
 simp only [Bool.and_eq_true,Nat.blt_eq,Nat.beq_eq]
 omega
def DE (l:List Oper) (x:Oper) (ex:Eff) (y:Oper) (ey:Eff):Bool:=
 (match x.dst with|some d=>(looks l y).any (Nat.beq d) || (match y.dst with|some d'=>Nat.beq d d'|none=>false)|none=>false) ||
 ex.W.any fun p=>(ey.rd++ey.W).any (ov p)
def FM (ex ey:Eff):Bool:=ex.al.all fun p=>ey.al.all fun q=>!Nat.beq p.1 q.1
theorem GY {ex ey:Eff} (h:FM ex ey=true) {p q:Nat×List C} (hp:p∈ex.al) (hq:q∈ey.al):p.1≠q.1:=fun e=>by
 have:=List.all_eq_true.1 (List.all_eq_true.1 h p hp) q hq
 rw [e] at this
 simp at this
theorem Mo {ex ey:Eff} (h:FM ex ey=true):FM ey ex=true:=
 List.all_eq_true.2 fun p hp=>List.all_eq_true.2 fun q hq=>by
  have:=GY h hq hp
  cases hb:Nat.beq p.1 q.1 with
  | true=>exact absurd (Nat.eq_of_beq_eq_true hb).symm this
  | false=>rfl
def Pw (acc:List Nat) (o:Oper):Nat:=(CX o).foldl (fun m d=>m ||| (1<<<d) ||| acc.getD d 0) 0
def KO:List Nat→List Oper→List Nat
 | acc,[]=>acc
 | acc,o::l=>KO (acc++ [Pw acc o]) l
def Mj (l:List Oper) (m:Nat) (y:Oper) (ey:Eff):Nat→List Oper→List Eff→Bool
 | j,x::xs,ex::es=>(m.testBit j || !(DE l x ex y ey || DE l y ey x ex))&&FM ex ey&&Mj l m y ey (j+1) xs es
 | _,_,_=>true
def chk (l:List Oper) (es:List Eff):Bool:=
 let M:=KO [] l
 (List.range l.length).all fun i=>match l[i]?,es[i]? with
  | some y,some ey=>Mj l (M.getD i 0) y ey 0 (l.take i) (es.take i)
  | _,_=>false
theorem IK {l:List Oper} {m:Nat} {y:Oper} {ey:Eff} : ∀ {xs:List Oper} {es:List Eff} {k:Nat},Mj l m y ey k xs es=true→ ∀(j:Nat) x ex,xs[j]?=some x→es[j]?=some ex→(m.testBit (k+j)=true∨DE l x ex y ey=false∧DE l y ey x ex=false)∧FM ex ey=true
 | [],_,_,_,_,_,_,h,_=>by simp at h
 | _::_,[],_,_,_,_,_,_,h=>by simp at h
 | x::xs,e::es,k,hc,j,x',ex,h,he=>by
   simp only [Mj,Bool.and_eq_true] at hc
   obtain ⟨⟨h1,h2⟩,h3⟩:=hc
   cases j with
   | zero=>
     simp at h he
     subst h;subst he
     refine ⟨?_,h2⟩
     cases hm:m.testBit (k+0) with
     | true=>exact .inl rfl
     | false=>
       rw [Nat.add_zero] at hm
       rw [hm] at h1
       simp at h1
       exact .inr h1
   | succ j=>
     have:=IK h3 j x' ex (by simpa using h) (by simpa using he)
     rw [show k+1+j=k+(j+1) from by omega] at this
     exact this
theorem Hm {l:List Oper} {es:List Eff} (h:chk l es=true) {i j:Nat} {x y:Oper} {ex ey:Eff} (hj:j<i) (hx:l[j]?=some x) (hex:es[j]?=some ex) (hy:l[i]?=some y) (hey:es[i]?=some ey):
  (((KO [] l).getD i 0).testBit j=true∨DE l x ex y ey=false∧DE l y ey x ex=false)∧FM ex ey=true:=by
 have hi:i<l.length:=(List.getElem?_eq_some_iff.1 hy).1
 have:=List.all_eq_true.1 h i (List.mem_range.2 hi)
 simp only [hy,hey] at this
 have h2:=IK this j x ex (by rw [List.getElem?_take_of_lt hj];exact hx) (by rw [List.getElem?_take_of_lt hj];exact hex)
 rw [Nat.zero_add] at h2
 exact h2
def Dn (l:List Oper) (b:Nat→Bool):Prop:= ∀(i:Nat) o,l[i]?=some o→b i=true→ ∀d∈CX o,b d=true
theorem KP (acc:List Nat) (j:Nat): ∀(ds:List Nat) (m:Nat),(ds.foldl (fun m d=>m ||| (1<<<d) ||| acc.getD d 0) m).testBit j=true→m.testBit j=true∨ ∃d∈ds,j=d∨(acc.getD d 0).testBit j=true
 | [],_,h=> .inl h
 | d::ds,m,h=>by
   rw [List.foldl_cons] at h
   rcases KP acc j ds _ h with h1|⟨d',hd,hh⟩
   ·rw [Nat.testBit_or,Nat.testBit_or,Bool.or_eq_true,Bool.or_eq_true] at h1
    rcases h1 with (h1|h1)|h1
    ·exact .inl h1
    ·refine .inr ⟨d,List.mem_cons_self,.inl ?_⟩
     rw [Nat.one_shiftLeft,Nat.testBit_two_pow] at h1
     simpa using (of_decide_eq_true h1).symm
    ·exact .inr ⟨d,List.mem_cons_self,.inr h1⟩
   ·exact .inr ⟨d',List.mem_cons_of_mem _ hd,hh⟩
theorem NJ {l:List Oper} {b:Nat→Bool} (hb:Dn l b): ∀(r:List Oper) (acc:List Nat),(∀(i:Nat) o,r[i]?=some o→l[acc.length+i]?=some o)→
  (∀(i:Nat) o,i<acc.length→l[i]?=some o→ ∀j,(acc.getD i 0).testBit j=true→(∀d∈CX o,b d=true)→b j=true)→acc.length+r.length=l.length→
  ∀(i:Nat) o,l[i]?=some o→ ∀j,((KO acc r).getD i 0).testBit j=true→(∀d∈CX o,b d=true)→b j=true
 | [],acc,_,h,hl,i,o,ho,j,hj,hw=>h i o (by have:=(List.getElem?_eq_some_iff.1 ho).1;simp at hl;omega) ho j hj hw
 | x::r,acc,hr,h,hl,i,o,ho,j,hj,hw=>by
   refine NJ hb r (acc++ [Pw acc x]) (fun i o ho=>?_) (fun i o hi ho j hj hw=>?_) (by simp at hl⊢;omega) i o ho j hj hw
   ·have:=hr (i+1) o (by simpa using ho)
    simp only [List.length_append,List.length_cons,List.length_nil,Nat.zero_add]
    rw [show acc.length+1+i=acc.length+(i+1) from by omega]
    exact this
   ·by_cases hlt:i<acc.length
    ·refine h i o hlt ho j ?_ hw
     simpa [List.getD_eq_getElem?_getD,List.getElem?_append_left hlt] using hj
    ·have hie:i=acc.length:=by simp at hi;omega
     subst hie
     have hx:=hr 0 x rfl
     rw [Nat.add_zero,ho] at hx
     obtain rfl:o=x:=by simpa using hx
     have hj2:(Pw acc o).testBit j=true:=by simpa [List.getD_eq_getElem?_getD] using hj
     rcases KP acc j (CX o) 0 hj2 with h1|⟨d,hd,h1|h1⟩
     ·simp at h1
     ·rw [h1];exact hw d hd
     ·by_cases hdl:d<acc.length
      ·have hdo:d<l.length:=by simp at hl;omega
       exact h d l[d] hdl (Yv hdo) j h1 (hb d _ (Yv hdo) (hw d hd))
      ·rw [List.getD_eq_getElem?_getD,List.getElem?_eq_none (by omega)] at h1
       simp at h1
theorem PQ {l:List Oper} {b:Nat→Bool} (hb:Dn l b) {i:Nat} {o:Oper} (ho:l[i]?=some o) (hw: ∀d∈CX o,b d=true) {j:Nat} (hj:((KO [] l).getD i 0).testBit j=true):b j=true:=
 NJ hb l [] (fun i o ho=>by simpa using ho) (fun i o hi=>absurd hi (Nat.not_lt_zero _)) (by simp) i o ho j hj hw
theorem Run.len {P:Program} {X:Ctx} {ops l:List Oper} {σ σ':St} {es:List Eff} (h:Run P X ops l σ es σ'):es.length=l.length:=by
 induction h with
 | nil=>rfl
 | cons _ _ _ _ ih=>simp [ih]
theorem Run.ends {P:Program} {X:Ctx} {ops l:List Oper} {σ σ':St} {es:List Eff} (h:Run P X ops l σ es σ'): ∀k,BH (fun _=>true) k l es σ=σ':=by
 induction h with
 | nil=>intro k;rfl
 | cons _ _ _ _ ih=>intro k;exact ih (k+1)
theorem Gw: ∀ {l:List Oper} {es:List Eff} {b:Nat→Bool} {k:Nat} {σ:St},(∀j,k≤j→b j=false)→BH b k l es σ=σ
 | [],es,_,_,_,_=>by cases es<;>rfl
 | _::_,[],_,_,_,_=>rfl
 | o::l,e::es,b,k,σ,h=>by
   show BH b (k+1) l es (if b k then σ.app o.dst e else σ)=σ
   rw [h k (Yu _)]
   exact Gw fun j hj=>h j (by omega)
theorem Run.get {P:Program} {X:Ctx} {ops:List Oper} : ∀ {l:List Oper} {σ σ':St} {es:List Eff},Run P X ops l σ es σ'→ ∀(k i:Nat) o e,l[i]?=some o→es[i]?=some e→
  Ms P X ops o (BH (fun j=>decide (j<k+i)) k l es σ).s (BH (fun j=>decide (j<k+i)) k l es σ).sz e∧O9 (BH (fun j=>decide (j<k+i)) k l es σ).m e.rd∧Ki (BH (fun j=>decide (j<k+i)) k l es σ).sz e.al:=by
 intro l σ σ' es h
 induction h with
 | nil=>intro k i o e h;simp at h
 | cons hD hr ha hl ih=>
   intro k i o e ho he
   cases i with
   | zero=>
     simp at ho he
     subst ho;subst he
     rw [Gw (fun j hj=>decide_eq_false (by omega))]
     exact ⟨hD,hr,ha⟩
   | succ i=>
     have:=ih (k+1) i o e (by simpa using ho) (by simpa using he)
     rw [show k+1+i=k+(i+1) from by omega] at this
     have h2: ∀(l:List Oper) (es:List Eff) (x:Oper) (y:Eff) (σ:St),BH (fun j=>decide (j<k+(i+1))) k (x::l) (y::es) σ=BH (fun j=>decide (j<k+(i+1))) (k+1) l es (σ.app x.dst y):=by
      intro l es x y σ
      show BH _ (k+1) l es (if decide (k<k+(i+1)) then _ else _)=_
      rw [if_pos (decide_eq_true (by omega))]
     rw [h2]
     exact this
theorem Lf {P:Program} {X:Ctx} {Q:Exit→Act→World→Prop} {l:List Oper} {es:List Eff} {σ σ':St}
  (hn:(l.all fun o=>match o.dst with|some t=>Nat.blt t X.n|none=>true)=true) (hr:Run P X l l σ es σ') (hc:chk l es=true) (i:Nat) (hi:i<l.toArray.size):WO P l.toArray Q (fun b a w=>Dn l b∧CN X (BH b 0 l es σ) a w) i:=by
 have hlen:=hr.len
 have hn': ∀(j:Nat) o',l[j]?=some o'→ ∀t,o'.dst=some t→t<X.n:=fun j o' ho t ht=>by
  have:=List.all_eq_true.1 hn o' (List.mem_of_getElem? ho)
  rw [ht] at this
  simpa using this
 intro o ho b a' w' hbi hw hI
 obtain ⟨hdn,hcn⟩:=hI
 rw [List.getElem?_toArray] at ho
 have hil:i<l.length:=by simpa using hi
 obtain ⟨e,he⟩: ∃e,es[i]?=some e:=⟨es[i]'(by omega),Yv (by omega)⟩
 have hg:=hr.get 0 i o e ho he
 simp only [Nat.zero_add] at hg
 obtain ⟨hD,hrd,hal⟩:=hg
 have eff: ∀j,j<l.length→ ∃x ex,l[j]?=some x∧es[j]?=some ex:=fun j hj=>⟨_,_,Yv hj,Yv (by omega)⟩
 have H1: ∀(j:Nat) x ex,l[j]?=some x→es[j]?=some ex→j<i→b j=false→DE l x ex o e=false∧DE l o e x ex=false:=fun j x ex hx hex hj hbj=>by
  rcases (Hm hc hj hx hex ho he).1 with h1|h1
  ·have:=PQ hdn ho hw h1;rw [hbj] at this;cases this
  ·exact h1
 have H2: ∀(j:Nat) x ex,l[j]?=some x→es[j]?=some ex→i<j→b j=true→DE l x ex o e=false∧DE l o e x ex=false:=fun j x ex hx hex hj hbj=>by
  rcases (Hm hc hj ho he hx hex).1 with h1|h1
  ·have:=PQ hdn hx (hdn j x hx hbj) h1;rw [hbi] at this;cases this
  ·exact ⟨h1.2,h1.1⟩
 have look: ∀ {α:Type} (V:Obs α),(∀(j:Nat) x ex,l[j]?=some x→es[j]?=some ex→j≠i→DE l x ex o e=false→V.lays x ex=none)→V.see (BH b 0 l es σ)=V.see (BH (fun j=>decide (j<i)) 0 l es σ):=by
  intro α V hV
  rw [Dz,Dz]
  refine Et fun j hj hne=>?_
  rw [Nat.zero_add] at hne
  have hjl:j<l.length:=by simp at hj;omega
  obtain ⟨x,ex,hx,hex⟩:=eff j hjl
  rw [FC V hx hex]
  rcases Nat.lt_trichotomy j i with hji|hji|hji
  ·refine hV j x ex hx hex (by omega) (H1 j x ex hx hex hji ?_).1
   rw [decide_eq_true hji] at hne
   simpa using hne
  ·subst hji;rw [hbi,decide_eq_false (by omega)] at hne;exact absurd rfl hne
  ·refine hV j x ex hx hex (by omega) (H2 j x ex hx hex hji ?_).1
   rw [decide_eq_false (by omega)] at hne
   simpa using hne
 have noClashSlot: ∀ {x:Oper} {ex:Eff} {t:Nat},t∈looks l o→DE l x ex o e=false→(Ta t).lays x ex=none:=by
  intro x ex t ht hcl
  show (if x.dst=some t then _ else _)=_
  by_cases hx:x.dst=some t
  ·exfalso
   unfold DE at hcl
   rw [hx] at hcl
   have:(looks l o).any (Nat.beq t)=true:=List.any_eq_true.2 ⟨t,ht,by simp⟩
   simp [this] at hcl
  ·rw [if_neg hx]
 have noClashCell: ∀ {x:Oper} {ex:Eff} {p:Nat×Nat×List C} {k q:Nat},p∈e.rd++e.W→p.1=k∧p.2.1≤q∧q<p.2.1+p.2.2.length→DE l x ex o e=false→wvL ex.W k q=none:=by
  intro x ex p k q hp hr hcl
  cases hw:wvL ex.W k q with
  | none=>rfl
  | some c=>
    exfalso
    obtain ⟨p2,hp2,hh⟩:=Ja hw
    unfold DE at hcl
    rw [Bool.or_eq_false_iff] at hcl
    have:(ex.W.any fun p=>(e.rd++e.W).any (ov p))=true:=List.any_eq_true.2 ⟨p2,hp2,List.any_eq_true.2 ⟨p,hp,XU hh hr⟩⟩
    rw [hcl.2] at this
    cases this
 have apart: ∀(j j':Nat) x ex y ey,l[j]?=some x→es[j]?=some ex→l[j']?=some y→es[j']?=some ey→j≠j'→FM ex ey=true:=fun j j' x ex y ey hx hex hy hey hne=>by
  rcases Nat.lt_or_gt_of_ne hne with hlt|hlt
  ·exact (Hm hc hlt hx hex hy hey).2
  ·exact Mo (Hm hc hlt hy hey hx hex).2
 have only: ∀(k j:Nat) (x:Oper) (ex:Eff),l[j]?=some x→es[j]?=some ex→(CJ k).lays x ex≠none→ ∀(j':Nat) y ey,l[j']?=some y→es[j']?=some ey→j'≠j→(CJ k).lays y ey=none:=by
  intro k j x ex hx hex hl j' y ey hy hey hne
  have:=apart j j' x ex y ey hx hex hy hey (Ne.symm hne)
  cases hS:(CJ k).lays x ex with
  | none=>exact absurd hS hl
  | some S=>
    obtain ⟨p,hp,hpk,_⟩:=Kh hS
    exact H3.2 fun q hq hqk=>GY this hp hq (hpk.trans hqk.symm)
 have sizes: ∀k:Nat,∃S:Nat,∀b':Nat→Bool,(BH b' 0 l es σ).sz k=0∨(BH b' 0 l es σ).sz k=S:=by
  intro k
  by_cases hex: ∃(j:Nat) (x:Oper) (ex:Eff),l[j]?=some x∧es[j]?=some ex∧(CJ k).lays x ex≠none
  ·obtain ⟨j,x,ex,hx,hexj,hl⟩:=hex
   have hoth:=only k j x ex hx hexj hl
   obtain ⟨S,hS⟩: ∃S,(CJ k).lays x ex=some S:=by
    cases hh:(CJ k).lays x ex with
    | none=>exact absurd hh hl
    | some S=>exact ⟨S,rfl⟩
   refine ⟨S,fun b'=>?_⟩
   have hz:σ.sz k=0:=by
    have ha:=(hr.get 0 j x ex hx hexj).2.2
    simp only [Nat.zero_add] at ha
    have h1:(CJ k).see (BH (fun i=>decide (i<j)) 0 l es σ)=σ.sz k:=by
     rw [Dz]
     have:E5 (fun i=>decide (i<j)) 0 ((l.zip es).map fun p=>(CJ k).lays p.1 p.2) ((CJ k).see σ)=E5 (fun _=>false) 0 ((l.zip es).map fun p=>(CJ k).lays p.1 p.2) ((CJ k).see σ):=Et fun i hi hne=>by
      have hil2:i<l.length:=by simp at hi;omega
      obtain ⟨y,ey,hy,hey⟩:=eff i hil2
      rw [FC _ hy hey]
      refine hoth i y ey hy hey fun hh=>?_
      subst hh
      simp at hne
     rw [this]
     have: ∀(us:List (Option Nat)) (n x:Nat),E5 (fun _=>false) n us x=x:=by
      intro us
      induction us with
      | nil=>intro n x;rfl
      | cons u us ih=>intro n x;exact ih _ _
     exact this _ _ _
    obtain ⟨p,hp,hpk,_⟩:=Kh hS
    subst hpk
    have:=(ha.1 p hp).1
    rw [←h1];exact this
   show (CJ k).see _=0∨(CJ k).see _=S
   rw [Dz]
   by_cases hbj:b' j=true
   ·right
    refine Ir (i:=j) ((FC _ hx hexj).2 hS) (by rw [Nat.zero_add];exact hbj) fun i hji hi _=>?_
    have hil2:i<l.length:=by simp at hi;omega
    obtain ⟨y,ey,hy,hey⟩:=eff i hil2
    rw [FC _ hy hey]
    exact hoth i y ey hy hey (by omega)
   ·left
    have:E5 b' 0 ((l.zip es).map fun p=>(CJ k).lays p.1 p.2) ((CJ k).see σ)=E5 (fun _=>false) 0 ((l.zip es).map fun p=>(CJ k).lays p.1 p.2) ((CJ k).see σ):=Et fun i hi hne=>by
     have hil2:i<l.length:=by simp at hi;omega
     obtain ⟨y,ey,hy,hey⟩:=eff i hil2
     rw [FC _ hy hey]
     refine hoth i y ey hy hey fun hh=>?_
     subst hh
     rw [Nat.zero_add] at hne
     exact hne (by simpa using hbj)
    rw [this]
    have: ∀(us:List (Option Nat)) (n x:Nat),E5 (fun _=>false) n us x=x:=by
     intro us
     induction us with
     | nil=>intro n x;rfl
     | cons u us ih=>intro n x;exact ih _ _
    rw [this]
    exact hz
  ·refine ⟨σ.sz k,fun b'=> .inr ?_⟩
   show (CJ k).see _=_
   rw [Dz]
   have:E5 b' 0 ((l.zip es).map fun p=>(CJ k).lays p.1 p.2) ((CJ k).see σ)=E5 (fun _=>false) 0 ((l.zip es).map fun p=>(CJ k).lays p.1 p.2) ((CJ k).see σ):=Et fun i hi hne=>by
    have hil2:i<l.length:=by simp at hi;omega
    obtain ⟨y,ey,hy,hey⟩:=eff i hil2
    rw [FC _ hy hey]
    cases hh:(CJ k).lays y ey with
    | none=>rfl
    | some S=>exact absurd ⟨i,y,ey,hy,hey,by rw [hh];simp⟩ hex
   rw [this]
   have: ∀(us:List (Option Nat)) (n x:Nat),E5 (fun _=>false) n us x=x:=by
    intro us
    induction us with
    | nil=>intro n x;rfl
    | cons u us ih=>intro n x;exact ih _ _
   exact this _ _ _
 refine Sj ho hD hn' (fun t ht=>?_) (fun k hk=>?_) (fun p hp q c hq=>?_) ?_ hcn (fun a2 w2 hc2=>?_)
 ·exact look (Ta t) fun j x ex _ _ _ hcl=>noClashSlot ht hcl
 ·obtain ⟨S,hS⟩:=sizes k
  rcases hS (fun j=>decide (j<i)) with h1|h1
  ·exact absurd h1 hk
  ·rcases hS b with h2|h2
   ·exact .inl h2
   ·exact .inr (h2.trans h1.symm)
 ·rw [←hrd p hp q c hq]
  have hql:=(List.getElem?_eq_some_iff.1 hq).1
  exact look (WH p.1 (p.2.1+q)) fun j x ex _ _ _ hcl=>noClashCell (List.mem_append.2 (.inl hp)) ⟨rfl,by omega,by omega⟩ hcl
 ·refine ⟨fun p hp=>⟨?_,(hal.1 p hp).2⟩,hal.2⟩
  refine (look (CJ p.1) fun j x ex hx hex hne _=>?_).trans (hal.1 p hp).1
  have:=apart i j o e x ex ho he hx hex (Ne.symm hne)
  exact H3.2 fun q hq hqk=>GY this hp hq hqk.symm
 ·have hup:BH (up b i) 0 l es σ=(BH b 0 l es σ).app o.dst e:=by
   have key: ∀ {α:Type} (V:Obs α),(∀(j:Nat) x ex,l[j]?=some x→es[j]?=some ex→i<j→DE l o e x ex=false→DE l x ex o e=false→V.lays o e≠none→V.lays x ex=none)→V.see (BH (up b i) 0 l es σ)=V.see ((BH b 0 l es σ).app o.dst e):=by
    intro α V hV
    rw [V.ok]
    cases hl:V.lays o e with
    | none=>
      show _=V.see _
      rw [Dz,Dz]
      refine Et fun j hj hne=>?_
      rw [Nat.zero_add] at hne
      by_cases hji:j=i
      ·subst hji;rw [FC V ho he];exact hl
      ·unfold up at hne
       have:(j==i)=false:=by simpa using hji
       rw [this,Bool.false_or] at hne
       exact absurd rfl hne
    | some c=>
      show _=c
      rw [Dz]
      refine Ir (i:=i) ((FC V ho he).2 hl) (by rw [Nat.zero_add];simp [up]) fun j hij hj hbj=>?_
      have hjl:j<l.length:=by simp at hj;omega
      obtain ⟨x,ex,hx,hex⟩:=eff j hjl
      rw [FC V hx hex]
      rw [Nat.zero_add] at hbj
      have hbj2:b j=true:=by
       unfold up at hbj
       have:(j==i)=false:=by simpa using (show j≠i by omega)
       rw [this,Bool.false_or] at hbj
       exact hbj
      have hh:=H2 j x ex hx hex hij hbj2
      exact hV j x ex hx hex hij hh.2 hh.1 (by rw [hl];simp)
   have hs:(BH (up b i) 0 l es σ).s=((BH b 0 l es σ).app o.dst e).s:=by
    funext t
    refine key (Ta t) fun j x ex hx hex hij hcl hcl2 hl=>?_
    show (if x.dst=some t then _ else _)=_
    by_cases hxt:x.dst=some t
    ·exfalso
     have hot:o.dst=some t:=by
      replace hl:(if o.dst=some t then some e.out else none)≠none:=hl
      by_cases h:o.dst=some t
      ·exact h
      ·rw [if_neg h] at hl;exact absurd rfl hl
     unfold DE at hcl
     rw [hot,hxt] at hcl
     simp at hcl
    ·rw [if_neg hxt]
   have hmm:(BH (up b i) 0 l es σ).m=((BH b 0 l es σ).app o.dst e).m:=by
    funext k q
    refine key (WH k q) fun j x ex hx hex hij hcl hcl2 hl=>?_
    show wvL ex.W k q=none
    cases hw2:wvL e.W k q with
    | none=>exact absurd hw2 hl
    | some c=>
      obtain ⟨p,hp,hh⟩:=Ja hw2
      exact noClashCell (List.mem_append.2 (.inr hp)) hh hcl2
   have hz:(BH (up b i) 0 l es σ).sz=((BH b 0 l es σ).app o.dst e).sz:=by
    funext k
    refine key (CJ k) fun j x ex hx hex hij hcl hcl2 hl=>?_
    exact only k i o e ho he hl j x ex hx hex (by omega)
   revert hs hmm hz
   generalize BH (up b i) 0 l es σ=A
   generalize (BH b 0 l es σ).app o.dst e=B
   intro hs hmm hz
   cases A;cases B
   simp at hs hmm hz
   rw [hs,hmm,hz]
  show Dn l (up b i)∧CN X (BH (up b i) 0 l es σ) a2 w2
  rw [hup]
  refine ⟨fun j x hx hbj d hdx=>?_,hc2⟩
  unfold up at hbj⊢
  rw [Bool.or_eq_true] at hbj⊢
  rcases hbj with hbj|hbj
  ·have:j=i:=by simpa using hbj
   subst this
   rw [ho] at hx
   cases hx
   exact .inr (hw d hdx)
  ·exact .inr (hdn j x hx hbj d hdx)
theorem Nl {P:Program} {X:Ctx} {Q:Exit→Act→World→Prop} {id:Nat} {l:List Oper} {es:List Eff} {σ σ':St} (hm:P.follows .mixedOrders=true) (hd:N9 l=true)
  (hn:(l.all fun o=>match o.dst with|some t=>Nat.blt t X.n|none=>true)=true) (hr:Run P X l l σ es σ') (hc:chk l es=true) {a:Act} {w:World} (h:CN X σ a w) (hK: ∀a w,CN X σ' a w→Q .normal a w):(Code.region id l.toArray true).wp P Q a w:=by
 have hlen:=hr.len
 have hn': ∀(j:Nat) o',l[j]?=some o'→ ∀t,o'.dst=some t→t<X.n:=fun j o' ho t ht=>by
  have:=List.all_eq_true.1 hn o' (List.mem_of_getElem? ho)
  rw [ht] at this
  simpa using this
 refine wp_region_any hm (Kv (I:=fun b a w=>Dn l b∧CN X (BH b 0 l es σ) a w) (Lf hn hr hc) (UH hd) ?_ _ _ _ _ (by simp) (by simp) ?_)
 ·rintro b a' w' hall ⟨_,hcn⟩
  have:BH b 0 l es σ=σ':=by
   rw [←hr.ends 0]
   have: ∀(l:List Oper) (es:List Eff) (σ:St) (k:Nat),(∀j,j<l.length→b (k+j)=true)→BH b k l es σ=BH (fun _=>true) k l es σ:=by
    intro l
    induction l with
    | nil=>intro es σ k _;cases es<;>rfl
    | cons o l ih=>
      intro es σ k hb
      cases es with
      | nil=>rfl
      | cons e es=>
        show BH b (k+1) l es _=BH _ (k+1) l es _
        rw [show b k=true from hb 0 (by simp)]
        exact ih es _ _ fun j hj=>by rw [show k+1+j=k+(j+1) from by omega];exact hb (j+1) (by simpa using hj)
   exact this l es σ 0 fun j hj=>by rw [Nat.zero_add];exact hall j (by simpa using hj)
  rw [this] at hcn
  exact hK _ _ hcn
 ·have:DR (Array.replicate l.toArray.size false)=fun _=>false:=by
   funext j
   unfold DR
   by_cases hj:j<l.length<;>simp [Array.getD,hj]
  rw [this]
  refine ⟨fun i o _ hb=>by simp at hb,?_⟩
  rw [Gw fun _ _=>rfl]
  exact h.drew
end Go.Proofs.YtfineedhebhpaaaGreatDoor
