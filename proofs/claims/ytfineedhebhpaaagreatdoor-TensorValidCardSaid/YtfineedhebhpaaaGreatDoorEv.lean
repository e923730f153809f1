/-
  Several texts in one: Eo, Ep, Eq, Er, Et, Eu.
-/
import Derived.Test.YtfineedhebhpaaaGreatDoorEw
import Derived.Deep.AppendSrc
import Derived.Great.BuildSlice
import Derived.Laws.MakeOwn
namespace Go.Proofs.YtfineedhebhpaaaGreatDoor
open List renaming getElem?_eq_getElem→Yv
open Nat renaming le_refl→Yu
open Go.RowKit
set_option linter.unusedVariables false
set_option linter.unusedSimpArgs false
class Sle (P:Program) (t:TypeId) (e:outParam TypeId) (agg:outParam Bool) (n bytes:outParam Nat) (z:outParam Value):Prop where
 hu:P.underlying t=some (.slice e)
 hT:MH P e agg n=true
 hi:(P.info? e).map (fun i=>(i.size,i.bytes))=some (n,bytes)
 hz:((P.info? e).bind (·.zero))=some z
 ok:(Nat.blt 0 n&&Nat.beq z.cells.size n&&z.cells.toList.all L1)=true
section
variable {P:Program} {t e:TypeId} {agg:Bool} {n bytes:Nat} {z:Value}
theorem Sle.info (S:Sle P t e agg n bytes z): ∃i,P.info? e=some i∧i.zero=some z∧i.size=n∧i.bytes=bytes:=by
 have h1:=S.hi
 have h2:=S.hz
 cases h:P.info? e with
 | none=>rw [h] at h1;cases h1
 | some i=>
   rw [h] at h1 h2
   simp at h1 h2
   exact ⟨i,rfl,h2,h1.1,h1.2⟩
theorem Sle.tsz (S:Sle P t e agg n bytes z):Tsz P e agg n:=⟨S.hT⟩
theorem Sle.pos (S:Sle P t e agg n bytes z):0<n:=by
 have:=S.ok
 simp only [Bool.and_eq_true] at this
 simpa using this.1.1
theorem Sle.size (S:Sle P t e agg n bytes z):z.cells.size=n:=by
 have:=S.ok
 simp only [Bool.and_eq_true] at this
 exact Nat.eq_of_beq_eq_true this.1.2
theorem Sle.nl (S:Sle P t e agg n bytes z):z.cells.toList.all L1=true:=by
 have:=S.ok
 simp only [Bool.and_eq_true] at this
 exact this.2
end
def Qe:C→Option Nat
 | .ls _ l _=>some l
 | .gl _ l _=>some l
 | .sx _ _ l _ _=>some l
 | .v (.slice none 0 0)=>some 0
 | _=>none
theorem Tb {W0:World} {μ:Nat→Nat×Nat} {sz:Nat→Nat} {w:World} {x:Value} {c:C} {m:Nat} (h:cc W0 μ sz w x c) (hc:Qe c=some m): ∃ao cap,x= .slice ao m cap:=by
 unfold Qe at hc
 split at hc
 ·cases hc;unfold cc dd at h;obtain ⟨_,ao,cap,rfl,_⟩:=h;exact ⟨_,_,rfl⟩
 ·cases hc;obtain ⟨ao,cap,rfl,_⟩:=h;exact ⟨_,_,rfl⟩
 ·cases hc;exact ⟨_,_,h.1⟩
 ·cases hc;exact ⟨_,_,h⟩
 ·cases hc
theorem Me {W0 w:World} {b:Nat} : ∀ {ds:List D} {off i:Nat} {d:D},ddL W0 w b off ds→ds[i]?=some d→ ∃v,W0.cell? ⟨b,off+i,none⟩=some v∧noL v∧dd W0 w v d
 | [],_,_,_,_,h=>by simp at h
 | d::ds,off,0,d',h,hi=>by
   simp at hi;subst hi
   unfold ddL at h
   exact h.1
 | d::ds,off,i+1,d',h,hi=>by
   unfold ddL at h
   have:=Me (i:=i) h.2 (by simpa using hi)
   rw [show off+1+i=off+(i+1) by omega] at this
   exact this
theorem J3 {W0 w:World} {b:Nat} : ∀ {ds:List D} {off:Nat},(∀(i:Nat) d,ds[i]?=some d→ ∃v,W0.cell? ⟨b,off+i,none⟩=some v∧noL v∧dd W0 w v d)→ddL W0 w b off ds
 | [],_,_=>by unfold ddL;trivial
 | d::ds,off,h=>by
   unfold ddL
   refine ⟨h 0 d rfl,J3 fun i d' hi=>?_⟩
   have:=h (i+1) d' (by simpa using hi)
   rw [show off+1+i=off+(i+1) by omega]
   exact this
theorem J4 {W0 w:World} {b off:Nat} {ds:List D} (h:ddL W0 w b off ds) (k:Nat):ddL W0 w b (off+k) (ds.drop k):=J3 fun i d hi=>by
 rw [List.getElem?_drop] at hi
 rw [Nat.add_assoc]
 exact Me h hi
theorem J2 {W0 w:World} {b off:Nat} {ds:List D} (h:ddL W0 w b off ds) (k:Nat):ddL W0 w b off (ds.take k):=J3 fun i d hi=>by
 rw [List.getElem?_take] at hi
 split at hi
 ·exact Me h hi
 ·cases hi
theorem Ka {W0:World} {μ:Nat→Nat×Nat} {sz:Nat→Nat} {w:World} {x:Value} {d:D} :cc W0 μ sz w x (toC d)↔dd W0 w x d:=by
 cases d with
 | v y=>unfold toC dd;exact Iff.rfl
 | q r j i=>
   unfold dd
   match i with
   | 0=>exact Iff.rfl
   | 1=>exact Iff.rfl
   | _+2=>exact Iff.rfl
 | lst es n cs=>exact Iff.rfl
theorem X9 {W0 w:World} {x:Value} {d:D} (h:dd W0 w x d) (hn:noL x):nl (toC d):=by
 cases d with
 | v y=>unfold dd at h;subst h;exact hn
 | _=>trivial
abbrev lsG {α:Type} (es:Nat) (f:α→List D) (l:List α):C:= .ls es l.length (l.flatMap f)
theorem Fs {α:Type} {es:Nat} {f:α→List D} (hf: ∀a,(f a).length=es): ∀(l:List α),(l.flatMap f).length=l.length*es
 | []=>by simp
 | a::l=>by rw [List.flatMap_cons,List.length_append,hf,Fs hf l,List.length_cons,Nat.add_mul];omega
theorem Is {α:Type} {es:Nat} {f:α→List D} (hf: ∀a,(f a).length=es): ∀(l:List α) (i:Nat),(l.flatMap f).drop (i*es)=(l.drop i).flatMap f
 | l,0=>by simp
 | [],i+1=>by simp
 | a::l,i+1=>by
   rw [List.flatMap_cons,List.drop_succ_cons,←Is hf l i,show (i+1)*es=(f a).length+i*es by rw [hf,Nat.add_mul];omega,List.drop_append]
   simp
theorem Ld {α:Type} {es:Nat} {f:α→List D} (hf: ∀a,(f a).length=es): ∀(l:List α) (i:Nat),(l.flatMap f).take (i*es)=(l.take i).flatMap f
 | l,0=>by simp
 | [],i+1=>by simp
 | a::l,i+1=>by
   rw [List.flatMap_cons,List.take_succ_cons,List.flatMap_cons,←Ld hf l i,show (i+1)*es=(f a).length+i*es by rw [hf,Nat.add_mul];omega,List.take_append,List.take_of_length_le (Nat.le_add_right _ _),Nat.add_sub_cancel_left]
theorem QA {α:Type} {es:Nat} {f:α→List D} (hf: ∀a,(f a).length=es) {l:List α} {i:Nat} {a:α} (h:l[i]?=some a):((l.flatMap f).drop (i*es)).take es=f a:=by
 rw [Is hf]
 obtain ⟨hi,he⟩:=List.getElem?_eq_some_iff.1 h
 rw [List.drop_eq_getElem_cons hi,List.flatMap_cons,he,List.take_append,hf]
 have:(f a).length=es:=hf a
 simp [←this]
section
variable {P:Program} {X:Ctx} {ops l:List Oper} {σ:St} {K:List Eff→St→Prop} {s:Nat→AV} {z:Nat→Nat}
variable {dst:Option Tmp} {ty:TypeId} {pos:String} {af:Array Edge} {gd:Option (Nat×Bool)}
theorem Pi {t:TypeId} {x:Operand} {c:C} {m:Nat} (hu: ∃e,P.underlying t=some (.slice e)) (hx:evC s x= .one c) (hc:Qe c=some m):Dc P ⟨dst,.call ⟨.builtin .len,#[x],#[t]⟩,ty,pos,af,gd⟩ s (.one (.v (.int .i64 m))):=fun W0 μ sz w ρ hρ=>by
 have h:=hρ x (by simp [Op.operands,Call.operands])
 rw [hx] at h
 obtain ⟨ao,cap,hv⟩:=Tb h hc
 obtain ⟨e,hu⟩:=hu
 exact ⟨_,by simp [execOp,resolve,invoke,builtin,Builtin.len_,run_underlying hu w,hv,goInt],rfl⟩
theorem LP {t e:TypeId} {x y:Operand} {agg:Bool} {n bytes:Nat} {zv:Value} [S:Sle P t e agg n bytes zv] {len:Nat} {cs:List D} {ik:IntKind} {i:Int} (hx:evC s x= .one (.ls n len cs)) (hy:evC s y= .one (.v (.int ik i))) (hi:0≤i∧i<len):
  Dc P ⟨dst,.indexAddr t x y,ty,pos,af,gd⟩ s (.one (.fp ((cs.drop (i.toNat*n)).take n))):=fun W0 μ sz w ρ hρ=>by
 have h1:=hρ x (by simp [Op.operands])
 rw [hx] at h1
 unfold cv cv0 cc dd at h1
 obtain ⟨hl,ao,cap,hp,_,hc⟩:=h1
 have h2:=hρ y (by simp [Op.operands])
 rw [hy] at h2
 replace h2:ρ y= .int ik i:=h2
 have hn:=S.pos
 obtain ⟨k,rfl⟩: ∃k:Nat,i=k:=⟨i.toNat,by omega⟩
 have hk:k<len:=by omega
 have hkn:k*n+n≤cs.length:=by rw [hl,show k*n+n=(k+1)*n by rw [Nat.add_mul];omega];exact Nat.mul_le_mul_right _ hk
 have hne:cs≠ []:=fun h0=>by rw [h0] at hkn;simp at hkn;omega
 obtain ⟨b,off,rfl,hd⟩:=hc hne
 refine ⟨.pointer (some ⟨b,off+k*n,none⟩),?_,b,off+k*n,rfl,?_,?_⟩
 ·simp [execOp,Instr.indexAt,run_underlying S.hu w,hp,h2,asIntOf,hk,S.tsz.size w,Addr.add_mid]
 ·rw [Int.toNat_natCast]
  intro h0
  have:=congrArg List.length h0
  rw [List.length_take,List.length_drop] at this
  simp at this
  omega
 ·rw [Int.toNat_natCast]
  exact J2 (J4 hd _) _
theorem LQ {t e:TypeId} {x y:Operand} {agg:Bool} {n bytes:Nat} {zv:Value} [S:Sle P t e agg n bytes zv] {k len:Nat} {ik:IntKind} {i:Int} (hx:evC s x= .one (.gl k len n)) (hy:evC s y= .one (.v (.int ik i))) (hi:0≤i∧i<len):
  Dc P ⟨dst,.indexAddr t x y,ty,pos,af,gd⟩ s (.one (.ptr k (i.toNat*n))):=fun W0 μ sz w ρ hρ=>by
 have h1:=hρ x (by simp [Op.operands])
 rw [hx] at h1
 obtain ⟨ao,c,hp,_,_,h4⟩:=h1
 obtain ⟨rfl,_,hk⟩:=h4 (by omega)
 have h2:=hρ y (by simp [Op.operands])
 rw [hy] at h2
 replace h2:ρ y= .int ik i:=h2
 refine ⟨.pointer (some ⟨(μ k).1,i.toNat*n,none⟩),?_,rfl,hk⟩
 simp [execOp,Instr.indexAt,run_underlying S.hu w,hp,h2,asIntOf,hi.1,hi.2,S.tsz.size w,Addr.add_mid]
theorem LR {t:TypeId} {x:Operand} {i fo:Nat} {agg:Bool} {n:Nat} [hF:Fld P t i fo agg n] {cs:List D} (hx:evC s x= .one (.fp cs)) (hl:Nat.blt fo cs.length=true):Dc P ⟨dst,.fieldAddr t x i,ty,pos,af,gd⟩ s (.one (.fp (cs.drop fo))):=fun W0 μ sz w ρ hρ=>by
 have h:=hρ x (by simp [Op.operands])
 rw [hx] at h
 obtain ⟨b,off,hp,_,hd⟩:=h
 obtain ⟨fs,f,hu,hf,rfl,hT,hn⟩:=hF.get
 have hl:f.offset<cs.length:=by simpa using hl
 refine ⟨.pointer (some ⟨b,off+f.offset,none⟩),?_,b,off+f.offset,rfl,fun h0=>?_,J4 hd f.offset⟩
 ·simp [execOp,Instr.fieldAt,run_underlying hu w,hf,hp,Instr.sureAddr,fieldPlace,hT.size w,hn,Addr.add_mid]
 ·have:=congrArg List.length h0
  simp at this
  omega
theorem OF {t:TypeId} {x:Operand} {agg:Bool} {n:Nat} [hT:Tsz P t agg n] {cs:List D} (hd: ∀t,dst=some t→t<X.n) (hx:evC s x= .one (.fp cs)) (hn:n≤cs.length) (h0:(agg || Nat.beq n 1)=true):
  Sim P X ⟨dst,.load t x,ty,pos,af,gd⟩ s z ⟨mkA agg ((cs.take n).map toC),[],[],[]⟩:=by
 refine Sim.of0 fun W=>?_
 replace hd: ∀t,dst=some t→t<(X.at W).n:=hd
 generalize X.at W=X at hd⊢
 intro σ hs hsz hrd _ a w hc K Q hK
 obtain ⟨μ,hc⟩:=hc
 have hev:=hc.ev x
 replace hev:=C5 (o:=⟨dst,.load t x,ty,pos,af,gd⟩) hs (by simp [Op.operands]) hev
 rw [hx] at hev
 obtain ⟨b,off,hp,hne,hd0⟩:=hev
 have ex: ∀(ds:List D) (o:Nat),ddL X.W0 w b o ds→ ∃vs:List Value,vs.length=ds.length∧w.rangeAt b o vs∧B5 (cc X.W0 μ σ.sz w) vs (ds.map toC):=by
  intro ds
  induction ds with
  | nil=>intro o _;exact ⟨[],rfl,fun j v hj=>by simp at hj,rfl,fun i a c h=>by simp at h⟩
  | cons d ds ih=>
    intro o h
    unfold ddL at h
    obtain ⟨⟨v,h1,h2,h3⟩,h4⟩:=h
    obtain ⟨vs,g1,g2,g3⟩:=ih (o+1) h4
    refine ⟨v::vs,by simp [g1],fun j u hj=>?_,by simp [g3.1],fun i u c hu hc=>?_⟩
    ·cases j with
     | zero=>simp at hj;subst hj;exact hc.w0.cell h1
     | succ j=>
       have:=g2 j u (by simpa using hj)
       rw [show o+1+j=o+(j+1) by omega] at this
       exact this
    ·cases i with
     | zero=>simp at hu hc;subst hu;subst hc;exact Ka.2 h3
     | succ i=>exact g3.2 i u c (by simpa using hu) (by simpa using hc)
 obtain ⟨vs,hvl,hr,hall⟩:=ex _ _ (J2 hd0 n)
 rw [List.length_take,Nat.min_eq_left hn] at hvl
 have hfin: ∀v,(execOp a.eval ⟨dst,.load t x,ty,pos,af,gd⟩).run P w= .ok (.value v) w→cv X.W0 μ σ.sz w v (mkA agg ((cs.take n).map toC))→Oper.wp P ⟨dst,.load t x,ty,pos,af,gd⟩ a w K Q:=fun v hv hcv=>by
  unfold Oper.wp
  rw [hv]
  exact hK _ _ ⟨μ,Ck hc hd hcv⟩
 cases agg with
 | true=>
   obtain ⟨d,hu,hrow⟩:=hT.row
   refine hfin (.agg vs.toArray) ?_ ⟨vs,rfl,hall⟩
   have:=run_loadAt_mid (P:=P) w b off t vs d hr hu hrow (by rw [hT.info,hvl])
   simp [execOp,hp,this]
 | false=>
   have hn1:n=1:=by simpa using h0
   subst hn1
   obtain ⟨v,rfl⟩: ∃v,vs= [v]:=by
    match vs,hvl with
    | [v],_=>exact ⟨v,rfl⟩
   obtain ⟨c,hcs⟩: ∃c,(cs.take 1).map toC= [c]:=by
    have hl:=hall.1
    match hm:(cs.take 1).map toC,hl with
    | [c],_=>exact ⟨c,rfl⟩
    | [],hl=>simp at hl
    | _::_::_,hl=>simp at hl
   rw [hcs] at hall
   refine hfin v ?_ (by rw [hcs];exact hall.2 0 v c rfl rfl)
   have h1:w.cell? ⟨b,off,none⟩=some v:=hr 0 v rfl
   simp [execOp,hp,Instr.loadAt,Instr.sureAddr,loadVar,hT.isAgg w,h1]
inductive Bnd (s:Nat→AV) (d:Nat):Option Operand→Nat→Prop
 | none:Bnd s d none d
 | some {x:Operand} {ik:IntKind} {i:Int} {m:Nat} (h:evC s x= .one (.v (.int ik i))) (hm:i=m):Bnd s d (some x) m
theorem QN {W0:World} {μ:Nat→Nat×Nat} {sz:Nat→Nat} {w:World} {ρ:Operand→Value} {d m:Nat} {x:Operand} {code:BoundsCode} (h:Bnd s d (some x) m) (hρ:cv W0 μ sz w (ρ x) (evC s x)) {y:Nat} (hy:m≤y):(Instr.sliceBound (ρ x) y code).run P w= .ok m w:=by
 cases h with
 | some h hm=>
   rename_i ik i
   subst hm
   rw [h] at hρ
   replace hρ:ρ x= .int ik (m:Int):=hρ
   have h2:(m:Int)≤(y:Int):=by omega
   simp [Instr.sliceBound,hρ,asIntOf,h2]
theorem LO {t e:TypeId} {x:Operand} {lo hi:Option Operand} {agg:Bool} {n bytes:Nat} {zv:Value} [S:Sle P t e agg n bytes zv] {len l h:Nat} {cs:List D} (hx:evC s x= .one (.ls n len cs)) (hh:Bnd s len hi h) (hl:Bnd s 0 lo l) (h1:l≤h) (h2:h≤len):
  Dc P ⟨dst,.slice t x lo hi none,ty,pos,af,gd⟩ s (.one (.ls n (h-l) ((cs.take (h*n)).drop (l*n)))):=fun W0 μ sz w ρ hρ=>by
 have e1:=hρ x (by simp [Op.operands])
 rw [hx] at e1
 unfold cv cv0 cc dd at e1
 obtain ⟨hlen,ao,cap,hp,hlc,hc⟩:=e1
 have rh: ∀v,hi=some v→(Instr.sliceBound (ρ v) cap .sliceAcap).run P w= .ok h w:=fun v hv=>by
  subst hv
  exact QN hh (hρ v (by simp [Op.operands])) (by omega)
 have rl: ∀v,lo=some v→(Instr.sliceBound (ρ v) h .sliceB).run P w= .ok l w:=fun v hv=>by
  subst hv
  exact QN hl (hρ v (by simp [Op.operands])) h1
 have rb:(Instr.sliceBounds true len cap (lo.map ρ) (hi.map ρ) none).run P w= .ok (l,h,cap) w:=by
  unfold Instr.sliceBounds
  cases hi with
  | none=>
    cases hh
    cases lo with
    | none=>cases hl;rfl
    | some v=>
      have:=rl v rfl
      simp [this]
  | some u=>
    cases lo with
    | none=>cases hl;simp [rh u rfl]
    | some v=>simp [rh u rfl,rl v rfl]
 have hcl:((cs.take (h*n)).drop (l*n)).length=(h-l)*n:=by
  have:h*n≤len*n:=Nat.mul_le_mul_right _ h2
  rw [List.length_drop,List.length_take,hlen,Nat.min_eq_left this,Nat.sub_mul]
 have key: ∀ao',(execOp ρ ⟨dst,.slice t x lo hi none,ty,pos,af,gd⟩).run P w= .ok (.value (.slice ao' (h-l) (cap-l))) w→(0<h-l→ ∀b off,ao=some ⟨b,off,none⟩→ao'=some ⟨b,off+l*n,none⟩)→ ∃v,(execOp ρ ⟨dst,.slice t x lo hi none,ty,pos,af,gd⟩).run P w= .ok (.value v) w∧cv W0 μ sz w v (.one (.ls n (h-l) ((cs.take (h*n)).drop (l*n)))):=fun ao' hr ha=>by
  refine ⟨_,hr,?_⟩
  unfold cv cv0 cc dd
  refine ⟨hcl,ao',cap-l,rfl,by omega,fun hne=>?_⟩
  have h0:0<(h-l)*n:=by
   rw [←hcl]
   exact List.length_pos_iff.2 hne
  have h3:0<h-l:=Nat.pos_of_ne_zero fun h4=>by rw [h4] at h0;simp at h0
  have h5:0<len*n:=Nat.mul_pos (by omega) S.pos
  obtain ⟨b,off,rfl,hd⟩:=hc (fun h4=>by rw [h4] at hlen;simp at hlen;omega)
  exact ⟨b,off+l*n,ha h3 b off rfl,J4 (J2 hd _) _⟩
 cases ao with
 | none=>exact key none (by simp [execOp,Instr.sliceAt,Instr.slice,run_underlying S.hu w,hp,rb,S.tsz.size w]) fun _ b off h=>by cases h
 | some a0=>
   by_cases hcl0:cap=l
   ·subst hcl0
    exact key (some a0) (by simp [execOp,Instr.sliceAt,Instr.slice,run_underlying S.hu w,hp,rb,S.tsz.size w]) fun h0=>by omega
   ·refine key (some (a0.add (l*n))) (by simp [execOp,Instr.sliceAt,Instr.slice,run_underlying S.hu w,hp,rb,S.tsz.size w,hcl0]) fun _ b off h=>?_
    cases h
    rw [Addr.add_mid]
end
def frz (W:World) (g:Nat) (o:Obj):World:= { W with heap:=(W.heap++Array.replicate (g+1-W.heap.size) (Obj.cells #[] 0 (0,0))).setIfInBounds g o }
theorem Mc (W:World) (g:Nat) (o:Obj):(frz W g o).heap[g]?=some o:=by
 have h:g<(W.heap++Array.replicate (g+1-W.heap.size) (Obj.cells #[] 0 (0,0))).size:=by simp;omega
 show ((W.heap++_).setIfInBounds g o)[g]?=_
 rw [Array.getElem?_setIfInBounds_self,if_pos h]
theorem Mb (W:World) {g g':Nat} (o:Obj) (h:g'≠g) (hl:g'<W.heap.size):(frz W g o).heap[g']?=W.heap[g']?:=by
 show ((W.heap++_).setIfInBounds g o)[g']?=_
 rw [Array.getElem?_setIfInBounds_ne (Ne.symm h),Array.getElem?_append_left hl]
theorem GC {W:World} {g g':Nat} {o:Obj} (h:alive (frz W g o) g'):g'=g∨alive W g':=by
 by_cases hg:g'=g
 ·exact .inl hg
 ·obtain ⟨c,e,fz,h1,h2⟩:=h
  by_cases hl:g'<W.heap.size
  ·rw [Mb W o hg hl] at h1
   exact .inr ⟨c,e,fz,h1,h2⟩
  ·exfalso
   replace h1:((W.heap++Array.replicate (g+1-W.heap.size) (Obj.cells #[] 0 (0,0))).setIfInBounds g o)[g']?=some (.cells c e fz):=h1
   rw [Array.getElem?_setIfInBounds_ne (Ne.symm hg),Array.getElem?_append_right (by omega)] at h1
   have h3:=(Array.getElem?_eq_some_iff.1 h1).1
   rw [Array.getElem?_eq_getElem h3,Array.getElem_replicate] at h1
   cases h1
   exact h2 rfl
theorem Qz {W:World} {g:Nat} (o:Obj) (h: ¬alive W g):Ext W (frz W g o):=fun g' hg=>Mb W o (fun e=>h (e▸hg)) (HJ hg)
inductive FzC (σ:St) (k:Nat):C→C→Prop
 | ent {c d:C} (h:Af c d):FzC σ k c d
 | gl {len es:Nat} {ds:List D} (hl:ds.length=len*es) (hz:len*es≤σ.sz k) (hd: ∀(i:Nat) d,ds[i]?=some d→Af (σ.m k i) (toC d)):FzC σ k (.gl k len es) (.ls es len ds)
inductive FzA (σ:St) (k:Nat):AV→AV→Prop
 | ent {a b:AV} (h:Ent a b):FzA σ k a b
 | one {c d:C} (h:FzC σ k c d):FzA σ k (.one c) (.one d)
 | agg {l m:List C} (h:l.length=m.length) (hh: ∀(i:Nat) c d,l[i]?=some c→m[i]?=some d→FzC σ k c d):FzA σ k (.agg l) (.agg m)
structure Fk (X:Ctx) (σ:St) (k:Nat) (ss:List (Nat×AV)) (bs:List (Nat×List C)):Prop where
 slot: ∀p∈ss,FzA σ k (σ.s p.1) p.2
 blk: ∀p∈bs,σ.sz p.1=p.2.length∧ ∀(i:Nat) c,p.2[i]?=some c→FzC σ k (σ.m p.1 i) c∧nl c
 ins:(ss.all fun p=>inA (bs.map (·.1)) p.2)=true
 inb:(bs.all fun p=>p.2.all (inC (bs.map (·.1))))=true
 nd:(bs.map (·.1)).Nodup
 ps:(X.ps.all fun k=>(bs.map (·.1)).any (Nat.beq k))=true
 out:k∉X.ps
 kb:(bs.all fun p=>!Nat.beq p.1 k)=true
theorem Fk.c0 {X:Ctx} {σ:St} {k:Nat} {ss:List (Nat×AV)} {bs:List (Nat×List C)} (h:Fk X σ k ss bs) (hD: ∀g,X.D g→ ∃k∈X.ps,g=(X.μ0 k).1) {a:Act} {w:World} (hc:C0 X σ a w):CN X (stL ss bs) a w:=by
 obtain ⟨μ,hc⟩:=hc
 obtain ⟨W,hE,hF,hG,hcell⟩: ∃W,Ext X.W0 W∧Fr W w∧(∀g,alive W g→alive X.W0 g∨(σ.sz k≠0∧g=(μ k).1))∧(σ.sz k≠0→ ∀(o:Nat) v,w.cell? ⟨(μ k).1,o,none⟩=some v→W.cell? ⟨(μ k).1,o,none⟩=some v):=by
  by_cases hk:σ.sz k=0
  ·exact ⟨X.W0,.refl _,hc.w0,fun g h=> .inl h,fun h=>absurd hk h⟩
  ·obtain ⟨cs,e,b1,b2,b3,b4⟩:=hc.blk k hk
   refine ⟨frz X.W0 (μ k).1 (.cells cs e (0,0)),Qz _ (hc.own k hk).1,fun g hg=>?_,fun g hg=>?_,fun _ o v hv=>?_⟩
   ·rcases GC hg with rfl|h1
    ·rw [Mc,b1]
    ·by_cases hgk:g=(μ k).1
     ·subst hgk;exact absurd h1 (hc.own k hk).1
     ·rw [hc.w0 g h1,Mb _ _ hgk (HJ h1)]
   ·rcases GC hg with rfl|h1
    ·exact .inr ⟨hk,rfl⟩
    ·exact .inl h1
   ·rw [World.cell?_of_block (w:=w) (by rw [Mc,b1])]
    exact hv
 have fc: ∀ {x:Value} {c d:C},FzC σ k c d→cc X.W0 μ σ.sz w x c→cc W μ σ.sz w x d:=fun {x c d} hf hx=>by
  cases hf with
  | ent h=>exact (h _ _ _ _ _ hx).mono (.refl _) (fun i hi=>⟨rfl,hi⟩) hE
  | gl hl hz hd=>
    rename_i len es ds
    obtain ⟨ao,cp,rfl,h2,_,h4⟩:=hx
    unfold cc dd
    refine ⟨hl,ao,cp,rfl,h2,fun hne=>?_⟩
    have hp:=List.length_pos_iff.2 hne
    obtain ⟨rfl,_,h6⟩:=h4 (fun h0=>by rw [h0] at hl;simp at hl;exact hne hl)
    refine ⟨(μ k).1,0,rfl,J3 fun i d hi=>?_⟩
    obtain ⟨cs,e,b1,b2,b3,b4⟩:=hc.blk k h6
    have hi':=(List.getElem?_eq_some_iff.1 hi).1
    have hic:i<cs.size:=by omega
    obtain ⟨v1,v2⟩:=b4 i _ (Array.getElem?_eq_getElem hic)
    obtain ⟨v3,v4⟩:=v2 (by omega)
    rw [Nat.zero_add]
    refine ⟨cs[i],hcell h6 i _ ?_,v1,?_⟩
    ·rw [cell_of_row w _ _ cs e (0,0) b1];exact Array.getElem?_eq_getElem hic
    ·exact Ka.1 ((hd i d hi _ _ _ _ _ v3).mono (.refl _) (fun i hi=>⟨rfl,hi⟩) hE)
 have fa: ∀ {x:Value} {c d:AV},FzA σ k c d→cv X.W0 μ σ.sz w x c→cv W μ σ.sz w x d:=fun {x c d} hf hx=>by
  cases hf with
  | ent h=>exact (h _ _ _ _ _ hx).mono (.refl _) (fun i hi=>⟨rfl,hi⟩) hE
  | one h=>exact fc h hx
  | agg h1 h2=>
    rename_i l m
    obtain ⟨vs,rfl,hv⟩:=hx
    refine ⟨vs,rfl,hv.1.trans h1,fun i v d hvi hdi=>?_⟩
    have hil:i<l.length:=by rw [h1];exact (List.getElem?_eq_some_iff.1 hdi).1
    exact fc (h2 i _ d (Yv hil) hdi) (hv.2 i v _ hvi (Yv hil))
 have hks: ∀k'∈bs.map (·.1),σ.sz k'≠0→(stL ss bs).sz k'≠0:=fun k' hk'=>by
  obtain ⟨p,hp,rfl⟩:=List.mem_map.1 hk'
  show _→(lk [] bs p.1).length≠0
  rw [Fo h.nd p hp,(h.blk p hp).1]
  exact id
 have hsz: ∀k',(stL ss bs).sz k'≠0→ ∃p∈bs,p.1=k'∧lk [] bs k'=p.2∧σ.sz k'=p.2.length:=fun k' hk'=>by
  rcases Ga (l:=bs) (k:=k') (d:= []) with h1|h1
  ·exact absurd (by show (lk [] bs k').length=0;rw [h1];rfl) hk'
  ·exact ⟨_,h1,rfl,rfl,(h.blk _ h1).1⟩
 have hsz': ∀k',(stL ss bs).sz k'≠0→σ.sz k'≠0:=fun k' hk'=>by
  obtain ⟨p,hp,rfl,h1,h2⟩:=hsz k' hk'
  rw [h2,←h1]
  exact hk'
 have hgrow:IR X W:=⟨hE,fun g hg=>by
  rcases hG g hg with h1|⟨h1,rfl⟩
  ·exact .inl h1
  ·rcases (hc.own k h1).2 with h2|h2
   ·exact .inr h2
   ·exfalso
    obtain ⟨k',hk',he⟩:=hD _ h2
    have h3:=hc.par k' hk'
    rw [←h3.1] at he
    exact h.out (hc.inj k k' h1 h3.2 he▸hk')⟩
 have hown: ∀k',(stL ss bs).sz k'≠0→ ¬alive W (μ k').1:=fun k' hk' ha=>by
  obtain ⟨p,hp,rfl,_⟩:=hsz k' hk'
  rcases hG _ ha with h1|⟨h1,h2⟩
  ·exact (hc.own p.1 (hsz' _ hk')).1 h1
  ·have h3:=hc.inj p.1 k (hsz' _ hk') h1 h2
   have h4:=List.all_eq_true.1 h.kb p hp
   simp [h3] at h4
 refine ⟨W,hgrow,μ,hF,hc.kd,hc.defers,hc.size,fun t=>?_,fun k' hk'=>?_,fun i j hi hj=>hc.inj i j (hsz' i hi) (hsz' j hj),fun k' hk'=>⟨hown k' hk',(hc.own k' (hsz' k' hk')).2⟩,fun k' hk'=>⟨(hc.par k' hk').1,?_⟩⟩
 ·show cv _ _ _ _ _ (lk .junk ss t)
  rcases Ga (l:=ss) (k:=t) (d:=AV.junk) with h1|h1
  ·rw [h1];trivial
  ·exact (fa (h.slot _ h1) (hc.slot t)).keep (List.all_eq_true.1 h.ins _ h1) hks
 ·obtain ⟨p,hp,rfl,h1,h2⟩:=hsz k' hk'
  obtain ⟨cs,e,h3,h4,h8,h5⟩:=hc.blk p.1 (hsz' _ hk')
  refine ⟨cs,e,h3,h4,?_,fun o x hx=>⟨(h5 o x hx).1,fun hol=>?_⟩⟩
  ·show (lk [] bs p.1).length≤_;rw [h1,←h2];exact h8
  ·replace hol:o<(lk [] bs p.1).length:=hol
   rw [h1] at hol
   have hm:(stL ss bs).m p.1 o=p.2[o]:=by
    show (lk [] bs p.1).getD o _=_
    rw [h1,List.getD_eq_getElem?_getD,Yv hol]
    rfl
   obtain ⟨h6,h7⟩:=(h.blk p hp).2 o _ (Yv hol)
   rw [hm]
   exact ⟨(fc h6 ((h5 o x hx).2 (by rw [h2];exact hol)).1).keep (List.all_eq_true.1 (List.all_eq_true.1 h.inb p hp) _ (List.getElem_mem hol)) hks,h7⟩
 ·obtain ⟨k'',hm,hb⟩:=List.any_eq_true.1 (List.all_eq_true.1 h.ps k' hk')
  have e:=Nat.eq_of_beq_eq_true hb
  subst e
  exact hks _ hm (hc.par k' hk').2
theorem Fk.cn {X:Ctx} {σ:St} {k:Nat} {ss:List (Nat×AV)} {bs:List (Nat×List C)} (h:Fk X σ k ss bs) (hD: ∀g,X.D g→ ∃k∈X.ps,g=(X.μ0 k).1) {a:Act} {w:World} (hc:CN X σ a w):CN X (stL ss bs) a w:=by
 obtain ⟨W,hW,hc⟩:=hc
 exact CN.up hW (Fk.c0 (X:=X.at W) ⟨h.slot,h.blk,h.ins,h.inb,h.nd,h.ps,h.out,h.kb⟩ hD hc)
theorem A5 {P:Program} {X:Ctx} {σ:St} {c:Code} {Q:Exit→St→Prop} (k:Nat) {ss:List (Nat×AV)} {bs:List (Nat×List C)} (hD: ∀g,X.D g→ ∃k∈X.ps,g=(X.μ0 k).1) (h:Fk X σ k ss bs) (hA:Aw P X c (stL ss bs) Q):Aw P X c σ Q:=
 Aw.of (fun _ _ hc=>h.cn hD hc) hA
theorem JP: ∀(vs:List Value) (a:Array Value) (off o:Nat),off+vs.length≤a.size→(JQ a off vs)[o]?=if off≤o∧o<off+vs.length then vs[o-off]? else a[o]?
 | [],a,off,o,_=>by rw [if_neg (by simp only [List.length_nil];omega)];rfl
 | v::vs,a,off,o,h=>by
   simp only [List.length_cons] at h⊢
   show (JQ (a.setIfInBounds off v) (off+1) vs)[o]?=_
   rw [JP vs _ (off+1) o (by simp;omega)]
   by_cases h1:o=off
   ·subst h1
    rw [if_neg (by omega),if_pos (by omega),Nat.sub_self]
    simp [show o<a.size by omega]
   ·by_cases h2:off+1≤o∧o<off+1+vs.length
    ·rw [if_pos h2,if_pos (by omega)]
     have:o-off=(o-(off+1))+1:=by omega
     rw [this];simp
    ·rw [if_neg h2,if_neg (by omega),Array.getElem?_setIfInBounds_ne (by omega)]
theorem Od {X:Ctx} {σ σ':St} {μ:Nat→Nat×Nat} {a:Act} {w:World} (h:Cn X μ σ a w) (hs: ∀t,σ'.s t=σ.s t) (hz: ∀k,σ'.sz k=σ.sz k) (hm: ∀k o,o<σ.sz k→σ'.m k o=σ.m k o):Cn X μ σ' a w:=by
 have e:σ'=⟨σ.s,σ'.m,σ.sz⟩:=by
  obtain ⟨s',m',z'⟩:=σ'
  simp only [St.mk.injEq,true_and]
  exact ⟨funext hs,funext hz⟩
 rw [e]
 refine ⟨h.w0,h.kd,h.defers,h.size,h.slot,fun i hi=>?_,h.inj,h.own,h.par⟩
 obtain ⟨cs,e,b1,b2,b3,b4⟩:=h.blk i hi
 refine ⟨cs,e,b1,b2,b3,fun o x hx=>⟨(b4 o x hx).1,fun ho=>?_⟩⟩
 show cc _ _ _ _ _ (σ'.m i o)∧nl (σ'.m i o)
 rw [hm i o ho]
 exact (b4 o x hx).2 ho
theorem Mg {X:Ctx} {μ:Nat→Nat×Nat} {ss:List (Nat×AV)} {bs:List (Nat×List C)} {k:Nat} {cs:List C} {a:Act} {w:World} (hk:(bs.all fun p=>!Nat.beq p.1 k)=true) {z:Nat→Nat} {m:Nat→Nat→C} (hz: ∀i,z i=upd (stL ss bs).sz k cs.length i) (hm: ∀i o,o<z i→m i o=wrM (stL ss bs).m [(k,0,cs)] i o) (h:Cn X μ ⟨(stL ss bs).s,m,z⟩ a w):Cn X μ (stL ss ((k,cs)::bs)) a w:=by
 refine Od h (fun t=>rfl) (fun i=>?_) (fun i o ho=>?_)
 ·show (match Nat.beq k i with|true=>cs|false=>lk [] bs i).length=z i
  rw [hz]
  by_cases hi:i=k
  ·subst hi;rw [AI];simp
  ·rw [Cj hi]
   have:Nat.beq k i=false:=by
    cases hb:Nat.beq k i with
    | true=>exact absurd (Nat.eq_of_beq_eq_true hb).symm hi
    | false=>rfl
   rw [this];rfl
 ·replace ho:o<z i:=ho
  show (match Nat.beq k i with|true=>cs|false=>lk [] bs i).getD o (.v (.bool false))=m i o
  rw [hm i o ho]
  rw [hz] at ho
  show _=upd (stL ss bs).m k (laid ((stL ss bs).m k) 0 cs) i o
  by_cases hi:i=k
  ·subst hi
   rw [AI] at ho⊢
   have h4:=Eb (f:=(stL ss bs).m i) (off:=0) (Yv ho)
   rw [Nat.zero_add] at h4
   rw [h4]
   simp [List.getD_eq_getElem?_getD,ho]
  ·rw [Cj hi]
   have:Nat.beq k i=false:=by
    cases hb:Nat.beq k i with
    | true=>exact absurd (Nat.eq_of_beq_eq_true hb).symm hi
    | false=>rfl
   rw [this];rfl
theorem VW {bs:List (Nat×List C)} {k:Nat} (hk:(bs.all fun p=>!Nat.beq p.1 k)=true):lk [] bs k= []:=by
 rcases Ga (l:=bs) (k:=k) (d:= []) with h|h
 ·exact h
 ·have:=List.all_eq_true.1 hk _ h
  simp at this
inductive Srcs (σ:St) (n:Nat):C→Nat→List C→Prop
 | ls {m:Nat} {ds:List D} :Srcs σ n (.ls n m ds) m (ds.map toC)
 | gl {k m:Nat} {os:List C} (hl:os.length=m*n) (hz:m*n≤σ.sz k) (hm: ∀(i:Nat) c,os[i]?=some c→σ.m k i=c):Srcs σ n (.gl k m n) m os
 | nil:Srcs σ n (.v (.slice none 0 0)) 0 []
section
variable {P:Program} {X:Ctx} {ops l:List Oper} {σ:St} {K:List Eff→St→Prop} {s:Nat→AV} {z:Nat→Nat}
variable {dst:Option Tmp} {ty:TypeId} {pos:String} {af:Array Edge} {gd:Option (Nat×Bool)}
theorem IU {μ:Nat→Nat×Nat} {a:Act} {w:World} (hcn:Cn X μ σ a w) {t e:TypeId} (hu:P.underlying t=some (.slice e)) {n:Nat} (hn:0<n) {v:Value} {c:C} (hv:cc X.W0 μ σ.sz w v c) {m:Nat} {os:List C} (hs:Srcs σ n c m os):
  ∃vals,Go.Src P n t v m vals w∧B5 (cc X.W0 μ σ.sz w) vals os∧(∀u∈vals,noL u)∧os.length=m*n:=by
 cases hs with
 | nil=>
   have hv:v= .slice none 0 0:=hv
   subst hv
   exact ⟨[],Go.Src.ofNil w hu 0,⟨rfl,fun i x d hx=>by simp at hx⟩,fun u hu=>(by cases hu),by simp⟩
 | ls=>
   rename_i ds
   unfold cc dd at hv
   obtain ⟨hl,ao,cap,rfl,h2,h3⟩:=hv
   have ex: ∀(ds:List D) (b o:Nat),ddL X.W0 w b o ds→ ∃vs:List Value,vs.length=ds.length∧w.rangeAt b o vs∧B5 (cc X.W0 μ σ.sz w) vs (ds.map toC)∧ ∀u∈vs,noL u:=by
    intro ds b
    induction ds with
    | nil=>intro o _;exact ⟨[],rfl,fun j v hj=>by simp at hj,⟨rfl,fun i a c h=>by simp at h⟩,fun u hu=>by cases hu⟩
    | cons d ds ih=>
      intro o h
      unfold ddL at h
      obtain ⟨⟨v,h1,h2,h3⟩,h4⟩:=h
      obtain ⟨vs,g1,g2,g3,g4⟩:=ih (o+1) h4
      refine ⟨v::vs,by simp [g1],fun j u hj=>?_,⟨by simp [g3.1],fun i u c hu hc=>?_⟩,fun u hu=>?_⟩
      ·cases j with
       | zero=>simp at hj;subst hj;exact hcn.w0.cell h1
       | succ j=>
         have:=g2 j u (by simpa using hj)
         rw [show o+1+j=o+(j+1) by omega] at this
         exact this
      ·cases i with
       | zero=>simp at hu hc;subst hu;subst hc;exact Ka.2 h3
       | succ i=>exact g3.2 i u c (by simpa using hu) (by simpa using hc)
      ·rcases List.mem_cons.1 hu with rfl|hu
       ·exact h2
       ·exact g4 u hu
   cases m with
   | zero=>
     have:ds= []:=List.eq_nil_of_length_eq_zero (by simpa using hl)
     subst this
     cases ao with
     | none=>exact ⟨[],Go.Src.ofNil w hu cap,⟨rfl,fun i x d hx=>by simp at hx⟩,fun u hu=>(by cases hu),by simp⟩
     | some a0=>exact ⟨[],Go.Src.ofSlice (size:=n) w hu a0 0 cap [] (by simp) (fun j u hj=>by simp at hj) (fun u hu=>by cases hu),⟨rfl,fun i x d hx=>by simp at hx⟩,fun u hu=>(by cases hu),by simp⟩
   | succ m=>
     obtain ⟨b,off,rfl,hd⟩:=h3 (fun h0=>by rw [h0] at hl;simp [Nat.add_mul] at hl;omega)
     obtain ⟨vs,g1,g2,g3,g4⟩:=ex ds b off hd
     refine ⟨vs,Go.Src.ofSlice w hu _ _ _ vs (by rw [g1,hl]) (fun j u hj=>by rw [Addr.add_mid];exact g2 j u hj) (fun u hu=>(g4 u hu).2),g3,g4,by simpa using hl⟩
 | gl hl hz hm=>
   rename_i k
   obtain ⟨ao,cap,rfl,h2,_,h4⟩:=hv
   cases m with
   | zero=>
     have:os= []:=List.eq_nil_of_length_eq_zero (by simpa using hl)
     subst this
     cases ao with
     | none=>exact ⟨[],Go.Src.ofNil w hu cap,⟨rfl,fun i x d hx=>by simp at hx⟩,fun u hu=>(by cases hu),by simp⟩
     | some a0=>exact ⟨[],Go.Src.ofSlice (size:=n) w hu a0 0 cap [] (by simp) (fun j u hj=>by simp at hj) (fun u hu=>by cases hu),⟨rfl,fun i x d hx=>by simp at hx⟩,fun u hu=>(by cases hu),by simp⟩
   | succ m=>
     obtain ⟨rfl,_,h6⟩:=h4 (by omega)
     obtain ⟨vs,s1,s2,s3,s4⟩:=hcn.slice (k:=k) (off:=0) (n:=(m+1)*n) h6 (by omega)
     have hnl: ∀u∈vs,noL u:=fun u hu=>by
      obtain ⟨i,hi,rfl⟩:=List.mem_iff_getElem.1 hu
      exact (s4 i _ (Yv hi)).1.noL (s4 i _ (Yv hi)).2
     refine ⟨vs,Go.Src.ofSlice w hu _ _ _ vs s1 (fun j u hj=>by rw [Addr.add_mid];exact s2 j u hj) (fun u hu=>(hnl u hu).2),⟨by omega,fun i x d hx hd=>?_⟩,hnl,hl⟩
     have h5:=(s4 i x hx).1
     rw [Nat.zero_add,hm i d hd] at h5
     exact h5
theorem EV {R:Value→C→Prop} {a b:List Value} {c d:List C} (h:B5 R a c) (k:B5 R b d):B5 R (a++b) (c++d):=by
 refine ⟨by simp [h.1,k.1],fun i x y hx hy=>?_⟩
 by_cases hi:i<a.length
 ·rw [List.getElem?_append_left hi] at hx
  rw [List.getElem?_append_left (by rw [←h.1];exact hi)] at hy
  exact h.2 i x y hx hy
 ·rw [List.getElem?_append_right (by omega)] at hx
  rw [List.getElem?_append_right (by rw [←h.1];omega),←h.1] at hy
  exact k.2 _ x y hx hy
theorem NM {z:Array Value} {n o:Nat} (hz:0<z.size) (ho:o<n):(madeCells z n)[o]?=some (z.toList.getD (o % z.size) undef):=by
 unfold madeCells
 have hlt:o % z.size<z.size:=Nat.mod_lt _ hz
 simp [ho]
 rw [getElem!_pos z (o % z.size) hlt,Array.getElem?_eq_getElem hlt]
 rfl
theorem NL {z:Array Value} (hn:z.toList.all L1=true) (hz:0<z.size) {n o:Nat} {x:Value} (hx:(madeCells z n)[o]?=some x):noL x:=by
 have ho:o<n:=by have:=(Array.getElem?_eq_some_iff.1 hx).1;rwa [size_madeCells] at this
 rw [NM hz ho] at hx
 cases hx
 have hj:o % z.size<z.toList.length:=by simpa using Nat.mod_lt _ hz
 exact GA (List.all_eq_true.1 hn _ (by rw [List.getD_eq_getElem?_getD,Yv hj];exact List.getElem_mem hj))
theorem K9 {W0:World} {μ:Nat→Nat×Nat} {sz:Nat→Nat} {w:World} {vals:List Value} {cs:List C} {zv:Array Value} {k n:Nat} (hv:B5 (cc W0 μ sz w) vals cs) (hn: ∀u∈vals,noL u) (hz:zv.toList.all L1=true) (hzs:zv.size=n) (hp:0<n):
  (vals.toArray++Builtin.zeroCells zv k).size=vals.length+k*n∧(∀(o:Nat) x,(vals.toArray++Builtin.zeroCells zv k)[o]?=some x→noL x)∧ ∀(o:Nat) x c,(vals.toArray++Builtin.zeroCells zv k)[o]?=some x→cs[o]?=some c→cc W0 μ sz w x c:=by
 have e:Builtin.zeroCells zv k=madeCells zv (k*n):=by unfold Builtin.zeroCells madeCells;rw [hzs]
 rw [e]
 refine ⟨by simp [size_madeCells],fun o x hx=>?_,fun o x c hx hc=>?_⟩
 ·rw [Array.getElem?_append] at hx
  split at hx
  ·exact hn x (by have:=Array.mem_of_getElem? hx;simpa using this)
  ·exact NL hz (by omega) hx
 ·have ho:o<vals.length:=by rw [hv.1];exact (List.getElem?_eq_some_iff.1 hc).1
  rw [Array.getElem?_append,if_pos (by simpa using ho)] at hx
  exact hv.2 o x c (by simpa using hx) hc
inductive SE (k:Nat) (n:Nat):C→Nat→Prop
 | gl {len:Nat} :SE k n (.gl k len n) len
 | nil:SE k n (.v (.slice none 0 0)) 0
theorem SE.cc {k n len:Nat} {c:C} (h:SE k n c len) {W0:World} {μ:Nat→Nat×Nat} {sz:Nat→Nat} {w:World} {x:Value} (hx:cc W0 μ sz w x c):cc W0 μ sz w x (.gl k len n):=by
 cases h with
 | gl=>exact hx
 | nil=>
   have hx:x= .slice none 0 0:=hx
   exact ⟨none,0,hx,Yu _,fun _=>rfl,fun h=>absurd rfl h⟩
def Stp (P:Program) (X:Ctx) (o:Oper) (σ σ':St):Prop:= ∀a w,CN X σ a w→ ∀(K:Act→World→Prop) (Q:Exit→Act→World→Prop),(∀a' w',CN X σ' a' w'→K a' w')→o.wp P a w K Q
theorem OD {t tx e:TypeId} {x y:Operand} {agg:Bool} {n bytes:Nat} {zv:Value} [S:Sle P t e agg n bytes zv] (hux: ∃e,P.underlying tx=some (.slice e)) {cx cy:C} {k len m:Nat} {os ns:List C} {d:Tmp} {ss:List (Nat×AV)} {bs:List (Nat×List C)}
  (hD: ∀g,X.D g→ ∃k∈X.ps,g=(X.μ0 k).1) (hd:d<X.n) (hx:evC σ.s x= .one cx) (hbx:SE k n cx len) (hy:evC σ.s y= .one cy) (hsy:Srcs σ n cy m ns)
  (hlo:os.length=len*n) (hb1:len*n≤σ.sz k) (hro: ∀(i:Nat) c,os[i]?=some c→σ.m k i=c) (hby:(len+m)*bytes≤140737488355328) (h63:len+m≤9223372036854775807)
  (hW:Wk X σ ss bs) (hkb:(bs.all fun p=>!Nat.beq p.1 k)=true) (hin: ∀c∈os++ns,nl c∧inC (bs.map (·.1)) c=true) (hps:k∉X.ps):
  Stp P X ⟨some d,.call ⟨.builtin .append,#[x,y],#[t,tx]⟩,ty,pos,af,none⟩ σ (stL ((d,.one (.gl k (len+m) n))::ss) ((k,os++ns)::bs)):=by
 intro a w hcn K Q hK
 obtain ⟨W,hG,μ,hcn⟩:=hcn
 replace hW:=hW.at W
 replace hK: ∀a' w' μ',Cn (X.at W) μ' (stL ((d,.one (.gl k (len+m) n))::ss) ((k,os++ns)::bs)) a' w'→K a' w':=fun a' w' μ' h=>hK a' w' ⟨W,hG,μ',h⟩
 replace hD: ∀g,(X.at W).D g→ ∃k∈(X.at W).ps,g=((X.at W).μ0 k).1:=hD
 replace hd:d<(X.at W).n:=hd
 replace hps:k∉(X.at W).ps:=hps
 clear hG
 generalize X.at W=X at hW hK hD hd hps hcn
 have hn:=S.pos
 obtain ⟨inf,hi,hz,hsize,hbye⟩:=S.info
 obtain ⟨ex,hux⟩:=hux
 have h1:=hcn.ev x
 rw [hx] at h1
 replace h1:cc X.W0 μ σ.sz w (a.eval x) (.gl k len n):=hbx.cc h1
 have h2:=hcn.ev y
 rw [hy] at h2
 obtain ⟨vn,s2,a2,n2,hln⟩:=IU (P:=P) hcn hux hn h2 hsy
 have hadd:(len+m)*n=len*n+m*n:=Nat.add_mul _ _ _
 have hlen2:(os++ns).length=(len+m)*n:=by rw [List.length_append,hlo,hln,hadd]
 have hvn:vn.length=m*n:=a2.1.trans hln
 have hk0:(stL ss bs).sz k=0:=by show (lk [] bs k).length=0;rw [VW hkb];rfl
 have hnl': ∀c∈os++ns,nl c:=fun c hc=>(hin c hc).1
 have fin: ∀(v:Value) (w':World) (μ':Nat→Nat×Nat),Cn X μ' (stL ss ((k,os++ns)::bs)) a w'→cc X.W0 μ' (stL ss ((k,os++ns)::bs)).sz w' v (.gl k (len+m) n)→K (a.put (some d) v) w':=fun v w' μ' hc hv=>by
  refine hK _ _ μ' (Od (Ck hc (d:=some d) (fun t ht=>by cases ht;exact hd) (v:=v) (av:= .one (.gl k (len+m) n)) hv) (fun t=>?_) (fun i=>rfl) (fun i o _=>rfl))
  show (match Nat.beq d t with|true=>AV.one (.gl k (len+m) n)|false=>lk .junk ss t)=upd (lk .junk ss) d (.one (.gl k (len+m) n)) t
  by_cases ht:t=d
  ·subst ht;rw [AI];simp
  ·rw [Cj ht]
   have:Nat.beq d t=false:=by
    cases hb:Nat.beq d t with
    | true=>exact absurd (Nat.eq_of_beq_eq_true hb).symm ht
    | false=>rfl
   rw [this]
 have hszk:(stL ss ((k,os++ns)::bs)).sz k=(len+m)*n:=by
  show (match Nat.beq k k with|true=>os++ns|false=>lk [] bs k).length=_
  rw [Nat.beq_refl]
  exact hlen2
 obtain ⟨ao,c1,e1,hlc,hc0,hne⟩:=h1
 by_cases hroom:len≠0∧len+m≤c1
 ·
  obtain ⟨hl0,hroom⟩:=hroom
  obtain ⟨rfl,hcap,hk⟩:=hne hl0
  obtain ⟨ca,ce,b1,b2,b3,b4⟩:=hcn.blk k hk
  have hcn':len*n+m*n≤ca.size:=by
   rw [b2,←hadd]
   exact Nat.le_trans (Nat.mul_le_mul_right _ hroom) hcap
  have hth: ∀j,j<vn.length→(w.cell? ⟨(μ k).1,0+len*inf.size+j,none⟩).isSome=true∧w.frozen? ⟨(μ k).1,0+len*inf.size+j,none⟩=false:=fun j hj=>by
   rw [hsize,Nat.zero_add]
   refine ⟨?_,frozen_of_row w _ _ ca ce b1⟩
   rw [cell_of_row w _ _ ca ce (0,0) b1]
   exact Option.isSome_iff_exists.2 ⟨_,Array.getElem?_eq_getElem (by omega)⟩
  have hr:=run_append_room_src (P:=P) w t tx ty e inf S.hu hi (μ k).1 0 len c1 (a.eval y) m vn (by rw [hsize];exact s2) hroom (fun j hj=>(hth j hj).1) (fun j hj=>(hth j hj).2)
  have hrun:(execOp a.eval ⟨some d,.call ⟨.builtin .append,#[x,y],#[t,tx]⟩,ty,pos,af,none⟩).run P w= .ok (.value (.slice (some ⟨(μ k).1,0,none⟩) (len+m) c1)) (w.setCells (μ k).1 (len*n) vn):=by
   rw [←hsize]
   rw [Nat.zero_add] at hr
   simp [execOp,resolve,invoke,builtin,e1,hr]
  unfold Oper.wp
  rw [hrun]
  have hst:=hcn.store (k:=k) (off:=len*n) hk a2 fun c hc=>hnl' c (List.mem_append.2 (.inr hc))
  have hheap:=E4 (μ k).1 ce vn (len*n) w ca b1
  have S':=GM (μ k).1 vn (len*n) w
  have kl:Kl w (w.setCells (μ k).1 (len*n) vn):=⟨by rw [S'.size];exact Yu _,fun g c e' fz hg hu=>by
   by_cases hgk:g=(μ k).1
   ·exfalso
    subst hgk
    rw [b1] at hg
    cases hg
    obtain ⟨i,n,hi⟩:=hu
    exact (b4 i _ hi).1.1 n rfl
   ·exact S'.other g hgk⟩
  have hW':Wk X ⟨σ.s,wrM σ.m [(k,len*n,ns)],σ.sz⟩ ss bs:=⟨hW.slot,fun p hp=>⟨(hW.blk p hp).1,fun i c hc=>by
   have hpk:p.1≠k:=fun e=>by have:=List.all_eq_true.1 hkb p hp;simp [e] at this
   show Af (upd σ.m k _ p.1 i) c∧nl c
   rw [Cj hpk]
   exact (hW.blk p hp).2 i c hc⟩,hW.ins,hW.inb,hW.nd,hW.ps⟩
  have h5:=hW'.c hst
  have live: ∀i,(stL ss bs).sz i≠0→i≠k∧σ.sz i≠0:=fun i hi=>by
   refine ⟨fun e=>hi (e▸hk0),?_⟩
   rcases Ga (l:=bs) (k:=i) (d:= []) with h1|h1
   ·exact absurd (by show (lk [] bs i).length=0;rw [h1];rfl) hi
   ·rw [(hW.blk _ h1).1];exact hi
  have h6:=h5.adds (ns:= [(k,os++ns)]) (μ':=μ) ⟨fun p hp=>by
    rw [List.mem_singleton.1 hp]
    refine ⟨hk0,fun h0=>?_⟩
    replace h0:os++ns= []:=h0
    rw [h0] at hlen2
    have:0<(len+m)*n:=Nat.mul_pos (by omega) hn
    simp at hlen2;omega,by simp⟩ (fun _ _=>rfl) (fun q hq=>by
    rw [List.mem_singleton.1 hq]
    refine ⟨JQ ca (len*n) vn,ce,hheap,by rw [Fp];exact b2,by rw [Fp,hlen2];omega,fun o x hx=>?_,fun o x c hx hc=>?_,hnl'⟩
    ·rw [JP vn ca (len*n) o (by omega)] at hx
     split at hx
     ·exact n2 x (List.mem_of_getElem? hx)
     ·exact (b4 o x hx).1
    ·have hks: ∀k'∈bs.map (·.1),σ.sz k'≠0→alZ (stL ss bs).sz [(k,os++ns)] k'≠0:=fun k' hk' h0=>by
      obtain ⟨p,hp,rfl⟩:=List.mem_map.1 hk'
      have hpk:p.1≠k:=fun e=>by have:=List.all_eq_true.1 hkb p hp;simp [e] at this
      show upd _ k _ p.1≠0
      rw [Cj hpk]
      show (lk [] bs p.1).length≠0
      rw [Fo hW.nd p hp,←(hW.blk p hp).1]
      exact h0
     refine cc.keep (ks:=bs.map (·.1)) (sz:=σ.sz) ?_ (hin c (List.mem_of_getElem? hc)).2 hks
     rw [JP vn ca (len*n) o (by omega)] at hx
     by_cases ho1:o<len*n
     ·rw [if_neg (by omega)] at hx
      have h5:=((b4 o x hx).2 (by omega)).1
      rw [List.getElem?_append_left (by omega)] at hc
      rw [hro o _ hc] at h5
      exact h5.mono kl (fun i hi=>⟨rfl,hi⟩)
     ·have ho2:o<len*n+m*n:=by have h9:o<(os++ns).length:=(List.getElem?_eq_some_iff.1 hc).1;omega
      rw [if_pos (by omega)] at hx
      rw [List.getElem?_append_right (by omega),hlo] at hc
      exact (a2.2 _ x _ hx hc).mono kl (fun i hi=>⟨rfl,hi⟩)) (fun q hq=>by
    rw [List.mem_singleton.1 hq]
    refine ⟨(hcn.own k hk).1,?_,fun i hi=>fun he=>(live i hi).1 (hcn.inj i k (live i hi).2 hk he)⟩
    rcases (hcn.own k hk).2 with h2|h2
    ·exact h2
    ·exfalso
     obtain ⟨k',hk',he⟩:=hD _ h2
     have h3:=hcn.par k' hk'
     rw [←h3.1] at he
     exact hps (hcn.inj k k' hk h3.2 he▸hk')) (fun p hp q hq _=>by rw [List.mem_singleton.1 hp,List.mem_singleton.1 hq])
  refine fin _ _ μ (Mg hkb (fun i=>rfl) (fun i o _=>rfl) h6) ⟨some ⟨(μ k).1,0,none⟩,c1,rfl,hroom,fun h0=>absurd h0 (by omega),fun _=>⟨rfl,hcap,?_⟩⟩
  rw [hszk]
  exact Nat.ne_of_gt (Nat.mul_pos (by omega) hn)
 ·by_cases h00:len+m=0
  ·
   obtain ⟨rfl,rfl⟩:len=0∧m=0:=by omega
   have hc1:=hc0 rfl
   subst hc1
   have hno:os++ns= []:=List.eq_nil_of_length_eq_zero (by simpa using hlen2)
   have hvn0:vn= []:=List.eq_nil_of_length_eq_zero (by simpa using hvn)
   have hlo':=s2.len w
   have hkind:=s2.kind
   have hcl:=s2.cells
   subst hvn0
   have hrun:(execOp a.eval ⟨some d,.call ⟨.builtin .append,#[x,y],#[t,tx]⟩,ty,pos,af,none⟩).run P w= .ok (.value (.slice ao 0 0)) w:=by
    rw [←hsize] at hcl
    rcases hkind with ⟨e',hk'⟩|hk'
    ·cases ao with
     | none=>simp [execOp,resolve,invoke,builtin,e1,Builtin.append_,run_underlying S.hu,run_underlying hk',sizeOf,typeInfo,hi,hlo',hcl]
     | some b=>simp [execOp,resolve,invoke,builtin,e1,Builtin.append_,run_underlying S.hu,run_underlying hk',sizeOf,typeInfo,hi,hlo',hcl,storeCells]
    ·cases ao with
     | none=>simp [execOp,resolve,invoke,builtin,e1,Builtin.append_,run_underlying S.hu,run_underlying hk',sizeOf,typeInfo,hi,hlo',hcl]
     | some b=>simp [execOp,resolve,invoke,builtin,e1,Builtin.append_,run_underlying S.hu,run_underlying hk',sizeOf,typeInfo,hi,hlo',hcl,storeCells]
   unfold Oper.wp
   rw [hrun]
   refine fin _ _ μ (Mg hkb (z:=(stL ss bs).sz) (m:=(stL ss bs).m) (fun i=>?_) (fun i o ho=>?_) (hW.c hcn)) ⟨ao,0,rfl,Yu _,fun _=>rfl,fun h0=>absurd rfl h0⟩
   ·rw [hno]
    by_cases hik:i=k
    ·subst hik;rw [AI];exact hk0
    ·rw [Cj hik]
   ·rw [hno]
    show _=upd (stL ss bs).m k _ i o
    by_cases hik:i=k
    ·subst hik;rw [hk0] at ho;omega
    ·rw [Cj hik]
  ·
   have hg:c1<len+m:=by
    by_cases hl0:len=0
    ·have:=hc0 hl0;omega
    ·have: ¬len+m≤c1:=fun h=>hroom ⟨hl0,h⟩
     omega
   obtain ⟨vo,hold,a1,n1⟩: ∃vo:List Value,(Builtin.firstCells inf.size len (.slice ao len c1)).run P w.drew= .ok vo.toArray w.drew∧B5 (cc X.W0 μ σ.sz w) vo os∧ ∀u∈vo,noL u:=by
    have hs1:Srcs σ n (.gl k len n) len os:= .gl hlo hb1 hro
    obtain ⟨vo,s1,a1,n1,_⟩:=IU (P:=P) hcn (t:=t) S.hu hn (c:= .gl k len n) (v:=a.eval x) ⟨ao,c1,e1,hlc,hc0,hne⟩ hs1
    exact ⟨vo,by rw [hsize,←e1];exact s1.cellsD,a1,n1⟩
   have hr:=run_append_grow_src (P:=P) w t tx ty e inf zv S.hu hi hz ao len c1 vo hold (a.eval y) m vn (by rw [hsize];exact s2) hg (by omega) (growslice_fits hg (by rw [hbye];exact hby))
   have hrun:(execOp a.eval ⟨some d,.call ⟨.builtin .append,#[x,y],#[t,tx]⟩,ty,pos,af,none⟩).run P w= .ok (.value (.slice (some ⟨w.heap.size,0,none⟩) (len+m) (grownCap w (len+m) c1 e))) (w.drew.alloc (.cells ((vo++vn).toArray++Builtin.zeroCells zv.cells (grownCap w (len+m) c1 e-(len+m))) e)):=by
    simp [execOp,resolve,invoke,builtin,e1,hr]
   unfold Oper.wp
   rw [hrun]
   have hge:=grownCap_ge w (len+m) c1 e
   generalize grownCap w (len+m) c1 e=gc at hge
   have hkp:Kp w (w.drew.alloc (.cells ((vo++vn).toArray++Builtin.zeroCells zv.cells (gc-(len+m))) e)):=((Below.refl _ _).drew).alloc (Yu _) _
   have hks: ∀k'∈bs.map (·.1),σ.sz k'≠0→(stL ss bs).sz k'≠0:=fun k' hk' h0=>by
    obtain ⟨p,hp,rfl⟩:=List.mem_map.1 hk'
    show (lk [] bs p.1).length≠0
    rw [Fo hW.nd p hp,←(hW.blk p hp).1]
    exact h0
   have hall:B5 (cc X.W0 μ (stL ss bs).sz (w.drew.alloc (.cells ((vo++vn).toArray++Builtin.zeroCells zv.cells (gc-(len+m))) e))) (vo++vn) (os++ns):=by
    refine (EV a1 a2).map fun v c hc hv=>?_
    exact cc.keep (ks:=bs.map (·.1)) (sz:=σ.sz) (hv.mono (Kl.of_kp hkp) fun i hi=>⟨rfl,hi⟩) (hin c hc).2 hks
   obtain ⟨r1,r2,r3⟩:=K9 (k:=gc-(len+m)) hall (fun u hu=>by
    rcases List.mem_append.1 hu with h|h
    ·exact n1 u h
    ·exact n2 u h) S.nl S.size hn
   have hvl:(vo++vn).length=(len+m)*n:=by rw [(EV a1 a2).1,hlen2]
   have hnew:=(hW.c hcn).new (id:=k) hk0 (g:=w.heap.size) (e:=e) (cs:=os++ns) hkp (Yu _) (heap_alloc_new w.drew _) (by
    intro h0;rw [h0] at hlen2
    have:0<(len+m)*n:=Nat.mul_pos (by omega) hn
    simp at hlen2;omega) (by rw [r1,hvl,hlen2];omega) r2 r3 hnl'
   refine fin _ _ _ (Mg hkb (fun i=>rfl) (fun i o _=>rfl) hnew) ⟨some ⟨w.heap.size,0,none⟩,gc,rfl,hge,fun h0=>absurd h0 h00,fun _=>⟨by rw [AI],?_,?_⟩⟩
   ·rw [AI,r1,hvl,←Nat.add_mul]
    have:len+m+(gc-(len+m))=gc:=by omega
    rw [this];exact Yu _
   ·rw [hszk]
    exact Nat.ne_of_gt (Nat.mul_pos (by omega) hn)
end
section
variable {P:Program} {X:Ctx} {Q:Exit→Act→World→Prop} {l tl:List Oper} {es:List Eff} {σ σ':St}
theorem SG {i:Nat} {K:Act→World→Prop} {a:Act} {w:World} (hi:i<l.length) (hg: ∀o,l[i]?=some o→ ∀g want,o.guard=some (g,want)→g<l.length) (h:wpOp P l.toArray Q i K a w):wpOp P (l++tl).toArray Q i K a w:=by
 have e:(l++tl).toArray[i]?=l.toArray[i]?:=by
  rw [List.getElem?_toArray,List.getElem?_toArray,List.getElem?_append_left hi]
 obtain ⟨o,ho⟩: ∃o,l[i]?=some o:=⟨_,Yv hi⟩
 have hw:Region.wanted o (yielded (l++tl).toArray a.tmps)=Region.wanted o (yielded l.toArray a.tmps):=by
  unfold Region.wanted
  cases hgd:o.guard with
  | none=>rfl
  | some p=>
    obtain ⟨g,want⟩:=p
    have hlt:=hg o ho g want hgd
    have:yielded (l++tl).toArray a.tmps g=yielded l.toArray a.tmps g:=by
     unfold yielded
     rw [List.getElem?_toArray,List.getElem?_toArray,List.getElem?_append_left hlt]
    simp only [this]
 have ho':l.toArray[i]?=some o:=by rw [List.getElem?_toArray];exact ho
 unfold wpOp at h⊢
 rw [ho'] at h
 rw [e,ho']
 simp only [hw]
 exact h
def Q6 (P:Program) (ops:Array Oper) (Q:Exit→Act→World→Prop):Nat→List Oper→Act→World→Prop
 | _,[],a,w=>Q .normal a w
 | i,_::r,a,w=>wpOp P ops Q i (Q6 P ops Q (i+1) r) a w
def XO (L:List Oper) (n:Nat):Bool:=(List.range L.length).all fun j=>Nat.blt j n || Nat.beq ((KO [] L).getD j 0&&&(2^j-1)) (2^j-1)
theorem MM (j d:Nat) (h:d<j):(2^j-1).testBit d=true:=by
 rw [Nat.testBit_two_pow_sub_one];simpa using h
theorem Nz (hlen:es.length=l.length) {b:Nat→Bool} (hb: ∀j,j<l.length→b j=true) (hr:Run P X l l σ es σ'):BH b 0 l es σ=σ':=by
 rw [←hr.ends 0]
 have: ∀(l:List Oper) (es:List Eff) (σ:St) (k:Nat),(∀j,j<l.length→b (k+j)=true)→BH b k l es σ=BH (fun _=>true) k l es σ:=by
  intro l
  induction l with
  | nil=>intro es σ k _;cases es<;>rfl
  | cons o l ih=>
    intro es σ k hb
    cases es with
    | nil=>rfl
    | cons e es=>
      show BH b (k+1) l es _=BH _ (k+1) l es _
      rw [show b k=true from hb 0 (by simp)]
      exact ih es _ _ fun j hj=>by rw [show k+1+j=k+(j+1) from by omega];exact hb (j+1) (by simpa using hj)
 exact this l es σ 0 fun j hj=>by rw [Nat.zero_add];exact hb j hj
theorem LL {id:Nat} (hm:P.follows .mixedOrders=true) (hd:N9 (l++tl)=true)
  (hn:(l.all fun o=>match o.dst with|some t=>Nat.blt t X.n|none=>true)=true) (hgd:(l.all fun o=>match o.guard with|some p=>Nat.blt p.1 l.length|none=>true)=true) (hser:XO (l++tl) l.length=true)
  (hr:Run P X l l σ es σ') (hc:chk l es=true) {a:Act} {w:World} (h:CN X σ a w) (hT: ∀a w,CN X σ' a w→Q6 P (l++tl).toArray Q l.length tl a w):(Code.region id (l++tl).toArray true).wp P Q a w:=by
 have hlen:=hr.len
 have hgd': ∀(i:Nat) (o:Oper),l[i]?=some o→ ∀(g:Nat) (want:Bool),o.guard=some (g,want)→g<l.length:=fun i o ho g want hg=>by
  have:=List.all_eq_true.1 hgd o (List.mem_of_getElem? ho)
  rw [hg] at this
  simpa using this
 refine wp_region_any hm (Kv (I:=fun b a w=>Dn (l++tl) b∧(((∀j,l.length≤j→b j=false)∧CN X (BH b 0 l es σ) a w)∨ ∃m,0<m∧m≤tl.length∧(∀j,j<(l++tl).length→(b j=true↔j<l.length+m))∧Q6 P (l++tl).toArray Q (l.length+m) (tl.drop m) a w)) ?_ (UH hd) ?_ _ _ _ _ (by simp) (by simp) ?_)
 ·intro i hi o ho b a' w' hbi hw hI
  obtain ⟨hdn,hI⟩:=hI
  have hiL:i<(l++tl).length:=by simpa using hi
  have hup:Dn (l++tl) (up b i):=fun j x hx hbj d hdx=>by
   unfold up at hbj⊢
   rw [Bool.or_eq_true] at hbj⊢
   rcases hbj with hbj|hbj
   ·have:j=i:=by simpa using hbj
    subst this
    rw [List.getElem?_toArray] at ho
    rw [ho] at hx
    cases hx
    exact .inr (hw d hdx)
   ·exact .inr (hdn j x hx hbj d hdx)
  by_cases hil:i<l.length
  ·rcases hI with ⟨h1,hcn⟩|⟨m,h1,h2,h3,_⟩
   ·have ho':l.toArray[i]?=some o:=by
     rw [List.getElem?_toArray,←List.getElem?_append_left (l₂:=tl) hil,←List.getElem?_toArray]
     exact ho
    have hdl:Dn l b:=fun j x hx hbj d hdx=>hdn j x (by rw [List.getElem?_append_left (List.getElem?_eq_some_iff.1 hx).1];exact hx) hbj d hdx
    have hs:=Lf (Q:=Q) hn hr hc i (by simpa using hil) o ho' b a' w' hbi hw ⟨hdl,hcn⟩
    refine wpOp_mono (fun a2 w2 h2=>⟨hup,.inl ⟨fun j hj=>?_,h2.2⟩⟩) (SG hil (hgd' i) hs)
    unfold up
    rw [h1 j hj]
    simp;omega
   ·exfalso
    have:=(h3 i hiL).2 (by omega)
    rw [hbi] at this
    cases this
  ·have hall: ∀j,j<i→b j=true:=fun j hj=>by
    have h1:=List.all_eq_true.1 hser i (List.mem_range.2 hiL)
    rw [Bool.or_eq_true] at h1
    rcases h1 with h1|h1
    ·exfalso;have:i<l.length:=by simpa using h1
     exact hil this
    ·have h2:=Nat.eq_of_beq_eq_true h1
     refine PQ hdn (by rw [List.getElem?_toArray] at ho;exact ho) hw ?_
     have h3:=MM i j hj
     rw [←h2,Nat.testBit_and,Bool.and_eq_true] at h3
     exact h3.1
   obtain ⟨m0,rfl⟩: ∃m0,i=l.length+m0:=⟨i-l.length,by omega⟩
   have hm0:m0<tl.length:=by simpa using hiL
   have key:Q6 P (l++tl).toArray Q (l.length+m0) (tl.drop m0) a' w'→wpOp P (l++tl).toArray Q (l.length+m0) (fun a w=>Dn (l++tl) (up b (l.length+m0))∧(((∀j,l.length≤j→up b (l.length+m0) j=false)∧CN X (BH (up b (l.length+m0)) 0 l es σ) a w)∨ ∃m,0<m∧m≤tl.length∧(∀j,j<(l++tl).length→(up b (l.length+m0) j=true↔j<l.length+m))∧Q6 P (l++tl).toArray Q (l.length+m) (tl.drop m) a w)) a' w':=fun hk=>by
    rw [List.drop_eq_getElem_cons hm0] at hk
    refine wpOp_mono (fun a2 w2 h2=>⟨hup,.inr ⟨m0+1,by omega,by omega,fun j hj=>?_,h2⟩⟩) hk
    unfold up
    by_cases hj1:j=l.length+m0
    ·subst hj1;simp
    ·by_cases hj2:j<l.length+m0
     ·rw [hall j hj2];simp;omega
     ·rcases hI with ⟨h1,_⟩|⟨m,h1,h2,h3,_⟩
      ·rw [h1 j (by omega)];simp;omega
      ·have h4: ¬(l.length+m0<l.length+m):=fun h=>by
        have:=(h3 (l.length+m0) hiL).2 h
        rw [hbi] at this;cases this
       have h5:b j=false:=by
        cases hb:b j with
        | false=>rfl
        | true=>have:=(h3 j hj).1 hb;omega
       rw [h5];simp;omega
   rcases hI with ⟨h1,hcn⟩|⟨m,h1,h2,h3,h4⟩
   ·have hm00:m0=0:=by
     rcases Nat.eq_zero_or_pos m0 with h|h
     ·exact h
     ·have:=hall l.length (by omega)
      rw [h1 l.length (Yu _)] at this;cases this
    subst hm00
    refine key ?_
    rw [Nz hlen (fun j hj=>hall j (by omega)) hr] at hcn
    exact hT _ _ hcn
   ·have hmm:m=m0:=by
     rcases Nat.lt_trichotomy m m0 with h|h|h
     ·have:=(h3 (l.length+m) (by simp;omega)).1 (hall _ (by omega));omega
     ·exact h
     ·have:=(h3 (l.length+m0) hiL).2 (by omega)
      rw [hbi] at this;cases this
    subst hmm
    exact key h4
 ·rintro b a' w' hall ⟨_,h1|⟨m,h1,h2,h3,h4⟩⟩
  ·obtain ⟨h1,hcn⟩:=h1
   have htl:tl= []:=by
    cases tl with
    | nil=>rfl
    | cons o r=>
      exfalso
      have:=hall l.length (by simp)
      rw [h1 _ (Yu _)] at this;cases this
   subst htl
   rw [Nz hlen (fun j hj=>hall j (by simp;omega)) hr] at hcn
   exact hT _ _ hcn
  ·have hm:m=tl.length:=by
    rcases Nat.lt_or_ge m tl.length with h|h
    ·have:=(h3 (l.length+m) (by simp;omega)).1 (hall _ (by simp;omega));omega
    ·omega
   subst hm
   rw [List.drop_length] at h4
   exact h4
 ·have:DR (Array.replicate (l++tl).toArray.size false)=fun _=>false:=by
   funext j
   unfold DR
   by_cases hj:j<(l++tl).length<;>simp [Array.getD,hj]
  rw [this]
  refine ⟨fun i o _ hb=>by simp at hb,.inl ⟨fun _ _=>rfl,?_⟩⟩
  rw [Gw fun _ _=>rfl]
  exact h.drew
def Tl (P:Program) (X:Ctx) (Q:Exit→St→Prop):List Oper→St→Prop
 | [],σ=>Q .normal σ
 | o::tl,σ=>o.guard=none∧ ∃σ',Stp P X o σ σ'∧Tl P X Q tl σ'
theorem Wu {Q:Exit→St→Prop} {ops:Array Oper} : ∀ {tl:List Oper} {i:Nat} {σ:St},(∀j o,tl[j]?=some o→ops[i+j]?=some o)→Tl P X Q tl σ→ ∀a w,CN X σ a w→Q6 P ops (Sa X Q) i tl a w
 | [],_,_,_,h,a,w,hc=>⟨_,h,hc⟩
 | o::tl,i,σ,hi,h,a,w,hc=>by
   obtain ⟨hg,σ',hs,ht⟩:=h
   refine wpOp_step (o:=o) (by simpa using hi 0 o rfl) fun K' hK'=>?_
   rw [if_pos (by simp [Region.wanted,hg])]
   exact hs a w hc K' _ fun a' w' hc'=>hK' _ _ (Wu (fun j o ho=>by rw [show i+1+j=i+(j+1) by omega];exact hi (j+1) o (by simpa using ho)) ht a' w' hc')
theorem P6 {Q:Exit→St→Prop} {ops:Array Oper} : ∀ {tl:List Oper} {σ:St},Tl P X Q tl σ→ ∀a w,CN X σ a w→wpList P ops (Sa X Q) tl a w
 | [],_,h,a,w,hc=>⟨_,h,hc⟩
 | o::tl,σ,h,a,w,hc=>by
   obtain ⟨hg,σ',hs,ht⟩:=h
   refine wpList_step fun K' hK'=>?_
   rw [if_pos (by simp [Region.wanted,hg])]
   exact hs a w hc K' _ fun a' w' hc'=>hK' _ _ (P6 ht a' w' hc')
theorem DH {Q:Exit→St→Prop} (h:Q .normal σ):Tl P X Q [] σ:=h
theorem W5 {Q:Exit→St→Prop} {o:Oper} (hg:o.guard=none:=by exact rfl) (hs:Stp P X o σ σ') (h:Tl P X Q tl σ'):Tl P X Q (o::tl) σ:=⟨hg,σ',hs,h⟩
theorem Dy {Q:Exit→St→Prop} {o:Oper} (hg:o.guard=none:=by exact rfl) (h:Ah P X [o] [o] σ fun _ σ'=>Tl P X Q tl σ'):Tl P X Q (o::tl) σ:=by
 obtain ⟨es,σ',hr,ht⟩:=h
 cases hr with
 | cons hD hrd hal hl=>
   cases hl
   unfold Ms at hD
   rw [hg] at hD
   exact ⟨hg,_,fun a w hc K Q hK=>hD σ (fun _ _=> .inl rfl) (fun k _=> .inr rfl) hrd hal a w hc K Q hK,ht⟩
theorem RC {ops:List Oper} {K:Exit→Act→World→Prop} (hn: ∀(j:Nat) o',ops[j]?=some o'→ ∀t,o'.dst=some t→t<X.n): ∀ {r:List Oper} {σ σ':St} {es:List Eff},Run P X ops r σ es σ'→(∀o∈r,o∈ops)→(∀a w,CN X σ' a w→wpList P ops.toArray K tl a w)→ ∀ {a:Act} {w:World},CN X σ a w→wpList P ops.toArray K (r++tl) a w:=by
 intro r σ σ' es h
 induction h with
 | nil=>exact fun _ hK a w hc=>hK a w hc
 | cons hD hr ha hl ih=>
   intro hm hK a w hc
   refine wpList_step fun K' hK'=>?_
   rename_i o l σ σ' e es
   obtain ⟨i,hi,hio⟩:=List.mem_iff_getElem.1 (hm o List.mem_cons_self)
   have ho:ops[i]?=some o:=by rw [List.getElem?_eq_getElem hi,hio]
   unfold Ms at hD
   cases hg:o.guard with
   | none=>
     rw [hg] at hD
     rw [if_pos (by simp [Region.wanted,hg])]
     exact hD σ (fun _ _=> .inl rfl) (fun k _=> .inr rfl) hr ha a w hc K' K fun a' w' hc'=>hK' _ _ (ih (fun o ho=>hm o (List.mem_cons_of_mem _ ho)) hK hc')
   | some gw=>
     obtain ⟨g,want⟩:=gw
     rw [hg] at hD
     obtain ⟨o',ho',d,hd,hh⟩:=hD
     have hdn:=hn g o' ho' d hd
     rcases hh with ⟨h1,h2⟩|⟨h1,rfl⟩|⟨h1,rfl⟩
     ·have hy:=Ej hc ho' hd h1 hdn
      rw [if_pos (by simp [Region.wanted,hg,hy])]
      exact h2 σ (fun _ _=> .inl rfl) (fun k _=> .inr rfl) hr ha a w hc K' K fun a' w' hc'=>hK' _ _ (ih (fun o ho=>hm o (List.mem_cons_of_mem _ ho)) hK hc')
     ·have hy:=Ej hc ho' hd h1 hdn
      rw [if_neg (by simp [Region.wanted,hg,hy])]
      obtain ⟨W,hW,μ,hc⟩:=hc
      exact hK' _ _ (ih (fun o ho=>hm o (List.mem_cons_of_mem _ ho)) hK ⟨W,hW,μ,Ck hc (fun t ht=>hn i o ho t ht) rfl⟩)
     ·have hy:=Gd hc ho' hd h1 hdn
      rw [if_neg (by simp [Region.wanted,hg,hy])]
      obtain ⟨W,hW,μ,hc⟩:=hc
      exact hK' _ _ (ih (fun o ho=>hm o (List.mem_cons_of_mem _ ho)) hK ⟨W,hW,μ,Ck hc (fun t ht=>hn i o ho t ht) rfl⟩)
theorem DS {Q:Exit→St→Prop} {id:Nat} (n:Nat) {L:List Oper} (hL:L.take n=l∧L.drop n=tl) (hn:(L.all fun o=>match o.dst with|some t=>Nat.blt t X.n|none=>true)=true) (hr:Ah P X L l σ fun _ σ'=>Tl P X Q tl σ'):Aw P X (.region id L.toArray false) σ Q:=fun a w h=>by
 obtain ⟨es,σ',h1,h2⟩:=hr
 obtain ⟨rfl,rfl⟩:=hL
 refine wp_region_lit ?_
 have:=RC (K:=Sa X Q) (tl:=L.drop n) (ops:=L) (fun j o' ho t ht=>by
  have:=List.all_eq_true.1 hn o' (List.mem_of_getElem? ho)
  rw [ht] at this
  simpa using this) h1 (fun o ho=>List.mem_of_mem_take ho) (fun a w hc=>P6 h2 a w hc) h
 rw [List.take_append_drop] at this
 exact this
theorem Fw {Q:Exit→St→Prop} {id:Nat} (n:Nat) {L:List Oper} (hL:L.take n=l∧L.drop n=tl) (hm:P.follows .mixedOrders=true) (hd:N9 L=true) (hn:(l.all fun o=>match o.dst with|some t=>Nat.blt t X.n|none=>true)=true)
  (hgd:(l.all fun o=>match o.guard with|some p=>Nat.blt p.1 l.length|none=>true)=true) (hser:XO L l.length=true) (hr:Ah P X l l σ fun es σ'=>chk l es=true∧Tl P X Q tl σ'):Aw P X (.region id L.toArray true) σ Q:=fun a w h=>by
 obtain ⟨es,σ',h1,hc,h2⟩:=hr
 obtain ⟨rfl,rfl⟩:=hL
 have e:L.take n++L.drop n=L:=List.take_append_drop n L
 have:=LL (Q:=Sa X Q) (id:=id) hm (by rw [e];exact hd) hn hgd (by rw [e];exact hser) h1 hc h (Wu (fun j o ho=>by
  rw [List.getElem?_toArray,List.getElem?_append_right (by omega)]
  simpa using ho) h2)
 rw [e] at this
 exact this
end
def BU:Nat→List Value→List C
 | 0,_=> []
 | c+1,zc=>zc.map .v++BU c zc
theorem DF (zc:List Value): ∀c,(BU c zc).length=c*zc.length
 | 0=>by simp [BU]
 | c+1=>by simp [BU,DF zc c,Nat.add_mul];omega
theorem I8 (zc:List Value) (hz:0<zc.length): ∀(c o:Nat),o<c*zc.length→(BU c zc)[o]?=some (.v (zc.getD (o % zc.length) undef))
 | 0,o,h=>by simp at h
 | c+1,o,h=>by
   unfold BU
   by_cases ho:o<zc.length
   ·rw [List.getElem?_append_left (by simpa using ho),List.getElem?_map,Yv ho,Nat.mod_eq_of_lt ho,List.getD_eq_getElem?_getD,Yv ho]
    rfl
   ·rw [List.getElem?_append_right (by simpa using ho),List.length_map,I8 zc hz c (o-zc.length) (by have h':(c+1)*zc.length=c*zc.length+zc.length:=Nat.succ_mul c zc.length;omega),Nat.mod_eq_sub_mod (a:=o) (b:=zc.length) (by omega)]
theorem FU {W0:World} {μ:Nat→Nat×Nat} {sz:Nat→Nat} {w:World} {z:Array Value} (hz:0<z.size) (c:Nat):B5 (cc W0 μ sz w) (madeCells z (c*z.size)).toList (BU c z.toList):=by
 refine ⟨by rw [DF,Array.length_toList,size_madeCells,Array.length_toList],fun i x d hx hd=>?_⟩
 rw [Array.getElem?_toList] at hx
 have hi:i<c*z.size:=by have:=(Array.getElem?_eq_some_iff.1 hx).1;rwa [size_madeCells] at this
 rw [NM hz hi] at hx
 rw [I8 z.toList (by simpa using hz) c i (by simpa using hi)] at hd
 cases hx
 cases hd
 show _=_
 simp
theorem Ku {z:List Value} (h:z.all L1=true): ∀(c:Nat),∀x∈BU c z,nl x
 | 0,x,hx=>by cases hx
 | c+1,x,hx=>by
   rcases List.mem_append.1 hx with h1|h1
   ·obtain ⟨v,hv,rfl⟩:=List.mem_map.1 h1
    exact GA (List.all_eq_true.1 h v hv)
   ·exact Ku h c x h1
section
variable {P:Program} {X:Ctx} {ops l:List Oper} {σ:St} {K:List Eff→St→Prop} {s:Nat→AV} {z:Nat→Nat}
variable {dst:Option Tmp} {ty:TypeId} {pos:String} {af:Array Edge} {gd:Option (Nat×Bool)}
theorem Ko {t e:TypeId} {lo co:Operand} {agg:Bool} {n bytes:Nat} {zv:Value} [S:Sle P t e agg n bytes zv] {kl kc:IntKind} {cap id:Nat} (hd: ∀t,dst=some t→t<X.n) (hl:evC s lo= .one (.v (.int kl (cap:Nat)))) (hc:evC s co= .one (.v (.int kc (cap:Nat))))
  (hb:bytes*cap≤281474976710656) (hb2:cap≤9223372036854775807) (hp:0<cap):
  Sim P X ⟨dst,.makeSlice t lo co,ty,pos,af,gd⟩ s z ⟨.one (.gl id cap n),[],[],[(id,BU cap zv.cells.toList)]⟩:=by
 refine Sim.of0 fun W=>?_
 replace hd: ∀t,dst=some t→t<(X.at W).n:=hd
 generalize X.at W=X at hd⊢
 intro σ hs hsz _ hal a w hcn K Q hK
 obtain ⟨μ,hcn⟩:=hcn
 obtain ⟨hid,hne⟩:=hal.1 _ List.mem_cons_self
 obtain ⟨inf,hi,hz,hsize,hby⟩:=S.info
 have hn:=S.pos
 have h1:=hcn.ev lo
 replace h1:=C5 (o:=⟨dst,.makeSlice t lo co,ty,pos,af,gd⟩) hs (by simp [Op.operands]) h1
 rw [hl] at h1
 replace h1:a.eval lo= .int kl (cap:Int):=h1
 have h2:=hcn.ev co
 replace h2:=C5 (o:=⟨dst,.makeSlice t lo co,ty,pos,af,gd⟩) hs (by simp [Op.operands]) h2
 rw [hc] at h2
 replace h2:a.eval co= .int kc (cap:Int):=h2
 have hzs:=S.size
 have hr:=run_make (P:=P) w t e inf zv S.hu hi hz kl kc (cap:Int) (cap:Int) (by omega) (by omega) (by rw [hby];rw [←Int.natCast_mul];omega) (by omega)
 simp only [Int.toNat_natCast,hsize] at hr
 have hrun:(execOp a.eval ⟨dst,.makeSlice t lo co,ty,pos,af,gd⟩).run P w= .ok (.value (.slice (some ⟨w.heap.size,0,none⟩) cap cap)) (w.alloc (.cells (madeCells zv.cells (cap*n)) e)):=by
  simp [execOp,h1,h2,hr]
 unfold Oper.wp
 rw [hrun]
 have hkp:Kp w (w.alloc (.cells (madeCells zv.cells (cap*n)) e)):=(Below.refl _ _).alloc (Yu _) _
 have hall:=FU (W0:=X.W0) (μ:=μ) (sz:=σ.sz) (w:=w.alloc (.cells (madeCells zv.cells (cap*n)) e)) (z:=zv.cells) (by omega) cap
 rw [hzs] at hall
 have hzl:(BU cap zv.cells.toList).length=cap*n:=by rw [DF];simp [hzs]
 have hnew:=hcn.new (id:=id) hid (w':=w.alloc (.cells (madeCells zv.cells (cap*n)) e)) (g:=w.heap.size) (vs:=madeCells zv.cells (cap*n)) (e:=e) (cs:=BU cap zv.cells.toList) hkp (Yu _) (heap_alloc_new w _) hne
  (by rw [hzl,size_madeCells];exact Yu _) (fun o x hx=>NL S.nl (by omega) hx) (fun o x c hx hcc=>hall.2 o x c (by simpa using hx) hcc) (Ku S.nl cap)
 refine hK _ _ ⟨upd μ id (w.heap.size,(madeCells zv.cells (cap*n)).size),?_⟩
 refine Ck hnew (d:=dst) hd (v:= .slice (some ⟨w.heap.size,0,none⟩) cap cap) (av:= .one (.gl id cap n)) ⟨_,cap,rfl,Yu _,fun h=>h,fun _=>⟨by rw [AI],by rw [AI,size_madeCells];exact Yu _,?_⟩⟩
 ·show upd σ.sz id _ id≠0
  rw [AI]
  intro h0
  exact hne (List.eq_nil_of_length_eq_zero h0)
theorem Jl {t e:TypeId} {parts:Array (Nat×Operand)} {agg:Bool} {n bytes:Nat} {zv:Value} [S:Sle P t e agg n bytes zv] {len id:Nat} {ps:List (Nat×AV)} {cs:List C} (hd: ∀t,dst=some t→t<X.n) (hps:parts.toList.map (fun p=>(p.1,evC s p.2))=ps)
  (hnl:(ps.all fun p=>(At p.2).all nlB)=true) (hf:Dk (fun i=>some (i*n,n)) (BU len zv.cells.toList) ps=some cs) (hnl2:cs.all nlB=true) (hb:Nat.ble (len*n) 16777216=true) (hp:Nat.blt 0 len=true):
  Sim P X ⟨dst,.buildSlice t len parts,ty,pos,af,gd⟩ s z ⟨.one (.gl id len n),[],[],[(id,cs)]⟩:=by
 refine Sim.of0 fun W=>?_
 replace hd: ∀t,dst=some t→t<(X.at W).n:=hd
 generalize X.at W=X at hd⊢
 intro σ hs hsz _ hal a w hcn K Q hK
 obtain ⟨μ,hcn⟩:=hcn
 obtain ⟨hid,hne⟩:=hal.1 _ List.mem_cons_self
 obtain ⟨inf,hi,hz,hsize,hby⟩:=S.info
 have hb:=Nat.le_of_ble_eq_true hb
 have hp:0<len:=by simpa using hp
 have hzs:=S.size
 have hpos:=S.pos
 obtain ⟨ol,rfl⟩: ∃ol:List (Nat×Operand),parts=ol.toArray:=⟨parts.toList,by simp⟩
 have hρ': ∀p∈ol,cv X.W0 μ σ.sz w (a.eval p.2) (evC s p.2):=fun p hpm=>by
  have h1:=hcn.ev p.2
  exact C5 (o:=⟨dst,.buildSlice t len ol.toArray,ty,pos,af,gd⟩) hs (by simp [Op.operands];exact ⟨p.1,hpm⟩) h1
 simp only at hps
 subst hps
 have hz0:B5 (cc X.W0 μ σ.sz w) (madeCells zv.cells (len*n)).toList (BU len zv.cells.toList):=by
  have:=FU (W0:=X.W0) (μ:=μ) (sz:=σ.sz) (w:=w) (z:=zv.cells) (by omega) len
  rw [hzs] at this
  exact this
 obtain ⟨a',h1,h2⟩:=I2 (W0:=X.W0) (μ:=μ) (sz:=σ.sz) (w:=w) (vs:=ol.map fun p=>(p.1,a.eval p.2)) (by simp) (fun i p q hp hq=>by
  simp only [List.getElem?_map,Option.map_eq_some_iff] at hp hq
  obtain ⟨x,hx,rfl⟩:=hp
  obtain ⟨y,hy,rfl⟩:=hq
  rw [hx] at hy
  cases hy
  refine ⟨rfl,hρ' x (List.mem_of_getElem? hx),fun c hc=>DM ?_⟩
  have:=List.all_eq_true.1 hnl (x.1,evC s x.2) (List.mem_map.2 ⟨x,List.mem_of_getElem? hx,rfl⟩)
  exact List.all_eq_true.1 this c hc) hz0 hf
 have hr:=run_buildSlice (P:=P) w t e len ((ol.map fun p=>(p.1,a.eval p.2)).toArray) a' inf zv S.hu hi hz (by rw [hsize];omega) (by rw [hsize];have:=Nat.mul_pos hp hpos;omega) (by
  rw [hsize]
  simpa [madeCells] using h1)
 have hrun:(execOp a.eval ⟨dst,.buildSlice t len ol.toArray,ty,pos,af,gd⟩).run P w= .ok (.value (.slice (some ⟨w.heap.size,0,none⟩) len len)) (w.alloc (.cells a' e)):=by
  simp only [execOp]
  rw [show (ol.toArray.map fun x=>match x with|(i,x)=>(i,a.eval x))=(ol.map fun p=>(p.1,a.eval p.2)).toArray by simp]
  simp [hr]
 unfold Oper.wp
 rw [hrun]
 have hkp:Kp w (w.alloc (.cells a' e)):=(Below.refl _ _).alloc (Yu _) _
 have hnl': ∀c∈cs,nl c:=fun c hc=>DM (List.all_eq_true.1 hnl2 c hc)
 have hsz':a'.size=cs.length:=by have:=h2.1;simpa using this
 have hlen:cs.length=len*n:=by
  have key: ∀(ps:List (Nat×AV)) (c0 c1:List C),Dk (fun i=>some (i*n,n)) c0 ps=some c1→c1.length=c0.length:=by
   intro ps
   induction ps with
   | nil=>intro c0 c1 h;simp [Dk] at h;rw [h]
   | cons p ps ih=>
     intro c0 c1 h
     unfold Dk at h
     simp only at h
     split at h
     ·have layl: ∀(l:List C) (c:List C) (o:Nat),(PA c o l).length=c.length:=by
       intro l
       induction l with
       | nil=>intro c o;rfl
       | cons x l ih=>intro c o;show (PA (c.set o x) (o+1) l).length=_;rw [ih];simp
      rw [ih _ _ h,layl]
     ·cases h
  rw [key _ _ _ hf,DF];simp [hzs]
 have hnew:=hcn.new (id:=id) hid (w':=w.alloc (.cells a' e)) (g:=w.heap.size) (vs:=a') (e:=e) (cs:=cs) hkp (Yu _) (heap_alloc_new w _) hne (by omega)
  (fun o x hx=>by
   have ho:o<cs.length:=by have:=(Array.getElem?_eq_some_iff.1 hx).1;omega
   exact (h2.2 o x _ (by simpa using hx) (Yv ho)).noL (hnl' _ (List.getElem_mem ho))) (fun o x c hx hc=>(h2.2 o x c (by simpa using hx) hc).mono (Kl.of_kp hkp) fun i hi=>⟨rfl,hi⟩) hnl'
 refine hK _ _ ⟨upd μ id (w.heap.size,a'.size),?_⟩
 refine Ck hnew (d:=dst) hd (v:= .slice (some ⟨w.heap.size,0,none⟩) len len) (av:= .one (.gl id len n)) ⟨_,len,rfl,Yu _,fun h=>h,fun _=>⟨by rw [AI],by rw [AI,hsz',hlen];exact Yu _,?_⟩⟩
 show upd σ.sz id _ id≠0
 rw [AI]
 intro h0
 exact hne (List.eq_nil_of_length_eq_zero h0)
theorem Dp {t e:TypeId} {agg:Bool} {n bytes:Nat} {zv:Value} [S:Sle P t e agg n bytes zv] {x:Operand} {c:C} {m:Nat} (hg:gOk ops σ.s gd:=by first|exact trivial|exact rfl) (hd:dB X.n dst=true:=by exact rfl) (hx:evC σ.s x= .one c:=by exact rfl) (hc:Qe c=some m:=by exact rfl)
  (hl:Ah P X ops l (σ.app dst ⟨.one (.v (.int .i64 m)),[],[],[]⟩) (fun es σ'=>K (⟨.one (.v (.int .i64 m)),[],[],[]⟩::es) σ')):Ah P X ops (⟨dst,.call ⟨.builtin .len,#[x],#[t]⟩,ty,pos,af,gd⟩::l) σ K:=
 BR (o:=⟨dst,.call ⟨.builtin .len,#[x],#[t]⟩,ty,pos,af,gd⟩) hg hd (Pi ⟨e,S.hu⟩ hx hc) hl
theorem FO {α:Type} {f:α→List D} {la:List α} {b:α} {t e:TypeId} {x y:Operand} {agg:Bool} {n bytes:Nat} {zv:Value} [S:Sle P t e agg n bytes zv] {ik:IntKind} {i:Int} (ha:la[i.toNat]?=some b) (h0:0≤i) (hg:gOk ops σ.s gd:=by first|exact trivial|exact rfl) (hd:dB X.n dst=true:=by exact rfl) (hx:evC σ.s x= .one (lsG n f la):=by exact rfl) (hy:evC σ.s y= .one (.v (.int ik i)):=by exact rfl) (hf: ∀a,(f a).length=n:=by intro _;rfl)
  (hl:Ah P X ops l (σ.app dst ⟨.one (.fp (f b)),[],[],[]⟩) (fun es σ'=>K (⟨.one (.fp (f b)),[],[],[]⟩::es) σ')):Ah P X ops (⟨dst,.indexAddr t x y,ty,pos,af,gd⟩::l) σ K:=by
 have hi:0≤i∧i<la.length:=⟨h0,by have:=(List.getElem?_eq_some_iff.1 ha).1;omega⟩
 have h:=LP (S:=S) (P:=P) (dst:=dst) (ty:=ty) (pos:=pos) (af:=af) (gd:=gd) hx hy hi
 rw [QA hf ha] at h
 exact BR (o:=⟨dst,.indexAddr t x y,ty,pos,af,gd⟩) hg hd h hl
theorem Lo {t e:TypeId} {x y:Operand} {agg:Bool} {n bytes:Nat} {zv:Value} [S:Sle P t e agg n bytes zv] {k len:Nat} {ik:IntKind} {i:Int} (hi:0≤i∧i<len) (hg:gOk ops σ.s gd:=by first|exact trivial|exact rfl) (hd:dB X.n dst=true:=by exact rfl) (hx:evC σ.s x= .one (.gl k len n):=by exact rfl) (hy:evC σ.s y= .one (.v (.int ik i)):=by exact rfl)
  (hl:Ah P X ops l (σ.app dst ⟨.one (.ptr k (i.toNat*n)),[],[],[]⟩) (fun es σ'=>K (⟨.one (.ptr k (i.toNat*n)),[],[],[]⟩::es) σ')):Ah P X ops (⟨dst,.indexAddr t x y,ty,pos,af,gd⟩::l) σ K:=
 BR (o:=⟨dst,.indexAddr t x y,ty,pos,af,gd⟩) hg hd (LQ hx hy hi) hl
theorem BI {t:TypeId} {x:Operand} {i fo:Nat} {agg:Bool} {n:Nat} [hF:Fld P t i fo agg n] {cs:List D} (hg:gOk ops σ.s gd:=by first|exact trivial|exact rfl) (hd:dB X.n dst=true:=by exact rfl) (hx:evC σ.s x= .one (.fp cs):=by exact rfl) (hc:Nat.blt fo cs.length=true:=by exact rfl)
  (hl:Ah P X ops l (σ.app dst ⟨.one (.fp (cs.drop fo)),[],[],[]⟩) (fun es σ'=>K (⟨.one (.fp (cs.drop fo)),[],[],[]⟩::es) σ')):Ah P X ops (⟨dst,.fieldAddr t x i,ty,pos,af,gd⟩::l) σ K:=
 BR (o:=⟨dst,.fieldAddr t x i,ty,pos,af,gd⟩) hg hd (LR hx hc) hl
theorem AY {t:TypeId} {x:Operand} {agg:Bool} {n:Nat} [hT:Tsz P t agg n] {cs:List D} (hg:gOk ops σ.s gd:=by first|exact trivial|exact rfl) (hd:dB X.n dst=true:=by exact rfl) (hx:evC σ.s x= .one (.fp cs):=by exact rfl) (hc:(Nat.ble n cs.length&&(agg || Nat.beq n 1))=true:=by exact rfl)
  (hl:Ah P X ops l (σ.app dst ⟨mkA agg ((cs.take n).map toC),[],[],[]⟩) (fun es σ'=>K (⟨mkA agg ((cs.take n).map toC),[],[],[]⟩::es) σ')):Ah P X ops (⟨dst,.load t x,ty,pos,af,gd⟩::l) σ K:=by
 simp only [Bool.and_eq_true] at hc
 exact .of (fun _ _ hl=>Run.step hg (OF (Dd hd) hx (Nat.le_of_ble_eq_true hc.1) hc.2) (fun p hp=>by cases hp) Ct hl) hl
theorem H7 {α:Type} {f:α→List D} {la:List α} {t e:TypeId} {x:Operand} {lo hi:Option Operand} {agg:Bool} {n bytes:Nat} {zv:Value} [S:Sle P t e agg n bytes zv] {a b:Nat} (hab:a≤b) (hb:b≤la.length) (hlo:Bnd σ.s 0 lo a) (hhi:Bnd σ.s la.length hi b) (hg:gOk ops σ.s gd:=by first|exact trivial|exact rfl) (hd:dB X.n dst=true:=by exact rfl) (hx:evC σ.s x= .one (lsG n f la):=by exact rfl) (hf: ∀a,(f a).length=n:=by intro _;rfl)
  (hl:Ah P X ops l (σ.app dst ⟨.one (lsG n f ((la.take b).drop a)),[],[],[]⟩) (fun es σ'=>K (⟨.one (lsG n f ((la.take b).drop a)),[],[],[]⟩::es) σ')):Ah P X ops (⟨dst,.slice t x lo hi none,ty,pos,af,gd⟩::l) σ K:=by
 have h:=LO (S:=S) (P:=P) (dst:=dst) (ty:=ty) (pos:=pos) (af:=af) (gd:=gd) hx hhi hlo hab hb
 rw [Ld hf,Is hf] at h
 have e:((la.take b).drop a).length=b-a:=by rw [List.length_drop,List.length_take,Nat.min_eq_left hb]
 unfold lsG at hl
 rw [e] at hl
 exact BR (o:=⟨dst,.slice t x lo hi none,ty,pos,af,gd⟩) hg hd h hl
theorem Ln {t:TypeId} {x:Operand} {agg:Bool} {n:Nat} [hT:Tsz P t agg n] {k off:Nat} {cs:List C} (hz:off+n≤σ.sz k) (hm:rdL (σ.m k) off n=cs) (hg:gOk ops σ.s gd:=by first|exact trivial|exact rfl) (hd:dB X.n dst=true:=by exact rfl) (hx:evC σ.s x= .one (.ptr k off):=by exact rfl) (hc:(Nat.blt 0 n&&(agg || Nat.beq n 1))=true:=by exact rfl)
  (hl:Ah P X ops l (σ.app dst ⟨mkA agg cs,[(k,off,cs)],[],[]⟩) (fun es σ'=>K (⟨mkA agg cs,[(k,off,cs)],[],[]⟩::es) σ')):Ah P X ops (⟨dst,.load t x,ty,pos,af,gd⟩::l) σ K:=by
 subst hm
 simp only [Bool.and_eq_true] at hc
 exact .of (fun _ _ hl=>Nb hg (Dd hd) hx (Nat.ble_eq_true_of_le hz) hc.1 hc.2 hl) hl
theorem Mx {t:TypeId} {x y:Operand} {agg:Bool} {n:Nat} [hT:Tsz P t agg n] {k off:Nat} {av:AV} (hz:off+n≤σ.sz k) (hg:gOk ops σ.s gd:=by first|exact trivial|exact rfl) (hd:dB X.n dst=true:=by exact rfl) (hx:evC σ.s x= .one (.ptr k off):=by exact rfl) (hy:evC σ.s y=av:=by exact rfl) (hc:(Nat.beq (At av).length n&&(Dg av || Nat.beq n 1)&&Nat.blt 0 n&&(At av).all nlB)=true:=by exact rfl)
  (hl:Ah P X ops l (σ.app dst ⟨.junk,[],[(k,off,At av)],[]⟩) (fun es σ'=>K (⟨.junk,[],[(k,off,At av)],[]⟩::es) σ')):Ah P X ops (⟨dst,.store t x y,ty,pos,af,gd⟩::l) σ K:=by
 simp only [Bool.and_eq_true] at hc
 exact .of (fun _ _ hl=>Js hg (Dd hd) hx hy hc.1.1.1 hc.1.1.2 (Nat.ble_eq_true_of_le hz) hc.1.2 hc.2 hl) hl
theorem WR {d:Nat} {t e:TypeId} {lo co:Operand} {agg:Bool} {n bytes:Nat} {zv:Value} [S:Sle P t e agg n bytes zv] {kl kc:IntKind} {cap:Nat} (hp:0<cap) (hb:bytes*cap≤281474976710656) (hb2:cap≤9223372036854775807) (hg:gOk ops σ.s gd:=by first|exact trivial|exact rfl) (hd:dB X.n (some d)=true:=by exact rfl) (hx:evC σ.s lo= .one (.v (.int kl (cap:Nat))):=by exact rfl) (hy:evC σ.s co= .one (.v (.int kc (cap:Nat))):=by exact rfl) (hf:Nat.beq (σ.sz d) 0=true:=by exact rfl)
  (hl:Ah P X ops l (σ.app (some d) ⟨.one (.gl d cap n),[],[],[(d,BU cap zv.cells.toList)]⟩) (fun es σ'=>K (⟨.one (.gl d cap n),[],[],[(d,BU cap zv.cells.toList)]⟩::es) σ')):Ah P X ops (⟨some d,.makeSlice t lo co,ty,pos,af,gd⟩::l) σ K:=
 .of (fun _ _ hl=>Run.step hg (Ko (Dd hd) hx hy hb hb2 hp) (fun p hp=>by cases hp) (EE (by simpa using hf) fun h0=>by
  have h1:(BU cap zv.cells.toList).length=0:=by rw [h0];rfl
  rw [DF] at h1
  have:=Nat.mul_pos hp S.pos
  have h2:=S.size
  simp [h2] at h1
  omega) hl) hl
theorem BD {d:Nat} {t e:TypeId} {parts:Array (Nat×Operand)} {agg:Bool} {n bytes:Nat} {zv:Value} [S:Sle P t e agg n bytes zv] {len:Nat} {ps:List (Nat×AV)} {cs:List C} (hg:gOk ops σ.s gd:=by first|exact trivial|exact rfl) (hd:dB X.n (some d)=true:=by exact rfl) (hx:parts.toList.map (fun p=>(p.1,evC σ.s p.2))=ps:=by exact rfl) (hy:(ps.all fun p=>(At p.2).all nlB)=true:=by exact rfl) (hc:Dk (fun i=>some (i*n,n)) (BU len zv.cells.toList) ps=some cs:=by exact rfl)
  (hf:(Nat.beq (σ.sz d) 0&&!cs.isEmpty&&cs.all nlB&&Nat.ble (len*n) 16777216&&Nat.blt 0 len)=true:=by exact rfl)
  (hl:Ah P X ops l (σ.app (some d) ⟨.one (.gl d len n),[],[],[(d,cs)]⟩) (fun es σ'=>K (⟨.one (.gl d len n),[],[],[(d,cs)]⟩::es) σ')):Ah P X ops (⟨some d,.buildSlice t len parts,ty,pos,af,gd⟩::l) σ K:=by
 simp only [Bool.and_eq_true,Bool.not_eq_true'] at hf
 exact .of (fun _ _ hl=>Run.step hg (Jl (Dd hd) hx hy hc hf.1.1.2 hf.1.2 hf.2) (fun p hp=>by cases hp) (EE (by simpa using hf.1.1.1.1) fun h0=>by rw [h0] at hf;cases hf.1.1.1.2) hl) hl
end
theorem A8 {P:Program} {X:Ctx} {σ:St} {ss:List (Nat×AV)} {bs:List (Nat×List C)} {c:Code} {Q:Exit→St→Prop} (h:Wk X σ ss bs) (ha:Aw P X c (stL ss bs) Q):Aw P X c σ Q:=fun a w hc=>ha a w (h.cn hc)
theorem Ak {α:Type} {p:α→Prop} : ∀x∈([]:List α),p x:=fun _ h=>nomatch h
def ndB:List Nat→Bool
 | []=>true
 | a::l=>!l.any (Nat.beq a)&&ndB l
theorem Ih: ∀ {l:List Nat},ndB l=true→l.Nodup
 | [],_=> .nil
 | a::l,h=>by
   have h:(!l.any (Nat.beq a)&&ndB l)=true:=h
   rw [Bool.and_eq_true] at h
   refine List.nodup_cons.2 ⟨fun hm=>?_,Ih h.2⟩
   have h1:=h.1
   rw [Bool.not_eq_true',List.any_eq_false] at h1
   exact h1 a hm (Nat.beq_refl a)
def DD (σ:St) (ks:List Nat) (p:Nat×List C):Prop:=(σ.sz p.1=p.2.length∧ ∀(i:Nat) c,p.2[i]?=some c→Af (σ.m p.1 i) c∧nl c)∧p.2.all (inC ks)=true
theorem Cu {X:Ctx} {σ:St} {ss:List (Nat×AV)} {bs:List (Nat×List C)} (h1: ∀p∈ss,Ent (σ.s p.1) p.2) (h2: ∀p∈bs,DD σ (bs.map (·.1)) p)
  (hb:((ss.all fun p=>inA (bs.map (·.1)) p.2)&&ndB (bs.map (·.1))&&(X.ps.all fun k=>(bs.map (·.1)).any (Nat.beq k)))=true):Wk X σ ss bs:=by
 simp only [Bool.and_eq_true] at hb
 exact ⟨h1,fun p hp=>(h2 p hp).1,hb.1.1,List.all_eq_true.2 fun p hp=>(h2 p hp).2,Ih hb.1.2,hb.2⟩
theorem AG {σ:St} {ks:List Nat} {k:Nat} {c:List C} (hz:σ.sz k=c.length) (hm:EntL (rdL (σ.m k) 0 c.length) c) (hn:(c.all nlB&&c.all (inC ks))=true):DD σ ks (k,c):=by
 rw [Bool.and_eq_true] at hn
 refine ⟨⟨hz,fun i d hi=>?_⟩,hn.2⟩
 have hlt:=(List.getElem?_eq_some_iff.1 hi).1
 have h2:=DB (σ.m k) c.length 0 i hlt
 rw [Nat.zero_add] at h2
 exact ⟨hm.get i _ d h2 hi,DM (List.all_eq_true.1 hn.1 d (List.mem_of_getElem? hi))⟩
theorem Af.q2 {x:Rat} {j k i:Nat} (h:j≤k):Af (.q x j i) (.q x k i):=Af.q rfl h
abbrev Ao {α:Type} (f:α→List D) (l:List α):List C:=(l.flatMap f).map toC
class Elm {α:Type} (n:outParam Nat) (f:α→List D):Prop where
 len: ∀a,(f a).length=n
 nl: ∀a,((f a).all fun d=>nlB (toC d))=true
section
variable {α:Type} {n:Nat} {f:α→List D}
theorem Av (hf:Elm n f) (l:List α):(Ao f l).length=l.length*n:=by rw [List.length_map,Fs hf.len]
theorem ET (hf:Elm n f) (l:List α): ∀c∈Ao f l,nl c:=fun c hc=>by
 obtain ⟨d,hd,rfl⟩:=List.mem_map.1 hc
 obtain ⟨a,_,hda⟩:=List.mem_flatMap.1 hd
 exact DM (List.all_eq_true.1 (hf.nl a) d hda)
theorem OA (d:D):pfC (toC d)=true:=by cases d<;>rfl
theorem Cs (ks:List Nat) (l:List α):(Ao f l).all (inC ks)=true:=List.all_eq_true.2 fun c hc=>by
 obtain ⟨d,_,rfl⟩:=List.mem_map.1 hc
 exact A7 (OA d) ks
theorem Ho (l:List α):(Ao f l).all pfC=true:=List.all_eq_true.2 fun c hc=>by
 obtain ⟨d,_,rfl⟩:=List.mem_map.1 hc
 exact OA d
abbrev Jv (cs:List C):Nat→C:=fun o=>cs.getD o (.v (.bool false))
theorem FG {cs:List C} {i:Nat} {c:C} (h:cs[i]?=some c):Jv cs i=c:=by show cs.getD i _=c;rw [List.getD_eq_getElem?_getD,h];rfl
def Kj (m:Nat→C) (cs:List C):Prop:= ∀(i:Nat) c,cs[i]?=some c→m i=c
theorem DA {cs:List C} :Kj (Jv cs) cs:=fun i c h=>FG h
theorem Da {g:Nat→C} {cs:List C} :Kj (laid g 0 cs) cs:=fun i c h=>by
 have:=Eb (f:=g) (off:=0) h
 rw [Nat.zero_add] at this
 exact this
theorem AN (hf:Elm n f) {σ:St} {ks:List Nat} {k:Nat} {l:List α} (hz:σ.sz k=(Ao f l).length:=by exact rfl) (hm:Kj (σ.m k) (Ao f l):=by first|exact DA|exact Da):DD σ ks (k,Ao f l):=
 ⟨⟨hz,fun i c hi=>⟨Af.of_eq (hm i c hi),ET hf l c (List.mem_of_getElem? hi)⟩⟩,Cs ks l⟩
theorem Wm (hf:Elm n f) {l:List α} {i:Nat} {a:α} (h:l[i]?=some a): ∀(o:Nat) c,((f a).map toC)[o]?=some c→(Ao f l)[i*n+o]?=some c:=fun o c hc=>by
 have h1:=QA hf.len h
 rw [List.getElem?_map] at hc⊢
 have:(l.flatMap f)[i*n+o]?=(f a)[o]?:=by
  rw [←h1,List.getElem?_take,if_pos,List.getElem?_drop]
  have:o<((f a).map toC).length:=by
   have:=(List.getElem?_eq_some_iff.1 (show ((f a).map toC)[o]?=some c by rw [List.getElem?_map];exact hc)).1
   exact this
  rw [List.length_map,hf.len] at this
  exact this
 rw [this]
 exact hc
theorem CH (hf:Elm n f) {l:List α} {i:Nat} {a:α} (h:l[i]?=some a):rdL (Jv (Ao f l)) (i*n) n=(f a).map toC:=by
 refine List.ext_getElem? fun o=>?_
 by_cases ho:o<n
 ·rw [DB _ _ _ _ ho]
  have hl:o<((f a).map toC).length:=by rw [List.length_map,hf.len];exact ho
  rw [Yv hl]
  exact congrArg some (FG (Wm hf h o _ (Yv hl)))
 ·rw [List.getElem?_eq_none (by rw [EL];omega),List.getElem?_eq_none (by rw [List.length_map,hf.len];omega)]
theorem JU (hf:Elm n f): ∀ {l:List α} {i:Nat} {a:α},i<l.length→ ∀(o:Nat),((l.set i a).flatMap f)[o]?=if i*n≤o∧o<i*n+n then (f a)[o-i*n]? else (l.flatMap f)[o]?
 | [],_,_,h,_=>by simp at h
 | b::l,0,a,_,o=>by
   rw [List.set_cons_zero,List.flatMap_cons,List.flatMap_cons,Nat.zero_mul,Nat.zero_add,Nat.sub_zero]
   by_cases h:o<n
   ·rw [if_pos ⟨Nat.zero_le _,h⟩,List.getElem?_append_left (by rw [hf.len];exact h)]
   ·rw [if_neg (fun hh=>h hh.2),List.getElem?_append_right (by rw [hf.len];omega),List.getElem?_append_right (by rw [hf.len];omega),hf.len,hf.len]
 | b::l,i+1,a,h,o=>by
   rw [List.set_cons_succ,List.flatMap_cons,List.flatMap_cons]
   have e:(i+1)*n=i*n+n:=Nat.succ_mul i n
   by_cases ho:o<n
   ·rw [if_neg (fun hh=>by omega),List.getElem?_append_left (by rw [hf.len];exact ho),List.getElem?_append_left (by rw [hf.len];exact ho)]
   ·rw [List.getElem?_append_right (by rw [hf.len];omega),List.getElem?_append_right (by rw [hf.len];omega),hf.len,JU hf (by simpa using h)]
    by_cases hh:(i+1)*n≤o∧o<(i+1)*n+n
    ·rw [if_pos hh,if_pos (by omega),show o-n-i*n=o-(i+1)*n by omega]
    ·rw [if_neg hh,if_neg (by omega)]
theorem I5 (hf:Elm n f) {σ:St} {ks:List Nat} {k:Nat} {l:List α} {i:Nat} {a:α} (hi:i<l.length) {cs:List C} (he:EntL cs ((f a).map toC)) (hz:σ.sz k=(Ao f l).length:=by exact rfl) (hm:σ.m k=laid (Jv (Ao f l)) (i*n) cs:=by exact rfl):DD σ ks (k,Ao f (l.set i a)):=by
 have hl:(Ao f (l.set i a)).length=(Ao f l).length:=by rw [Av hf,Av hf,List.length_set]
 refine ⟨⟨hz.trans hl.symm,fun o c hc=>⟨?_,ET hf _ c (List.mem_of_getElem? hc)⟩⟩,Cs ks _⟩
 have hcl:cs.length=n:=by rw [he.len,List.length_map,hf.len]
 show Af (σ.m k o) c
 rw [hm]
 replace hc:((l.set i a).flatMap f |>.map toC)[o]?=some c:=hc
 rw [List.getElem?_map,JU hf hi] at hc
 by_cases ho:i*n≤o∧o<i*n+n
 ·rw [if_pos ho,←List.getElem?_map] at hc
  obtain ⟨q,rfl⟩: ∃q,o=i*n+q:=⟨o-i*n,by omega⟩
  rw [Nat.add_sub_cancel_left] at hc
  have hq:q<cs.length:=by omega
  rw [Eb (Yv hq)]
  exact he.get q _ c (Yv hq) hc
 ·rw [if_neg ho,←List.getElem?_map] at hc
  rw [Fq (by omega)]
  exact Af.of_eq (FG hc)
theorem NY {a b c d:List C} (h:EntL a c) (k:EntL b d):EntL (a++b) (c++d):=by
 induction h with
 | nil=>exact k
 | cons h _ ih=>exact .cons h ih
theorem Kt {zc:List Value} {a:α} (h:EntL (zc.map .v) ((f a).map toC)): ∀(c:Nat),EntL (BU c zc) (Ao f (List.replicate c a))
 | 0=> .nil
 | c+1=>by
   show EntL (zc.map .v++BU c zc) _
   rw [List.replicate_succ,Ao,List.flatMap_cons,List.map_append]
   exact NY h (Kt h c)
theorem Fu (hf:Elm n f) {σ:St} {ks:List Nat} {k c:Nat} {zc:List Value} {a:α} {g:Nat→C} (h:EntL (zc.map .v) ((f a).map toC)) (hz:σ.sz k=(BU c zc).length:=by exact rfl) (hm:σ.m k=laid g 0 (BU c zc):=by exact rfl):DD σ ks (k,Ao f (List.replicate c a)):=by
 have he:=Kt (f:=f) h c
 refine ⟨⟨hz.trans he.len,fun o d hd=>⟨?_,ET hf _ d (List.mem_of_getElem? hd)⟩⟩,Cs ks _⟩
 have hq:o<(BU c zc).length:=by rw [he.len];exact (List.getElem?_eq_some_iff.1 hd).1
 show Af (σ.m k o) d
 rw [hm]
 have:=Eb (f:=g) (off:=0) (Yv hq)
 rw [Nat.zero_add] at this
 rw [this]
 exact he.get o _ d (Yv hq) hd
end
theorem GW {α:Type} {n:Nat} {f:α→List D} (hf:Elm n f) {σ:St} {k:Nat} {l:List α} (hz:σ.sz k=(Ao f l).length:=by exact rfl) (hm:Kj (σ.m k) (Ao f l):=by first|exact DA|exact Da):FzA σ k (.one (.gl k l.length n)) (.one (lsG n f l)):=
 .one (.gl (Fs hf.len l) (by rw [hz,Av hf];exact Yu _) fun i d hd=>Af.of_eq (hm i _ (by rw [List.getElem?_map,hd];rfl)))
theorem QB {X:Ctx} {σ:St} {k:Nat} {ss:List (Nat×AV)} {bs:List (Nat×List C)} (h1: ∀p∈ss,FzA σ k (σ.s p.1) p.2) (h2: ∀p∈bs,DD σ (bs.map (·.1)) p)
  (hb:((ss.all fun p=>inA (bs.map (·.1)) p.2)&&ndB (bs.map (·.1))&&(X.ps.all fun k=>(bs.map (·.1)).any (Nat.beq k))&&(!X.ps.any (Nat.beq k))&&(bs.all fun p=>!Nat.beq p.1 k))=true):Fk X σ k ss bs:=by
 simp only [Bool.and_eq_true,Bool.not_eq_true'] at hb
 refine ⟨h1,fun p hp=>⟨(h2 p hp).1.1,fun i c hc=>⟨.ent ((h2 p hp).1.2 i c hc).1,((h2 p hp).1.2 i c hc).2⟩⟩,hb.1.1.1.1,List.all_eq_true.2 fun p hp=>(h2 p hp).2,Ih hb.1.1.1.2,hb.1.1.2,fun hk=>?_,by
  refine List.all_eq_true.2 fun p hp=>?_
  exact List.all_eq_true.1 hb.2 p hp⟩
 have:=List.any_eq_false.1 hb.1.2 k hk
 simp at this
theorem Af.glNil {k n:Nat} :Af (.v (.slice none 0 0)) (.gl k 0 n):=fun W0 μ sz w x hx=>⟨none,0,hx,Yu _,fun _=>rfl,fun h=>absurd rfl h⟩
theorem Af.glLen {k n a b:Nat} (h:a=b):Af (.gl k a n) (.gl k b n):=h▸Af.of_eq rfl
theorem Af.int {k:IntKind} {a b:Int} (h:a=b):Af (.v (.int k a)) (.v (.int k b)):=h▸Af.of_eq rfl
theorem S9 {σ:St} {t m n:Nat} {cs:List C} (h:rdL (σ.m t) 0 (m*n)=cs:=by exact rfl) (hz:Nat.ble (m*n) (σ.sz t)=true:=by exact rfl):Srcs σ n (.gl t m n) m cs:=
 .gl (by rw [←h,EL]) (Nat.le_of_ble_eq_true hz) fun i c hc=>by
  rw [←h] at hc
  have hi:i<m*n:=by have:=(List.getElem?_eq_some_iff.1 hc).1;rwa [EL] at this
  rw [DB _ _ _ _ hi,Nat.zero_add] at hc
  exact Option.some.inj hc
section
variable {P:Program} {X:Ctx} {σ:St} {α:Type} {f:α→List D} {n:Nat} {ty:TypeId} {pos:String} {af:Array Edge}
theorem FP [hf:Elm n f] {t tx e e':TypeId} {agg agg':Bool} {n' bytes bytes':Nat} {zv zv':Value} [S:Sle P t e agg n bytes zv] [S':Sle P tx e' agg' n' bytes' zv'] {x y:Operand} {cx cy:C} {k m:Nat} {la:List α} {ns:List C} {d:Tmp} {ss:List (Nat×AV)} {bs:List (Nat×List C)} {Q:Exit→St→Prop} {tl:List Oper}
  (hD: ∀g,X.D g→ ∃k∈X.ps,g=(X.μ0 k).1) (hlen:(la.length+m)*bytes≤140737488355328∧la.length+m≤9223372036854775807) (hW:Wk X σ ss bs)
  (h:Tl P X Q tl (stL ((d,.one (.gl k (la.length+m) n))::ss) ((k,Ao f la++ns)::bs)))
  (hx:evC σ.s x= .one cx:=by exact rfl) (hy:evC σ.s y= .one cy:=by exact rfl) (hsy:Srcs σ n cy m ns:=by first|exact S9|exact .ls|exact .nil) (hbx:SE k n cx la.length:=by first|exact .gl|exact .nil)
  (hz:σ.sz k=(Ao f la).length:=by exact rfl) (hm:Kj (σ.m k) (Ao f la):=by first|exact DA|exact Da)
  (hb:(Nat.blt d X.n&&(bs.all fun p=>!Nat.beq p.1 k)&&!X.ps.any (Nat.beq k))=true:=by exact rfl) (hns:(ns.all fun c=>nlB c&&inC (bs.map (·.1)) c)=true:=by exact rfl):
  Tl P X Q (⟨some d,.call ⟨.builtin .append,#[x,y],#[t,tx]⟩,ty,pos,af,none⟩::tl) σ:=by
 simp only [Bool.and_eq_true,Bool.not_eq_true'] at hb
 refine W5 rfl (OD (S:=S) ⟨_,S'.hu⟩ hD (by simpa using hb.1.1) hx hbx hy hsy (Av hf la) (by rw [hz,Av hf];exact Yu _) (fun i c hc=>hm i c hc) hlen.1 hlen.2 hW hb.1.2 (fun c hc=>?_) fun hk=>?_) h
 ·rcases List.mem_append.1 hc with h1|h1
  ·exact ⟨ET hf la c h1,List.all_eq_true.1 (Cs _ la) c h1⟩
  ·have h2:=List.all_eq_true.1 hns c h1
   rw [Bool.and_eq_true] at h2
   exact ⟨DM h2.1,h2.2⟩
 ·have:=List.any_eq_false.1 hb.2 k hk
  simp at this
theorem Mm {ks:List Nat} {k:Nat} (hf:Elm n f) {la:List α} {cs:List C} {a:α} (he:EntL cs ((f a).map toC)) (hz:σ.sz k=(Ao f la++cs).length:=by exact rfl) (hm:σ.m k=Jv (Ao f la++cs):=by exact rfl):DD σ ks (k,Ao f (la++ [a])):=by
 have e:Ao f (la++ [a])=Ao f la++(f a).map toC:=by simp [Ao]
 have hcl:cs.length=((f a).map toC).length:=he.len
 refine ⟨⟨by show σ.sz k=_;rw [hz,e,List.length_append,List.length_append,hcl],fun i c hc=>⟨?_,ET hf _ c (List.mem_of_getElem? hc)⟩⟩,Cs ks _⟩
 show Af (σ.m k i) c
 rw [hm]
 replace hc:(Ao f (la++ [a]))[i]?=some c:=hc
 rw [e] at hc
 by_cases hi:i<(Ao f la).length
 ·rw [List.getElem?_append_left hi] at hc
  exact Af.of_eq (FG (by rw [List.getElem?_append_left hi];exact hc))
 ·rw [List.getElem?_append_right (by omega)] at hc
  have hq:i-(Ao f la).length<cs.length:=by rw [hcl];exact (List.getElem?_eq_some_iff.1 hc).1
  have h1:(Ao f la++cs)[i]?=some cs[i-(Ao f la).length]:=by rw [List.getElem?_append_right (by omega)];exact List.getElem?_eq_getElem hq
  rw [FG h1]
  exact he.get _ _ c (Yv hq) hc
theorem Fv {ks:List Nat} {k:Nat} (hf:Elm n f) {la lb:List α} (hz:σ.sz k=(Ao f la++Ao f lb).length:=by exact rfl) (hm:σ.m k=Jv (Ao f la++Ao f lb):=by exact rfl):DD σ ks (k,Ao f (la++lb)):=by
 have e:Ao f (la++lb)=Ao f la++Ao f lb:=by simp [Ao]
 refine ⟨⟨by show σ.sz k=_;rw [hz,e],fun i c hc=>⟨?_,ET hf _ c (List.mem_of_getElem? hc)⟩⟩,Cs ks _⟩
 show Af (σ.m k i) c
 rw [hm]
 replace hc:(Ao f (la++lb))[i]?=some c:=hc
 rw [e] at hc
 exact Af.of_eq (FG hc)
end
theorem Lk {W0 W1:World} {μ μ':Nat→Nat×Nat} {sz sz':Nat→Nat} {w:World} {k:Nat} {cs:List C} (h:EG W0 μ sz w k cs) (he:Ext W0 W1) (hk:μ' k=μ k) (hp:cs.all pfC=true):EG W1 μ' sz' w k cs:=by
 obtain ⟨a,e,h1,h2,h3,h4,h5,h6⟩:=h
 exact ⟨a,e,by rw [hk];exact h1,by rw [hk];exact h2,h3,h4,fun o x c hx hc=>((h5 o x c hx hc).mono (.refl _) (fun i hi=>⟨rfl,hi⟩) he).free (List.all_eq_true.1 hp c (List.mem_of_getElem? hc)),h6⟩
theorem C7.freeze {P:Program} {A:World→Prop} {f:FuncId} {args:List AV} {bs:List (Nat×List C×List C)} {k:Nat} {α:Type} {n:Nat} {g:α→List D} (hg:Elm n g) {l:List α} (h:C7 P A f args bs [(k,Ao g l)] (.one (.gl k l.length n))) (hb:(bs.all fun p=>p.2.2.all pfC)=true) (hkb: ∀p∈bs,p.1≠k) (ha:args.all pf0=true∨(args.all E0=true∧ ∀a∈args,inA (bs.map (·.1)) a=true)) (h1:(bs.all fun p=>p.2.1.all pfC)=true):
  BJ P A f args bs (.one (lsG n g l)):=by
 intro W0 w μ sz vs hA hk hbs hi hv
 have hcl: ∀i,i≠k→upd sz k 0 i=sz i:=fun i hi=>Cj hi
 refine (h W0 w μ (upd sz k 0) vs hA hk (fun p hp=>?_) hi (fun q hq=>by rw [List.mem_singleton.1 hq,AI]) ?_).mono ?_
 ·obtain ⟨g1,g2,g3,g4⟩:=hbs p hp
  exact ⟨by rw [hcl _ (hkb p hp)];exact g1,g2,g3,Lk g4 (.refl _) rfl (List.all_eq_true.1 h1 p hp)⟩
 ·refine ⟨hv.1,fun i v a hvi ha'=>?_⟩
  have hc:=hv.2 i v a hvi ha'
  have hm:=List.mem_of_getElem? ha'
  rcases ha with ha|⟨hn,ha⟩
  ·have hp:=List.all_eq_true.1 ha a hm
   cases a with
   | one c=>exact cc.free (c:=c) hc hp
   | agg cs=>exact cv0.free (c:= .agg cs) hc hp
   | junk=>trivial
   | tup l=>cases hp
  ·exact hc.keep (ha a hm) fun k' hk' h0=>by
    obtain ⟨p,hp,rfl⟩:=List.mem_map.1 hk'
    rw [hcl _ (hkb p hp)];exact h0
 ·rintro e w' ⟨r,μ',W',rfl,a1,a2,a3,a4,a5,a6,_⟩
  obtain ⟨b1,b2,ca,ce,c1,c2,c3,c4,c5,c6⟩:=a6 _ List.mem_cons_self
  simp only at b1 b2 c1 c2 c3 c5
  have hE:=Qz (.cells ca ce (0,0)) b2
  refine ⟨r,frz W' (μ' k).1 (.cells ca ce (0,0)),rfl,a1,⟨a2.ext.trans hE,fun g0 hg0=>?_,fun g0 hg0=>?_⟩,?_,fun p hp=>?_⟩
  ·rcases GC hg0 with rfl|h1
   ·rw [Mc,c1]
   ·by_cases hgk:g0=(μ' k).1
    ·subst hgk;exact absurd h1 b2
    ·rw [a2.fr g0 h1,Mb _ _ hgk (HJ h1)]
  ·rcases GC hg0 with rfl|h1
   ·exact .inr b1
   ·exact a2.new g0 h1
  ·obtain ⟨ao,cp,rfl,h2,_,h4⟩:=a4
   unfold cv cv0 cc dd
   refine ⟨Fs hg.len l,ao,cp,rfl,h2,fun hne=>?_⟩
   have hl:l.length≠0:=fun h0=>hne (by rw [List.eq_nil_of_length_eq_zero h0];rfl)
   obtain ⟨rfl,_,h6⟩:=h4 hl
   refine ⟨(μ' k).1,0,rfl,J3 fun i d hi=>?_⟩
   have hic:(Ao g l)[i]?=some (toC d):=by rw [List.getElem?_map,hi];rfl
   have hia:i<ca.size:=by have:=(List.getElem?_eq_some_iff.1 hic).1;omega
   have h7:=c5 i _ _ (Array.getElem?_eq_getElem hia) hic
   rw [Nat.zero_add]
   refine ⟨ca[i],?_,c4 i _ (Array.getElem?_eq_getElem hia),?_⟩
   ·rw [World.cell?_of_block (w:=w') (by rw [Mc,c1]),cell_of_row w' _ _ ca ce (0,0) c1]
    exact Array.getElem?_eq_getElem hia
   ·exact Ka.1 (h7.mono (.refl _) (fun i hi=>⟨rfl,hi⟩) hE)
  ·refine Lk (a5 p hp) hE ?_ (List.all_eq_true.1 hb p hp)
   exact (a3 p.1 fun q hq=>by rw [List.mem_singleton.1 hq];exact Ne.symm (hkb p hp)).symm
section
variable {P:Program} {X:Ctx} {ops l:List Oper} {σ:St} {K:List Eff→St→Prop}
variable {dst:Option Tmp} {ty:TypeId} {pos:String} {af:Array Edge} {gd:Option (Nat×Bool)}
theorem IT {A:World→Prop} [MonoA A] (hA:A X.W0) {c:Call} {f:FuncId} [hF:Fun P f] {as caps:List AV} (ro:List (Nat×List C)) {R:AV} (hc:BJ P A f as (ro.map (fun p=>(p.1,p.2,p.2))++ []) R) (hg:gOk ops σ.s gd:=by first|exact trivial|exact rfl) (hd:dB X.n dst=true:=by exact rfl) (hcl:BA σ.s c.callee=some (f,caps):=by exact rfl)
  (has:Ents (c.args.toList.map (evC σ.s)++caps) as:=by exact Ents.of_eq rfl) (hro: ∀p∈ro,rdL (σ.m p.1) 0 p.2.length=p.2:=by repeat (first|exact Ak|refine List.forall_mem_cons.2 ⟨rfl,?_⟩))
  (hb:(ro.all (fun p=>EH σ.sz p.2.length p)&&([]:List (Nat×List C×List C)).all (fun p=>EH σ.sz p.2.2.length (p.1,p.2.1))&&((ro.map (·.1)++([]:List (Nat×List C×List C)).map (·.1)).all fun k=>(c.args.toList.map (evC σ.s)++caps).any (EO k))&&ndB (ro.map (·.1)))=true:=by exact rfl)
  (hl:Ah P X ops l (σ.app dst ⟨R,ro.map (fun p=>(p.1,0,p.2)),[],[]⟩) (fun es σ'=>K (⟨R,ro.map (fun p=>(p.1,0,p.2)),[],[]⟩::es) σ')):Ah P X ops (⟨dst,.call c,ty,pos,af,gd⟩::l) σ K:=by
 simp only [Bool.and_eq_true] at hb
 have hc':BJ P A f (c.args.toList.map (evC σ.s)++caps) (ro.map (fun p=>(p.1,p.2,p.2))++ []) R:=BJ.weak hc has Ent.same
 have hS:=Fh (X:=X) (dst:=dst) (ty:=ty) (pos:=pos) (af:=af) (gd:=gd) (s:=σ.s) (z:=σ.sz) hA (c:=c) (caps:=caps) (ro:=ro) (rw:= []) (ns:= []) (ord:=ro) (R:=R) (Dd hd) hcl rfl hc'.g hb.1.1.1 rfl (by simpa using Ih hb.2) (by
  have key: ∀(r done:List (Nat×List C)),(∀p∈r,(c.args.toList.map (evC σ.s)++caps).any (EO p.1)=true)→E7 (c.args.toList.map (evC σ.s)++caps) done r=true:=by
   intro r
   induction r with
   | nil=>intro _ _;rfl
   | cons p r ih=>
     intro done h
     show ((List.any _ (EO p.1) || _)&&_)=true
     rw [h p List.mem_cons_self,ih _ fun q hq=>h q (List.mem_cons_of_mem _ hq)]
     rfl
  refine key _ _ fun p hp=>?_
  exact List.all_eq_true.1 hb.1.2 p.1 (List.mem_append.2 (.inl (List.mem_map.2 ⟨p,hp,rfl⟩)))) (fun p hp=>hp) (fun p hp=>by cases hp) (fun q hq=> .inl hq)
 simp only [List.map_nil,List.append_nil] at hS
 refine .of (fun _ _ hl=>Run.step hg hS (fun p hp i c' hi=>?_) Ct hl) hl
 obtain ⟨q,hq,rfl⟩:=List.mem_map.1 hp
 have hlt:=(List.getElem?_eq_some_iff.1 hi).1
 have h2:=DB (σ.m q.1) q.2.length 0 i hlt
 rw [hro q hq] at h2
 exact (Option.some.inj (h2.symm.trans hi))
theorem PZ {A:World→Prop} [MonoA A] (hA:A X.W0) {c:Call} {f:FuncId} [hF:Fun P f] {as:List AV} {k len n:Nat} {b d:List C} {R:AV} (hc:BJ P A f as [(k,b,d)] R) (hlen:0<len∧b.length=d.length∧0<b.length) (hg:gOk ops σ.s gd:=by first|exact trivial|exact rfl) (hd:dB X.n dst=true:=by exact rfl) (hcl:BA σ.s c.callee=some (f,[]):=by exact rfl)
  (has:Ents (c.args.toList.map (evC σ.s)) as:=by exact Ents.of_eq rfl) (hm1:c.args.toList.map (evC σ.s)= .one (.gl k len n)::as.tail:=by exact rfl) (hz:σ.sz k=b.length:=by exact rfl) (hm:Kj (σ.m k) b:=by first|exact DA|exact Da)
  (hl:Ah P X ops l (σ.app dst ⟨R,[(k,0,b)],[(k,0,d)],[]⟩) (fun es σ'=>K (⟨R,[(k,0,b)],[(k,0,d)],[]⟩::es) σ')):Ah P X ops (⟨dst,.call c,ty,pos,af,gd⟩::l) σ K:=by
 have hc':BJ P A f (c.args.toList.map (evC σ.s)++ []) (([]:List (Nat×List C)).map (fun p=>(p.1,p.2,p.2))++ [(k,b,d)]) R:=by
  rw [List.append_nil];exact BJ.weak hc has Ent.same
 have hS:=Fh (X:=X) (dst:=dst) (ty:=ty) (pos:=pos) (af:=af) (gd:=gd) (s:=σ.s) (z:=σ.sz) hA (c:=c) (caps:= []) (ro:= []) (rw:= [(k,b,d)]) (ns:= []) (ord:= [(k,b)]) (R:=R) (Dd hd) hcl rfl hc'.g rfl (by
  simp only [List.all_cons,List.all_nil,Bool.and_true,EH,Bool.and_eq_true,Nat.beq_eq,Nat.blt_eq]
  exact ⟨⟨hz,hlen.2.2⟩,hlen.2.1.symm⟩) (by simp) (by
  rw [List.append_nil,hm1]
  have h0:Nat.blt 0 len=true:=by simpa using hlen.1
  show ((List.any _ (EO k) || _)&&true)=true
  rw [List.any_cons]
  show ((((Nat.beq k k&&Nat.blt 0 len) || _) || _)&&true)=true
  rw [h0,Nat.beq_refl]
  rfl) (fun p hp=>by cases hp) (fun p hp=>by rw [List.mem_singleton.1 hp];exact List.mem_cons_self) (fun q hq=>by rw [List.mem_singleton.1 hq];exact .inr ⟨d,List.mem_cons_self⟩)
 refine .of (fun _ _ hl=>Run.step hg hS (fun p hp i c' hi=>?_) Ct hl) hl
 have hp':p=(k,0,b):=by simpa using hp
 subst hp'
 show σ.m k (0+i)=c'
 rw [Nat.zero_add]
 exact hm i c' hi
end
def H6 {α:Type} (f:α→List D) (m:Nat→C) (l:List α):Prop:= ∀(o:Nat) c,(Ao f l)[o]?=some c→Af (m o) c
theorem H6.base {α:Type} {f:α→List D} {l:List α} :H6 f (Jv (Ao f l)) l:=fun o c hc=>Af.of_eq (FG hc)
theorem H6.set {α:Type} {n:Nat} {f:α→List D} (hf:Elm n f) {m:Nat→C} {l:List α} (h:H6 f m l) {i:Nat} {a:α} {cs:List C} (hi:i<l.length) (he:EntL cs ((f a).map toC)):H6 f (laid m (i*n) cs) (l.set i a):=fun o c hc=>by
 have hcl:cs.length=n:=by rw [he.len,List.length_map,hf.len]
 replace hc:((l.set i a).flatMap f |>.map toC)[o]?=some c:=hc
 rw [List.getElem?_map,JU hf hi] at hc
 by_cases ho:i*n≤o∧o<i*n+n
 ·rw [if_pos ho,←List.getElem?_map] at hc
  obtain ⟨q,rfl⟩: ∃q,o=i*n+q:=⟨o-i*n,by omega⟩
  rw [Nat.add_sub_cancel_left] at hc
  have hq:q<cs.length:=by omega
  rw [Eb (Yv hq)]
  exact he.get q _ c (Yv hq) hc
 ·rw [if_neg ho,←List.getElem?_map] at hc
  rw [Fq (by omega)]
  exact h o c hc
theorem H6.whole {α:Type} {f:α→List D} {m:Nat→C} {l:List α} :H6 f (laid m 0 (Ao f l)) l:=fun o c hc=>by
 have ho:=(List.getElem?_eq_some_iff.1 hc).1
 have:=Eb (f:=m) (off:=0) hc
 rw [Nat.zero_add] at this
 rw [this]
 exact Af.of_eq rfl
theorem I6 {α:Type} {n:Nat} {f:α→List D} (hf:Elm n f) {σ:St} {ks:List Nat} {k z:Nat} {l:List α} {m:Nat→C} (h:H6 f m l) (hl:z=l.length*n) (hz:σ.sz k=z:=by exact rfl) (hm:σ.m k=m:=by exact rfl):DD σ ks (k,Ao f l):=
 ⟨⟨by show σ.sz k=_;rw [hz,hl,Av hf],fun i c hc=>⟨by show Af (σ.m k i) c;rw [hm];exact h i c hc,ET hf _ c (List.mem_of_getElem? hc)⟩⟩,Cs ks l⟩
section
variable {P:Program} {X:Ctx} {ops l:List Oper} {σ:St} {K:List Eff→St→Prop}
variable {dst:Option Tmp} {ty:TypeId} {pos:String} {af:Array Edge} {gd:Option (Nat×Bool)}
theorem My {A:World→Prop} [MonoA A] (hA:A X.W0) {c:Call} {f:FuncId} [hF:Fun P f] {as caps:List AV} (ro:List (Nat×List C)) {k:Nat} {cs:List C} {R:AV} (hc:C7 P A f as (ro.map (fun p=>(p.1,p.2,p.2))++ []) [(k,cs)] R) (hne:0<cs.length) (hg:gOk ops σ.s gd:=by first|exact trivial|exact rfl) (hd:dB X.n dst=true:=by exact rfl) (hcl:BA σ.s c.callee=some (f,caps):=by exact rfl)
  (has:Ents (c.args.toList.map (evC σ.s)++caps) as:=by exact Ents.of_eq rfl) (hro: ∀p∈ro,rdL (σ.m p.1) 0 p.2.length=p.2:=by repeat (first|exact Ak|refine List.forall_mem_cons.2 ⟨rfl,?_⟩))
  (hb:(ro.all (fun p=>EH σ.sz p.2.length p)&&((ro.map (·.1)).all fun k=>(c.args.toList.map (evC σ.s)++caps).any (EO k))&&ndB (ro.map (·.1))&&Nat.beq (σ.sz k) 0)=true:=by exact rfl)
  (hl:Ah P X ops l (σ.app dst ⟨R,ro.map (fun p=>(p.1,0,p.2)),[],[(k,cs)]⟩) (fun es σ'=>K (⟨R,ro.map (fun p=>(p.1,0,p.2)),[],[(k,cs)]⟩::es) σ')):Ah P X ops (⟨dst,.call c,ty,pos,af,gd⟩::l) σ K:=by
 simp only [Bool.and_eq_true] at hb
 have hc':C7 P A f (c.args.toList.map (evC σ.s)++caps) (ro.map (fun p=>(p.1,p.2,p.2))++ []) [(k,cs)] R:=C7.weak hc has Ent.same
 have hS:=Fh (X:=X) (dst:=dst) (ty:=ty) (pos:=pos) (af:=af) (gd:=gd) (s:=σ.s) (z:=σ.sz) hA (c:=c) (caps:=caps) (ro:=ro) (rw:= []) (ns:= [(k,cs)]) (ord:=ro) (R:=R) (Dd hd) hcl rfl hc' hb.1.1.1 rfl (by simpa using Ih hb.1.2) (by
  have key: ∀(r done:List (Nat×List C)),(∀p∈r,(c.args.toList.map (evC σ.s)++caps).any (EO p.1)=true)→E7 (c.args.toList.map (evC σ.s)++caps) done r=true:=by
   intro r
   induction r with
   | nil=>intro _ _;rfl
   | cons p r ih=>
     intro done h
     show ((List.any _ (EO p.1) || _)&&_)=true
     rw [h p List.mem_cons_self,ih _ fun q hq=>h q (List.mem_cons_of_mem _ hq)]
     rfl
  exact key _ _ fun p hp=>List.all_eq_true.1 hb.1.1.2 p.1 (List.mem_map.2 ⟨p,hp,rfl⟩)) (fun p hp=>hp) (fun p hp=>by cases hp) (fun q hq=> .inl hq)
 simp only [List.map_nil,List.append_nil] at hS
 refine .of (fun _ _ hl=>Run.step hg hS (fun p hp i c' hi=>?_) (EE (Nat.eq_of_beq_eq_true hb.2) fun h0=>by rw [h0] at hne;cases hne) hl) hl
 obtain ⟨q,hq,rfl⟩:=List.mem_map.1 hp
 have hlt:=(List.getElem?_eq_some_iff.1 hi).1
 have h2:=DB (σ.m q.1) q.2.length 0 i hlt
 rw [hro q hq] at h2
 exact (Option.some.inj (h2.symm.trans hi))
end
end Go.Proofs.YtfineedhebhpaaaGreatDoor
