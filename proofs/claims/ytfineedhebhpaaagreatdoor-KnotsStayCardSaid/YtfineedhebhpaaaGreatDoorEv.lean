/-
  Several texts in one: Eo, Ep, Eq, Er, Et, Eu.
-/
import Derived.Test.YtfineedhebhpaaaGreatDoorEw
import Derived.Deep.AppendSrc
import Derived.Great.BuildSlice
import Derived.Laws.MakeOwn
namespace Go.Proofs.YtfineedhebhpaaaGreatDoor
open List renaming getElem?_eq_getElem→Xw
open Nat renaming le_refl→Xv
open Go.RowKit
set_option linter.unusedVariables false
set_option linter.unusedSimpArgs false
class Sle (P:Program) (t:TypeId) (e:outParam TypeId) (agg:outParam Bool) (n bytes:outParam Nat) (z:outParam Value):Prop where
 hu:P.underlying t=some (.slice e)
 hT:L7 P e agg n=true
 hi:(P.info? e).map (fun i=>(i.size,i.bytes))=some (n,bytes)
 hz:((P.info? e).bind (·.zero))=some z
 ok:(Nat.blt 0 n&&Nat.beq z.cells.size n&&z.cells.toList.all Lw)=true
section
variable {P:Program} {t e:TypeId} {agg:Bool} {n bytes:Nat} {z:Value}
theorem Sle.info (S:Sle P t e agg n bytes z): ∃i,P.info? e=some i∧i.zero=some z∧i.size=n∧i.bytes=bytes:=by
 have h1:=S.hi
 have h2:=S.hz
 cases h:P.info? e with
 | none=>rw [h] at h1;cases h1
 | some i=>
   rw [h] at h1 h2
   simp at h1 h2
   exact ⟨i,rfl,h2,h1.1,h1.2⟩
theorem Sle.tsz (S:Sle P t e agg n bytes z):Tsz P e agg n:=⟨S.hT⟩
theorem Sle.pos (S:Sle P t e agg n bytes z):0<n:=by
 have:=S.ok
 simp only [Bool.and_eq_true] at this
 simpa using this.1.1
theorem Sle.size (S:Sle P t e agg n bytes z):z.cells.size=n:=by
 have:=S.ok
 simp only [Bool.and_eq_true] at this
 exact Nat.eq_of_beq_eq_true this.1.2
theorem Sle.nl (S:Sle P t e agg n bytes z):z.cells.toList.all Lw=true:=by
 have:=S.ok
 simp only [Bool.and_eq_true] at this
 exact this.2
end
def Pz:C→Option Nat
 | .ls _ l _=>some l
 | .gl _ l _=>some l
 | .sx _ _ l _ _=>some l
 | .v (.slice none 0 0)=>some 0
 | _=>none
theorem Sd {W0:World} {μ:Nat→Nat×Nat} {sz:Nat→Nat} {w:World} {x:Value} {c:C} {m:Nat} (h:cc W0 μ sz w x c) (hc:Pz c=some m): ∃ao cap,x= .slice ao m cap:=by
 unfold Pz at hc
 split at hc
 ·cases hc;unfold cc dd at h;obtain ⟨_,ao,cap,rfl,_⟩:=h;exact ⟨_,_,rfl⟩
 ·cases hc;obtain ⟨ao,cap,rfl,_⟩:=h;exact ⟨_,_,rfl⟩
 ·cases hc;exact ⟨_,_,h.1⟩
 ·cases hc;exact ⟨_,_,h⟩
 ·cases hc
theorem LF {W0 w:World} {b:Nat} : ∀ {ds:List D} {off i:Nat} {d:D},ddL W0 w b off ds→ds[i]?=some d→ ∃v,W0.cell? ⟨b,off+i,none⟩=some v∧noL v∧dd W0 w v d
 | [],_,_,_,_,h=>by simp at h
 | d::ds,off,0,d',h,hi=>by
   simp at hi;subst hi
   unfold ddL at h
   exact h.1
 | d::ds,off,i+1,d',h,hi=>by
   unfold ddL at h
   have:=LF (i:=i) h.2 (by simpa using hi)
   rw [show off+1+i=off+(i+1) by omega] at this
   exact this
theorem Hi {W0 w:World} {b:Nat} : ∀ {ds:List D} {off:Nat},(∀(i:Nat) d,ds[i]?=some d→ ∃v,W0.cell? ⟨b,off+i,none⟩=some v∧noL v∧dd W0 w v d)→ddL W0 w b off ds
 | [],_,_=>by unfold ddL;trivial
 | d::ds,off,h=>by
   unfold ddL
   refine ⟨h 0 d rfl,Hi fun i d' hi=>?_⟩
   have:=h (i+1) d' (by simpa using hi)
   rw [show off+1+i=off+(i+1) by omega]
   exact this
theorem Jv {W0 w:World} {b off:Nat} {ds:List D} (h:ddL W0 w b off ds) (k:Nat):ddL W0 w b (off+k) (ds.drop k):=Hi fun i d hi=>by
 rw [List.getElem?_drop] at hi
 rw [Nat.add_assoc]
 exact LF h hi
theorem Ju {W0 w:World} {b off:Nat} {ds:List D} (h:ddL W0 w b off ds) (k:Nat):ddL W0 w b off (ds.take k):=Hi fun i d hi=>by
 rw [List.getElem?_take] at hi
 split at hi
 ·exact LF h hi
 ·cases hi
theorem Gx {W0:World} {μ:Nat→Nat×Nat} {sz:Nat→Nat} {w:World} {x:Value} {d:D} :cc W0 μ sz w x (toC d)↔dd W0 w x d:=by
 cases d with
 | v y=>unfold toC dd;exact Iff.rfl
 | q r j i=>
   unfold dd
   match i with
   | 0=>exact Iff.rfl
   | 1=>exact Iff.rfl
   | _+2=>exact Iff.rfl
 | lst es n cs=>exact Iff.rfl
theorem VK {W0 w:World} {x:Value} {d:D} (h:dd W0 w x d) (hn:noL x):nl (toC d):=by
 cases d with
 | v y=>unfold dd at h;subst h;exact hn
 | _=>trivial
abbrev lsG {α:Type} (es:Nat) (f:α→List D) (l:List α):C:= .ls es l.length (l.flatMap f)
theorem Fc {α:Type} {es:Nat} {f:α→List D} (hf: ∀a,(f a).length=es): ∀(l:List α),(l.flatMap f).length=l.length*es
 | []=>by simp
 | a::l=>by rw [List.flatMap_cons,List.length_append,hf,Fc hf l,List.length_cons,Nat.add_mul];omega
theorem Hg {α:Type} {es:Nat} {f:α→List D} (hf: ∀a,(f a).length=es): ∀(l:List α) (i:Nat),(l.flatMap f).drop (i*es)=(l.drop i).flatMap f
 | l,0=>by simp
 | [],i+1=>by simp
 | a::l,i+1=>by
   rw [List.flatMap_cons,List.drop_succ_cons,←Hg hf l i,show (i+1)*es=(f a).length+i*es by rw [hf,Nat.add_mul];omega,List.drop_append]
   simp
theorem Km {α:Type} {es:Nat} {f:α→List D} (hf: ∀a,(f a).length=es): ∀(l:List α) (i:Nat),(l.flatMap f).take (i*es)=(l.take i).flatMap f
 | l,0=>by simp
 | [],i+1=>by simp
 | a::l,i+1=>by
   rw [List.flatMap_cons,List.take_succ_cons,List.flatMap_cons,←Km hf l i,show (i+1)*es=(f a).length+i*es by rw [hf,Nat.add_mul];omega,List.take_append,List.take_of_length_le (Nat.le_add_right _ _),Nat.add_sub_cancel_left]
theorem PZ {α:Type} {es:Nat} {f:α→List D} (hf: ∀a,(f a).length=es) {l:List α} {i:Nat} {a:α} (h:l[i]?=some a):((l.flatMap f).drop (i*es)).take es=f a:=by
 rw [Hg hf]
 obtain ⟨hi,he⟩:=List.getElem?_eq_some_iff.1 h
 rw [List.drop_eq_getElem_cons hi,List.flatMap_cons,he,List.take_append,hf]
 have:(f a).length=es:=hf a
 simp [←this]
section
variable {P:Program} {X:Ctx} {ops l:List Oper} {σ:St} {K:List Eff→St→Prop} {s:Nat→AV} {z:Nat→Nat}
variable {dst:Option Tmp} {ty:TypeId} {pos:String} {af:Array Edge} {gd:Option (Nat×Bool)}
theorem OC {t:TypeId} {x:Operand} {c:C} {m:Nat} (hu: ∃e,P.underlying t=some (.slice e)) (hx:evC s x= .one c) (hc:Pz c=some m):CP P ⟨dst,.call ⟨.builtin .len,#[x],#[t]⟩,ty,pos,af,gd⟩ s (.one (.v (.int .i64 m))):=fun W0 μ sz w ρ hρ=>by
 have h:=hρ x (by simp [Op.operands,Call.operands])
 rw [hx] at h
 obtain ⟨ao,cap,hv⟩:=Sd h hc
 obtain ⟨e,hu⟩:=hu
 exact ⟨_,by simp [execOp,resolve,invoke,builtin,Builtin.len_,run_underlying hu w,hv,goInt],rfl⟩
theorem Ll {t e:TypeId} {x y:Operand} {agg:Bool} {n bytes:Nat} {zv:Value} [S:Sle P t e agg n bytes zv] {len:Nat} {cs:List D} {ik:IntKind} {i:Int} (hx:evC s x= .one (.ls n len cs)) (hy:evC s y= .one (.v (.int ik i))) (hi:0≤i∧i<len):
  CP P ⟨dst,.indexAddr t x y,ty,pos,af,gd⟩ s (.one (.fp ((cs.drop (i.toNat*n)).take n))):=fun W0 μ sz w ρ hρ=>by
 have h1:=hρ x (by simp [Op.operands])
 rw [hx] at h1
 unfold cv cv0 cc dd at h1
 obtain ⟨hl,ao,cap,hp,_,hc⟩:=h1
 have h2:=hρ y (by simp [Op.operands])
 rw [hy] at h2
 replace h2:ρ y= .int ik i:=h2
 have hn:=S.pos
 obtain ⟨k,rfl⟩: ∃k:Nat,i=k:=⟨i.toNat,by omega⟩
 have hk:k<len:=by omega
 have hkn:k*n+n≤cs.length:=by rw [hl,show k*n+n=(k+1)*n by rw [Nat.add_mul];omega];exact Nat.mul_le_mul_right _ hk
 have hne:cs≠ []:=fun h0=>by rw [h0] at hkn;simp at hkn;omega
 obtain ⟨b,off,rfl,hd⟩:=hc hne
 refine ⟨.pointer (some ⟨b,off+k*n,none⟩),?_,b,off+k*n,rfl,?_,?_⟩
 ·simp [execOp,Instr.indexAt,run_underlying S.hu w,hp,h2,asIntOf,hk,S.tsz.size w,Addr.add_mid]
 ·rw [Int.toNat_natCast]
  intro h0
  have:=congrArg List.length h0
  rw [List.length_take,List.length_drop] at this
  simp at this
  omega
 ·rw [Int.toNat_natCast]
  exact Ju (Jv hd _) _
theorem Lm {t e:TypeId} {x y:Operand} {agg:Bool} {n bytes:Nat} {zv:Value} [S:Sle P t e agg n bytes zv] {k len:Nat} {ik:IntKind} {i:Int} (hx:evC s x= .one (.gl k len n)) (hy:evC s y= .one (.v (.int ik i))) (hi:0≤i∧i<len):
  CP P ⟨dst,.indexAddr t x y,ty,pos,af,gd⟩ s (.one (.ptr k (i.toNat*n))):=fun W0 μ sz w ρ hρ=>by
 have h1:=hρ x (by simp [Op.operands])
 rw [hx] at h1
 obtain ⟨ao,c,hp,_,_,h4⟩:=h1
 obtain ⟨rfl,_,hk⟩:=h4 (by omega)
 have h2:=hρ y (by simp [Op.operands])
 rw [hy] at h2
 replace h2:ρ y= .int ik i:=h2
 refine ⟨.pointer (some ⟨(μ k).1,i.toNat*n,none⟩),?_,rfl,hk⟩
 simp [execOp,Instr.indexAt,run_underlying S.hu w,hp,h2,asIntOf,hi.1,hi.2,S.tsz.size w,Addr.add_mid]
theorem Ln {t:TypeId} {x:Operand} {i fo:Nat} {agg:Bool} {n:Nat} [hF:Fld P t i fo agg n] {cs:List D} (hx:evC s x= .one (.fp cs)) (hl:Nat.blt fo cs.length=true):CP P ⟨dst,.fieldAddr t x i,ty,pos,af,gd⟩ s (.one (.fp (cs.drop fo))):=fun W0 μ sz w ρ hρ=>by
 have h:=hρ x (by simp [Op.operands])
 rw [hx] at h
 obtain ⟨b,off,hp,_,hd⟩:=h
 obtain ⟨fs,f,hu,hf,rfl,hT,hn⟩:=hF.get
 have hl:f.offset<cs.length:=by simpa using hl
 refine ⟨.pointer (some ⟨b,off+f.offset,none⟩),?_,b,off+f.offset,rfl,fun h0=>?_,Jv hd f.offset⟩
 ·simp [execOp,Instr.fieldAt,run_underlying hu w,hf,hp,Instr.sureAddr,fieldPlace,hT.size w,hn,Addr.add_mid]
 ·have:=congrArg List.length h0
  simp at this
  omega
theorem NZ {t:TypeId} {x:Operand} {agg:Bool} {n:Nat} [hT:Tsz P t agg n] {cs:List D} (hd: ∀t,dst=some t→t<X.n) (hx:evC s x= .one (.fp cs)) (hn:n≤cs.length) (h0:(agg || Nat.beq n 1)=true):
  Sim P X ⟨dst,.load t x,ty,pos,af,gd⟩ s z ⟨mkA agg ((cs.take n).map toC),[],[],[]⟩:=by
 refine Sim.of0 fun W=>?_
 replace hd: ∀t,dst=some t→t<(X.at W).n:=hd
 generalize X.at W=X at hd⊢
 intro σ hs hsz hrd _ a w hc K Q hK
 obtain ⟨μ,hc⟩:=hc
 have hev:=hc.ev x
 replace hev:=Cd (o:=⟨dst,.load t x,ty,pos,af,gd⟩) hs (by simp [Op.operands]) hev
 rw [hx] at hev
 obtain ⟨b,off,hp,hne,hd0⟩:=hev
 have ex: ∀(ds:List D) (o:Nat),ddL X.W0 w b o ds→ ∃vs:List Value,vs.length=ds.length∧w.rangeAt b o vs∧BS (cc X.W0 μ σ.sz w) vs (ds.map toC):=by
  intro ds
  induction ds with
  | nil=>intro o _;exact ⟨[],rfl,fun j v hj=>by simp at hj,rfl,fun i a c h=>by simp at h⟩
  | cons d ds ih=>
    intro o h
    unfold ddL at h
    obtain ⟨⟨v,h1,h2,h3⟩,h4⟩:=h
    obtain ⟨vs,g1,g2,g3⟩:=ih (o+1) h4
    refine ⟨v::vs,by simp [g1],fun j u hj=>?_,by simp [g3.1],fun i u c hu hc=>?_⟩
    ·cases j with
     | zero=>simp at hj;subst hj;exact hc.w0.cell h1
     | succ j=>
       have:=g2 j u (by simpa using hj)
       rw [show o+1+j=o+(j+1) by omega] at this
       exact this
    ·cases i with
     | zero=>simp at hu hc;subst hu;subst hc;exact Gx.2 h3
     | succ i=>exact g3.2 i u c (by simpa using hu) (by simpa using hc)
 obtain ⟨vs,hvl,hr,hall⟩:=ex _ _ (Ju hd0 n)
 rw [List.length_take,Nat.min_eq_left hn] at hvl
 have hfin: ∀v,(execOp a.eval ⟨dst,.load t x,ty,pos,af,gd⟩).run P w= .ok (.value v) w→cv X.W0 μ σ.sz w v (mkA agg ((cs.take n).map toC))→Oper.wp P ⟨dst,.load t x,ty,pos,af,gd⟩ a w K Q:=fun v hv hcv=>by
  unfold Oper.wp
  rw [hv]
  exact hK _ _ ⟨μ,BW hc hd hcv⟩
 cases agg with
 | true=>
   obtain ⟨d,hu,hrow⟩:=hT.row
   refine hfin (.agg vs.toArray) ?_ ⟨vs,rfl,hall⟩
   have:=run_loadAt_mid (P:=P) w b off t vs d hr hu hrow (by rw [hT.info,hvl])
   simp [execOp,hp,this]
 | false=>
   have hn1:n=1:=by simpa using h0
   subst hn1
   obtain ⟨v,rfl⟩: ∃v,vs= [v]:=by
    match vs,hvl with
    | [v],_=>exact ⟨v,rfl⟩
   obtain ⟨c,hcs⟩: ∃c,(cs.take 1).map toC= [c]:=by
    have hl:=hall.1
    match hm:(cs.take 1).map toC,hl with
    | [c],_=>exact ⟨c,rfl⟩
    | [],hl=>simp at hl
    | _::_::_,hl=>simp at hl
   rw [hcs] at hall
   refine hfin v ?_ (by rw [hcs];exact hall.2 0 v c rfl rfl)
   have h1:w.cell? ⟨b,off,none⟩=some v:=hr 0 v rfl
   simp [execOp,hp,Instr.loadAt,Instr.sureAddr,loadVar,hT.isAgg w,h1]
inductive Bnd (s:Nat→AV) (d:Nat):Option Operand→Nat→Prop
 | none:Bnd s d none d
 | some {x:Operand} {ik:IntKind} {i:Int} {m:Nat} (h:evC s x= .one (.v (.int ik i))) (hm:i=m):Bnd s d (some x) m
theorem GU {W0:World} {μ:Nat→Nat×Nat} {sz:Nat→Nat} {w:World} {ρ:Operand→Value} {d m:Nat} {x:Operand} {code:BoundsCode} (h:Bnd s d (some x) m) (hρ:cv W0 μ sz w (ρ x) (evC s x)) {y:Nat} (hy:m≤y):(Instr.sliceBound (ρ x) y code).run P w= .ok m w:=by
 cases h with
 | some h hm=>
   rename_i ik i
   subst hm
   rw [h] at hρ
   replace hρ:ρ x= .int ik (m:Int):=hρ
   have h2:(m:Int)≤(y:Int):=by omega
   simp [Instr.sliceBound,hρ,asIntOf,h2]
theorem Lj {t e:TypeId} {x:Operand} {lo hi:Option Operand} {agg:Bool} {n bytes:Nat} {zv:Value} [S:Sle P t e agg n bytes zv] {len l h:Nat} {cs:List D} (hx:evC s x= .one (.ls n len cs)) (hh:Bnd s len hi h) (hl:Bnd s 0 lo l) (h1:l≤h) (h2:h≤len):
  CP P ⟨dst,.slice t x lo hi none,ty,pos,af,gd⟩ s (.one (.ls n (h-l) ((cs.take (h*n)).drop (l*n)))):=fun W0 μ sz w ρ hρ=>by
 have e1:=hρ x (by simp [Op.operands])
 rw [hx] at e1
 unfold cv cv0 cc dd at e1
 obtain ⟨hlen,ao,cap,hp,hlc,hc⟩:=e1
 have rh: ∀v,hi=some v→(Instr.sliceBound (ρ v) cap .sliceAcap).run P w= .ok h w:=fun v hv=>by
  subst hv
  exact GU hh (hρ v (by simp [Op.operands])) (by omega)
 have rl: ∀v,lo=some v→(Instr.sliceBound (ρ v) h .sliceB).run P w= .ok l w:=fun v hv=>by
  subst hv
  exact GU hl (hρ v (by simp [Op.operands])) h1
 have rb:(Instr.sliceBounds true len cap (lo.map ρ) (hi.map ρ) none).run P w= .ok (l,h,cap) w:=by
  unfold Instr.sliceBounds
  cases hi with
  | none=>
    cases hh
    cases lo with
    | none=>cases hl;rfl
    | some v=>
      have:=rl v rfl
      simp [this]
  | some u=>
    cases lo with
    | none=>cases hl;simp [rh u rfl]
    | some v=>simp [rh u rfl,rl v rfl]
 have hcl:((cs.take (h*n)).drop (l*n)).length=(h-l)*n:=by
  have:h*n≤len*n:=Nat.mul_le_mul_right _ h2
  rw [List.length_drop,List.length_take,hlen,Nat.min_eq_left this,Nat.sub_mul]
 have key: ∀ao',(execOp ρ ⟨dst,.slice t x lo hi none,ty,pos,af,gd⟩).run P w= .ok (.value (.slice ao' (h-l) (cap-l))) w→(0<h-l→ ∀b off,ao=some ⟨b,off,none⟩→ao'=some ⟨b,off+l*n,none⟩)→ ∃v,(execOp ρ ⟨dst,.slice t x lo hi none,ty,pos,af,gd⟩).run P w= .ok (.value v) w∧cv W0 μ sz w v (.one (.ls n (h-l) ((cs.take (h*n)).drop (l*n)))):=fun ao' hr ha=>by
  refine ⟨_,hr,?_⟩
  unfold cv cv0 cc dd
  refine ⟨hcl,ao',cap-l,rfl,by omega,fun hne=>?_⟩
  have h0:0<(h-l)*n:=by
   rw [←hcl]
   exact List.length_pos_iff.2 hne
  have h3:0<h-l:=Nat.pos_of_ne_zero fun h4=>by rw [h4] at h0;simp at h0
  have h5:0<len*n:=Nat.mul_pos (by omega) S.pos
  obtain ⟨b,off,rfl,hd⟩:=hc (fun h4=>by rw [h4] at hlen;simp at hlen;omega)
  exact ⟨b,off+l*n,ha h3 b off rfl,Jv (Ju hd _) _⟩
 cases ao with
 | none=>exact key none (by simp [execOp,Instr.sliceAt,Instr.slice,run_underlying S.hu w,hp,rb,S.tsz.size w]) fun _ b off h=>by cases h
 | some a0=>
   by_cases hcl0:cap=l
   ·subst hcl0
    exact key (some a0) (by simp [execOp,Instr.sliceAt,Instr.slice,run_underlying S.hu w,hp,rb,S.tsz.size w]) fun h0=>by omega
   ·refine key (some (a0.add (l*n))) (by simp [execOp,Instr.sliceAt,Instr.slice,run_underlying S.hu w,hp,rb,S.tsz.size w,hcl0]) fun _ b off h=>?_
    cases h
    rw [Addr.add_mid]
end
def frz (W:World) (g:Nat) (o:Obj):World:= { W with heap:=(W.heap++Array.replicate (g+1-W.heap.size) (Obj.cells #[] 0 (0,0))).setIfInBounds g o }
theorem Gv (W:World) (g:Nat) (o:Obj):(frz W g o).heap[g]?=some o:=by
 have h:g<(W.heap++Array.replicate (g+1-W.heap.size) (Obj.cells #[] 0 (0,0))).size:=by simp;omega
 show ((W.heap++_).setIfInBounds g o)[g]?=_
 rw [Array.getElem?_setIfInBounds_self,if_pos h]
theorem LE (W:World) {g g':Nat} (o:Obj) (h:g'≠g) (hl:g'<W.heap.size):(frz W g o).heap[g']?=W.heap[g']?:=by
 show ((W.heap++_).setIfInBounds g o)[g']?=_
 rw [Array.getElem?_setIfInBounds_ne (Ne.symm h),Array.getElem?_append_left hl]
theorem Dq {W:World} {g g':Nat} {o:Obj} (h:alive (frz W g o) g'):g'=g∨alive W g':=by
 by_cases hg:g'=g
 ·exact .inl hg
 ·obtain ⟨c,e,fz,h1,h2⟩:=h
  by_cases hl:g'<W.heap.size
  ·rw [LE W o hg hl] at h1
   exact .inr ⟨c,e,fz,h1,h2⟩
  ·exfalso
   replace h1:((W.heap++Array.replicate (g+1-W.heap.size) (Obj.cells #[] 0 (0,0))).setIfInBounds g o)[g']?=some (.cells c e fz):=h1
   rw [Array.getElem?_setIfInBounds_ne (Ne.symm hg),Array.getElem?_append_right (by omega)] at h1
   have h3:=(Array.getElem?_eq_some_iff.1 h1).1
   rw [Array.getElem?_eq_getElem h3,Array.getElem_replicate] at h1
   cases h1
   exact h2 rfl
theorem F6 {W:World} {g:Nat} (o:Obj) (h: ¬alive W g):Ext W (frz W g o):=fun g' hg=>LE W o (fun e=>h (e▸hg)) (GX hg)
inductive FzC (σ:St) (k:Nat):C→C→Prop
 | ent {c d:C} (h:Aa c d):FzC σ k c d
 | gl {len es:Nat} {ds:List D} (hl:ds.length=len*es) (hz:len*es≤σ.sz k) (hd: ∀(i:Nat) d,ds[i]?=some d→Aa (σ.m k i) (toC d)):FzC σ k (.gl k len es) (.ls es len ds)
inductive FzA (σ:St) (k:Nat):AV→AV→Prop
 | ent {a b:AV} (h:Ent a b):FzA σ k a b
 | one {c d:C} (h:FzC σ k c d):FzA σ k (.one c) (.one d)
 | agg {l m:List C} (h:l.length=m.length) (hh: ∀(i:Nat) c d,l[i]?=some c→m[i]?=some d→FzC σ k c d):FzA σ k (.agg l) (.agg m)
structure Fk (X:Ctx) (σ:St) (k:Nat) (ss:List (Nat×AV)) (bs:List (Nat×List C)):Prop where
 slot: ∀p∈ss,FzA σ k (σ.s p.1) p.2
 blk: ∀p∈bs,σ.sz p.1=p.2.length∧ ∀(i:Nat) c,p.2[i]?=some c→FzC σ k (σ.m p.1 i) c∧nl c
 ins:(ss.all fun p=>inA (bs.map (·.1)) p.2)=true
 inb:(bs.all fun p=>p.2.all (inC (bs.map (·.1))))=true
 nd:(bs.map (·.1)).Nodup
 ps:(X.ps.all fun k=>(bs.map (·.1)).any (Nat.beq k))=true
 out:k∉X.ps
 kb:(bs.all fun p=>!Nat.beq p.1 k)=true
theorem Fk.c0 {X:Ctx} {σ:St} {k:Nat} {ss:List (Nat×AV)} {bs:List (Nat×List C)} (h:Fk X σ k ss bs) (hD: ∀g,X.D g→ ∃k∈X.ps,g=(X.μ0 k).1) {a:Act} {w:World} (hc:C0 X σ a w):CN X (stL ss bs) a w:=by
 obtain ⟨μ,hc⟩:=hc
 obtain ⟨W,hE,hF,hG,hcell⟩: ∃W,Ext X.W0 W∧Fr W w∧(∀g,alive W g→alive X.W0 g∨(σ.sz k≠0∧g=(μ k).1))∧(σ.sz k≠0→ ∀(o:Nat) v,w.cell? ⟨(μ k).1,o,none⟩=some v→W.cell? ⟨(μ k).1,o,none⟩=some v):=by
  by_cases hk:σ.sz k=0
  ·exact ⟨X.W0,.refl _,hc.w0,fun g h=> .inl h,fun h=>absurd hk h⟩
  ·obtain ⟨cs,e,b1,b2,b3,b4⟩:=hc.blk k hk
   refine ⟨frz X.W0 (μ k).1 (.cells cs e (0,0)),F6 _ (hc.own k hk).1,fun g hg=>?_,fun g hg=>?_,fun _ o v hv=>?_⟩
   ·rcases Dq hg with rfl|h1
    ·rw [Gv,b1]
    ·by_cases hgk:g=(μ k).1
     ·subst hgk;exact absurd h1 (hc.own k hk).1
     ·rw [hc.w0 g h1,LE _ _ hgk (GX h1)]
   ·rcases Dq hg with rfl|h1
    ·exact .inr ⟨hk,rfl⟩
    ·exact .inl h1
   ·rw [World.cell?_of_block (w:=w) (by rw [Gv,b1])]
    exact hv
 have fc: ∀ {x:Value} {c d:C},FzC σ k c d→cc X.W0 μ σ.sz w x c→cc W μ σ.sz w x d:=fun {x c d} hf hx=>by
  cases hf with
  | ent h=>exact (h _ _ _ _ _ hx).mono (.refl _) (fun i hi=>⟨rfl,hi⟩) hE
  | gl hl hz hd=>
    rename_i len es ds
    obtain ⟨ao,cp,rfl,h2,_,h4⟩:=hx
    unfold cc dd
    refine ⟨hl,ao,cp,rfl,h2,fun hne=>?_⟩
    have hp:=List.length_pos_iff.2 hne
    obtain ⟨rfl,_,h6⟩:=h4 (fun h0=>by rw [h0] at hl;simp at hl;exact hne hl)
    refine ⟨(μ k).1,0,rfl,Hi fun i d hi=>?_⟩
    obtain ⟨cs,e,b1,b2,b3,b4⟩:=hc.blk k h6
    have hi':=(List.getElem?_eq_some_iff.1 hi).1
    have hic:i<cs.size:=by omega
    obtain ⟨v1,v2⟩:=b4 i _ (Array.getElem?_eq_getElem hic)
    obtain ⟨v3,v4⟩:=v2 (by omega)
    rw [Nat.zero_add]
    refine ⟨cs[i],hcell h6 i _ ?_,v1,?_⟩
    ·rw [cell_of_row w _ _ cs e (0,0) b1];exact Array.getElem?_eq_getElem hic
    ·exact Gx.1 ((hd i d hi _ _ _ _ _ v3).mono (.refl _) (fun i hi=>⟨rfl,hi⟩) hE)
 have fa: ∀ {x:Value} {c d:AV},FzA σ k c d→cv X.W0 μ σ.sz w x c→cv W μ σ.sz w x d:=fun {x c d} hf hx=>by
  cases hf with
  | ent h=>exact (h _ _ _ _ _ hx).mono (.refl _) (fun i hi=>⟨rfl,hi⟩) hE
  | one h=>exact fc h hx
  | agg h1 h2=>
    rename_i l m
    obtain ⟨vs,rfl,hv⟩:=hx
    refine ⟨vs,rfl,hv.1.trans h1,fun i v d hvi hdi=>?_⟩
    have hil:i<l.length:=by rw [h1];exact (List.getElem?_eq_some_iff.1 hdi).1
    exact fc (h2 i _ d (Xw hil) hdi) (hv.2 i v _ hvi (Xw hil))
 have hks: ∀k'∈bs.map (·.1),σ.sz k'≠0→(stL ss bs).sz k'≠0:=fun k' hk'=>by
  obtain ⟨p,hp,rfl⟩:=List.mem_map.1 hk'
  show _→(lk [] bs p.1).length≠0
  rw [E9 h.nd p hp,(h.blk p hp).1]
  exact id
 have hsz: ∀k',(stL ss bs).sz k'≠0→ ∃p∈bs,p.1=k'∧lk [] bs k'=p.2∧σ.sz k'=p.2.length:=fun k' hk'=>by
  rcases EQ (l:=bs) (k:=k') (d:= []) with h1|h1
  ·exact absurd (by show (lk [] bs k').length=0;rw [h1];rfl) hk'
  ·exact ⟨_,h1,rfl,rfl,(h.blk _ h1).1⟩
 have hsz': ∀k',(stL ss bs).sz k'≠0→σ.sz k'≠0:=fun k' hk'=>by
  obtain ⟨p,hp,rfl,h1,h2⟩:=hsz k' hk'
  rw [h2,←h1]
  exact hk'
 have hgrow:Ho X W:=⟨hE,fun g hg=>by
  rcases hG g hg with h1|⟨h1,rfl⟩
  ·exact .inl h1
  ·rcases (hc.own k h1).2 with h2|h2
   ·exact .inr h2
   ·exfalso
    obtain ⟨k',hk',he⟩:=hD _ h2
    have h3:=hc.par k' hk'
    rw [←h3.1] at he
    exact h.out (hc.inj k k' h1 h3.2 he▸hk')⟩
 have hown: ∀k',(stL ss bs).sz k'≠0→ ¬alive W (μ k').1:=fun k' hk' ha=>by
  obtain ⟨p,hp,rfl,_⟩:=hsz k' hk'
  rcases hG _ ha with h1|⟨h1,h2⟩
  ·exact (hc.own p.1 (hsz' _ hk')).1 h1
  ·have h3:=hc.inj p.1 k (hsz' _ hk') h1 h2
   have h4:=List.all_eq_true.1 h.kb p hp
   simp [h3] at h4
 refine ⟨W,hgrow,μ,hF,hc.kd,hc.defers,hc.size,fun t=>?_,fun k' hk'=>?_,fun i j hi hj=>hc.inj i j (hsz' i hi) (hsz' j hj),fun k' hk'=>⟨hown k' hk',(hc.own k' (hsz' k' hk')).2⟩,fun k' hk'=>⟨(hc.par k' hk').1,?_⟩⟩
 ·show cv _ _ _ _ _ (lk .junk ss t)
  rcases EQ (l:=ss) (k:=t) (d:=AV.junk) with h1|h1
  ·rw [h1];trivial
  ·exact (fa (h.slot _ h1) (hc.slot t)).keep (List.all_eq_true.1 h.ins _ h1) hks
 ·obtain ⟨p,hp,rfl,h1,h2⟩:=hsz k' hk'
  obtain ⟨cs,e,h3,h4,h8,h5⟩:=hc.blk p.1 (hsz' _ hk')
  refine ⟨cs,e,h3,h4,?_,fun o x hx=>⟨(h5 o x hx).1,fun hol=>?_⟩⟩
  ·show (lk [] bs p.1).length≤_;rw [h1,←h2];exact h8
  ·replace hol:o<(lk [] bs p.1).length:=hol
   rw [h1] at hol
   have hm:(stL ss bs).m p.1 o=p.2[o]:=by
    show (lk [] bs p.1).getD o _=_
    rw [h1,List.getD_eq_getElem?_getD,Xw hol]
    rfl
   obtain ⟨h6,h7⟩:=(h.blk p hp).2 o _ (Xw hol)
   rw [hm]
   exact ⟨(fc h6 ((h5 o x hx).2 (by rw [h2];exact hol)).1).keep (List.all_eq_true.1 (List.all_eq_true.1 h.inb p hp) _ (List.getElem_mem hol)) hks,h7⟩
 ·obtain ⟨k'',hm,hb⟩:=List.any_eq_true.1 (List.all_eq_true.1 h.ps k' hk')
  have e:=Nat.eq_of_beq_eq_true hb
  subst e
  exact hks _ hm (hc.par k' hk').2
theorem Fk.cn {X:Ctx} {σ:St} {k:Nat} {ss:List (Nat×AV)} {bs:List (Nat×List C)} (h:Fk X σ k ss bs) (hD: ∀g,X.D g→ ∃k∈X.ps,g=(X.μ0 k).1) {a:Act} {w:World} (hc:CN X σ a w):CN X (stL ss bs) a w:=by
 obtain ⟨W,hW,hc⟩:=hc
 exact CN.up hW (Fk.c0 (X:=X.at W) ⟨h.slot,h.blk,h.ins,h.inb,h.nd,h.ps,h.out,h.kb⟩ hD hc)
theorem Ek {P:Program} {X:Ctx} {σ:St} {c:Code} {Q:Exit→St→Prop} (k:Nat) {ss:List (Nat×AV)} {bs:List (Nat×List C)} (hD: ∀g,X.D g→ ∃k∈X.ps,g=(X.μ0 k).1) (h:Fk X σ k ss bs) (hA:Aw P X c (stL ss bs) Q):Aw P X c σ Q:=
 Aw.of (fun _ _ hc=>h.cn hD hc) hA
theorem Jg: ∀(vs:List Value) (a:Array Value) (off o:Nat),off+vs.length≤a.size→(Jh a off vs)[o]?=if off≤o∧o<off+vs.length then vs[o-off]? else a[o]?
 | [],a,off,o,_=>by rw [if_neg (by simp only [List.length_nil];omega)];rfl
 | v::vs,a,off,o,h=>by
   simp only [List.length_cons] at h⊢
   show (Jh (a.setIfInBounds off v) (off+1) vs)[o]?=_
   rw [Jg vs _ (off+1) o (by simp;omega)]
   by_cases h1:o=off
   ·subst h1
    rw [if_neg (by omega),if_pos (by omega),Nat.sub_self]
    simp [show o<a.size by omega]
   ·by_cases h2:off+1≤o∧o<off+1+vs.length
    ·rw [if_pos h2,if_pos (by omega)]
     have:o-off=(o-(off+1))+1:=by omega
     rw [this];simp
    ·rw [if_neg h2,if_neg (by omega),Array.getElem?_setIfInBounds_ne (by omega)]
theorem Nz {X:Ctx} {σ σ':St} {μ:Nat→Nat×Nat} {a:Act} {w:World} (h:Cn X μ σ a w) (hs: ∀t,σ'.s t=σ.s t) (hz: ∀k,σ'.sz k=σ.sz k) (hm: ∀k o,o<σ.sz k→σ'.m k o=σ.m k o):Cn X μ σ' a w:=by
 have e:σ'=⟨σ.s,σ'.m,σ.sz⟩:=by
  obtain ⟨s',m',z'⟩:=σ'
  simp only [St.mk.injEq,true_and]
  exact ⟨funext hs,funext hz⟩
 rw [e]
 refine ⟨h.w0,h.kd,h.defers,h.size,h.slot,fun i hi=>?_,h.inj,h.own,h.par⟩
 obtain ⟨cs,e,b1,b2,b3,b4⟩:=h.blk i hi
 refine ⟨cs,e,b1,b2,b3,fun o x hx=>⟨(b4 o x hx).1,fun ho=>?_⟩⟩
 show cc _ _ _ _ _ (σ'.m i o)∧nl (σ'.m i o)
 rw [hm i o ho]
 exact (b4 o x hx).2 ho
theorem LG {X:Ctx} {μ:Nat→Nat×Nat} {ss:List (Nat×AV)} {bs:List (Nat×List C)} {k:Nat} {cs:List C} {a:Act} {w:World} (hk:(bs.all fun p=>!Nat.beq p.1 k)=true) {z:Nat→Nat} {m:Nat→Nat→C} (hz: ∀i,z i=upd (stL ss bs).sz k cs.length i) (hm: ∀i o,o<z i→m i o=wrM (stL ss bs).m [(k,0,cs)] i o) (h:Cn X μ ⟨(stL ss bs).s,m,z⟩ a w):Cn X μ (stL ss ((k,cs)::bs)) a w:=by
 refine Nz h (fun t=>rfl) (fun i=>?_) (fun i o ho=>?_)
 ·show (match Nat.beq k i with|true=>cs|false=>lk [] bs i).length=z i
  rw [hz]
  by_cases hi:i=k
  ·subst hi;rw [AD];simp
  ·rw [Cf hi]
   have:Nat.beq k i=false:=by
    cases hb:Nat.beq k i with
    | true=>exact absurd (Nat.eq_of_beq_eq_true hb).symm hi
    | false=>rfl
   rw [this];rfl
 ·replace ho:o<z i:=ho
  show (match Nat.beq k i with|true=>cs|false=>lk [] bs i).getD o (.v (.bool false))=m i o
  rw [hm i o ho]
  rw [hz] at ho
  show _=upd (stL ss bs).m k (laid ((stL ss bs).m k) 0 cs) i o
  by_cases hi:i=k
  ·subst hi
   rw [AD] at ho⊢
   have h4:=Dw (f:=(stL ss bs).m i) (off:=0) (Xw ho)
   rw [Nat.zero_add] at h4
   rw [h4]
   simp [List.getD_eq_getElem?_getD,ho]
  ·rw [Cf hi]
   have:Nat.beq k i=false:=by
    cases hb:Nat.beq k i with
    | true=>exact absurd (Nat.eq_of_beq_eq_true hb).symm hi
    | false=>rfl
   rw [this];rfl
theorem U1 {bs:List (Nat×List C)} {k:Nat} (hk:(bs.all fun p=>!Nat.beq p.1 k)=true):lk [] bs k= []:=by
 rcases EQ (l:=bs) (k:=k) (d:= []) with h|h
 ·exact h
 ·have:=List.all_eq_true.1 hk _ h
  simp at this
inductive Srcs (σ:St) (n:Nat):C→Nat→List C→Prop
 | ls {m:Nat} {ds:List D} :Srcs σ n (.ls n m ds) m (ds.map toC)
 | gl {k m:Nat} {os:List C} (hl:os.length=m*n) (hz:m*n≤σ.sz k) (hm: ∀(i:Nat) c,os[i]?=some c→σ.m k i=c):Srcs σ n (.gl k m n) m os
 | nil:Srcs σ n (.v (.slice none 0 0)) 0 []
section
variable {P:Program} {X:Ctx} {ops l:List Oper} {σ:St} {K:List Eff→St→Prop} {s:Nat→AV} {z:Nat→Nat}
variable {dst:Option Tmp} {ty:TypeId} {pos:String} {af:Array Edge} {gd:Option (Nat×Bool)}
theorem Iq {μ:Nat→Nat×Nat} {a:Act} {w:World} (hcn:Cn X μ σ a w) {t e:TypeId} (hu:P.underlying t=some (.slice e)) {n:Nat} (hn:0<n) {v:Value} {c:C} (hv:cc X.W0 μ σ.sz w v c) {m:Nat} {os:List C} (hs:Srcs σ n c m os):
  ∃vals,Go.Src P n t v m vals w∧BS (cc X.W0 μ σ.sz w) vals os∧(∀u∈vals,noL u)∧os.length=m*n:=by
 cases hs with
 | nil=>
   have hv:v= .slice none 0 0:=hv
   subst hv
   exact ⟨[],Go.Src.ofNil w hu 0,⟨rfl,fun i x d hx=>by simp at hx⟩,fun u hu=>(by cases hu),by simp⟩
 | ls=>
   rename_i ds
   unfold cc dd at hv
   obtain ⟨hl,ao,cap,rfl,h2,h3⟩:=hv
   have ex: ∀(ds:List D) (b o:Nat),ddL X.W0 w b o ds→ ∃vs:List Value,vs.length=ds.length∧w.rangeAt b o vs∧BS (cc X.W0 μ σ.sz w) vs (ds.map toC)∧ ∀u∈vs,noL u:=by
    intro ds b
    induction ds with
    | nil=>intro o _;exact ⟨[],rfl,fun j v hj=>by simp at hj,⟨rfl,fun i a c h=>by simp at h⟩,fun u hu=>by cases hu⟩
    | cons d ds ih=>
      intro o h
      unfold ddL at h
      obtain ⟨⟨v,h1,h2,h3⟩,h4⟩:=h
      obtain ⟨vs,g1,g2,g3,g4⟩:=ih (o+1) h4
      refine ⟨v::vs,by simp [g1],fun j u hj=>?_,⟨by simp [g3.1],fun i u c hu hc=>?_⟩,fun u hu=>?_⟩
      ·cases j with
       | zero=>simp at hj;subst hj;exact hcn.w0.cell h1
       | succ j=>
         have:=g2 j u (by simpa using hj)
         rw [show o+1+j=o+(j+1) by omega] at this
         exact this
      ·cases i with
       | zero=>simp at hu hc;subst hu;subst hc;exact Gx.2 h3
       | succ i=>exact g3.2 i u c (by simpa using hu) (by simpa using hc)
      ·rcases List.mem_cons.1 hu with rfl|hu
       ·exact h2
       ·exact g4 u hu
   cases m with
   | zero=>
     have:ds= []:=List.eq_nil_of_length_eq_zero (by simpa using hl)
     subst this
     cases ao with
     | none=>exact ⟨[],Go.Src.ofNil w hu cap,⟨rfl,fun i x d hx=>by simp at hx⟩,fun u hu=>(by cases hu),by simp⟩
     | some a0=>exact ⟨[],Go.Src.ofSlice (size:=n) w hu a0 0 cap [] (by simp) (fun j u hj=>by simp at hj) (fun u hu=>by cases hu),⟨rfl,fun i x d hx=>by simp at hx⟩,fun u hu=>(by cases hu),by simp⟩
   | succ m=>
     obtain ⟨b,off,rfl,hd⟩:=h3 (fun h0=>by rw [h0] at hl;simp [Nat.add_mul] at hl;omega)
     obtain ⟨vs,g1,g2,g3,g4⟩:=ex ds b off hd
     refine ⟨vs,Go.Src.ofSlice w hu _ _ _ vs (by rw [g1,hl]) (fun j u hj=>by rw [Addr.add_mid];exact g2 j u hj) (fun u hu=>(g4 u hu).2),g3,g4,by simpa using hl⟩
 | gl hl hz hm=>
   rename_i k
   obtain ⟨ao,cap,rfl,h2,_,h4⟩:=hv
   cases m with
   | zero=>
     have:os= []:=List.eq_nil_of_length_eq_zero (by simpa using hl)
     subst this
     cases ao with
     | none=>exact ⟨[],Go.Src.ofNil w hu cap,⟨rfl,fun i x d hx=>by simp at hx⟩,fun u hu=>(by cases hu),by simp⟩
     | some a0=>exact ⟨[],Go.Src.ofSlice (size:=n) w hu a0 0 cap [] (by simp) (fun j u hj=>by simp at hj) (fun u hu=>by cases hu),⟨rfl,fun i x d hx=>by simp at hx⟩,fun u hu=>(by cases hu),by simp⟩
   | succ m=>
     obtain ⟨rfl,_,h6⟩:=h4 (by omega)
     obtain ⟨vs,s1,s2,s3,s4⟩:=hcn.slice (k:=k) (off:=0) (n:=(m+1)*n) h6 (by omega)
     have hnl: ∀u∈vs,noL u:=fun u hu=>by
      obtain ⟨i,hi,rfl⟩:=List.mem_iff_getElem.1 hu
      exact (s4 i _ (Xw hi)).1.noL (s4 i _ (Xw hi)).2
     refine ⟨vs,Go.Src.ofSlice w hu _ _ _ vs s1 (fun j u hj=>by rw [Addr.add_mid];exact s2 j u hj) (fun u hu=>(hnl u hu).2),⟨by omega,fun i x d hx hd=>?_⟩,hnl,hl⟩
     have h5:=(s4 i x hx).1
     rw [Nat.zero_add,hm i d hd] at h5
     exact h5
theorem Ds {R:Value→C→Prop} {a b:List Value} {c d:List C} (h:BS R a c) (k:BS R b d):BS R (a++b) (c++d):=by
 refine ⟨by simp [h.1,k.1],fun i x y hx hy=>?_⟩
 by_cases hi:i<a.length
 ·rw [List.getElem?_append_left hi] at hx
  rw [List.getElem?_append_left (by rw [←h.1];exact hi)] at hy
  exact h.2 i x y hx hy
 ·rw [List.getElem?_append_right (by omega)] at hx
  rw [List.getElem?_append_right (by rw [←h.1];omega),←h.1] at hy
  exact k.2 _ x y hx hy
theorem M4 {z:Array Value} {n o:Nat} (hz:0<z.size) (ho:o<n):(madeCells z n)[o]?=some (z.toList.getD (o % z.size) undef):=by
 unfold madeCells
 have hlt:o % z.size<z.size:=Nat.mod_lt _ hz
 simp [ho]
 rw [getElem!_pos z (o % z.size) hlt,Array.getElem?_eq_getElem hlt]
 rfl
theorem GO {z:Array Value} (hn:z.toList.all Lw=true) (hz:0<z.size) {n o:Nat} {x:Value} (hx:(madeCells z n)[o]?=some x):noL x:=by
 have ho:o<n:=by have:=(Array.getElem?_eq_some_iff.1 hx).1;rwa [size_madeCells] at this
 rw [M4 hz ho] at hx
 cases hx
 have hj:o % z.size<z.toList.length:=by simpa using Nat.mod_lt _ hz
 exact F5 (List.all_eq_true.1 hn _ (by rw [List.getD_eq_getElem?_getD,Xw hj];exact List.getElem_mem hj))
theorem He {W0:World} {μ:Nat→Nat×Nat} {sz:Nat→Nat} {w:World} {vals:List Value} {cs:List C} {zv:Array Value} {k n:Nat} (hv:BS (cc W0 μ sz w) vals cs) (hn: ∀u∈vals,noL u) (hz:zv.toList.all Lw=true) (hzs:zv.size=n) (hp:0<n):
  (vals.toArray++Builtin.zeroCells zv k).size=vals.length+k*n∧(∀(o:Nat) x,(vals.toArray++Builtin.zeroCells zv k)[o]?=some x→noL x)∧ ∀(o:Nat) x c,(vals.toArray++Builtin.zeroCells zv k)[o]?=some x→cs[o]?=some c→cc W0 μ sz w x c:=by
 have e:Builtin.zeroCells zv k=madeCells zv (k*n):=by unfold Builtin.zeroCells madeCells;rw [hzs]
 rw [e]
 refine ⟨by simp [size_madeCells],fun o x hx=>?_,fun o x c hx hc=>?_⟩
 ·rw [Array.getElem?_append] at hx
  split at hx
  ·exact hn x (by have:=Array.mem_of_getElem? hx;simpa using this)
  ·exact GO hz (by omega) hx
 ·have ho:o<vals.length:=by rw [hv.1];exact (List.getElem?_eq_some_iff.1 hc).1
  rw [Array.getElem?_append,if_pos (by simpa using ho)] at hx
  exact hv.2 o x c (by simpa using hx) hc
theorem H8 {n:Nat} {v:Value} {ao:Option Addr} {c:Nat} (h:v= .slice ao 0 c) (w:World):(Builtin.firstCells n 0 v).run P w= .ok #[] w:=by
 subst h
 cases ao with
 | none=>exact run_firstCells_none w n 0 0 c
 | some a=>exact run_firstCells_some w n 0 a 0 c [] (by simp) (fun j u hj=>by simp at hj)
inductive RN (k:Nat) (n:Nat):C→Nat→Prop
 | gl {len:Nat} :RN k n (.gl k len n) len
 | nil:RN k n (.v (.slice none 0 0)) 0
theorem RN.cc {k n len:Nat} {c:C} (h:RN k n c len) {W0:World} {μ:Nat→Nat×Nat} {sz:Nat→Nat} {w:World} {x:Value} (hx:cc W0 μ sz w x c):cc W0 μ sz w x (.gl k len n):=by
 cases h with
 | gl=>exact hx
 | nil=>
   have hx:x= .slice none 0 0:=hx
   exact ⟨none,0,hx,Xv _,fun _=>rfl,fun h=>absurd rfl h⟩
def Stp (P:Program) (X:Ctx) (o:Oper) (σ σ':St):Prop:= ∀a w,CN X σ a w→ ∀(K:Act→World→Prop) (Q:Exit→Act→World→Prop),(∀a' w',CN X σ' a' w'→K a' w')→o.wp P a w K Q
theorem NW {t tx e:TypeId} {x y:Operand} {agg:Bool} {n bytes:Nat} {zv:Value} [S:Sle P t e agg n bytes zv] (hux: ∃e,P.underlying tx=some (.slice e)) {cx cy:C} {k len m:Nat} {os ns:List C} {d:Tmp} {ss:List (Nat×AV)} {bs:List (Nat×List C)}
  (hD: ∀g,X.D g→ ∃k∈X.ps,g=(X.μ0 k).1) (hd:d<X.n) (hx:evC σ.s x= .one cx) (hbx:RN k n cx len) (hy:evC σ.s y= .one cy) (hsy:Srcs σ n cy m ns)
  (hlo:os.length=len*n) (hb1:len*n≤σ.sz k) (hro: ∀(i:Nat) c,os[i]?=some c→σ.m k i=c) (hby:(len+m)*bytes≤140737488355328) (h63:len+m≤9223372036854775807)
  (hW:Wk X σ ss bs) (hkb:(bs.all fun p=>!Nat.beq p.1 k)=true) (hin: ∀c∈os++ns,nl c∧inC (bs.map (·.1)) c=true) (hps:k∉X.ps):
  Stp P X ⟨some d,.call ⟨.builtin .append,#[x,y],#[t,tx]⟩,ty,pos,af,none⟩ σ (stL ((d,.one (.gl k (len+m) n))::ss) ((k,os++ns)::bs)):=by
 intro a w hcn K Q hK
 obtain ⟨W,hG,μ,hcn⟩:=hcn
 replace hW:=hW.at W
 replace hK: ∀a' w' μ',Cn (X.at W) μ' (stL ((d,.one (.gl k (len+m) n))::ss) ((k,os++ns)::bs)) a' w'→K a' w':=fun a' w' μ' h=>hK a' w' ⟨W,hG,μ',h⟩
 replace hD: ∀g,(X.at W).D g→ ∃k∈(X.at W).ps,g=((X.at W).μ0 k).1:=hD
 replace hd:d<(X.at W).n:=hd
 replace hps:k∉(X.at W).ps:=hps
 clear hG
 generalize X.at W=X at hW hK hD hd hps hcn
 have hn:=S.pos
 obtain ⟨inf,hi,hz,hsize,hbye⟩:=S.info
 obtain ⟨ex,hux⟩:=hux
 have h1:=hcn.ev x
 rw [hx] at h1
 replace h1:cc X.W0 μ σ.sz w (a.eval x) (.gl k len n):=hbx.cc h1
 have h2:=hcn.ev y
 rw [hy] at h2
 obtain ⟨vn,s2,a2,n2,hln⟩:=Iq (P:=P) hcn hux hn h2 hsy
 have hadd:(len+m)*n=len*n+m*n:=Nat.add_mul _ _ _
 have hlen2:(os++ns).length=(len+m)*n:=by rw [List.length_append,hlo,hln,hadd]
 have hvn:vn.length=m*n:=a2.1.trans hln
 have hk0:(stL ss bs).sz k=0:=by show (lk [] bs k).length=0;rw [U1 hkb];rfl
 have hnl': ∀c∈os++ns,nl c:=fun c hc=>(hin c hc).1
 have fin: ∀(v:Value) (w':World) (μ':Nat→Nat×Nat),Cn X μ' (stL ss ((k,os++ns)::bs)) a w'→cc X.W0 μ' (stL ss ((k,os++ns)::bs)).sz w' v (.gl k (len+m) n)→K (a.put (some d) v) w':=fun v w' μ' hc hv=>by
  refine hK _ _ μ' (Nz (BW hc (d:=some d) (fun t ht=>by cases ht;exact hd) (v:=v) (av:= .one (.gl k (len+m) n)) hv) (fun t=>?_) (fun i=>rfl) (fun i o _=>rfl))
  show (match Nat.beq d t with|true=>AV.one (.gl k (len+m) n)|false=>lk .junk ss t)=upd (lk .junk ss) d (.one (.gl k (len+m) n)) t
  by_cases ht:t=d
  ·subst ht;rw [AD];simp
  ·rw [Cf ht]
   have:Nat.beq d t=false:=by
    cases hb:Nat.beq d t with
    | true=>exact absurd (Nat.eq_of_beq_eq_true hb).symm ht
    | false=>rfl
   rw [this]
 have hszk:(stL ss ((k,os++ns)::bs)).sz k=(len+m)*n:=by
  show (match Nat.beq k k with|true=>os++ns|false=>lk [] bs k).length=_
  rw [Nat.beq_refl]
  exact hlen2
 obtain ⟨ao,c1,e1,hlc,hc0,hne⟩:=h1
 by_cases hroom:len≠0∧len+m≤c1
 ·
  obtain ⟨hl0,hroom⟩:=hroom
  obtain ⟨rfl,hcap,hk⟩:=hne hl0
  obtain ⟨ca,ce,b1,b2,b3,b4⟩:=hcn.blk k hk
  have hcn':len*n+m*n≤ca.size:=by
   rw [b2,←hadd]
   exact Nat.le_trans (Nat.mul_le_mul_right _ hroom) hcap
  have hth: ∀j,j<vn.length→(w.cell? ⟨(μ k).1,0+len*inf.size+j,none⟩).isSome=true∧w.frozen? ⟨(μ k).1,0+len*inf.size+j,none⟩=false:=fun j hj=>by
   rw [hsize,Nat.zero_add]
   refine ⟨?_,frozen_of_row w _ _ ca ce b1⟩
   rw [cell_of_row w _ _ ca ce (0,0) b1]
   exact Option.isSome_iff_exists.2 ⟨_,Array.getElem?_eq_getElem (by omega)⟩
  have hr:=run_append_room_src (P:=P) w t tx ty e inf S.hu hi (μ k).1 0 len c1 (a.eval y) m vn (by rw [hsize];exact s2) hroom (fun j hj=>(hth j hj).1) (fun j hj=>(hth j hj).2)
  have hrun:(execOp a.eval ⟨some d,.call ⟨.builtin .append,#[x,y],#[t,tx]⟩,ty,pos,af,none⟩).run P w= .ok (.value (.slice (some ⟨(μ k).1,0,none⟩) (len+m) c1)) (w.setCells (μ k).1 (len*n) vn):=by
   rw [←hsize]
   rw [Nat.zero_add] at hr
   simp [execOp,resolve,invoke,builtin,e1,hr]
  unfold Oper.wp
  rw [hrun]
  have hst:=hcn.store (k:=k) (off:=len*n) hk a2 fun c hc=>hnl' c (List.mem_append.2 (.inr hc))
  have hheap:=ER (μ k).1 ce vn (len*n) w ca b1
  have S':=Gj (μ k).1 vn (len*n) w
  have kl:Kl w (w.setCells (μ k).1 (len*n) vn):=⟨by rw [S'.size];exact Xv _,fun g c e' fz hg hu=>by
   by_cases hgk:g=(μ k).1
   ·exfalso
    subst hgk
    rw [b1] at hg
    cases hg
    obtain ⟨i,n,hi⟩:=hu
    exact (b4 i _ hi).1.1 n rfl
   ·exact S'.other g hgk⟩
  have hW':Wk X ⟨σ.s,wrM σ.m [(k,len*n,ns)],σ.sz⟩ ss bs:=⟨hW.slot,fun p hp=>⟨(hW.blk p hp).1,fun i c hc=>by
   have hpk:p.1≠k:=fun e=>by have:=List.all_eq_true.1 hkb p hp;simp [e] at this
   show Aa (upd σ.m k _ p.1 i) c∧nl c
   rw [Cf hpk]
   exact (hW.blk p hp).2 i c hc⟩,hW.ins,hW.inb,hW.nd,hW.ps⟩
  have h5:=hW'.c hst
  have live: ∀i,(stL ss bs).sz i≠0→i≠k∧σ.sz i≠0:=fun i hi=>by
   refine ⟨fun e=>hi (e▸hk0),?_⟩
   rcases EQ (l:=bs) (k:=i) (d:= []) with h1|h1
   ·exact absurd (by show (lk [] bs i).length=0;rw [h1];rfl) hi
   ·rw [(hW.blk _ h1).1];exact hi
  have h6:=h5.adds (ns:= [(k,os++ns)]) (μ':=μ) ⟨fun p hp=>by
    rw [List.mem_singleton.1 hp]
    refine ⟨hk0,fun h0=>?_⟩
    replace h0:os++ns= []:=h0
    rw [h0] at hlen2
    have:0<(len+m)*n:=Nat.mul_pos (by omega) hn
    simp at hlen2;omega,by simp⟩ (fun _ _=>rfl) (fun q hq=>by
    rw [List.mem_singleton.1 hq]
    refine ⟨Jh ca (len*n) vn,ce,hheap,by rw [Fa];exact b2,by rw [Fa,hlen2];omega,fun o x hx=>?_,fun o x c hx hc=>?_,hnl'⟩
    ·rw [Jg vn ca (len*n) o (by omega)] at hx
     split at hx
     ·exact n2 x (List.mem_of_getElem? hx)
     ·exact (b4 o x hx).1
    ·have hks: ∀k'∈bs.map (·.1),σ.sz k'≠0→alZ (stL ss bs).sz [(k,os++ns)] k'≠0:=fun k' hk' h0=>by
      obtain ⟨p,hp,rfl⟩:=List.mem_map.1 hk'
      have hpk:p.1≠k:=fun e=>by have:=List.all_eq_true.1 hkb p hp;simp [e] at this
      show upd _ k _ p.1≠0
      rw [Cf hpk]
      show (lk [] bs p.1).length≠0
      rw [E9 hW.nd p hp,←(hW.blk p hp).1]
      exact h0
     refine cc.keep (ks:=bs.map (·.1)) (sz:=σ.sz) ?_ (hin c (List.mem_of_getElem? hc)).2 hks
     rw [Jg vn ca (len*n) o (by omega)] at hx
     by_cases ho1:o<len*n
     ·rw [if_neg (by omega)] at hx
      have h5:=((b4 o x hx).2 (by omega)).1
      rw [List.getElem?_append_left (by omega)] at hc
      rw [hro o _ hc] at h5
      exact h5.mono kl (fun i hi=>⟨rfl,hi⟩)
     ·have ho2:o<len*n+m*n:=by have h9:o<(os++ns).length:=(List.getElem?_eq_some_iff.1 hc).1;omega
      rw [if_pos (by omega)] at hx
      rw [List.getElem?_append_right (by omega),hlo] at hc
      exact (a2.2 _ x _ hx hc).mono kl (fun i hi=>⟨rfl,hi⟩)) (fun q hq=>by
    rw [List.mem_singleton.1 hq]
    refine ⟨(hcn.own k hk).1,?_,fun i hi=>fun he=>(live i hi).1 (hcn.inj i k (live i hi).2 hk he)⟩
    rcases (hcn.own k hk).2 with h2|h2
    ·exact h2
    ·exfalso
     obtain ⟨k',hk',he⟩:=hD _ h2
     have h3:=hcn.par k' hk'
     rw [←h3.1] at he
     exact hps (hcn.inj k k' hk h3.2 he▸hk')) (fun p hp q hq _=>by rw [List.mem_singleton.1 hp,List.mem_singleton.1 hq])
  refine fin _ _ μ (LG hkb (fun i=>rfl) (fun i o _=>rfl) h6) ⟨some ⟨(μ k).1,0,none⟩,c1,rfl,hroom,fun h0=>absurd h0 (by omega),fun _=>⟨rfl,hcap,?_⟩⟩
  rw [hszk]
  exact Nat.ne_of_gt (Nat.mul_pos (by omega) hn)
 ·by_cases h00:len+m=0
  ·
   obtain ⟨rfl,rfl⟩:len=0∧m=0:=by omega
   have hc1:=hc0 rfl
   subst hc1
   have hno:os++ns= []:=List.eq_nil_of_length_eq_zero (by simpa using hlen2)
   have hvn0:vn= []:=List.eq_nil_of_length_eq_zero (by simpa using hvn)
   have hlo':=s2.len w
   have hkind:=s2.kind
   have hcl:=s2.cells
   subst hvn0
   have hrun:(execOp a.eval ⟨some d,.call ⟨.builtin .append,#[x,y],#[t,tx]⟩,ty,pos,af,none⟩).run P w= .ok (.value (.slice ao 0 0)) w:=by
    rw [←hsize] at hcl
    rcases hkind with ⟨e',hk'⟩|hk'
    ·cases ao with
     | none=>simp [execOp,resolve,invoke,builtin,e1,Builtin.append_,run_underlying S.hu,run_underlying hk',sizeOf,typeInfo,hi,hlo',hcl]
     | some b=>simp [execOp,resolve,invoke,builtin,e1,Builtin.append_,run_underlying S.hu,run_underlying hk',sizeOf,typeInfo,hi,hlo',hcl,storeCells]
    ·cases ao with
     | none=>simp [execOp,resolve,invoke,builtin,e1,Builtin.append_,run_underlying S.hu,run_underlying hk',sizeOf,typeInfo,hi,hlo',hcl]
     | some b=>simp [execOp,resolve,invoke,builtin,e1,Builtin.append_,run_underlying S.hu,run_underlying hk',sizeOf,typeInfo,hi,hlo',hcl,storeCells]
   unfold Oper.wp
   rw [hrun]
   refine fin _ _ μ (LG hkb (z:=(stL ss bs).sz) (m:=(stL ss bs).m) (fun i=>?_) (fun i o ho=>?_) (hW.c hcn)) ⟨ao,0,rfl,Xv _,fun _=>rfl,fun h0=>absurd rfl h0⟩
   ·rw [hno]
    by_cases hik:i=k
    ·subst hik;rw [AD];exact hk0
    ·rw [Cf hik]
   ·rw [hno]
    show _=upd (stL ss bs).m k _ i o
    by_cases hik:i=k
    ·subst hik;rw [hk0] at ho;omega
    ·rw [Cf hik]
  ·
   have hg:c1<len+m:=by
    by_cases hl0:len=0
    ·have:=hc0 hl0;omega
    ·have: ¬len+m≤c1:=fun h=>hroom ⟨hl0,h⟩
     omega
   obtain ⟨vo,hold,a1,n1⟩: ∃vo:List Value,(Builtin.firstCells inf.size len (.slice ao len c1)).run P w.drew= .ok vo.toArray w.drew∧BS (cc X.W0 μ σ.sz w) vo os∧ ∀u∈vo,noL u:=by
    have hs1:Srcs σ n (.gl k len n) len os:= .gl hlo hb1 hro
    obtain ⟨vo,s1,a1,n1,_⟩:=Iq (P:=P) hcn (t:=t) S.hu hn (c:= .gl k len n) (v:=a.eval x) ⟨ao,c1,e1,hlc,hc0,hne⟩ hs1
    exact ⟨vo,by rw [hsize,←e1];exact s1.cellsD,a1,n1⟩
   have hr:=run_append_grow_src (P:=P) w t tx ty e inf zv S.hu hi hz ao len c1 vo hold (a.eval y) m vn (by rw [hsize];exact s2) hg (by omega) (growslice_fits hg (by rw [hbye];exact hby))
   have hrun:(execOp a.eval ⟨some d,.call ⟨.builtin .append,#[x,y],#[t,tx]⟩,ty,pos,af,none⟩).run P w= .ok (.value (.slice (some ⟨w.heap.size,0,none⟩) (len+m) (grownCap w (len+m) c1 e))) (w.drew.alloc (.cells ((vo++vn).toArray++Builtin.zeroCells zv.cells (grownCap w (len+m) c1 e-(len+m))) e)):=by
    simp [execOp,resolve,invoke,builtin,e1,hr]
   unfold Oper.wp
   rw [hrun]
   have hge:=grownCap_ge w (len+m) c1 e
   generalize grownCap w (len+m) c1 e=gc at hge
   have hkp:Kp w (w.drew.alloc (.cells ((vo++vn).toArray++Builtin.zeroCells zv.cells (gc-(len+m))) e)):=((Below.refl _ _).drew).alloc (Xv _) _
   have hks: ∀k'∈bs.map (·.1),σ.sz k'≠0→(stL ss bs).sz k'≠0:=fun k' hk' h0=>by
    obtain ⟨p,hp,rfl⟩:=List.mem_map.1 hk'
    show (lk [] bs p.1).length≠0
    rw [E9 hW.nd p hp,←(hW.blk p hp).1]
    exact h0
   have hall:BS (cc X.W0 μ (stL ss bs).sz (w.drew.alloc (.cells ((vo++vn).toArray++Builtin.zeroCells zv.cells (gc-(len+m))) e))) (vo++vn) (os++ns):=by
    refine (Ds a1 a2).map fun v c hc hv=>?_
    exact cc.keep (ks:=bs.map (·.1)) (sz:=σ.sz) (hv.mono (Kl.of_kp hkp) fun i hi=>⟨rfl,hi⟩) (hin c hc).2 hks
   obtain ⟨r1,r2,r3⟩:=He (k:=gc-(len+m)) hall (fun u hu=>by
    rcases List.mem_append.1 hu with h|h
    ·exact n1 u h
    ·exact n2 u h) S.nl S.size hn
   have hvl:(vo++vn).length=(len+m)*n:=by rw [(Ds a1 a2).1,hlen2]
   have hnew:=(hW.c hcn).new (id:=k) hk0 (g:=w.heap.size) (e:=e) (cs:=os++ns) hkp (Xv _) (heap_alloc_new w.drew _) (by
    intro h0;rw [h0] at hlen2
    have:0<(len+m)*n:=Nat.mul_pos (by omega) hn
    simp at hlen2;omega) (by rw [r1,hvl,hlen2];omega) r2 r3 hnl'
   refine fin _ _ _ (LG hkb (fun i=>rfl) (fun i o _=>rfl) hnew) ⟨some ⟨w.heap.size,0,none⟩,gc,rfl,hge,fun h0=>absurd h0 h00,fun _=>⟨by rw [AD],?_,?_⟩⟩
   ·rw [AD,r1,hvl,←Nat.add_mul]
    have:len+m+(gc-(len+m))=gc:=by omega
    rw [this];exact Xv _
   ·rw [hszk]
    exact Nat.ne_of_gt (Nat.mul_pos (by omega) hn)
end
section
variable {P:Program} {X:Ctx} {Q:Exit→Act→World→Prop} {l tl:List Oper} {es:List Eff} {σ σ':St}
def Tl (P:Program) (X:Ctx) (Q:Exit→St→Prop):List Oper→St→Prop
 | [],σ=>Q .normal σ
 | o::tl,σ=>o.guard=none∧ ∃σ',Stp P X o σ σ'∧Tl P X Q tl σ'
theorem Pu {Q:Exit→St→Prop} {ops:Array Oper} : ∀ {tl:List Oper} {σ:St},Tl P X Q tl σ→ ∀a w,CN X σ a w→wpList P ops (U2 X Q) tl a w
 | [],_,h,a,w,hc=>⟨_,h,hc⟩
 | o::tl,σ,h,a,w,hc=>by
   obtain ⟨hg,σ',hs,ht⟩:=h
   refine wpList_step fun K' hK'=>?_
   rw [if_pos (by simp [Region.wanted,hg])]
   exact hs a w hc K' _ fun a' w' hc'=>hK' _ _ (Pu ht a' w' hc')
theorem FD {Q:Exit→St→Prop} (h:Q .normal σ):Tl P X Q [] σ:=h
theorem Wc {Q:Exit→St→Prop} {o:Oper} (hg:o.guard=none:=by exact rfl) (hs:Stp P X o σ σ') (h:Tl P X Q tl σ'):Tl P X Q (o::tl) σ:=⟨hg,σ',hs,h⟩
theorem FC {Q:Exit→St→Prop} {o:Oper} (hg:o.guard=none:=by exact rfl) (h:Ab P X [o] [o] σ fun _ σ'=>Tl P X Q tl σ'):Tl P X Q (o::tl) σ:=by
 obtain ⟨es,σ',hr,ht⟩:=h
 cases hr with
 | cons hD hrd hal hl=>
   cases hl
   unfold LV at hD
   rw [hg] at hD
   exact ⟨hg,_,fun a w hc K Q hK=>hD σ (fun _ _=> .inl rfl) (fun k _=> .inr rfl) hrd hal a w hc K Q hK,ht⟩
theorem QU {ops:List Oper} {K:Exit→Act→World→Prop} (hn: ∀(j:Nat) o',ops[j]?=some o'→ ∀t,o'.dst=some t→t<X.n): ∀ {r:List Oper} {σ σ':St} {es:List Eff},Run P X ops r σ es σ'→(∀o∈r,o∈ops)→(∀a w,CN X σ' a w→wpList P ops.toArray K tl a w)→ ∀ {a:Act} {w:World},CN X σ a w→wpList P ops.toArray K (r++tl) a w:=by
 intro r σ σ' es h
 induction h with
 | nil=>exact fun _ hK a w hc=>hK a w hc
 | cons hD hr ha hl ih=>
   intro hm hK a w hc
   refine wpList_step fun K' hK'=>?_
   rename_i o l σ σ' e es
   obtain ⟨i,hi,hio⟩:=List.mem_iff_getElem.1 (hm o List.mem_cons_self)
   have ho:ops[i]?=some o:=by rw [List.getElem?_eq_getElem hi,hio]
   unfold LV at hD
   cases hg:o.guard with
   | none=>
     rw [hg] at hD
     rw [if_pos (by simp [Region.wanted,hg])]
     exact hD σ (fun _ _=> .inl rfl) (fun k _=> .inr rfl) hr ha a w hc K' K fun a' w' hc'=>hK' _ _ (ih (fun o ho=>hm o (List.mem_cons_of_mem _ ho)) hK hc')
   | some gw=>
     obtain ⟨g,want⟩:=gw
     rw [hg] at hD
     obtain ⟨o',ho',d,hd,hh⟩:=hD
     have hdn:=hn g o' ho' d hd
     rcases hh with ⟨h1,h2⟩|⟨h1,rfl⟩|⟨h1,rfl⟩
     ·have hy:=Dp hc ho' hd h1 hdn
      rw [if_pos (by simp [Region.wanted,hg,hy])]
      exact h2 σ (fun _ _=> .inl rfl) (fun k _=> .inr rfl) hr ha a w hc K' K fun a' w' hc'=>hK' _ _ (ih (fun o ho=>hm o (List.mem_cons_of_mem _ ho)) hK hc')
     ·have hy:=Dp hc ho' hd h1 hdn
      rw [if_neg (by simp [Region.wanted,hg,hy])]
      obtain ⟨W,hW,μ,hc⟩:=hc
      exact hK' _ _ (ih (fun o ho=>hm o (List.mem_cons_of_mem _ ho)) hK ⟨W,hW,μ,BW hc (fun t ht=>hn i o ho t ht) rfl⟩)
     ·have hy:=EC hc ho' hd h1 hdn
      rw [if_neg (by simp [Region.wanted,hg,hy])]
      obtain ⟨W,hW,μ,hc⟩:=hc
      exact hK' _ _ (ih (fun o ho=>hm o (List.mem_cons_of_mem _ ho)) hK ⟨W,hW,μ,BW hc (fun t ht=>hn i o ho t ht) rfl⟩)
theorem Dr {Q:Exit→St→Prop} {id:Nat} (n:Nat) {L:List Oper} (hL:L.take n=l∧L.drop n=tl) (hn:(L.all fun o=>match o.dst with|some t=>Nat.blt t X.n|none=>true)=true) (hr:Ab P X L l σ fun _ σ'=>Tl P X Q tl σ'):Aw P X (.region id L.toArray false) σ Q:=fun a w h=>by
 obtain ⟨es,σ',h1,h2⟩:=hr
 obtain ⟨rfl,rfl⟩:=hL
 refine wp_region_lit ?_
 have:=QU (K:=U2 X Q) (tl:=L.drop n) (ops:=L) (fun j o' ho t ht=>by
  have:=List.all_eq_true.1 hn o' (List.mem_of_getElem? ho)
  rw [ht] at this
  simpa using this) h1 (fun o ho=>List.mem_of_mem_take ho) (fun a w hc=>Pu h2 a w hc) h
 rw [List.take_append_drop] at this
 exact this
end
def AS:Nat→List Value→List C
 | 0,_=> []
 | c+1,zc=>zc.map .v++AS c zc
theorem CE (zc:List Value): ∀c,(AS c zc).length=c*zc.length
 | 0=>by simp [AS]
 | c+1=>by simp [AS,CE zc c,Nat.add_mul];omega
theorem IC (zc:List Value) (hz:0<zc.length): ∀(c o:Nat),o<c*zc.length→(AS c zc)[o]?=some (.v (zc.getD (o % zc.length) undef))
 | 0,o,h=>by simp at h
 | c+1,o,h=>by
   unfold AS
   by_cases ho:o<zc.length
   ·rw [List.getElem?_append_left (by simpa using ho),List.getElem?_map,Xw ho,Nat.mod_eq_of_lt ho,List.getD_eq_getElem?_getD,Xw ho]
    rfl
   ·rw [List.getElem?_append_right (by simpa using ho),List.length_map,IC zc hz c (o-zc.length) (by have h':(c+1)*zc.length=c*zc.length+zc.length:=Nat.succ_mul c zc.length;omega),Nat.mod_eq_sub_mod (a:=o) (b:=zc.length) (by omega)]
theorem DO {W0:World} {μ:Nat→Nat×Nat} {sz:Nat→Nat} {w:World} {z:Array Value} (hz:0<z.size) (c:Nat):BS (cc W0 μ sz w) (madeCells z (c*z.size)).toList (AS c z.toList):=by
 refine ⟨by rw [CE,Array.length_toList,size_madeCells,Array.length_toList],fun i x d hx hd=>?_⟩
 rw [Array.getElem?_toList] at hx
 have hi:i<c*z.size:=by have:=(Array.getElem?_eq_some_iff.1 hx).1;rwa [size_madeCells] at this
 rw [M4 hz hi] at hx
 rw [IC z.toList (by simpa using hz) c i (by simpa using hi)] at hd
 cases hx
 cases hd
 show _=_
 simp
theorem FS {z:List Value} (h:z.all Lw=true): ∀(c:Nat),∀x∈AS c z,nl x
 | 0,x,hx=>by cases hx
 | c+1,x,hx=>by
   rcases List.mem_append.1 hx with h1|h1
   ·obtain ⟨v,hv,rfl⟩:=List.mem_map.1 h1
    exact F5 (List.all_eq_true.1 h v hv)
   ·exact FS h c x h1
section
variable {P:Program} {X:Ctx} {ops l:List Oper} {σ:St} {K:List Eff→St→Prop} {s:Nat→AV} {z:Nat→Nat}
variable {dst:Option Tmp} {ty:TypeId} {pos:String} {af:Array Edge} {gd:Option (Nat×Bool)}
theorem JP {t e:TypeId} {lo co:Operand} {agg:Bool} {n bytes:Nat} {zv:Value} [S:Sle P t e agg n bytes zv] {kl kc:IntKind} {cap id:Nat} (hd: ∀t,dst=some t→t<X.n) (hl:evC s lo= .one (.v (.int kl (cap:Nat)))) (hc:evC s co= .one (.v (.int kc (cap:Nat))))
  (hb:bytes*cap≤281474976710656) (hb2:cap≤9223372036854775807) (hp:0<cap):
  Sim P X ⟨dst,.makeSlice t lo co,ty,pos,af,gd⟩ s z ⟨.one (.gl id cap n),[],[],[(id,AS cap zv.cells.toList)]⟩:=by
 refine Sim.of0 fun W=>?_
 replace hd: ∀t,dst=some t→t<(X.at W).n:=hd
 generalize X.at W=X at hd⊢
 intro σ hs hsz _ hal a w hcn K Q hK
 obtain ⟨μ,hcn⟩:=hcn
 obtain ⟨hid,hne⟩:=hal.1 _ List.mem_cons_self
 obtain ⟨inf,hi,hz,hsize,hby⟩:=S.info
 have hn:=S.pos
 have h1:=hcn.ev lo
 replace h1:=Cd (o:=⟨dst,.makeSlice t lo co,ty,pos,af,gd⟩) hs (by simp [Op.operands]) h1
 rw [hl] at h1
 replace h1:a.eval lo= .int kl (cap:Int):=h1
 have h2:=hcn.ev co
 replace h2:=Cd (o:=⟨dst,.makeSlice t lo co,ty,pos,af,gd⟩) hs (by simp [Op.operands]) h2
 rw [hc] at h2
 replace h2:a.eval co= .int kc (cap:Int):=h2
 have hzs:=S.size
 have hr:=run_make (P:=P) w t e inf zv S.hu hi hz kl kc (cap:Int) (cap:Int) (by omega) (by omega) (by rw [hby];rw [←Int.natCast_mul];omega) (by omega)
 simp only [Int.toNat_natCast,hsize] at hr
 have hrun:(execOp a.eval ⟨dst,.makeSlice t lo co,ty,pos,af,gd⟩).run P w= .ok (.value (.slice (some ⟨w.heap.size,0,none⟩) cap cap)) (w.alloc (.cells (madeCells zv.cells (cap*n)) e)):=by
  simp [execOp,h1,h2,hr]
 unfold Oper.wp
 rw [hrun]
 have hkp:Kp w (w.alloc (.cells (madeCells zv.cells (cap*n)) e)):=(Below.refl _ _).alloc (Xv _) _
 have hall:=DO (W0:=X.W0) (μ:=μ) (sz:=σ.sz) (w:=w.alloc (.cells (madeCells zv.cells (cap*n)) e)) (z:=zv.cells) (by omega) cap
 rw [hzs] at hall
 have hzl:(AS cap zv.cells.toList).length=cap*n:=by rw [CE];simp [hzs]
 have hnew:=hcn.new (id:=id) hid (w':=w.alloc (.cells (madeCells zv.cells (cap*n)) e)) (g:=w.heap.size) (vs:=madeCells zv.cells (cap*n)) (e:=e) (cs:=AS cap zv.cells.toList) hkp (Xv _) (heap_alloc_new w _) hne
  (by rw [hzl,size_madeCells];exact Xv _) (fun o x hx=>GO S.nl (by omega) hx) (fun o x c hx hcc=>hall.2 o x c (by simpa using hx) hcc) (FS S.nl cap)
 refine hK _ _ ⟨upd μ id (w.heap.size,(madeCells zv.cells (cap*n)).size),?_⟩
 refine BW hnew (d:=dst) hd (v:= .slice (some ⟨w.heap.size,0,none⟩) cap cap) (av:= .one (.gl id cap n)) ⟨_,cap,rfl,Xv _,fun h=>h,fun _=>⟨by rw [AD],by rw [AD,size_madeCells];exact Xv _,?_⟩⟩
 ·show upd σ.sz id _ id≠0
  rw [AD]
  intro h0
  exact hne (List.eq_nil_of_length_eq_zero h0)
theorem IL {t e:TypeId} {parts:Array (Nat×Operand)} {agg:Bool} {n bytes:Nat} {zv:Value} [S:Sle P t e agg n bytes zv] {len id:Nat} {ps:List (Nat×AV)} {cs:List C} (hd: ∀t,dst=some t→t<X.n) (hps:parts.toList.map (fun p=>(p.1,evC s p.2))=ps)
  (hnl:(ps.all fun p=>(As p.2).all nlB)=true) (hf:Dz (fun i=>some (i*n,n)) (AS len zv.cells.toList) ps=some cs) (hnl2:cs.all nlB=true) (hb:Nat.ble (len*n) 16777216=true) (hp:Nat.blt 0 len=true):
  Sim P X ⟨dst,.buildSlice t len parts,ty,pos,af,gd⟩ s z ⟨.one (.gl id len n),[],[],[(id,cs)]⟩:=by
 refine Sim.of0 fun W=>?_
 replace hd: ∀t,dst=some t→t<(X.at W).n:=hd
 generalize X.at W=X at hd⊢
 intro σ hs hsz _ hal a w hcn K Q hK
 obtain ⟨μ,hcn⟩:=hcn
 obtain ⟨hid,hne⟩:=hal.1 _ List.mem_cons_self
 obtain ⟨inf,hi,hz,hsize,hby⟩:=S.info
 have hb:=Nat.le_of_ble_eq_true hb
 have hp:0<len:=by simpa using hp
 have hzs:=S.size
 have hpos:=S.pos
 obtain ⟨ol,rfl⟩: ∃ol:List (Nat×Operand),parts=ol.toArray:=⟨parts.toList,by simp⟩
 have hρ': ∀p∈ol,cv X.W0 μ σ.sz w (a.eval p.2) (evC s p.2):=fun p hpm=>by
  have h1:=hcn.ev p.2
  exact Cd (o:=⟨dst,.buildSlice t len ol.toArray,ty,pos,af,gd⟩) hs (by simp [Op.operands];exact ⟨p.1,hpm⟩) h1
 simp only at hps
 subst hps
 have hz0:BS (cc X.W0 μ σ.sz w) (madeCells zv.cells (len*n)).toList (AS len zv.cells.toList):=by
  have:=DO (W0:=X.W0) (μ:=μ) (sz:=σ.sz) (w:=w) (z:=zv.cells) (by omega) len
  rw [hzs] at this
  exact this
 obtain ⟨a',h1,h2⟩:=Iw (W0:=X.W0) (μ:=μ) (sz:=σ.sz) (w:=w) (vs:=ol.map fun p=>(p.1,a.eval p.2)) (by simp) (fun i p q hp hq=>by
  simp only [List.getElem?_map,Option.map_eq_some_iff] at hp hq
  obtain ⟨x,hx,rfl⟩:=hp
  obtain ⟨y,hy,rfl⟩:=hq
  rw [hx] at hy
  cases hy
  refine ⟨rfl,hρ' x (List.mem_of_getElem? hx),fun c hc=>D4 ?_⟩
  have:=List.all_eq_true.1 hnl (x.1,evC s x.2) (List.mem_map.2 ⟨x,List.mem_of_getElem? hx,rfl⟩)
  exact List.all_eq_true.1 this c hc) hz0 hf
 have hr:=run_buildSlice (P:=P) w t e len ((ol.map fun p=>(p.1,a.eval p.2)).toArray) a' inf zv S.hu hi hz (by rw [hsize];omega) (by rw [hsize];have:=Nat.mul_pos hp hpos;omega) (by
  rw [hsize]
  simpa [madeCells] using h1)
 have hrun:(execOp a.eval ⟨dst,.buildSlice t len ol.toArray,ty,pos,af,gd⟩).run P w= .ok (.value (.slice (some ⟨w.heap.size,0,none⟩) len len)) (w.alloc (.cells a' e)):=by
  simp only [execOp]
  rw [show (ol.toArray.map fun x=>match x with|(i,x)=>(i,a.eval x))=(ol.map fun p=>(p.1,a.eval p.2)).toArray by simp]
  simp [hr]
 unfold Oper.wp
 rw [hrun]
 have hkp:Kp w (w.alloc (.cells a' e)):=(Below.refl _ _).alloc (Xv _) _
 have hnl': ∀c∈cs,nl c:=fun c hc=>D4 (List.all_eq_true.1 hnl2 c hc)
 have hsz':a'.size=cs.length:=by have:=h2.1;simpa using this
 have hlen:cs.length=len*n:=by
  have key: ∀(ps:List (Nat×AV)) (c0 c1:List C),Dz (fun i=>some (i*n,n)) c0 ps=some c1→c1.length=c0.length:=by
   intro ps
   induction ps with
   | nil=>intro c0 c1 h;simp [Dz] at h;rw [h]
   | cons p ps ih=>
     intro c0 c1 h
     unfold Dz at h
     simp only at h
     split at h
     ·have layl: ∀(l:List C) (c:List C) (o:Nat),(Tn c o l).length=c.length:=by
       intro l
       induction l with
       | nil=>intro c o;rfl
       | cons x l ih=>intro c o;show (Tn (c.set o x) (o+1) l).length=_;rw [ih];simp
      rw [ih _ _ h,layl]
     ·cases h
  rw [key _ _ _ hf,CE];simp [hzs]
 have hnew:=hcn.new (id:=id) hid (w':=w.alloc (.cells a' e)) (g:=w.heap.size) (vs:=a') (e:=e) (cs:=cs) hkp (Xv _) (heap_alloc_new w _) hne (by omega)
  (fun o x hx=>by
   have ho:o<cs.length:=by have:=(Array.getElem?_eq_some_iff.1 hx).1;omega
   exact (h2.2 o x _ (by simpa using hx) (Xw ho)).noL (hnl' _ (List.getElem_mem ho))) (fun o x c hx hc=>(h2.2 o x c (by simpa using hx) hc).mono (Kl.of_kp hkp) fun i hi=>⟨rfl,hi⟩) hnl'
 refine hK _ _ ⟨upd μ id (w.heap.size,a'.size),?_⟩
 refine BW hnew (d:=dst) hd (v:= .slice (some ⟨w.heap.size,0,none⟩) len len) (av:= .one (.gl id len n)) ⟨_,len,rfl,Xv _,fun h=>h,fun _=>⟨by rw [AD],by rw [AD,hsz',hlen];exact Xv _,?_⟩⟩
 show upd σ.sz id _ id≠0
 rw [AD]
 intro h0
 exact hne (List.eq_nil_of_length_eq_zero h0)
theorem AB {t e:TypeId} {agg:Bool} {n bytes:Nat} {zv:Value} [S:Sle P t e agg n bytes zv] {x:Operand} {c:C} {m:Nat} (hg:gOk ops σ.s gd:=by first|exact trivial|exact rfl) (hd:dB X.n dst=true:=by exact rfl) (hx:evC σ.s x= .one c:=by exact rfl) (hc:Pz c=some m:=by exact rfl)
  (hl:Ab P X ops l (σ.app dst ⟨.one (.v (.int .i64 m)),[],[],[]⟩) (fun es σ'=>K (⟨.one (.v (.int .i64 m)),[],[],[]⟩::es) σ')):Ab P X ops (⟨dst,.call ⟨.builtin .len,#[x],#[t]⟩,ty,pos,af,gd⟩::l) σ K:=
 BF (o:=⟨dst,.call ⟨.builtin .len,#[x],#[t]⟩,ty,pos,af,gd⟩) hg hd (OC ⟨e,S.hu⟩ hx hc) hl
theorem Cz {α:Type} {f:α→List D} {la:List α} {b:α} {t e:TypeId} {x y:Operand} {agg:Bool} {n bytes:Nat} {zv:Value} [S:Sle P t e agg n bytes zv] {ik:IntKind} {i:Int} (ha:la[i.toNat]?=some b) (h0:0≤i) (hg:gOk ops σ.s gd:=by first|exact trivial|exact rfl) (hd:dB X.n dst=true:=by exact rfl) (hx:evC σ.s x= .one (lsG n f la):=by exact rfl) (hy:evC σ.s y= .one (.v (.int ik i)):=by exact rfl) (hf: ∀a,(f a).length=n:=by intro _;rfl)
  (hl:Ab P X ops l (σ.app dst ⟨.one (.fp (f b)),[],[],[]⟩) (fun es σ'=>K (⟨.one (.fp (f b)),[],[],[]⟩::es) σ')):Ab P X ops (⟨dst,.indexAddr t x y,ty,pos,af,gd⟩::l) σ K:=by
 have hi:0≤i∧i<la.length:=⟨h0,by have:=(List.getElem?_eq_some_iff.1 ha).1;omega⟩
 have h:=Ll (S:=S) (P:=P) (dst:=dst) (ty:=ty) (pos:=pos) (af:=af) (gd:=gd) hx hy hi
 rw [PZ hf ha] at h
 exact BF (o:=⟨dst,.indexAddr t x y,ty,pos,af,gd⟩) hg hd h hl
theorem G3 {t e:TypeId} {x y:Operand} {agg:Bool} {n bytes:Nat} {zv:Value} [S:Sle P t e agg n bytes zv] {k len:Nat} {ik:IntKind} {i:Int} (hi:0≤i∧i<len) (hg:gOk ops σ.s gd:=by first|exact trivial|exact rfl) (hd:dB X.n dst=true:=by exact rfl) (hx:evC σ.s x= .one (.gl k len n):=by exact rfl) (hy:evC σ.s y= .one (.v (.int ik i)):=by exact rfl)
  (hl:Ab P X ops l (σ.app dst ⟨.one (.ptr k (i.toNat*n)),[],[],[]⟩) (fun es σ'=>K (⟨.one (.ptr k (i.toNat*n)),[],[],[]⟩::es) σ')):Ab P X ops (⟨dst,.indexAddr t x y,ty,pos,af,gd⟩::l) σ K:=
 BF (o:=⟨dst,.indexAddr t x y,ty,pos,af,gd⟩) hg hd (Lm hx hy hi) hl
theorem L1 {t:TypeId} {x:Operand} {i fo:Nat} {agg:Bool} {n:Nat} [hF:Fld P t i fo agg n] {cs:List D} (hg:gOk ops σ.s gd:=by first|exact trivial|exact rfl) (hd:dB X.n dst=true:=by exact rfl) (hx:evC σ.s x= .one (.fp cs):=by exact rfl) (hc:Nat.blt fo cs.length=true:=by exact rfl)
  (hl:Ab P X ops l (σ.app dst ⟨.one (.fp (cs.drop fo)),[],[],[]⟩) (fun es σ'=>K (⟨.one (.fp (cs.drop fo)),[],[],[]⟩::es) σ')):Ab P X ops (⟨dst,.fieldAddr t x i,ty,pos,af,gd⟩::l) σ K:=
 BF (o:=⟨dst,.fieldAddr t x i,ty,pos,af,gd⟩) hg hd (Ln hx hc) hl
theorem Av {t:TypeId} {x:Operand} {agg:Bool} {n:Nat} [hT:Tsz P t agg n] {cs:List D} (hg:gOk ops σ.s gd:=by first|exact trivial|exact rfl) (hd:dB X.n dst=true:=by exact rfl) (hx:evC σ.s x= .one (.fp cs):=by exact rfl) (hc:(Nat.ble n cs.length&&(agg || Nat.beq n 1))=true:=by exact rfl)
  (hl:Ab P X ops l (σ.app dst ⟨mkA agg ((cs.take n).map toC),[],[],[]⟩) (fun es σ'=>K (⟨mkA agg ((cs.take n).map toC),[],[],[]⟩::es) σ')):Ab P X ops (⟨dst,.load t x,ty,pos,af,gd⟩::l) σ K:=by
 simp only [Bool.and_eq_true] at hc
 exact .of (fun _ _ hl=>Run.step hg (NZ (CH hd) hx (Nat.le_of_ble_eq_true hc.1) hc.2) (fun p hp=>by cases hp) B7 hl) hl
theorem RR {α:Type} {f:α→List D} {la:List α} {t e:TypeId} {x:Operand} {lo hi:Option Operand} {agg:Bool} {n bytes:Nat} {zv:Value} [S:Sle P t e agg n bytes zv] {a b:Nat} (hab:a≤b) (hb:b≤la.length) (hlo:Bnd σ.s 0 lo a) (hhi:Bnd σ.s la.length hi b) (hg:gOk ops σ.s gd:=by first|exact trivial|exact rfl) (hd:dB X.n dst=true:=by exact rfl) (hx:evC σ.s x= .one (lsG n f la):=by exact rfl) (hf: ∀a,(f a).length=n:=by intro _;rfl)
  (hl:Ab P X ops l (σ.app dst ⟨.one (lsG n f ((la.take b).drop a)),[],[],[]⟩) (fun es σ'=>K (⟨.one (lsG n f ((la.take b).drop a)),[],[],[]⟩::es) σ')):Ab P X ops (⟨dst,.slice t x lo hi none,ty,pos,af,gd⟩::l) σ K:=by
 have h:=Lj (S:=S) (P:=P) (dst:=dst) (ty:=ty) (pos:=pos) (af:=af) (gd:=gd) hx hhi hlo hab hb
 rw [Km hf,Hg hf] at h
 have e:((la.take b).drop a).length=b-a:=by rw [List.length_drop,List.length_take,Nat.min_eq_left hb]
 unfold lsG at hl
 rw [e] at hl
 exact BF (o:=⟨dst,.slice t x lo hi none,ty,pos,af,gd⟩) hg hd h hl
theorem Io {t:TypeId} {x:Operand} {agg:Bool} {n:Nat} [hT:Tsz P t agg n] {k off:Nat} {cs:List C} (hz:off+n≤σ.sz k) (hm:rdL (σ.m k) off n=cs) (hg:gOk ops σ.s gd:=by first|exact trivial|exact rfl) (hd:dB X.n dst=true:=by exact rfl) (hx:evC σ.s x= .one (.ptr k off):=by exact rfl) (hc:(Nat.blt 0 n&&(agg || Nat.beq n 1))=true:=by exact rfl)
  (hl:Ab P X ops l (σ.app dst ⟨mkA agg cs,[(k,off,cs)],[],[]⟩) (fun es σ'=>K (⟨mkA agg cs,[(k,off,cs)],[],[]⟩::es) σ')):Ab P X ops (⟨dst,.load t x,ty,pos,af,gd⟩::l) σ K:=by
 subst hm
 simp only [Bool.and_eq_true] at hc
 exact .of (fun _ _ hl=>Mp hg (CH hd) hx (Nat.ble_eq_true_of_le hz) hc.1 hc.2 hl) hl
theorem EY {t:TypeId} {x y:Operand} {agg:Bool} {n:Nat} [hT:Tsz P t agg n] {k off:Nat} {av:AV} (hz:off+n≤σ.sz k) (hg:gOk ops σ.s gd:=by first|exact trivial|exact rfl) (hd:dB X.n dst=true:=by exact rfl) (hx:evC σ.s x= .one (.ptr k off):=by exact rfl) (hy:evC σ.s y=av:=by exact rfl) (hc:(Nat.beq (As av).length n&&(C8 av || Nat.beq n 1)&&Nat.blt 0 n&&(As av).all nlB)=true:=by exact rfl)
  (hl:Ab P X ops l (σ.app dst ⟨.junk,[],[(k,off,As av)],[]⟩) (fun es σ'=>K (⟨.junk,[],[(k,off,As av)],[]⟩::es) σ')):Ab P X ops (⟨dst,.store t x y,ty,pos,af,gd⟩::l) σ K:=by
 simp only [Bool.and_eq_true] at hc
 exact .of (fun _ _ hl=>IR hg (CH hd) hx hy hc.1.1.1 hc.1.1.2 (Nat.ble_eq_true_of_le hz) hc.1.2 hc.2 hl) hl
theorem NR {d:Nat} {t e:TypeId} {lo co:Operand} {agg:Bool} {n bytes:Nat} {zv:Value} [S:Sle P t e agg n bytes zv] {kl kc:IntKind} {cap:Nat} (hp:0<cap) (hb:bytes*cap≤281474976710656) (hb2:cap≤9223372036854775807) (hg:gOk ops σ.s gd:=by first|exact trivial|exact rfl) (hd:dB X.n (some d)=true:=by exact rfl) (hx:evC σ.s lo= .one (.v (.int kl (cap:Nat))):=by exact rfl) (hy:evC σ.s co= .one (.v (.int kc (cap:Nat))):=by exact rfl) (hf:Nat.beq (σ.sz d) 0=true:=by exact rfl)
  (hl:Ab P X ops l (σ.app (some d) ⟨.one (.gl d cap n),[],[],[(d,AS cap zv.cells.toList)]⟩) (fun es σ'=>K (⟨.one (.gl d cap n),[],[],[(d,AS cap zv.cells.toList)]⟩::es) σ')):Ab P X ops (⟨some d,.makeSlice t lo co,ty,pos,af,gd⟩::l) σ K:=
 .of (fun _ _ hl=>Run.step hg (JP (CH hd) hx hy hb hb2 hp) (fun p hp=>by cases hp) (DZ (by simpa using hf) fun h0=>by
  have h1:(AS cap zv.cells.toList).length=0:=by rw [h0];rfl
  rw [CE] at h1
  have:=Nat.mul_pos hp S.pos
  have h2:=S.size
  simp [h2] at h1
  omega) hl) hl
theorem BO {d:Nat} {t e:TypeId} {parts:Array (Nat×Operand)} {agg:Bool} {n bytes:Nat} {zv:Value} [S:Sle P t e agg n bytes zv] {len:Nat} {ps:List (Nat×AV)} {cs:List C} (hg:gOk ops σ.s gd:=by first|exact trivial|exact rfl) (hd:dB X.n (some d)=true:=by exact rfl) (hx:parts.toList.map (fun p=>(p.1,evC σ.s p.2))=ps:=by exact rfl) (hy:(ps.all fun p=>(As p.2).all nlB)=true:=by exact rfl) (hc:Dz (fun i=>some (i*n,n)) (AS len zv.cells.toList) ps=some cs:=by exact rfl)
  (hf:(Nat.beq (σ.sz d) 0&&!cs.isEmpty&&cs.all nlB&&Nat.ble (len*n) 16777216&&Nat.blt 0 len)=true:=by exact rfl)
  (hl:Ab P X ops l (σ.app (some d) ⟨.one (.gl d len n),[],[],[(d,cs)]⟩) (fun es σ'=>K (⟨.one (.gl d len n),[],[],[(d,cs)]⟩::es) σ')):Ab P X ops (⟨some d,.buildSlice t len parts,ty,pos,af,gd⟩::l) σ K:=by
 simp only [Bool.and_eq_true,Bool.not_eq_true'] at hf
 exact .of (fun _ _ hl=>Run.step hg (IL (CH hd) hx hy hc hf.1.1.2 hf.1.2 hf.2) (fun p hp=>by cases hp) (DZ (by simpa using hf.1.1.1.1) fun h0=>by rw [h0] at hf;cases hf.1.1.1.2) hl) hl
end
theorem C7 {P:Program} {X:Ctx} {σ:St} {ss:List (Nat×AV)} {bs:List (Nat×List C)} {c:Code} {Q:Exit→St→Prop} (h:Wk X σ ss bs) (ha:Aw P X c (stL ss bs) Q):Aw P X c σ Q:=fun a w hc=>ha a w (h.cn hc)
theorem Ao {α:Type} {p:α→Prop} : ∀x∈([]:List α),p x:=fun _ h=>nomatch h
def ndB:List Nat→Bool
 | []=>true
 | a::l=>!l.any (Nat.beq a)&&ndB l
theorem Ja: ∀ {l:List Nat},ndB l=true→l.Nodup
 | [],_=> .nil
 | a::l,h=>by
   have h:(!l.any (Nat.beq a)&&ndB l)=true:=h
   rw [Bool.and_eq_true] at h
   refine List.nodup_cons.2 ⟨fun hm=>?_,Ja h.2⟩
   have h1:=h.1
   rw [Bool.not_eq_true',List.any_eq_false] at h1
   exact h1 a hm (Nat.beq_refl a)
def D0 (σ:St) (ks:List Nat) (p:Nat×List C):Prop:=(σ.sz p.1=p.2.length∧ ∀(i:Nat) c,p.2[i]?=some c→Aa (σ.m p.1 i) c∧nl c)∧p.2.all (inC ks)=true
theorem DP {X:Ctx} {σ:St} {ss:List (Nat×AV)} {bs:List (Nat×List C)} (h1: ∀p∈ss,Ent (σ.s p.1) p.2) (h2: ∀p∈bs,D0 σ (bs.map (·.1)) p)
  (hb:((ss.all fun p=>inA (bs.map (·.1)) p.2)&&ndB (bs.map (·.1))&&(X.ps.all fun k=>(bs.map (·.1)).any (Nat.beq k)))=true):Wk X σ ss bs:=by
 simp only [Bool.and_eq_true] at hb
 exact ⟨h1,fun p hp=>(h2 p hp).1,hb.1.1,List.all_eq_true.2 fun p hp=>(h2 p hp).2,Ja hb.1.2,hb.2⟩
theorem D5 {σ:St} {ks:List Nat} {k:Nat} {c:List C} (hz:σ.sz k=c.length) (hm:EntL (rdL (σ.m k) 0 c.length) c) (hn:(c.all nlB&&c.all (inC ks))=true):D0 σ ks (k,c):=by
 rw [Bool.and_eq_true] at hn
 refine ⟨⟨hz,fun i d hi=>?_⟩,hn.2⟩
 have hlt:=(List.getElem?_eq_some_iff.1 hi).1
 have h2:=C6 (σ.m k) c.length 0 i hlt
 rw [Nat.zero_add] at h2
 exact ⟨hm.get i _ d h2 hi,D4 (List.all_eq_true.1 hn.1 d (List.mem_of_getElem? hi))⟩
theorem Aa.q2 {x:Rat} {j k i:Nat} (h:j≤k):Aa (.q x j i) (.q x k i):=Aa.q rfl h
abbrev Al {α:Type} (f:α→List D) (l:List α):List C:=(l.flatMap f).map toC
class Elm {α:Type} (n:outParam Nat) (f:α→List D):Prop where
 len: ∀a,(f a).length=n
 nl: ∀a,((f a).all fun d=>nlB (toC d))=true
section
variable {α:Type} {n:Nat} {f:α→List D}
theorem A5 (hf:Elm n f) (l:List α):(Al f l).length=l.length*n:=by rw [List.length_map,Fc hf.len]
theorem Dg (hf:Elm n f) (l:List α): ∀c∈Al f l,nl c:=fun c hc=>by
 obtain ⟨d,hd,rfl⟩:=List.mem_map.1 hc
 obtain ⟨a,_,hda⟩:=List.mem_flatMap.1 hd
 exact D4 (List.all_eq_true.1 (hf.nl a) d hda)
theorem R6 (d:D):pfC (toC d)=true:=by cases d<;>rfl
theorem BM (ks:List Nat) (l:List α):(Al f l).all (inC ks)=true:=List.all_eq_true.2 fun c hc=>by
 obtain ⟨d,_,rfl⟩:=List.mem_map.1 hc
 exact FM (R6 d) ks
theorem Fs (l:List α):(Al f l).all pfC=true:=List.all_eq_true.2 fun c hc=>by
 obtain ⟨d,_,rfl⟩:=List.mem_map.1 hc
 exact R6 d
abbrev FF (cs:List C):Nat→C:=fun o=>cs.getD o (.v (.bool false))
theorem C5 {cs:List C} {i:Nat} {c:C} (h:cs[i]?=some c):FF cs i=c:=by show cs.getD i _=c;rw [List.getD_eq_getElem?_getD,h];rfl
def JT (m:Nat→C) (cs:List C):Prop:= ∀(i:Nat) c,cs[i]?=some c→m i=c
theorem DT {cs:List C} :JT (FF cs) cs:=fun i c h=>C5 h
theorem Do {g:Nat→C} {cs:List C} :JT (laid g 0 cs) cs:=fun i c h=>by
 have:=Dw (f:=g) (off:=0) h
 rw [Nat.zero_add] at this
 exact this
theorem BH (hf:Elm n f) {σ:St} {ks:List Nat} {k:Nat} {l:List α} (hz:σ.sz k=(Al f l).length:=by exact rfl) (hm:JT (σ.m k) (Al f l):=by first|exact DT|exact Do):D0 σ ks (k,Al f l):=
 ⟨⟨hz,fun i c hi=>⟨Aa.of_eq (hm i c hi),Dg hf l c (List.mem_of_getElem? hi)⟩⟩,BM ks l⟩
theorem Vs (hf:Elm n f) {l:List α} {i:Nat} {a:α} (h:l[i]?=some a): ∀(o:Nat) c,((f a).map toC)[o]?=some c→(Al f l)[i*n+o]?=some c:=fun o c hc=>by
 have h1:=PZ hf.len h
 rw [List.getElem?_map] at hc⊢
 have:(l.flatMap f)[i*n+o]?=(f a)[o]?:=by
  rw [←h1,List.getElem?_take,if_pos,List.getElem?_drop]
  have:o<((f a).map toC).length:=by
   have:=(List.getElem?_eq_some_iff.1 (show ((f a).map toC)[o]?=some c by rw [List.getElem?_map];exact hc)).1
   exact this
  rw [List.length_map,hf.len] at this
  exact this
 rw [this]
 exact hc
theorem Lg (hf:Elm n f) {l:List α} {i:Nat} {a:α} (h:l[i]?=some a):rdL (FF (Al f l)) (i*n) n=(f a).map toC:=by
 refine List.ext_getElem? fun o=>?_
 by_cases ho:o<n
 ·rw [C6 _ _ _ _ ho]
  have hl:o<((f a).map toC).length:=by rw [List.length_map,hf.len];exact ho
  rw [Xw hl]
  exact congrArg some (C5 (Vs hf h o _ (Xw hl)))
 ·rw [List.getElem?_eq_none (by rw [DM];omega),List.getElem?_eq_none (by rw [List.length_map,hf.len];omega)]
theorem Jp (hf:Elm n f): ∀ {l:List α} {i:Nat} {a:α},i<l.length→ ∀(o:Nat),((l.set i a).flatMap f)[o]?=if i*n≤o∧o<i*n+n then (f a)[o-i*n]? else (l.flatMap f)[o]?
 | [],_,_,h,_=>by simp at h
 | b::l,0,a,_,o=>by
   rw [List.set_cons_zero,List.flatMap_cons,List.flatMap_cons,Nat.zero_mul,Nat.zero_add,Nat.sub_zero]
   by_cases h:o<n
   ·rw [if_pos ⟨Nat.zero_le _,h⟩,List.getElem?_append_left (by rw [hf.len];exact h)]
   ·rw [if_neg (fun hh=>h hh.2),List.getElem?_append_right (by rw [hf.len];omega),List.getElem?_append_right (by rw [hf.len];omega),hf.len,hf.len]
 | b::l,i+1,a,h,o=>by
   rw [List.set_cons_succ,List.flatMap_cons,List.flatMap_cons]
   have e:(i+1)*n=i*n+n:=Nat.succ_mul i n
   by_cases ho:o<n
   ·rw [if_neg (fun hh=>by omega),List.getElem?_append_left (by rw [hf.len];exact ho),List.getElem?_append_left (by rw [hf.len];exact ho)]
   ·rw [List.getElem?_append_right (by rw [hf.len];omega),List.getElem?_append_right (by rw [hf.len];omega),hf.len,Jp hf (by simpa using h)]
    by_cases hh:(i+1)*n≤o∧o<(i+1)*n+n
    ·rw [if_pos hh,if_pos (by omega),show o-n-i*n=o-(i+1)*n by omega]
    ·rw [if_neg hh,if_neg (by omega)]
theorem Iz (hf:Elm n f) {σ:St} {ks:List Nat} {k:Nat} {l:List α} {i:Nat} {a:α} (hi:i<l.length) {cs:List C} (he:EntL cs ((f a).map toC)) (hz:σ.sz k=(Al f l).length:=by exact rfl) (hm:σ.m k=laid (FF (Al f l)) (i*n) cs:=by exact rfl):D0 σ ks (k,Al f (l.set i a)):=by
 have hl:(Al f (l.set i a)).length=(Al f l).length:=by rw [A5 hf,A5 hf,List.length_set]
 refine ⟨⟨hz.trans hl.symm,fun o c hc=>⟨?_,Dg hf _ c (List.mem_of_getElem? hc)⟩⟩,BM ks _⟩
 have hcl:cs.length=n:=by rw [he.len,List.length_map,hf.len]
 show Aa (σ.m k o) c
 rw [hm]
 replace hc:((l.set i a).flatMap f |>.map toC)[o]?=some c:=hc
 rw [List.getElem?_map,Jp hf hi] at hc
 by_cases ho:i*n≤o∧o<i*n+n
 ·rw [if_pos ho,←List.getElem?_map] at hc
  obtain ⟨q,rfl⟩: ∃q,o=i*n+q:=⟨o-i*n,by omega⟩
  rw [Nat.add_sub_cancel_left] at hc
  have hq:q<cs.length:=by omega
  rw [Dw (Xw hq)]
  exact he.get q _ c (Xw hq) hc
 ·rw [if_neg ho,←List.getElem?_map] at hc
  rw [DU (by omega)]
  exact Aa.of_eq (C5 hc)
theorem EE {a b c d:List C} (h:EntL a c) (k:EntL b d):EntL (a++b) (c++d):=by
 induction h with
 | nil=>exact k
 | cons h _ ih=>exact .cons h ih
theorem JU {zc:List Value} {a:α} (h:EntL (zc.map .v) ((f a).map toC)): ∀(c:Nat),EntL (AS c zc) (Al f (List.replicate c a))
 | 0=> .nil
 | c+1=>by
   show EntL (zc.map .v++AS c zc) _
   rw [List.replicate_succ,Al,List.flatMap_cons,List.map_append]
   exact EE h (JU h c)
theorem Hk (hf:Elm n f) {σ:St} {ks:List Nat} {k c:Nat} {zc:List Value} {a:α} {g:Nat→C} (h:EntL (zc.map .v) ((f a).map toC)) (hz:σ.sz k=(AS c zc).length:=by exact rfl) (hm:σ.m k=laid g 0 (AS c zc):=by exact rfl):D0 σ ks (k,Al f (List.replicate c a)):=by
 have he:=JU (f:=f) h c
 refine ⟨⟨hz.trans he.len,fun o d hd=>⟨?_,Dg hf _ d (List.mem_of_getElem? hd)⟩⟩,BM ks _⟩
 have hq:o<(AS c zc).length:=by rw [he.len];exact (List.getElem?_eq_some_iff.1 hd).1
 show Aa (σ.m k o) d
 rw [hm]
 have:=Dw (f:=g) (off:=0) (Xw hq)
 rw [Nat.zero_add] at this
 rw [this]
 exact he.get o _ d (Xw hq) hd
end
theorem OZ {α:Type} {n:Nat} {f:α→List D} (hf:Elm n f) {σ:St} {k:Nat} {l:List α} (hz:σ.sz k=(Al f l).length:=by exact rfl) (hm:JT (σ.m k) (Al f l):=by first|exact DT|exact Do):FzA σ k (.one (.gl k l.length n)) (.one (lsG n f l)):=
 .one (.gl (Fc hf.len l) (by rw [hz,A5 hf];exact Xv _) fun i d hd=>Aa.of_eq (hm i _ (by rw [List.getElem?_map,hd];rfl)))
theorem VJ {X:Ctx} {σ:St} {k:Nat} {ss:List (Nat×AV)} {bs:List (Nat×List C)} (h1: ∀p∈ss,FzA σ k (σ.s p.1) p.2) (h2: ∀p∈bs,D0 σ (bs.map (·.1)) p)
  (hb:((ss.all fun p=>inA (bs.map (·.1)) p.2)&&ndB (bs.map (·.1))&&(X.ps.all fun k=>(bs.map (·.1)).any (Nat.beq k))&&(!X.ps.any (Nat.beq k))&&(bs.all fun p=>!Nat.beq p.1 k))=true):Fk X σ k ss bs:=by
 simp only [Bool.and_eq_true,Bool.not_eq_true'] at hb
 refine ⟨h1,fun p hp=>⟨(h2 p hp).1.1,fun i c hc=>⟨.ent ((h2 p hp).1.2 i c hc).1,((h2 p hp).1.2 i c hc).2⟩⟩,hb.1.1.1.1,List.all_eq_true.2 fun p hp=>(h2 p hp).2,Ja hb.1.1.1.2,hb.1.1.2,fun hk=>?_,by
  refine List.all_eq_true.2 fun p hp=>?_
  exact List.all_eq_true.1 hb.2 p hp⟩
 have:=List.any_eq_false.1 hb.1.2 k hk
 simp at this
theorem Aa.glNil {k n:Nat} :Aa (.v (.slice none 0 0)) (.gl k 0 n):=fun W0 μ sz w x hx=>⟨none,0,hx,Xv _,fun _=>rfl,fun h=>absurd rfl h⟩
theorem Aa.glLen {k n a b:Nat} (h:a=b):Aa (.gl k a n) (.gl k b n):=h▸Aa.of_eq rfl
theorem Aa.int {k:IntKind} {a b:Int} (h:a=b):Aa (.v (.int k a)) (.v (.int k b)):=h▸Aa.of_eq rfl
theorem Sb {σ:St} {t m n:Nat} {cs:List C} (h:rdL (σ.m t) 0 (m*n)=cs:=by exact rfl) (hz:Nat.ble (m*n) (σ.sz t)=true:=by exact rfl):Srcs σ n (.gl t m n) m cs:=
 .gl (by rw [←h,DM]) (Nat.le_of_ble_eq_true hz) fun i c hc=>by
  rw [←h] at hc
  have hi:i<m*n:=by have:=(List.getElem?_eq_some_iff.1 hc).1;rwa [DM] at this
  rw [C6 _ _ _ _ hi,Nat.zero_add] at hc
  exact Option.some.inj hc
section
variable {P:Program} {X:Ctx} {σ:St} {α:Type} {f:α→List D} {n:Nat} {ty:TypeId} {pos:String} {af:Array Edge}
theorem Hq [hf:Elm n f] {t tx e e':TypeId} {agg agg':Bool} {n' bytes bytes':Nat} {zv zv':Value} [S:Sle P t e agg n bytes zv] [S':Sle P tx e' agg' n' bytes' zv'] {x y:Operand} {cx cy:C} {k m:Nat} {la:List α} {ns:List C} {d:Tmp} {ss:List (Nat×AV)} {bs:List (Nat×List C)} {Q:Exit→St→Prop} {tl:List Oper}
  (hD: ∀g,X.D g→ ∃k∈X.ps,g=(X.μ0 k).1) (hlen:(la.length+m)*bytes≤140737488355328∧la.length+m≤9223372036854775807) (hW:Wk X σ ss bs)
  (h:Tl P X Q tl (stL ((d,.one (.gl k (la.length+m) n))::ss) ((k,Al f la++ns)::bs)))
  (hx:evC σ.s x= .one cx:=by exact rfl) (hy:evC σ.s y= .one cy:=by exact rfl) (hsy:Srcs σ n cy m ns:=by first|exact Sb|exact .ls|exact .nil) (hbx:RN k n cx la.length:=by first|exact .gl|exact .nil)
  (hz:σ.sz k=(Al f la).length:=by exact rfl) (hm:JT (σ.m k) (Al f la):=by first|exact DT|exact Do)
  (hb:(Nat.blt d X.n&&(bs.all fun p=>!Nat.beq p.1 k)&&!X.ps.any (Nat.beq k))=true:=by exact rfl) (hns:(ns.all fun c=>nlB c&&inC (bs.map (·.1)) c)=true:=by exact rfl):
  Tl P X Q (⟨some d,.call ⟨.builtin .append,#[x,y],#[t,tx]⟩,ty,pos,af,none⟩::tl) σ:=by
 simp only [Bool.and_eq_true,Bool.not_eq_true'] at hb
 refine Wc rfl (NW (S:=S) ⟨_,S'.hu⟩ hD (by simpa using hb.1.1) hx hbx hy hsy (A5 hf la) (by rw [hz,A5 hf];exact Xv _) (fun i c hc=>hm i c hc) hlen.1 hlen.2 hW hb.1.2 (fun c hc=>?_) fun hk=>?_) h
 ·rcases List.mem_append.1 hc with h1|h1
  ·exact ⟨Dg hf la c h1,List.all_eq_true.1 (BM _ la) c h1⟩
  ·have h2:=List.all_eq_true.1 hns c h1
   rw [Bool.and_eq_true] at h2
   exact ⟨D4 h2.1,h2.2⟩
 ·have:=List.any_eq_false.1 hb.2 k hk
  simp at this
theorem Vr {ks:List Nat} {k:Nat} (hf:Elm n f) {la:List α} {cs:List C} {a:α} (he:EntL cs ((f a).map toC)) (hz:σ.sz k=(Al f la++cs).length:=by exact rfl) (hm:σ.m k=FF (Al f la++cs):=by exact rfl):D0 σ ks (k,Al f (la++ [a])):=by
 have e:Al f (la++ [a])=Al f la++(f a).map toC:=by simp [Al]
 have hcl:cs.length=((f a).map toC).length:=he.len
 refine ⟨⟨by show σ.sz k=_;rw [hz,e,List.length_append,List.length_append,hcl],fun i c hc=>⟨?_,Dg hf _ c (List.mem_of_getElem? hc)⟩⟩,BM ks _⟩
 show Aa (σ.m k i) c
 rw [hm]
 replace hc:(Al f (la++ [a]))[i]?=some c:=hc
 rw [e] at hc
 by_cases hi:i<(Al f la).length
 ·rw [List.getElem?_append_left hi] at hc
  exact Aa.of_eq (C5 (by rw [List.getElem?_append_left hi];exact hc))
 ·rw [List.getElem?_append_right (by omega)] at hc
  have hq:i-(Al f la).length<cs.length:=by rw [hcl];exact (List.getElem?_eq_some_iff.1 hc).1
  have h1:(Al f la++cs)[i]?=some cs[i-(Al f la).length]:=by rw [List.getElem?_append_right (by omega)];exact List.getElem?_eq_getElem hq
  rw [C5 h1]
  exact he.get _ _ c (Xw hq) hc
theorem Ub {ks:List Nat} {k:Nat} (hf:Elm n f) {la lb:List α} (hz:σ.sz k=(Al f la++Al f lb).length:=by exact rfl) (hm:σ.m k=FF (Al f la++Al f lb):=by exact rfl):D0 σ ks (k,Al f (la++lb)):=by
 have e:Al f (la++lb)=Al f la++Al f lb:=by simp [Al]
 refine ⟨⟨by show σ.sz k=_;rw [hz,e],fun i c hc=>⟨?_,Dg hf _ c (List.mem_of_getElem? hc)⟩⟩,BM ks _⟩
 show Aa (σ.m k i) c
 rw [hm]
 replace hc:(Al f (la++lb))[i]?=some c:=hc
 rw [e] at hc
 exact Aa.of_eq (C5 hc)
end
theorem Kw {W0 W1:World} {μ μ':Nat→Nat×Nat} {sz sz':Nat→Nat} {w:World} {k:Nat} {cs:List C} (h:Es W0 μ sz w k cs) (he:Ext W0 W1) (hk:μ' k=μ k) (hp:cs.all pfC=true):Es W1 μ' sz' w k cs:=by
 obtain ⟨a,e,h1,h2,h3,h4,h5,h6⟩:=h
 exact ⟨a,e,by rw [hk];exact h1,by rw [hk];exact h2,h3,h4,fun o x c hx hc=>((h5 o x c hx hc).mono (.refl _) (fun i hi=>⟨rfl,hi⟩) he).free (List.all_eq_true.1 hp c (List.mem_of_getElem? hc)),h6⟩
theorem Dd.freeze {P:Program} {A:World→Prop} {f:FuncId} {args:List AV} {bs:List (Nat×List C×List C)} {k:Nat} {α:Type} {n:Nat} {g:α→List D} (hg:Elm n g) {l:List α} (h:Dd P A f args bs [(k,Al g l)] (.one (.gl k l.length n))) (hb:(bs.all fun p=>p.2.2.all pfC)=true) (hkb: ∀p∈bs,p.1≠k) (ha:args.all pf0=true∨(args.all EO=true∧ ∀a∈args,inA (bs.map (·.1)) a=true)) (h1:(bs.all fun p=>p.2.1.all pfC)=true):
  B9 P A f args bs (.one (lsG n g l)):=by
 intro W0 w μ sz vs hA hk hbs hi hv
 have hcl: ∀i,i≠k→upd sz k 0 i=sz i:=fun i hi=>Cf hi
 refine (h W0 w μ (upd sz k 0) vs hA hk (fun p hp=>?_) hi (fun q hq=>by rw [List.mem_singleton.1 hq,AD]) ?_).mono ?_
 ·obtain ⟨g1,g2,g3,g4⟩:=hbs p hp
  exact ⟨by rw [hcl _ (hkb p hp)];exact g1,g2,g3,Kw g4 (.refl _) rfl (List.all_eq_true.1 h1 p hp)⟩
 ·refine ⟨hv.1,fun i v a hvi ha'=>?_⟩
  have hc:=hv.2 i v a hvi ha'
  have hm:=List.mem_of_getElem? ha'
  rcases ha with ha|⟨hn,ha⟩
  ·have hp:=List.all_eq_true.1 ha a hm
   cases a with
   | one c=>exact cc.free (c:=c) hc hp
   | agg cs=>exact cv0.free (c:= .agg cs) hc hp
   | junk=>trivial
   | tup l=>cases hp
  ·exact hc.keep (ha a hm) fun k' hk' h0=>by
    obtain ⟨p,hp,rfl⟩:=List.mem_map.1 hk'
    rw [hcl _ (hkb p hp)];exact h0
 ·rintro e w' ⟨r,μ',W',rfl,a1,a2,a3,a4,a5,a6,_⟩
  obtain ⟨b1,b2,ca,ce,c1,c2,c3,c4,c5,c6⟩:=a6 _ List.mem_cons_self
  simp only at b1 b2 c1 c2 c3 c5
  have hE:=F6 (.cells ca ce (0,0)) b2
  refine ⟨r,frz W' (μ' k).1 (.cells ca ce (0,0)),rfl,a1,⟨a2.ext.trans hE,fun g0 hg0=>?_,fun g0 hg0=>?_⟩,?_,fun p hp=>?_⟩
  ·rcases Dq hg0 with rfl|h1
   ·rw [Gv,c1]
   ·by_cases hgk:g0=(μ' k).1
    ·subst hgk;exact absurd h1 b2
    ·rw [a2.fr g0 h1,LE _ _ hgk (GX h1)]
  ·rcases Dq hg0 with rfl|h1
   ·exact .inr b1
   ·exact a2.new g0 h1
  ·obtain ⟨ao,cp,rfl,h2,_,h4⟩:=a4
   unfold cv cv0 cc dd
   refine ⟨Fc hg.len l,ao,cp,rfl,h2,fun hne=>?_⟩
   have hl:l.length≠0:=fun h0=>hne (by rw [List.eq_nil_of_length_eq_zero h0];rfl)
   obtain ⟨rfl,_,h6⟩:=h4 hl
   refine ⟨(μ' k).1,0,rfl,Hi fun i d hi=>?_⟩
   have hic:(Al g l)[i]?=some (toC d):=by rw [List.getElem?_map,hi];rfl
   have hia:i<ca.size:=by have:=(List.getElem?_eq_some_iff.1 hic).1;omega
   have h7:=c5 i _ _ (Array.getElem?_eq_getElem hia) hic
   rw [Nat.zero_add]
   refine ⟨ca[i],?_,c4 i _ (Array.getElem?_eq_getElem hia),?_⟩
   ·rw [World.cell?_of_block (w:=w') (by rw [Gv,c1]),cell_of_row w' _ _ ca ce (0,0) c1]
    exact Array.getElem?_eq_getElem hia
   ·exact Gx.1 (h7.mono (.refl _) (fun i hi=>⟨rfl,hi⟩) hE)
  ·refine Kw (a5 p hp) hE ?_ (List.all_eq_true.1 hb p hp)
   exact (a3 p.1 fun q hq=>by rw [List.mem_singleton.1 hq];exact Ne.symm (hkb p hp)).symm
section
variable {P:Program} {X:Ctx} {ops l:List Oper} {σ:St} {K:List Eff→St→Prop}
variable {dst:Option Tmp} {ty:TypeId} {pos:String} {af:Array Edge} {gd:Option (Nat×Bool)}
theorem DK {A:World→Prop} [MonoA A] (hA:A X.W0) {c:Call} {f:FuncId} [hF:Fun P f] {as caps:List AV} (ro:List (Nat×List C)) {R:AV} (hc:B9 P A f as (ro.map (fun p=>(p.1,p.2,p.2))++ []) R) (hg:gOk ops σ.s gd:=by first|exact trivial|exact rfl) (hd:dB X.n dst=true:=by exact rfl) (hcl:A9 σ.s c.callee=some (f,caps):=by exact rfl)
  (has:Ents (c.args.toList.map (evC σ.s)++caps) as:=by exact Ents.of_eq rfl) (hro: ∀p∈ro,rdL (σ.m p.1) 0 p.2.length=p.2:=by repeat (first|exact Ao|refine List.forall_mem_cons.2 ⟨rfl,?_⟩))
  (hb:(ro.all (fun p=>Ed σ.sz p.2.length p)&&([]:List (Nat×List C×List C)).all (fun p=>Ed σ.sz p.2.2.length (p.1,p.2.1))&&((ro.map (·.1)++([]:List (Nat×List C×List C)).map (·.1)).all fun k=>(c.args.toList.map (evC σ.s)++caps).any (EB k))&&ndB (ro.map (·.1)))=true:=by exact rfl)
  (hl:Ab P X ops l (σ.app dst ⟨R,ro.map (fun p=>(p.1,0,p.2)),[],[]⟩) (fun es σ'=>K (⟨R,ro.map (fun p=>(p.1,0,p.2)),[],[]⟩::es) σ')):Ab P X ops (⟨dst,.call c,ty,pos,af,gd⟩::l) σ K:=by
 simp only [Bool.and_eq_true] at hb
 have hc':B9 P A f (c.args.toList.map (evC σ.s)++caps) (ro.map (fun p=>(p.1,p.2,p.2))++ []) R:=B9.weak hc has Ent.same
 have hS:=E4 (X:=X) (dst:=dst) (ty:=ty) (pos:=pos) (af:=af) (gd:=gd) (s:=σ.s) (z:=σ.sz) hA (c:=c) (caps:=caps) (ro:=ro) (rw:= []) (ns:= []) (ord:=ro) (R:=R) (CH hd) hcl rfl hc'.g hb.1.1.1 rfl (by simpa using Ja hb.2) (by
  have key: ∀(r done:List (Nat×List C)),(∀p∈r,(c.args.toList.map (evC σ.s)++caps).any (EB p.1)=true)→EV (c.args.toList.map (evC σ.s)++caps) done r=true:=by
   intro r
   induction r with
   | nil=>intro _ _;rfl
   | cons p r ih=>
     intro done h
     show ((List.any _ (EB p.1) || _)&&_)=true
     rw [h p List.mem_cons_self,ih _ fun q hq=>h q (List.mem_cons_of_mem _ hq)]
     rfl
  refine key _ _ fun p hp=>?_
  exact List.all_eq_true.1 hb.1.2 p.1 (List.mem_append.2 (.inl (List.mem_map.2 ⟨p,hp,rfl⟩)))) (fun p hp=>hp) (fun p hp=>by cases hp) (fun q hq=> .inl hq)
 simp only [List.map_nil,List.append_nil] at hS
 refine .of (fun _ _ hl=>Run.step hg hS (fun p hp i c' hi=>?_) B7 hl) hl
 obtain ⟨q,hq,rfl⟩:=List.mem_map.1 hp
 have hlt:=(List.getElem?_eq_some_iff.1 hi).1
 have h2:=C6 (σ.m q.1) q.2.length 0 i hlt
 rw [hro q hq] at h2
 exact (Option.some.inj (h2.symm.trans hi))
theorem Ps {A:World→Prop} [MonoA A] (hA:A X.W0) {c:Call} {f:FuncId} [hF:Fun P f] {as:List AV} {k len n:Nat} {b d:List C} {R:AV} (hc:B9 P A f as [(k,b,d)] R) (hlen:0<len∧b.length=d.length∧0<b.length) (hg:gOk ops σ.s gd:=by first|exact trivial|exact rfl) (hd:dB X.n dst=true:=by exact rfl) (hcl:A9 σ.s c.callee=some (f,[]):=by exact rfl)
  (has:Ents (c.args.toList.map (evC σ.s)) as:=by exact Ents.of_eq rfl) (hm1:c.args.toList.map (evC σ.s)= .one (.gl k len n)::as.tail:=by exact rfl) (hz:σ.sz k=b.length:=by exact rfl) (hm:JT (σ.m k) b:=by first|exact DT|exact Do)
  (hl:Ab P X ops l (σ.app dst ⟨R,[(k,0,b)],[(k,0,d)],[]⟩) (fun es σ'=>K (⟨R,[(k,0,b)],[(k,0,d)],[]⟩::es) σ')):Ab P X ops (⟨dst,.call c,ty,pos,af,gd⟩::l) σ K:=by
 have hc':B9 P A f (c.args.toList.map (evC σ.s)++ []) (([]:List (Nat×List C)).map (fun p=>(p.1,p.2,p.2))++ [(k,b,d)]) R:=by
  rw [List.append_nil];exact B9.weak hc has Ent.same
 have hS:=E4 (X:=X) (dst:=dst) (ty:=ty) (pos:=pos) (af:=af) (gd:=gd) (s:=σ.s) (z:=σ.sz) hA (c:=c) (caps:= []) (ro:= []) (rw:= [(k,b,d)]) (ns:= []) (ord:= [(k,b)]) (R:=R) (CH hd) hcl rfl hc'.g rfl (by
  simp only [List.all_cons,List.all_nil,Bool.and_true,Ed,Bool.and_eq_true,Nat.beq_eq,Nat.blt_eq]
  exact ⟨⟨hz,hlen.2.2⟩,hlen.2.1.symm⟩) (by simp) (by
  rw [List.append_nil,hm1]
  have h0:Nat.blt 0 len=true:=by simpa using hlen.1
  show ((List.any _ (EB k) || _)&&true)=true
  rw [List.any_cons]
  show ((((Nat.beq k k&&Nat.blt 0 len) || _) || _)&&true)=true
  rw [h0,Nat.beq_refl]
  rfl) (fun p hp=>by cases hp) (fun p hp=>by rw [List.mem_singleton.1 hp];exact List.mem_cons_self) (fun q hq=>by rw [List.mem_singleton.1 hq];exact .inr ⟨d,List.mem_cons_self⟩)
 refine .of (fun _ _ hl=>Run.step hg hS (fun p hp i c' hi=>?_) B7 hl) hl
 have hp':p=(k,0,b):=by simpa using hp
 subst hp'
 show σ.m k (0+i)=c'
 rw [Nat.zero_add]
 exact hm i c' hi
end
def Im {α:Type} (f:α→List D) (m:Nat→C) (l:List α):Prop:= ∀(o:Nat) c,(Al f l)[o]?=some c→Aa (m o) c
theorem Im.base {α:Type} {f:α→List D} {l:List α} :Im f (FF (Al f l)) l:=fun o c hc=>Aa.of_eq (C5 hc)
theorem Im.set {α:Type} {n:Nat} {f:α→List D} (hf:Elm n f) {m:Nat→C} {l:List α} (h:Im f m l) {i:Nat} {a:α} {cs:List C} (hi:i<l.length) (he:EntL cs ((f a).map toC)):Im f (laid m (i*n) cs) (l.set i a):=fun o c hc=>by
 have hcl:cs.length=n:=by rw [he.len,List.length_map,hf.len]
 replace hc:((l.set i a).flatMap f |>.map toC)[o]?=some c:=hc
 rw [List.getElem?_map,Jp hf hi] at hc
 by_cases ho:i*n≤o∧o<i*n+n
 ·rw [if_pos ho,←List.getElem?_map] at hc
  obtain ⟨q,rfl⟩: ∃q,o=i*n+q:=⟨o-i*n,by omega⟩
  rw [Nat.add_sub_cancel_left] at hc
  have hq:q<cs.length:=by omega
  rw [Dw (Xw hq)]
  exact he.get q _ c (Xw hq) hc
 ·rw [if_neg ho,←List.getElem?_map] at hc
  rw [DU (by omega)]
  exact h o c hc
theorem Im.whole {α:Type} {f:α→List D} {m:Nat→C} {l:List α} :Im f (laid m 0 (Al f l)) l:=fun o c hc=>by
 have ho:=(List.getElem?_eq_some_iff.1 hc).1
 have:=Dw (f:=m) (off:=0) hc
 rw [Nat.zero_add] at this
 rw [this]
 exact Aa.of_eq rfl
theorem Qc {α:Type} {n:Nat} {f:α→List D} (hf:Elm n f) {σ:St} {ks:List Nat} {k z:Nat} {l:List α} {m:Nat→C} (h:Im f m l) (hl:z=l.length*n) (hz:σ.sz k=z:=by exact rfl) (hm:σ.m k=m:=by exact rfl):D0 σ ks (k,Al f l):=
 ⟨⟨by show σ.sz k=_;rw [hz,hl,A5 hf],fun i c hc=>⟨by show Aa (σ.m k i) c;rw [hm];exact h i c hc,Dg hf _ c (List.mem_of_getElem? hc)⟩⟩,BM ks l⟩
section
variable {P:Program} {X:Ctx} {ops l:List Oper} {σ:St} {K:List Eff→St→Prop}
variable {dst:Option Tmp} {ty:TypeId} {pos:String} {af:Array Edge} {gd:Option (Nat×Bool)}
theorem EZ {A:World→Prop} [MonoA A] (hA:A X.W0) {c:Call} {f:FuncId} [hF:Fun P f] {as caps:List AV} (ro:List (Nat×List C)) {k:Nat} {cs:List C} {R:AV} (hc:Dd P A f as (ro.map (fun p=>(p.1,p.2,p.2))++ []) [(k,cs)] R) (hne:0<cs.length) (hg:gOk ops σ.s gd:=by first|exact trivial|exact rfl) (hd:dB X.n dst=true:=by exact rfl) (hcl:A9 σ.s c.callee=some (f,caps):=by exact rfl)
  (has:Ents (c.args.toList.map (evC σ.s)++caps) as:=by exact Ents.of_eq rfl) (hro: ∀p∈ro,rdL (σ.m p.1) 0 p.2.length=p.2:=by repeat (first|exact Ao|refine List.forall_mem_cons.2 ⟨rfl,?_⟩))
  (hb:(ro.all (fun p=>Ed σ.sz p.2.length p)&&((ro.map (·.1)).all fun k=>(c.args.toList.map (evC σ.s)++caps).any (EB k))&&ndB (ro.map (·.1))&&Nat.beq (σ.sz k) 0)=true:=by exact rfl)
  (hl:Ab P X ops l (σ.app dst ⟨R,ro.map (fun p=>(p.1,0,p.2)),[],[(k,cs)]⟩) (fun es σ'=>K (⟨R,ro.map (fun p=>(p.1,0,p.2)),[],[(k,cs)]⟩::es) σ')):Ab P X ops (⟨dst,.call c,ty,pos,af,gd⟩::l) σ K:=by
 simp only [Bool.and_eq_true] at hb
 have hc':Dd P A f (c.args.toList.map (evC σ.s)++caps) (ro.map (fun p=>(p.1,p.2,p.2))++ []) [(k,cs)] R:=Dd.weak hc has Ent.same
 have hS:=E4 (X:=X) (dst:=dst) (ty:=ty) (pos:=pos) (af:=af) (gd:=gd) (s:=σ.s) (z:=σ.sz) hA (c:=c) (caps:=caps) (ro:=ro) (rw:= []) (ns:= [(k,cs)]) (ord:=ro) (R:=R) (CH hd) hcl rfl hc' hb.1.1.1 rfl (by simpa using Ja hb.1.2) (by
  have key: ∀(r done:List (Nat×List C)),(∀p∈r,(c.args.toList.map (evC σ.s)++caps).any (EB p.1)=true)→EV (c.args.toList.map (evC σ.s)++caps) done r=true:=by
   intro r
   induction r with
   | nil=>intro _ _;rfl
   | cons p r ih=>
     intro done h
     show ((List.any _ (EB p.1) || _)&&_)=true
     rw [h p List.mem_cons_self,ih _ fun q hq=>h q (List.mem_cons_of_mem _ hq)]
     rfl
  exact key _ _ fun p hp=>List.all_eq_true.1 hb.1.1.2 p.1 (List.mem_map.2 ⟨p,hp,rfl⟩)) (fun p hp=>hp) (fun p hp=>by cases hp) (fun q hq=> .inl hq)
 simp only [List.map_nil,List.append_nil] at hS
 refine .of (fun _ _ hl=>Run.step hg hS (fun p hp i c' hi=>?_) (DZ (Nat.eq_of_beq_eq_true hb.2) fun h0=>by rw [h0] at hne;cases hne) hl) hl
 obtain ⟨q,hq,rfl⟩:=List.mem_map.1 hp
 have hlt:=(List.getElem?_eq_some_iff.1 hi).1
 have h2:=C6 (σ.m q.1) q.2.length 0 i hlt
 rw [hro q hq] at h2
 exact (Option.some.inj (h2.symm.trans hi))
end
end Go.Proofs.YtfineedhebhpaaaGreatDoor
