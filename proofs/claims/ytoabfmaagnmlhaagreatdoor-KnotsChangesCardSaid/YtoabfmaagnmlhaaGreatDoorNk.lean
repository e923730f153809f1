/-
  The iterator over runs of equal knots: its contract.
-/
import Derived.RangeFuncNested
import Derived.RangeFuncBound
import Derived.RangeFuncCalls
import Derived.RangeFuncLeaves
import Derived.OwnWalkIn
import Derived.TacticsInMore
import Derived.LoopNIn
import Derived.LoopIn
import Derived.Test.YtoabfmaagnmlhaaGreatDoorHn
namespace Go.Proofs.YtoabfmaagnmlhaaGreatDoor
open Nat renaming le_refl→UG
open Go.RowKit
attribute [local go_sem] Oper.semAt_some
set_option linter.unusedVariables false
set_option linter.unusedSimpArgs false
set_option maxRecDepth 20000
set_option maxHeartbeats 4000000
structure KpC (D:Nat→Prop) (w w':World):Prop where
 os:w'.os=w.os
 tape:w'.tape=w.tape
 output:w'.output=w.output
 size:w.heap.size≤w'.heap.size
 block: ∀(k:Nat) (c:Array Value) (e:TypeId) (fz:Nat×Nat),w.heap[k]?=some (.cells c e fz)→ ¬D k→w'.heap[k]?=some (.cells c e fz)
 row:(∀(k:Nat) (c:Array Value) (e:TypeId) (fz:Nat×Nat),D k→w.heap[k]?=some (.cells c e fz)→ ∀(i:Nat) (n:Int),c[i]?≠some (.int .u32 n))→ ∀(k:Nat) (c:Array Value) (e:TypeId) (fz:Nat×Nat),D k→w'.heap[k]?=some (.cells c e fz)→ ∀(i:Nat) (n:Int),c[i]?≠some (.int .u32 n)
def NoU (D:Nat→Prop) (w:World):Prop:= ∀(k:Nat) (c:Array Value) (e:TypeId) (fz:Nat×Nat),D k→w.heap[k]?=some (.cells c e fz)→ ∀(i:Nat) (n:Int),c[i]?≠some (.int .u32 n)
theorem KpC.trans {D:Nat→Prop} {a b c:World} (h:KpC D a b) (k:KpC D b c):KpC D a c:=
 ⟨k.os.trans h.os,k.tape.trans h.tape,k.output.trans h.output,Nat.le_trans h.size k.size,fun g x e fz hg hd=>k.block g x e fz (h.block g x e fz hg hd) hd,fun hn=>k.row (h.row hn)⟩
theorem KpC.of_kd {D:Nat→Prop} {w w':World} (h:Kd (fun _=>False) w w') (hD: ∀k,D k→k<w.heap.size):KpC D w w':=
 ⟨h.os,h.tape,h.output,h.size,fun k c e fz hk _=>(h.block k (Array.getElem?_eq_some_iff.1 hk).1 id).trans hk,fun hn k c e fz hd hk=>hn k c e fz hd ((h.block k (hD k hd) id).symm.trans hk)⟩
theorem KpC.of_below {D:Nat→Prop} {w w':World} (h:Below w.heap.size w w') (hD: ∀k,D k→k<w.heap.size):KpC D w w':=
 ⟨h.os,h.tape,h.output,h.size,fun k c e fz hk _=>(h.block k (Array.getElem?_eq_some_iff.1 hk).1).trans hk,fun hn k c e fz hd hk=>hn k c e fz hd ((h.block k (hD k hd)).symm.trans hk)⟩
theorem KpC.put {D:Nat→Prop} (W:World) {l:Nat} {o:Obj} (o':Obj) (hl:W.heap[l]?=some o) (ho:o.isCells=false) (hD: ¬D l):KpC D W (W.putObj l o'):=by
 have hne: ∀k,k≠l→(W.putObj l o').heap[k]?=W.heap[k]?:=fun k hk=>World.putObj_heap_other hk
 refine ⟨rfl,rfl,rfl,by simp,fun k c e fz hk _=>?_,fun hn k c e fz hd hk=>?_⟩
 ·have:k≠l:=fun e=>by subst e;rw [hk] at hl;cases hl;cases ho
  rw [hne k this];exact hk
 ·have:k≠l:=fun e=>hD (e▸hd)
  rw [hne k this] at hk
  exact hn k c e fz hd hk
theorem KpC.fr {D:Nat→Prop} {W0 w w':World} (h:KpC D w w') (hF:Fr W0 w) (hn: ∀g,alive W0 g→ ¬D g):Fr W0 w':=fun g hg=>by
 obtain ⟨c,e,fz,h1,h2⟩:=hg
 have h3:=hF g ⟨c,e,fz,h1,h2⟩
 rw [h1] at h3⊢
 exact h.block g c e fz h3 (hn g ⟨c,e,fz,h1,h2⟩)
theorem KpC.kl {D:Nat→Prop} {w w':World} (h:KpC D w w') (hn:NoU D w):Kl w w':=⟨h.size,fun g c e fz hg hu=>by
 rw [hg]
 refine h.block g c e fz hg fun hd=>?_
 obtain ⟨i,n,hi⟩:=hu
 exact hn g c e fz hd hg i n hi⟩
theorem Kd.grown {w w':World} (h:Kd (fun _=>False) w w'):w.grownBy w' none:=⟨h.os,h.tape,h.output,h.size,fun k hk _=>h.block k hk id⟩
abbrev X0 (W0 B:World) (n:Nat):Ctx:=⟨W0,B,fun _=>False,n,[],fun _=>(0,0)⟩
theorem SU {W0 B w:World} {n:Nat} {ss:List (Nat×AV)} {a:Act} (hF:Fr W0 w) (hk:Kd (fun _=>False) B w) (hd:a.defers= []) (hs:a.tmps.size=n) (h: ∀p∈ss,cv W0 (fun _=>(0,0)) (fun _=>0) w (a.tmps.getD p.1 undef) p.2):CN (X0 W0 B n) (stL ss []) a w:=
 C0.cn ⟨fun _=>(0,0),hF,hk,hd,hs,fun t=>by
  show cv W0 (fun _=>(0,0)) (fun _=>0) w (a.tmps.getD t undef) (lk .junk ss t)
  rcases D8 (d:=AV.junk) (l:=ss) (k:=t) with h1|h1
  ·rw [h1];exact trivial
  ·exact h _ h1,fun k hk=>absurd rfl hk,fun k _ hk=>absurd rfl hk,fun k hk=>absurd rfl hk,fun k hk=>by cases hk⟩
theorem Rh {W0 B w:World} {n:Nat} {ss:List (Nat×AV)} {a:Act} (h:CN (X0 W0 B n) (stL ss []) a w): ∃W1,GS (X0 W0 B n) W1∧Fr W1 w∧Kd (fun _=>False) B w∧a.defers= []∧a.tmps.size=n∧ ∀t,cv W1 (fun _=>(0,0)) (fun _=>0) w (a.tmps.getD t undef) (lk .junk ss t):=by
 obtain ⟨W1,hg,μ,h⟩:=h
 exact ⟨W1,hg,h.w0,h.kd,h.defers,h.size,fun t=>(h.slot t).mono (Kl.refl w) fun i hi=>absurd rfl hi⟩
theorem Mb {P:Program} {x y:Code} {Q:Exit→Act→World→Prop} {X:Ctx} {σ:St} {ss:List (Nat×AV)} {a:Act} {w:World} (hc:CN X σ a w) (h:Aw P X x σ (fun e σ'=>e= .normal∧Wk X σ' ss [])) (k: ∀a' w',CN X (stL ss []) a' w'→y.wp P Q a' w'):(Code.seq x y).wp P Q a w:=
 wp_seq (wp_mono (h a w hc) fun e a' w' ⟨σ',⟨he,hk⟩,hc'⟩=>by subst he;exact k a' w' (hk.cn hc'))
theorem I9 {P:Program} {x:Code} {Q:Exit→Act→World→Prop} {X:Ctx} {σ:St} {ss:List (Nat×AV)} {id:Exit} {a:Act} {w:World} (hc:CN X σ a w) (h:Aw P X x σ (fun e σ'=>e=id∧Wk X σ' ss [])) (k: ∀a' w',CN X (stL ss []) a' w'→Q id a' w'):x.wp P Q a w:=
 wp_mono (h a w hc) fun e a' w' ⟨σ',⟨he,hk⟩,hc'⟩=>by subst he;exact k a' w' (hk.cn hc')
theorem Uh {P:Program} {c:Code} {Q:Exit→Act→World→Prop} (I:Nat→Act→World→Prop) (round: ∀n a w,I n a w→c.wp P (Exit.then (fun a' w'=> ∃m,m<n∧I m a' w') Q) a w): ∀n a w,I n a w→(Code.loop c).wp P Q a w:=by
 intro n a w hI b k cs
 have key: ∀n a w,I n a w→ ∃e a' w',Q e a' w'∧Arrives P (lone (b.at a (.code c:: .inLoop c::k)) cs w) b k cs e a' w':=by
  intro n
  induction n using Nat.strongRecOn with
  | _ n ih=>
    intro a w hI
    obtain ⟨e,a₁,w₁,hq,harr⟩:=round n a w hI b (.inLoop c::k) cs
    cases e with
    | normal=>
      obtain ⟨m,hlt,hI₁⟩:=hq
      obtain ⟨e₂,a₂,w₂,hq₂,harr₂⟩:=ih m hlt a₁ w₁ hI₁
      exact ⟨e₂,a₂,w₂,hq₂,.of_steps (Steps.trans harr (.one step_inLoop)) harr₂⟩
    | exit id=>exact ⟨_,a₁,w₁,hq,.pass (x:= .inLoop c) rfl (fun _ _=> .inl (by simp)) harr⟩
    | goto l=>exact ⟨_,a₁,w₁,hq,.pass (x:= .inLoop c) rfl (fun _ _=> .inl (by simp)) harr⟩
    | ret=>exact ⟨_,a₁,w₁,hq,.pass (x:= .inLoop c) rfl (fun _ _=> .inl (by simp)) harr⟩
    | panic ch=>exact ⟨_,a₁,w₁,hq,.pass (x:= .inLoop c) rfl (fun _ _=> .inl (by simp)) harr⟩
    | outgrown=>exact ⟨_,a₁,w₁,hq,.pass (x:= .inLoop c) rfl (fun _ _=> .inl (by simp)) harr⟩
 obtain ⟨e,a',w',hq,harr⟩:=key n a w hI
 exact ⟨e,a',w',hq,.of_steps (.one step_loop) harr⟩
abbrev Rn (l:List Rat):= {x:Nat×Nat//x.1<x.2∧x.2≤l.length}
def ID (l:List Rat):(n i f:Nat)→i+n=l.length→f≤i→List (Rn l)
 | 0,_,_,_,_=> []
 | n+1,i,f,h,hf=>if i+1<l.length∧l.getD i 0=l.getD (i+1) 0 then ID l n (i+1) f (by omega) (by omega) else ⟨(f,i+1),by omega,by omega⟩::ID l n (i+1) (i+1) (by omega) (UG _)
theorem RV {l:List Rat} {n i f:Nat} {h:i+(n+1)=l.length} {hf:f≤i} (hq:i+1<l.length∧l.getD i 0=l.getD (i+1) 0):ID l (n+1) i f h hf=ID l n (i+1) f (by omega) (by omega):=if_pos hq
theorem RU {l:List Rat} {n i f:Nat} {h:i+(n+1)=l.length} {hf:f≤i} (hq: ¬(i+1<l.length∧l.getD i 0=l.getD (i+1) 0)):ID l (n+1) i f h hf=⟨(f,i+1),by omega,by omega⟩::ID l n (i+1) (i+1) (by omega) (UG _):=if_neg hq
def Fn (l:List Rat):List (Rn l):=ID l l.length 0 0 (by omega) (UG _)
abbrev TA (l:List Rat) (x:Rn l):Array Value:= #[.int .i64 (x.1.1:Nat),.int .i64 (x.1.2:Nat)]
theorem Tk (n:Nat) (a:Option Addr) (len cap:Nat) (w:World):CallsIn Fence.wide n Tryz.prog 62 #[.slice a len cap] w fun e w'=>e= .returned (.func (.func 104) #[] #[.pointer (some ⟨w.heap.size,0,none⟩)])∧w'=w.alloc (.cells #[.slice a len cap] 25):=by
 refine callsIn_of_wp Tryz.func62 rfl trivial ?_ rfl
 simp only [Tryz.ntmps62,List.size_toArray,List.length_cons,List.length_nil,Nat.reduceAdd,Nat.reduceSub,Array.replicate_succ,Array.replicate_zero,List.push_toArray,List.append_toArray,List.nil_append,List.cons_append]
 gi_wp2
 go_ret
 exact ⟨rfl,rfl⟩
theorem QC {j k:Nat} {x y:Rat} {b:Bool} (h:decide (x=y)=b):Ctr Tryz.prog Amb 63 [nm j x,nm k y] (.one (.v (.bool b))):=h▸TL
theorem AQ {α:Type} {l:List α} {n:Nat} (h:l.length=n+1): ∃x m,l=x::m∧m.length=n:=by
 cases l with
 | nil=>cases h
 | cons x m=>exact ⟨x,m,rfl,by simpa using h⟩
theorem Ui (t:Array Value) (h:t.size=36): ∃x0 x1 x2 x3 x4 x5 x6 x7 x8 x9 x10 x11 x12 x13 x14 x15 x16 x17 x18 x19 x20 x21 x22 x23 x24 x25 x26 x27 x28 x29 x30 x31 x32 x33 x34 x35:Value,t= #[x0,x1,x2,x3,x4,x5,x6,x7,x8,x9,x10,x11,x12,x13,x14,x15,x16,x17,x18,x19,x20,x21,x22,x23,x24,x25,x26,x27,x28,x29,x30,x31,x32,x33,x34,x35]:=by
 obtain ⟨l⟩:=t
 have h0:l.length=36:=h
 clear h
 obtain ⟨x0,l0,e0,h1⟩:=AQ h0
 obtain ⟨x1,l1,e1,h2⟩:=AQ h1
 obtain ⟨x2,l2,e2,h3⟩:=AQ h2
 obtain ⟨x3,l3,e3,h4⟩:=AQ h3
 obtain ⟨x4,l4,e4,h5⟩:=AQ h4
 obtain ⟨x5,l5,e5,h6⟩:=AQ h5
 obtain ⟨x6,l6,e6,h7⟩:=AQ h6
 obtain ⟨x7,l7,e7,h8⟩:=AQ h7
 obtain ⟨x8,l8,e8,h9⟩:=AQ h8
 obtain ⟨x9,l9,e9,h10⟩:=AQ h9
 obtain ⟨x10,l10,e10,h11⟩:=AQ h10
 obtain ⟨x11,l11,e11,h12⟩:=AQ h11
 obtain ⟨x12,l12,e12,h13⟩:=AQ h12
 obtain ⟨x13,l13,e13,h14⟩:=AQ h13
 obtain ⟨x14,l14,e14,h15⟩:=AQ h14
 obtain ⟨x15,l15,e15,h16⟩:=AQ h15
 obtain ⟨x16,l16,e16,h17⟩:=AQ h16
 obtain ⟨x17,l17,e17,h18⟩:=AQ h17
 obtain ⟨x18,l18,e18,h19⟩:=AQ h18
 obtain ⟨x19,l19,e19,h20⟩:=AQ h19
 obtain ⟨x20,l20,e20,h21⟩:=AQ h20
 obtain ⟨x21,l21,e21,h22⟩:=AQ h21
 obtain ⟨x22,l22,e22,h23⟩:=AQ h22
 obtain ⟨x23,l23,e23,h24⟩:=AQ h23
 obtain ⟨x24,l24,e24,h25⟩:=AQ h24
 obtain ⟨x25,l25,e25,h26⟩:=AQ h25
 obtain ⟨x26,l26,e26,h27⟩:=AQ h26
 obtain ⟨x27,l27,e27,h28⟩:=AQ h27
 obtain ⟨x28,l28,e28,h29⟩:=AQ h28
 obtain ⟨x29,l29,e29,h30⟩:=AQ h29
 obtain ⟨x30,l30,e30,h31⟩:=AQ h30
 obtain ⟨x31,l31,e31,h32⟩:=AQ h31
 obtain ⟨x32,l32,e32,h33⟩:=AQ h32
 obtain ⟨x33,l33,e33,h34⟩:=AQ h33
 obtain ⟨x34,l34,e34,h35⟩:=AQ h34
 obtain ⟨x35,l35,e35,h36⟩:=AQ h35
 have e36:=List.length_eq_zero_iff.1 h36
 subst e36 e35 e34 e33 e32 e31 e30 e29 e28 e27 e26 e25 e24 e23 e22 e21 e20 e19 e18 e17 e16 e15 e14 e13 e12 e11 e10 e9 e8 e7 e6 e5 e4 e3 e2 e1 e0
 exact ⟨x0,x1,x2,x3,x4,x5,x6,x7,x8,x9,x10,x11,x12,x13,x14,x15,x16,x17,x18,x19,x20,x21,x22,x23,x24,x25,x26,x27,x28,x29,x30,x31,x32,x33,x34,x35,rfl⟩
abbrev DR (j:Nat) (l:List Rat):C:= .fp [.lst 3 l.length (l.flatMap (nmD j))]
theorem Pv {l:List Rat} {j:Nat} (hl:l.length≤1000000) {D:Nat→Prop} {W0 W:World} (hA:Amb W0) (hal: ∀g,alive W0 g→ ¬D g) (hDW: ∀g,D g→g<W.heap.size) (hNU:NoU D W) (hF:Fr W0 W) {pv:Value} (hpv:cv W0 (fun _=>(0,0)) (fun _=>0) W pv (.one (DR j l)))
  {n l':Nat} {J Jx:List (Rn l)→World→Prop} (hJ:AbidesFrom W.heap.size J)
  (hY: ∀pre x W1,J pre W1→pre.length<(Fn l).length→YieldAt Fence.wide n Tryz.prog l' (TA l x) W1 fun e W'=>(e= .returned (.bool true)∧J (pre++ [x]) W'∧KpC D W1 W')∨(e= .returned (.bool false)∧Jx (pre++ [x]) W')) (h0:J [] W):
  Calls Tryz.prog 104 #[.func (.yield l') #[] #[],pv] W fun e W'=>(∃v,e= .returned v)∧((∃xs,xs=Fn l∧J xs W')∨(∃pre,pre<+:Fn l∧Jx pre W')):=by
 refine calls_of_wp Tryz.func104 rfl ?_
 obtain ⟨yv,hyv⟩: ∃yv:Value,yv= .func (.yield l') #[] #[]:=⟨_,rfl⟩
 rw [←hyv]
 simp only [Tryz.ntmps104,List.size_toArray,List.length_cons,List.length_nil,Nat.reduceAdd,Nat.reduceSub,Array.replicate_succ,Array.replicate_zero,List.push_toArray,List.append_toArray,List.nil_append,List.cons_append]
 refine Mb (X:=X0 W0 W 36) (σ:=stL [(0,.one (.v yv)),(1,.one (DR j l))] []) (ss:= [(0,.one (.v yv)),(1,.one (DR j l)),(3,AK 0)]) (SU hF (Kd.refl _ _) rfl rfl (List.forall_mem_cons.2 ⟨rfl,List.forall_mem_cons.2 ⟨hpv,Ac⟩⟩)) ?_ ?_
 ·repeat (first
   | refine Aq ?_|refine Ah ?_|refine Af rfl ?_|refine Ag rfl ?_
   | ((first|refine Ae (by kernel_rfl) ?_|refine Ak (by kernel_rfl) (by kernel_rfl) (by kernel_rfl) ?_)
      repeat (first
       | refine AN (hl:=?_)
       | refine Al (hl:=?_)
       | refine Ad (hl:=?_)
       | refine As (hl:=?_)
       | refine Ax (hl:=?_)
       | refine Ab (hl:=?_)
       | refine BI (hl:=?_)
       | refine AH (hl:=?_)
       | refine AI (hl:=?_)
       | refine AC (hl:=?_)
       | refine AB (hl:=?_)
       | refine AD (hl:=?_)
       | refine Au (hl:=?_)
       | refine Ao (hl:=?_))
      apply Ai.nil;try refine And.intro (by kernel_rfl) ?_)
   | refine Am ?_|refine An ?_)
  try refine And.intro rfl ?_
  refine AT ?_ ?_ rfl
  ·repeat (first|exact Ac|(refine List.forall_mem_cons.2 ⟨?_,?_⟩;focus (first|exact Ent.of_eq rfl|(refine Ent.one' rfl ?_;(first|exact Aa.ratsLe (by omega)|exact Aa.ratsNil|exact Aa.glNil|(refine Aa.int ?_;omega)|(refine Aa.glLen ?_;first|omega|simp)|exact Aa.of_eq rfl|(refine Aa.q rfl ?_;omega)|exact Z0 _|exact Z2 _|exact Aa.z0 (k:=0)|exact Aa.z1 (k:=0)|exact Aa.z2 (k:=0)|exact Aa.z0|exact Aa.z1|exact Aa.z2))|(refine Ent.agg' rfl ?_;(repeat (first|exact EntL.nil' rfl|(refine EntL.cons' rfl ?_ ?_;focus (first|exact Aa.ratsLe (by omega)|exact Aa.ratsNil|exact Aa.glNil|(refine Aa.int ?_;omega)|(refine Aa.glLen ?_;first|omega|simp)|exact Aa.of_eq rfl|(refine Aa.q rfl ?_;omega)|exact Z0 _|exact Z2 _|exact Aa.z0 (k:=0)|exact Aa.z1 (k:=0)|exact Aa.z2 (k:=0)|exact Aa.z0|exact Aa.z1|exact Aa.z2))));done))))
  ·repeat (first|exact Ac|(refine List.forall_mem_cons.2 ⟨?_,?_⟩;focus (first|exact Ap inferInstance|(refine AG rfl ?_ rfl;focus ((repeat (first|exact EntL.nil' rfl|(refine EntL.cons' rfl ?_ ?_;focus (first|exact Aa.ratsLe (by omega)|exact Aa.ratsNil|exact Aa.glNil|(refine Aa.int ?_;omega)|(refine Aa.glLen ?_;first|omega|simp)|exact Aa.of_eq rfl|(refine Aa.q rfl ?_;omega)|exact Z0 _|exact Z2 _|exact Aa.z0 (k:=0)|exact Aa.z1 (k:=0)|exact Aa.z2 (k:=0)|exact Aa.z0|exact Aa.z1|exact Aa.z2))));done)))))
 intro a1 w1 hc1
 refine Mb (ss:= [(0,.one (.v yv)),(1,.one (DR j l)),(3,AK 0),(6,AK (l.length:Nat)),(7,AK 0)]) hc1 ?_ ?_
 ·repeat (first
   | refine Aq ?_|refine Ah ?_|refine Af rfl ?_|refine Ag rfl ?_
   | ((first|refine Ae (by kernel_rfl) ?_|refine Ak (by kernel_rfl) (by kernel_rfl) (by kernel_rfl) ?_)
      repeat (first
       | refine AN (hl:=?_)
       | refine Al (hl:=?_)
       | refine Ad (hl:=?_)
       | refine As (hl:=?_)
       | refine Ax (hl:=?_)
       | refine Ab (hl:=?_)
       | refine BI (hl:=?_)
       | refine AH (hl:=?_)
       | refine AI (hl:=?_)
       | refine AC (hl:=?_)
       | refine AB (hl:=?_)
       | refine AD (hl:=?_)
       | refine Au (hl:=?_)
       | refine Ao (hl:=?_))
      apply Ai.nil;try refine And.intro (by kernel_rfl) ?_)
   | refine Am ?_|refine An ?_)
  try refine And.intro rfl ?_
  refine AT ?_ ?_ rfl
  ·repeat (first|exact Ac|(refine List.forall_mem_cons.2 ⟨?_,?_⟩;focus (first|exact Ent.of_eq rfl|(refine Ent.one' rfl ?_;(first|exact Aa.ratsLe (by omega)|exact Aa.ratsNil|exact Aa.glNil|(refine Aa.int ?_;omega)|(refine Aa.glLen ?_;first|omega|simp)|exact Aa.of_eq rfl|(refine Aa.q rfl ?_;omega)|exact Z0 _|exact Z2 _|exact Aa.z0 (k:=0)|exact Aa.z1 (k:=0)|exact Aa.z2 (k:=0)|exact Aa.z0|exact Aa.z1|exact Aa.z2))|(refine Ent.agg' rfl ?_;(repeat (first|exact EntL.nil' rfl|(refine EntL.cons' rfl ?_ ?_;focus (first|exact Aa.ratsLe (by omega)|exact Aa.ratsNil|exact Aa.glNil|(refine Aa.int ?_;omega)|(refine Aa.glLen ?_;first|omega|simp)|exact Aa.of_eq rfl|(refine Aa.q rfl ?_;omega)|exact Z0 _|exact Z2 _|exact Aa.z0 (k:=0)|exact Aa.z1 (k:=0)|exact Aa.z2 (k:=0)|exact Aa.z0|exact Aa.z1|exact Aa.z2))));done))))
  ·repeat (first|exact Ac|(refine List.forall_mem_cons.2 ⟨?_,?_⟩;focus (first|exact Ap inferInstance|(refine AG rfl ?_ rfl;focus ((repeat (first|exact EntL.nil' rfl|(refine EntL.cons' rfl ?_ ?_;focus (first|exact Aa.ratsLe (by omega)|exact Aa.ratsNil|exact Aa.glNil|(refine Aa.int ?_;omega)|(refine Aa.glLen ?_;first|omega|simp)|exact Aa.of_eq rfl|(refine Aa.q rfl ?_;omega)|exact Z0 _|exact Z2 _|exact Aa.z0 (k:=0)|exact Aa.z1 (k:=0)|exact Aa.z2 (k:=0)|exact Aa.z0|exact Aa.z1|exact Aa.z2))));done)))))
 intro a2 w2 hc2
 clear hc1
 refine wp_block ?_
 refine Uh (fun m a w=> ∃(i f:Nat) (hi:i+m=l.length) (hf:f≤i) (pre:List (Rn l)) (V B:World),Amb V∧(∀g,alive V g→ ¬D g)∧W.heap.size≤B.heap.size∧NoU D B∧J pre B∧pre++ID l m i f hi hf=Fn l∧CN (X0 V B 36) (stL [(0,.one (.v yv)),(1,.one (DR j l)),(3,AK (f:Nat)),(6,AK (l.length:Nat)),(7,AK (i:Nat))] []) a w) ?_ l.length a2 w2 ⟨0,0,by omega,by omega,[],W0,W,hA,hal,UG _,hNU,h0,rfl,hc2⟩
 clear hc2 h0 hpv hF hA hal hNU
 intro m a w ⟨i,f,hi,hf,pre,V,B,hA,hal,hsz,hNU,hJp,hpre,hc⟩
 cases m with
 | zero=>
   have bi:=Cf (k:= .i64) (decide_eq_false (show ¬(i:Int)<((l.length:Nat):Int) by omega))
   refine Mb (ss:= [(8,.one (.v (.bool false)))]) hc ?_ ?_
   ·repeat (first
     | refine Aq ?_|refine Ah ?_|refine Af rfl ?_|refine Ag rfl ?_
     | ((first|refine Ae (by kernel_rfl) ?_|refine Ak (by kernel_rfl) (by kernel_rfl) (by kernel_rfl) ?_)
        repeat (first
         | refine AN (hl:=?_)
         | refine Al (hl:=?_)
         | refine Ad (hl:=?_)
         | refine As (hl:=?_)
         | refine Ax (hl:=?_)
         | refine Ab (hl:=?_)
         | refine BI (hl:=?_)
         | refine AH (hl:=?_)
         | refine AI (hl:=?_)
         | refine AC (hl:=?_)
         | refine AB (hl:=?_)
         | refine AD (hl:=?_)
         | refine Au (hl:=?_)
         | refine Ao (hl:=?_))
        apply Ai.nil;try refine And.intro (by kernel_rfl) ?_)
     | refine Am ?_|refine An ?_)
    try refine And.intro rfl ?_
    refine AT ?_ ?_ rfl
    ·repeat (first|exact Ac|(refine List.forall_mem_cons.2 ⟨?_,?_⟩;focus (first|exact Ent.of_eq rfl|(refine Ent.one' rfl ?_;(first|exact Aa.ratsLe (by omega)|exact Aa.ratsNil|exact Aa.glNil|(refine Aa.int ?_;omega)|(refine Aa.glLen ?_;first|omega|simp)|exact Aa.of_eq rfl|(refine Aa.q rfl ?_;omega)|exact Z0 _|exact Z2 _|exact Aa.z0 (k:=0)|exact Aa.z1 (k:=0)|exact Aa.z2 (k:=0)|exact Aa.z0|exact Aa.z1|exact Aa.z2))|(refine Ent.agg' rfl ?_;(repeat (first|exact EntL.nil' rfl|(refine EntL.cons' rfl ?_ ?_;focus (first|exact Aa.ratsLe (by omega)|exact Aa.ratsNil|exact Aa.glNil|(refine Aa.int ?_;omega)|(refine Aa.glLen ?_;first|omega|simp)|exact Aa.of_eq rfl|(refine Aa.q rfl ?_;omega)|exact Z0 _|exact Z2 _|exact Aa.z0 (k:=0)|exact Aa.z1 (k:=0)|exact Aa.z2 (k:=0)|exact Aa.z0|exact Aa.z1|exact Aa.z2))));done))))
    ·repeat (first|exact Ac|(refine List.forall_mem_cons.2 ⟨?_,?_⟩;focus (first|exact Ap inferInstance|(refine AG rfl ?_ rfl;focus ((repeat (first|exact EntL.nil' rfl|(refine EntL.cons' rfl ?_ ?_;focus (first|exact Aa.ratsLe (by omega)|exact Aa.ratsNil|exact Aa.glNil|(refine Aa.int ?_;omega)|(refine Aa.glLen ?_;first|omega|simp)|exact Aa.of_eq rfl|(refine Aa.q rfl ?_;omega)|exact Z0 _|exact Z2 _|exact Aa.z0 (k:=0)|exact Aa.z1 (k:=0)|exact Aa.z2 (k:=0)|exact Aa.z0|exact Aa.z1|exact Aa.z2))));done)))))
   intro a3 w3 hc3
   refine wp_seq (I9 (ss:= []) (id:= .exit 0) hc3 ?_ ?_)
   ·repeat (first
     | refine Aq ?_|refine Ah ?_|refine Af rfl ?_|refine Ag rfl ?_
     | ((first|refine Ae (by kernel_rfl) ?_|refine Ak (by kernel_rfl) (by kernel_rfl) (by kernel_rfl) ?_)
        repeat (first
         | refine AN (hl:=?_)
         | refine Al (hl:=?_)
         | refine Ad (hl:=?_)
         | refine As (hl:=?_)
         | refine Ax (hl:=?_)
         | refine Ab (hl:=?_)
         | refine BI (hl:=?_)
         | refine AH (hl:=?_)
         | refine AI (hl:=?_)
         | refine AC (hl:=?_)
         | refine AB (hl:=?_)
         | refine AD (hl:=?_)
         | refine Au (hl:=?_)
         | refine Ao (hl:=?_))
        apply Ai.nil;try refine And.intro (by kernel_rfl) ?_)
     | refine Am ?_|refine An ?_)
    try refine And.intro rfl ?_
    refine AT ?_ ?_ rfl
    ·repeat (first|exact Ac|(refine List.forall_mem_cons.2 ⟨?_,?_⟩;focus (first|exact Ent.of_eq rfl|(refine Ent.one' rfl ?_;(first|exact Aa.ratsLe (by omega)|exact Aa.ratsNil|exact Aa.glNil|(refine Aa.int ?_;omega)|(refine Aa.glLen ?_;first|omega|simp)|exact Aa.of_eq rfl|(refine Aa.q rfl ?_;omega)|exact Z0 _|exact Z2 _|exact Aa.z0 (k:=0)|exact Aa.z1 (k:=0)|exact Aa.z2 (k:=0)|exact Aa.z0|exact Aa.z1|exact Aa.z2))|(refine Ent.agg' rfl ?_;(repeat (first|exact EntL.nil' rfl|(refine EntL.cons' rfl ?_ ?_;focus (first|exact Aa.ratsLe (by omega)|exact Aa.ratsNil|exact Aa.glNil|(refine Aa.int ?_;omega)|(refine Aa.glLen ?_;first|omega|simp)|exact Aa.of_eq rfl|(refine Aa.q rfl ?_;omega)|exact Z0 _|exact Z2 _|exact Aa.z0 (k:=0)|exact Aa.z1 (k:=0)|exact Aa.z2 (k:=0)|exact Aa.z0|exact Aa.z1|exact Aa.z2))));done))))
    ·repeat (first|exact Ac|(refine List.forall_mem_cons.2 ⟨?_,?_⟩;focus (first|exact Ap inferInstance|(refine AG rfl ?_ rfl;focus ((repeat (first|exact EntL.nil' rfl|(refine EntL.cons' rfl ?_ ?_;focus (first|exact Aa.ratsLe (by omega)|exact Aa.ratsNil|exact Aa.glNil|(refine Aa.int ?_;omega)|(refine Aa.glLen ?_;first|omega|simp)|exact Aa.of_eq rfl|(refine Aa.q rfl ?_;omega)|exact Z0 _|exact Z2 _|exact Aa.z0 (k:=0)|exact Aa.z1 (k:=0)|exact Aa.z2 (k:=0)|exact Aa.z0|exact Aa.z1|exact Aa.z2))));done)))))
   intro a4 w4 hc4
   obtain ⟨W1,hg,hF1,hkd,hdf,hs4,-⟩:=Rh hc4
   simp only [Exit.then,Exit.inBlock,if_true]
   refine bodyPost_end (results_none (fn:=Tryz.f104) rfl _ _ _) hdf ?_
   have hp:pre=Fn l:=by rw [←hpre];exact (List.append_nil _).symm
   exact ⟨⟨_,rfl⟩,.inl ⟨pre,hp,hJ pre B w4 none hJp hkd.grown (fun r e=>by cases e)⟩⟩
 | succ m=>
   have bi:=Cf (k:= .i64) (decide_eq_true (show (i:Int)<((l.length:Nat):Int) by omega))
   have hin:=BJ (k:= .i64) (show (IntKind.i64).wrap ((i:Int)+1)=((i+1:Nat):Int) from IntWalk.i64_in _ (by omega))
   refine Mb (ss:= [(0,.one (.v yv)),(1,.one (DR j l)),(3,AK (f:Nat)),(6,AK (l.length:Nat)),(7,AK (i:Nat)),(8,.one (.v (.bool true)))]) hc ?_ ?_
   ·repeat (first
     | refine Aq ?_|refine Ah ?_|refine Af rfl ?_|refine Ag rfl ?_
     | ((first|refine Ae (by kernel_rfl) ?_|refine Ak (by kernel_rfl) (by kernel_rfl) (by kernel_rfl) ?_)
        repeat (first
         | refine AN (hl:=?_)
         | refine Al (hl:=?_)
         | refine Ad (hl:=?_)
         | refine As (hl:=?_)
         | refine Ax (hl:=?_)
         | refine Ab (hl:=?_)
         | refine BI (hl:=?_)
         | refine AH (hl:=?_)
         | refine AI (hl:=?_)
         | refine AC (hl:=?_)
         | refine AB (hl:=?_)
         | refine AD (hl:=?_)
         | refine Au (hl:=?_)
         | refine Ao (hl:=?_))
        apply Ai.nil;try refine And.intro (by kernel_rfl) ?_)
     | refine Am ?_|refine An ?_)
    try refine And.intro rfl ?_
    refine AT ?_ ?_ rfl
    ·repeat (first|exact Ac|(refine List.forall_mem_cons.2 ⟨?_,?_⟩;focus (first|exact Ent.of_eq rfl|(refine Ent.one' rfl ?_;(first|exact Aa.ratsLe (by omega)|exact Aa.ratsNil|exact Aa.glNil|(refine Aa.int ?_;omega)|(refine Aa.glLen ?_;first|omega|simp)|exact Aa.of_eq rfl|(refine Aa.q rfl ?_;omega)|exact Z0 _|exact Z2 _|exact Aa.z0 (k:=0)|exact Aa.z1 (k:=0)|exact Aa.z2 (k:=0)|exact Aa.z0|exact Aa.z1|exact Aa.z2))|(refine Ent.agg' rfl ?_;(repeat (first|exact EntL.nil' rfl|(refine EntL.cons' rfl ?_ ?_;focus (first|exact Aa.ratsLe (by omega)|exact Aa.ratsNil|exact Aa.glNil|(refine Aa.int ?_;omega)|(refine Aa.glLen ?_;first|omega|simp)|exact Aa.of_eq rfl|(refine Aa.q rfl ?_;omega)|exact Z0 _|exact Z2 _|exact Aa.z0 (k:=0)|exact Aa.z1 (k:=0)|exact Aa.z2 (k:=0)|exact Aa.z0|exact Aa.z1|exact Aa.z2))));done))))
    ·repeat (first|exact Ac|(refine List.forall_mem_cons.2 ⟨?_,?_⟩;focus (first|exact Ap inferInstance|(refine AG rfl ?_ rfl;focus ((repeat (first|exact EntL.nil' rfl|(refine EntL.cons' rfl ?_ ?_;focus (first|exact Aa.ratsLe (by omega)|exact Aa.ratsNil|exact Aa.glNil|(refine Aa.int ?_;omega)|(refine Aa.glLen ?_;first|omega|simp)|exact Aa.of_eq rfl|(refine Aa.q rfl ?_;omega)|exact Z0 _|exact Z2 _|exact Aa.z0 (k:=0)|exact Aa.z1 (k:=0)|exact Aa.z2 (k:=0)|exact Aa.z0|exact Aa.z1|exact Aa.z2))));done)))))
   intro a3 w3 hc3
   refine Mb (ss:= [(0,.one (.v yv)),(1,.one (DR j l)),(3,AK (f:Nat)),(6,AK (l.length:Nat)),(7,AK (i:Nat))]) hc3 ?_ ?_
   ·repeat (first
     | refine Aq ?_|refine Ah ?_|refine Af rfl ?_|refine Ag rfl ?_
     | ((first|refine Ae (by kernel_rfl) ?_|refine Ak (by kernel_rfl) (by kernel_rfl) (by kernel_rfl) ?_)
        repeat (first
         | refine AN (hl:=?_)
         | refine Al (hl:=?_)
         | refine Ad (hl:=?_)
         | refine As (hl:=?_)
         | refine Ax (hl:=?_)
         | refine Ab (hl:=?_)
         | refine BI (hl:=?_)
         | refine AH (hl:=?_)
         | refine AI (hl:=?_)
         | refine AC (hl:=?_)
         | refine AB (hl:=?_)
         | refine AD (hl:=?_)
         | refine Au (hl:=?_)
         | refine Ao (hl:=?_))
        apply Ai.nil;try refine And.intro (by kernel_rfl) ?_)
     | refine Am ?_|refine An ?_)
    try refine And.intro rfl ?_
    refine AT ?_ ?_ rfl
    ·repeat (first|exact Ac|(refine List.forall_mem_cons.2 ⟨?_,?_⟩;focus (first|exact Ent.of_eq rfl|(refine Ent.one' rfl ?_;(first|exact Aa.ratsLe (by omega)|exact Aa.ratsNil|exact Aa.glNil|(refine Aa.int ?_;omega)|(refine Aa.glLen ?_;first|omega|simp)|exact Aa.of_eq rfl|(refine Aa.q rfl ?_;omega)|exact Z0 _|exact Z2 _|exact Aa.z0 (k:=0)|exact Aa.z1 (k:=0)|exact Aa.z2 (k:=0)|exact Aa.z0|exact Aa.z1|exact Aa.z2))|(refine Ent.agg' rfl ?_;(repeat (first|exact EntL.nil' rfl|(refine EntL.cons' rfl ?_ ?_;focus (first|exact Aa.ratsLe (by omega)|exact Aa.ratsNil|exact Aa.glNil|(refine Aa.int ?_;omega)|(refine Aa.glLen ?_;first|omega|simp)|exact Aa.of_eq rfl|(refine Aa.q rfl ?_;omega)|exact Z0 _|exact Z2 _|exact Aa.z0 (k:=0)|exact Aa.z1 (k:=0)|exact Aa.z2 (k:=0)|exact Aa.z0|exact Aa.z1|exact Aa.z2))));done))))
    ·repeat (first|exact Ac|(refine List.forall_mem_cons.2 ⟨?_,?_⟩;focus (first|exact Ap inferInstance|(refine AG rfl ?_ rfl;focus ((repeat (first|exact EntL.nil' rfl|(refine EntL.cons' rfl ?_ ?_;focus (first|exact Aa.ratsLe (by omega)|exact Aa.ratsNil|exact Aa.glNil|(refine Aa.int ?_;omega)|(refine Aa.glLen ?_;first|omega|simp)|exact Aa.of_eq rfl|(refine Aa.q rfl ?_;omega)|exact Z0 _|exact Z2 _|exact Aa.z0 (k:=0)|exact Aa.z1 (k:=0)|exact Aa.z2 (k:=0)|exact Aa.z0|exact Aa.z1|exact Aa.z2))));done)))))
   intro a4 w4 hc4
   refine wp_seq (wp_block ?_)
   refine Mb (ss:= [(0,.one (.v yv)),(1,.one (DR j l)),(3,AK (f:Nat)),(4,AK (i:Nat)),(6,AK (l.length:Nat)),(7,AK (i:Nat))]) hc4 ?_ ?_
   ·repeat (first
     | refine Aq ?_|refine Ah ?_|refine Af rfl ?_|refine Ag rfl ?_
     | ((first|refine Ae (by kernel_rfl) ?_|refine Ak (by kernel_rfl) (by kernel_rfl) (by kernel_rfl) ?_)
        repeat (first
         | refine AN (hl:=?_)
         | refine Al (hl:=?_)
         | refine Ad (hl:=?_)
         | refine As (hl:=?_)
         | refine Ax (hl:=?_)
         | refine Ab (hl:=?_)
         | refine BI (hl:=?_)
         | refine AH (hl:=?_)
         | refine AI (hl:=?_)
         | refine AC (hl:=?_)
         | refine AB (hl:=?_)
         | refine AD (hl:=?_)
         | refine Au (hl:=?_)
         | refine Ao (hl:=?_))
        apply Ai.nil;try refine And.intro (by kernel_rfl) ?_)
     | refine Am ?_|refine An ?_)
    try refine And.intro rfl ?_
    refine AT ?_ ?_ rfl
    ·repeat (first|exact Ac|(refine List.forall_mem_cons.2 ⟨?_,?_⟩;focus (first|exact Ent.of_eq rfl|(refine Ent.one' rfl ?_;(first|exact Aa.ratsLe (by omega)|exact Aa.ratsNil|exact Aa.glNil|(refine Aa.int ?_;omega)|(refine Aa.glLen ?_;first|omega|simp)|exact Aa.of_eq rfl|(refine Aa.q rfl ?_;omega)|exact Z0 _|exact Z2 _|exact Aa.z0 (k:=0)|exact Aa.z1 (k:=0)|exact Aa.z2 (k:=0)|exact Aa.z0|exact Aa.z1|exact Aa.z2))|(refine Ent.agg' rfl ?_;(repeat (first|exact EntL.nil' rfl|(refine EntL.cons' rfl ?_ ?_;focus (first|exact Aa.ratsLe (by omega)|exact Aa.ratsNil|exact Aa.glNil|(refine Aa.int ?_;omega)|(refine Aa.glLen ?_;first|omega|simp)|exact Aa.of_eq rfl|(refine Aa.q rfl ?_;omega)|exact Z0 _|exact Z2 _|exact Aa.z0 (k:=0)|exact Aa.z1 (k:=0)|exact Aa.z2 (k:=0)|exact Aa.z0|exact Aa.z1|exact Aa.z2))));done))))
    ·repeat (first|exact Ac|(refine List.forall_mem_cons.2 ⟨?_,?_⟩;focus (first|exact Ap inferInstance|(refine AG rfl ?_ rfl;focus ((repeat (first|exact EntL.nil' rfl|(refine EntL.cons' rfl ?_ ?_;focus (first|exact Aa.ratsLe (by omega)|exact Aa.ratsNil|exact Aa.glNil|(refine Aa.int ?_;omega)|(refine Aa.glLen ?_;first|omega|simp)|exact Aa.of_eq rfl|(refine Aa.q rfl ?_;omega)|exact Z0 _|exact Z2 _|exact Aa.z0 (k:=0)|exact Aa.z1 (k:=0)|exact Aa.z2 (k:=0)|exact Aa.z0|exact Aa.z1|exact Aa.z2))));done)))))
   intro a5 w5 hc5
   clear hc hc3 hc4
   obtain ⟨x,hx,hx'⟩:=DN (l:=l) (i:=i) (by omega)
   by_cases hq:i+1<l.length∧l.getD i 0=l.getD (i+1) 0
   ·obtain ⟨y,hy,hy'⟩:=DN (l:=l) (i:=i+1) hq.1
    have bj:=Cf (k:= .i64) (decide_eq_true (show ((i+1:Nat):Int)<((l.length:Nat):Int) by omega))
    have hxy:x=y:=by
     have h1:=hq.2
     rw [List.getD_eq_getElem?_getD,List.getD_eq_getElem?_getD,hx',hy'] at h1
     exact h1
    have C1:=QC (j:=j) (k:=j) (x:=x) (y:=y) (decide_eq_true hxy)
    have hpre':pre++ID l m (i+1) f (by omega) (by omega)=Fn l:=by rw [←hpre,RV hq]
    refine wp_seq (I9 (ss:= [(0,.one (.v yv)),(1,.one (DR j l)),(3,AK (f:Nat)),(6,AK (l.length:Nat)),(7,AK (i:Nat))]) (id:= .exit 1) hc5 ?_ ?_)
    ·repeat (first
      | refine Aq ?_|refine Ah ?_|refine Af rfl ?_|refine Ag rfl ?_
      | ((first|refine Ae (by kernel_rfl) ?_|refine Ak (by kernel_rfl) (by kernel_rfl) (by kernel_rfl) ?_)
         repeat (first
          | refine AN (hl:=?_)
          | refine Al (hl:=?_)
          | refine Ad (hl:=?_)
          | refine As (hl:=?_)
          | refine Ax (hl:=?_)
          | refine Ab (hl:=?_)
          | refine BI (hl:=?_)
          | refine AH (hl:=?_)
          | refine AI (hl:=?_)
          | refine AC (hl:=?_)
          | refine AB (hl:=?_)
          | refine AD (hl:=?_)
          | refine Au (hl:=?_)
          | refine Ao (hl:=?_)
          | refine Ar hA (hc:=C1) (hl:=?_)
          | refine Cl hx (by omega) (hl:=?_)
          | refine Cl hy (by omega) (hl:=?_))
         apply Ai.nil;try refine And.intro (by kernel_rfl) ?_)
      | refine Am ?_|refine An ?_)
     try refine And.intro rfl ?_
     refine AT ?_ ?_ rfl
     ·repeat (first|exact Ac|(refine List.forall_mem_cons.2 ⟨?_,?_⟩;focus (first|exact Ent.of_eq rfl|(refine Ent.one' rfl ?_;(first|exact Aa.ratsLe (by omega)|exact Aa.ratsNil|exact Aa.glNil|(refine Aa.int ?_;omega)|(refine Aa.glLen ?_;first|omega|simp)|exact Aa.of_eq rfl|(refine Aa.q rfl ?_;omega)|exact Z0 _|exact Z2 _|exact Aa.z0 (k:=0)|exact Aa.z1 (k:=0)|exact Aa.z2 (k:=0)|exact Aa.z0|exact Aa.z1|exact Aa.z2))|(refine Ent.agg' rfl ?_;(repeat (first|exact EntL.nil' rfl|(refine EntL.cons' rfl ?_ ?_;focus (first|exact Aa.ratsLe (by omega)|exact Aa.ratsNil|exact Aa.glNil|(refine Aa.int ?_;omega)|(refine Aa.glLen ?_;first|omega|simp)|exact Aa.of_eq rfl|(refine Aa.q rfl ?_;omega)|exact Z0 _|exact Z2 _|exact Aa.z0 (k:=0)|exact Aa.z1 (k:=0)|exact Aa.z2 (k:=0)|exact Aa.z0|exact Aa.z1|exact Aa.z2))));done))))
     ·repeat (first|exact Ac|(refine List.forall_mem_cons.2 ⟨?_,?_⟩;focus (first|exact Ap inferInstance|(refine AG rfl ?_ rfl;focus ((repeat (first|exact EntL.nil' rfl|(refine EntL.cons' rfl ?_ ?_;focus (first|exact Aa.ratsLe (by omega)|exact Aa.ratsNil|exact Aa.glNil|(refine Aa.int ?_;omega)|(refine Aa.glLen ?_;first|omega|simp)|exact Aa.of_eq rfl|(refine Aa.q rfl ?_;omega)|exact Z0 _|exact Z2 _|exact Aa.z0 (k:=0)|exact Aa.z1 (k:=0)|exact Aa.z2 (k:=0)|exact Aa.z0|exact Aa.z1|exact Aa.z2))));done)))))
    intro a6 w6 hc6
    show Code.wp Tryz.prog _ _ a6 w6
    refine I9 (ss:= [(0,.one (.v yv)),(1,.one (DR j l)),(3,AK (f:Nat)),(6,AK (l.length:Nat)),(7,AK ((i+1:Nat):Nat))]) (id:= .normal) hc6 ?_ ?_
    ·repeat (first
      | refine Aq ?_|refine Ah ?_|refine Af rfl ?_|refine Ag rfl ?_
      | ((first|refine Ae (by kernel_rfl) ?_|refine Ak (by kernel_rfl) (by kernel_rfl) (by kernel_rfl) ?_)
         repeat (first
          | refine AN (hl:=?_)
          | refine Al (hl:=?_)
          | refine Ad (hl:=?_)
          | refine As (hl:=?_)
          | refine Ax (hl:=?_)
          | refine Ab (hl:=?_)
          | refine BI (hl:=?_)
          | refine AH (hl:=?_)
          | refine AI (hl:=?_)
          | refine AC (hl:=?_)
          | refine AB (hl:=?_)
          | refine AD (hl:=?_)
          | refine Au (hl:=?_)
          | refine Ao (hl:=?_))
         apply Ai.nil;try refine And.intro (by kernel_rfl) ?_)
      | refine Am ?_|refine An ?_)
     try refine And.intro rfl ?_
     refine AT ?_ ?_ rfl
     ·repeat (first|exact Ac|(refine List.forall_mem_cons.2 ⟨?_,?_⟩;focus (first|exact Ent.of_eq rfl|(refine Ent.one' rfl ?_;(first|exact Aa.ratsLe (by omega)|exact Aa.ratsNil|exact Aa.glNil|(refine Aa.int ?_;omega)|(refine Aa.glLen ?_;first|omega|simp)|exact Aa.of_eq rfl|(refine Aa.q rfl ?_;omega)|exact Z0 _|exact Z2 _|exact Aa.z0 (k:=0)|exact Aa.z1 (k:=0)|exact Aa.z2 (k:=0)|exact Aa.z0|exact Aa.z1|exact Aa.z2))|(refine Ent.agg' rfl ?_;(repeat (first|exact EntL.nil' rfl|(refine EntL.cons' rfl ?_ ?_;focus (first|exact Aa.ratsLe (by omega)|exact Aa.ratsNil|exact Aa.glNil|(refine Aa.int ?_;omega)|(refine Aa.glLen ?_;first|omega|simp)|exact Aa.of_eq rfl|(refine Aa.q rfl ?_;omega)|exact Z0 _|exact Z2 _|exact Aa.z0 (k:=0)|exact Aa.z1 (k:=0)|exact Aa.z2 (k:=0)|exact Aa.z0|exact Aa.z1|exact Aa.z2))));done))))
     ·repeat (first|exact Ac|(refine List.forall_mem_cons.2 ⟨?_,?_⟩;focus (first|exact Ap inferInstance|(refine AG rfl ?_ rfl;focus ((repeat (first|exact EntL.nil' rfl|(refine EntL.cons' rfl ?_ ?_;focus (first|exact Aa.ratsLe (by omega)|exact Aa.ratsNil|exact Aa.glNil|(refine Aa.int ?_;omega)|(refine Aa.glLen ?_;first|omega|simp)|exact Aa.of_eq rfl|(refine Aa.q rfl ?_;omega)|exact Z0 _|exact Z2 _|exact Aa.z0 (k:=0)|exact Aa.z1 (k:=0)|exact Aa.z2 (k:=0)|exact Aa.z0|exact Aa.z1|exact Aa.z2))));done)))))
    intro a7 w7 hc7
    exact ⟨m,Nat.lt_succ_self m,i+1,f,by omega,by omega,pre,V,B,hA,hal,hsz,hNU,hJp,hpre',hc7⟩
   ·have hpre':pre++ [⟨(f,i+1),by omega,by omega⟩]++ID l m (i+1) (i+1) (by omega) (UG _)=Fn l:=by rw [←hpre,List.append_assoc,RU hq];rfl
    refine Mb (ss:= [(0,.one (.v yv)),(1,.one (DR j l)),(3,AK (f:Nat)),(4,AK (i:Nat)),(6,AK (l.length:Nat)),(7,AK (i:Nat))]) hc5 ?_ ?_
    ·by_cases hj:i+1<l.length
     ·obtain ⟨y,hy,hy'⟩:=DN (l:=l) (i:=i+1) hj
      have bj:=Cf (k:= .i64) (decide_eq_true (show ((i+1:Nat):Int)<((l.length:Nat):Int) by omega))
      have hxy:x≠y:=fun h=>hq ⟨hj,by rw [List.getD_eq_getElem?_getD,List.getD_eq_getElem?_getD,hx',hy',h]⟩
      have C1:=QC (j:=j) (k:=j) (x:=x) (y:=y) (decide_eq_false hxy)
      repeat (first
       | refine Aq ?_|refine Ah ?_|refine Af rfl ?_|refine Ag rfl ?_
       | ((first|refine Ae (by kernel_rfl) ?_|refine Ak (by kernel_rfl) (by kernel_rfl) (by kernel_rfl) ?_)
          repeat (first
           | refine AN (hl:=?_)
           | refine Al (hl:=?_)
           | refine Ad (hl:=?_)
           | refine As (hl:=?_)
           | refine Ax (hl:=?_)
           | refine Ab (hl:=?_)
           | refine BI (hl:=?_)
           | refine AH (hl:=?_)
           | refine AI (hl:=?_)
           | refine AC (hl:=?_)
           | refine AB (hl:=?_)
           | refine AD (hl:=?_)
           | refine Au (hl:=?_)
           | refine Ao (hl:=?_)
           | refine Ar hA (hc:=C1) (hl:=?_)
           | refine Cl hx (by omega) (hl:=?_)
           | refine Cl hy (by omega) (hl:=?_))
          apply Ai.nil;try refine And.intro (by kernel_rfl) ?_)
       | refine Am ?_|refine An ?_)
      try refine And.intro rfl ?_
      refine AT ?_ ?_ rfl
      ·repeat (first|exact Ac|(refine List.forall_mem_cons.2 ⟨?_,?_⟩;focus (first|exact Ent.of_eq rfl|(refine Ent.one' rfl ?_;(first|exact Aa.ratsLe (by omega)|exact Aa.ratsNil|exact Aa.glNil|(refine Aa.int ?_;omega)|(refine Aa.glLen ?_;first|omega|simp)|exact Aa.of_eq rfl|(refine Aa.q rfl ?_;omega)|exact Z0 _|exact Z2 _|exact Aa.z0 (k:=0)|exact Aa.z1 (k:=0)|exact Aa.z2 (k:=0)|exact Aa.z0|exact Aa.z1|exact Aa.z2))|(refine Ent.agg' rfl ?_;(repeat (first|exact EntL.nil' rfl|(refine EntL.cons' rfl ?_ ?_;focus (first|exact Aa.ratsLe (by omega)|exact Aa.ratsNil|exact Aa.glNil|(refine Aa.int ?_;omega)|(refine Aa.glLen ?_;first|omega|simp)|exact Aa.of_eq rfl|(refine Aa.q rfl ?_;omega)|exact Z0 _|exact Z2 _|exact Aa.z0 (k:=0)|exact Aa.z1 (k:=0)|exact Aa.z2 (k:=0)|exact Aa.z0|exact Aa.z1|exact Aa.z2))));done))))
      ·repeat (first|exact Ac|(refine List.forall_mem_cons.2 ⟨?_,?_⟩;focus (first|exact Ap inferInstance|(refine AG rfl ?_ rfl;focus ((repeat (first|exact EntL.nil' rfl|(refine EntL.cons' rfl ?_ ?_;focus (first|exact Aa.ratsLe (by omega)|exact Aa.ratsNil|exact Aa.glNil|(refine Aa.int ?_;omega)|(refine Aa.glLen ?_;first|omega|simp)|exact Aa.of_eq rfl|(refine Aa.q rfl ?_;omega)|exact Z0 _|exact Z2 _|exact Aa.z0 (k:=0)|exact Aa.z1 (k:=0)|exact Aa.z2 (k:=0)|exact Aa.z0|exact Aa.z1|exact Aa.z2))));done)))))
     ·have bj:=Cf (k:= .i64) (decide_eq_false (show ¬((i+1:Nat):Int)<((l.length:Nat):Int) by omega))
      repeat (first
       | refine Aq ?_|refine Ah ?_|refine Af rfl ?_|refine Ag rfl ?_
       | ((first|refine Ae (by kernel_rfl) ?_|refine Ak (by kernel_rfl) (by kernel_rfl) (by kernel_rfl) ?_)
          repeat (first
           | refine AN (hl:=?_)
           | refine Al (hl:=?_)
           | refine Ad (hl:=?_)
           | refine As (hl:=?_)
           | refine Ax (hl:=?_)
           | refine Ab (hl:=?_)
           | refine BI (hl:=?_)
           | refine AH (hl:=?_)
           | refine AI (hl:=?_)
           | refine AC (hl:=?_)
           | refine AB (hl:=?_)
           | refine AD (hl:=?_)
           | refine Au (hl:=?_)
           | refine Ao (hl:=?_))
          apply Ai.nil;try refine And.intro (by kernel_rfl) ?_)
       | refine Am ?_|refine An ?_)
      try refine And.intro rfl ?_
      refine AT ?_ ?_ rfl
      ·repeat (first|exact Ac|(refine List.forall_mem_cons.2 ⟨?_,?_⟩;focus (first|exact Ent.of_eq rfl|(refine Ent.one' rfl ?_;(first|exact Aa.ratsLe (by omega)|exact Aa.ratsNil|exact Aa.glNil|(refine Aa.int ?_;omega)|(refine Aa.glLen ?_;first|omega|simp)|exact Aa.of_eq rfl|(refine Aa.q rfl ?_;omega)|exact Z0 _|exact Z2 _|exact Aa.z0 (k:=0)|exact Aa.z1 (k:=0)|exact Aa.z2 (k:=0)|exact Aa.z0|exact Aa.z1|exact Aa.z2))|(refine Ent.agg' rfl ?_;(repeat (first|exact EntL.nil' rfl|(refine EntL.cons' rfl ?_ ?_;focus (first|exact Aa.ratsLe (by omega)|exact Aa.ratsNil|exact Aa.glNil|(refine Aa.int ?_;omega)|(refine Aa.glLen ?_;first|omega|simp)|exact Aa.of_eq rfl|(refine Aa.q rfl ?_;omega)|exact Z0 _|exact Z2 _|exact Aa.z0 (k:=0)|exact Aa.z1 (k:=0)|exact Aa.z2 (k:=0)|exact Aa.z0|exact Aa.z1|exact Aa.z2))));done))))
      ·repeat (first|exact Ac|(refine List.forall_mem_cons.2 ⟨?_,?_⟩;focus (first|exact Ap inferInstance|(refine AG rfl ?_ rfl;focus ((repeat (first|exact EntL.nil' rfl|(refine EntL.cons' rfl ?_ ?_;focus (first|exact Aa.ratsLe (by omega)|exact Aa.ratsNil|exact Aa.glNil|(refine Aa.int ?_;omega)|(refine Aa.glLen ?_;first|omega|simp)|exact Aa.of_eq rfl|(refine Aa.q rfl ?_;omega)|exact Z0 _|exact Z2 _|exact Aa.z0 (k:=0)|exact Aa.z1 (k:=0)|exact Aa.z2 (k:=0)|exact Aa.z0|exact Aa.z1|exact Aa.z2))));done)))))
    intro a6 w6 hc6
    obtain ⟨W1,hg,hF1,hkd,hdf,hs6,hsl⟩:=Rh hc6
    have hA1:Amb W1:=MonoA.up hA hg.ext
    have hDB: ∀g,D g→g<B.heap.size:=fun g h=>Nat.lt_of_lt_of_le (hDW g h) hsz
    have hal1: ∀g,alive W1 g→ ¬D g:=fun g h hd=>by
     rcases hg.new g h with h1|h1
     ·exact hal g h1 hd
     ·exact absurd (hDB g hd) (Nat.not_lt.2 h1)
    have hJ6:J pre w6:=hJ pre B w6 none hJp hkd.grown (fun r e=>by cases e)
    have hk6:KpC D B w6:= .of_kd hkd hDB
    have hNU6:NoU D w6:=hk6.row hNU
    have hlen:pre.length<(Fn l).length:=by rw [←hpre'];simp
    obtain ⟨fn,tmps,assign,body,hy,hR⟩:=hY pre ⟨(f,i+1),by omega,by omega⟩ w6 hJ6 hlen
    dsimp only [TA] at hy
    obtain ⟨tm,df⟩:=a6
    dsimp only at hdf hs6 hsl
    subst hdf
    have v0:tm.getD 0 undef=yv:=hsl 0
    have v1:=hsl 1
    have v3:tm.getD 3 undef= .int .i64 (f:Nat):=hsl 3
    have v4:tm.getD 4 undef= .int .i64 (i:Nat):=hsl 4
    have v6:tm.getD 6 undef= .int .i64 (l.length:Nat):=hsl 6
    have v7:tm.getD 7 undef= .int .i64 (i:Nat):=hsl 7
    clear hsl hc6 hc5
    obtain ⟨x0,x1,x2,x3,x4,x5,x6,x7,x8,x9,x10,x11,x12,x13,x14,x15,x16,x17,x18,x19,x20,x21,x22,x23,x24,x25,x26,x27,x28,x29,x30,x31,x32,x33,x34,x35,rfl⟩:=Ui tm hs6
    replace v0:x0=yv:=v0
    replace v3:x3= .int .i64 (f:Nat):=v3
    replace v4:x4= .int .i64 (i:Nat):=v4
    replace v6:x6= .int .i64 (l.length:Nat):=v6
    replace v7:x7= .int .i64 (i:Nat):=v7
    subst v0 v3 v4 v6 v7
    replace v1:cv W1 (fun _=>(0,0)) (fun _=>0) w6 x1 (.one (DR j l)):=v1
    have fin: ∀(b:Bool) (W3:World) (t:Array Value),t.size=36→t.getD 0 undef=x0→t.getD 1 undef=x1→t.getD 3 undef= .int .i64 (f:Nat)→t.getD 4 undef= .int .i64 (i:Nat)→t.getD 6 undef= .int .i64 (l.length:Nat)→t.getD 7 undef= .int .i64 (i:Nat)→t.getD 32 undef= .bool (!b)→KpC D w6 W3→
      CN (X0 W1 W3 36) (stL [(0,.one (.v x0)),(1,.one (DR j l)),(3,AK (f:Nat)),(4,AK (i:Nat)),(6,AK (l.length:Nat)),(7,AK (i:Nat)),(32,.one (.v (.bool (!b))))] []) { tmps:=t,defers:= [] } W3:=fun b W3 t h36 e0 e1 e3 e4 e6 e7 e32 hk=>
     SU (hk.fr hF1 hal1) (Kd.refl _ _) rfl h36 (by
      have m1:cv W1 (fun _=>(0,0)) (fun _=>0) W3 (t.getD 1 undef) (.one (DR j l)):=by rw [e1];exact v1.mono (hk.kl hNU6) fun i hi=>absurd rfl hi
      exact List.forall_mem_cons.2 ⟨e0,List.forall_mem_cons.2 ⟨m1,List.forall_mem_cons.2 ⟨e3,List.forall_mem_cons.2 ⟨e4,List.forall_mem_cons.2 ⟨e6,List.forall_mem_cons.2 ⟨e7,List.forall_mem_cons.2 ⟨e32,Ac⟩⟩⟩⟩⟩⟩⟩)
    obtain ⟨Q5,hQ5⟩: ∃Q5:Exit→Act→World→Prop,Q5=fun e a' W3=>e= .normal∧((CN (X0 W1 W3 36) (stL [(0,.one (.v x0)),(1,.one (DR j l)),(3,AK (f:Nat)),(4,AK (i:Nat)),(6,AK (l.length:Nat)),(7,AK (i:Nat)),(32,.one (.v (.bool (!true))))] []) a' W3∧J (pre++ [⟨(f,i+1),by omega,by omega⟩]) W3∧KpC D w6 W3)∨(a'.defers= []∧a'.eval (.tmp 32)= .bool true∧Jx (pre++ [⟨(f,i+1),by omega,by omega⟩]) W3)):=⟨_,rfl⟩
    refine wp_seq (wp_seq (wp_mono (Q:=Q5) ((wpIn_wide (n:=n+1)).1 ?_) ?_))
    ·clear hY hJ6 hk6 hJp hg hal hal1 hA hA1 hpre hpre' hkd
     replace hy:(Instr.yield l' #[.int .i64 (f:Nat),.int .i64 ((i:Int)+1)]).run Tryz.prog w6= .ok (.round l' fn tmps assign body) w6:=hy
     gi_wp2
     refine hR.mono ?_
     rintro e W3 (⟨rfl,hJ3,hk3⟩|⟨rfl,hJx3⟩)
     ·gi_wp2
      rw [hQ5]
      exact ⟨rfl,.inl ⟨fin true W3 _ rfl hyv.symm rfl rfl rfl rfl rfl rfl hk3,hJ3,hk3⟩⟩
     ·gi_wp2
      rw [hQ5]
      exact ⟨rfl,.inr ⟨rfl,rfl,hJx3⟩⟩
    ·rintro e a' W3 hq
     rw [hQ5] at hq
     obtain ⟨rfl,hb⟩:=hq
     show Code.wp Tryz.prog _ _ a' W3
     rcases hb with ⟨hc7,hJ3,hk3⟩|⟨hd7,he7,hJx3⟩
     ·refine I9 (ss:= [(0,.one (.v x0)),(1,.one (DR j l)),(3,AK (f:Nat)),(4,AK (i:Nat)),(6,AK (l.length:Nat)),(7,AK (i:Nat))]) (id:= .normal) hc7 ?_ ?_
      ·repeat (first
        | refine Aq ?_|refine Ah ?_|refine Af rfl ?_|refine Ag rfl ?_
        | ((first|refine Ae (by kernel_rfl) ?_|refine Ak (by kernel_rfl) (by kernel_rfl) (by kernel_rfl) ?_)
           repeat (first
            | refine AN (hl:=?_)
            | refine Al (hl:=?_)
            | refine Ad (hl:=?_)
            | refine As (hl:=?_)
            | refine Ax (hl:=?_)
            | refine Ab (hl:=?_)
            | refine BI (hl:=?_)
            | refine AH (hl:=?_)
            | refine AI (hl:=?_)
            | refine AC (hl:=?_)
            | refine AB (hl:=?_)
            | refine AD (hl:=?_)
            | refine Au (hl:=?_)
            | refine Ao (hl:=?_))
           apply Ai.nil;try refine And.intro (by kernel_rfl) ?_)
        | refine Am ?_|refine An ?_)
       try refine And.intro rfl ?_
       refine AT ?_ ?_ rfl
       ·repeat (first|exact Ac|(refine List.forall_mem_cons.2 ⟨?_,?_⟩;focus (first|exact Ent.of_eq rfl|(refine Ent.one' rfl ?_;(first|exact Aa.ratsLe (by omega)|exact Aa.ratsNil|exact Aa.glNil|(refine Aa.int ?_;omega)|(refine Aa.glLen ?_;first|omega|simp)|exact Aa.of_eq rfl|(refine Aa.q rfl ?_;omega)|exact Z0 _|exact Z2 _|exact Aa.z0 (k:=0)|exact Aa.z1 (k:=0)|exact Aa.z2 (k:=0)|exact Aa.z0|exact Aa.z1|exact Aa.z2))|(refine Ent.agg' rfl ?_;(repeat (first|exact EntL.nil' rfl|(refine EntL.cons' rfl ?_ ?_;focus (first|exact Aa.ratsLe (by omega)|exact Aa.ratsNil|exact Aa.glNil|(refine Aa.int ?_;omega)|(refine Aa.glLen ?_;first|omega|simp)|exact Aa.of_eq rfl|(refine Aa.q rfl ?_;omega)|exact Z0 _|exact Z2 _|exact Aa.z0 (k:=0)|exact Aa.z1 (k:=0)|exact Aa.z2 (k:=0)|exact Aa.z0|exact Aa.z1|exact Aa.z2))));done))))
       ·repeat (first|exact Ac|(refine List.forall_mem_cons.2 ⟨?_,?_⟩;focus (first|exact Ap inferInstance|(refine AG rfl ?_ rfl;focus ((repeat (first|exact EntL.nil' rfl|(refine EntL.cons' rfl ?_ ?_;focus (first|exact Aa.ratsLe (by omega)|exact Aa.ratsNil|exact Aa.glNil|(refine Aa.int ?_;omega)|(refine Aa.glLen ?_;first|omega|simp)|exact Aa.of_eq rfl|(refine Aa.q rfl ?_;omega)|exact Z0 _|exact Z2 _|exact Aa.z0 (k:=0)|exact Aa.z1 (k:=0)|exact Aa.z2 (k:=0)|exact Aa.z0|exact Aa.z1|exact Aa.z2))));done)))))
      intro a8 w8 hc8
      show Code.wp Tryz.prog _ _ a8 w8
      refine I9 (ss:= [(0,.one (.v x0)),(1,.one (DR j l)),(3,AK ((i+1:Nat):Nat)),(4,AK (i:Nat)),(6,AK (l.length:Nat)),(7,AK (i:Nat))]) (id:= .normal) hc8 ?_ ?_
      ·repeat (first
        | refine Aq ?_|refine Ah ?_|refine Af rfl ?_|refine Ag rfl ?_
        | ((first|refine Ae (by kernel_rfl) ?_|refine Ak (by kernel_rfl) (by kernel_rfl) (by kernel_rfl) ?_)
           repeat (first
            | refine AN (hl:=?_)
            | refine Al (hl:=?_)
            | refine Ad (hl:=?_)
            | refine As (hl:=?_)
            | refine Ax (hl:=?_)
            | refine Ab (hl:=?_)
            | refine BI (hl:=?_)
            | refine AH (hl:=?_)
            | refine AI (hl:=?_)
            | refine AC (hl:=?_)
            | refine AB (hl:=?_)
            | refine AD (hl:=?_)
            | refine Au (hl:=?_)
            | refine Ao (hl:=?_))
           apply Ai.nil;try refine And.intro (by kernel_rfl) ?_)
        | refine Am ?_|refine An ?_)
       try refine And.intro rfl ?_
       refine AT ?_ ?_ rfl
       ·repeat (first|exact Ac|(refine List.forall_mem_cons.2 ⟨?_,?_⟩;focus (first|exact Ent.of_eq rfl|(refine Ent.one' rfl ?_;(first|exact Aa.ratsLe (by omega)|exact Aa.ratsNil|exact Aa.glNil|(refine Aa.int ?_;omega)|(refine Aa.glLen ?_;first|omega|simp)|exact Aa.of_eq rfl|(refine Aa.q rfl ?_;omega)|exact Z0 _|exact Z2 _|exact Aa.z0 (k:=0)|exact Aa.z1 (k:=0)|exact Aa.z2 (k:=0)|exact Aa.z0|exact Aa.z1|exact Aa.z2))|(refine Ent.agg' rfl ?_;(repeat (first|exact EntL.nil' rfl|(refine EntL.cons' rfl ?_ ?_;focus (first|exact Aa.ratsLe (by omega)|exact Aa.ratsNil|exact Aa.glNil|(refine Aa.int ?_;omega)|(refine Aa.glLen ?_;first|omega|simp)|exact Aa.of_eq rfl|(refine Aa.q rfl ?_;omega)|exact Z0 _|exact Z2 _|exact Aa.z0 (k:=0)|exact Aa.z1 (k:=0)|exact Aa.z2 (k:=0)|exact Aa.z0|exact Aa.z1|exact Aa.z2))));done))))
       ·repeat (first|exact Ac|(refine List.forall_mem_cons.2 ⟨?_,?_⟩;focus (first|exact Ap inferInstance|(refine AG rfl ?_ rfl;focus ((repeat (first|exact EntL.nil' rfl|(refine EntL.cons' rfl ?_ ?_;focus (first|exact Aa.ratsLe (by omega)|exact Aa.ratsNil|exact Aa.glNil|(refine Aa.int ?_;omega)|(refine Aa.glLen ?_;first|omega|simp)|exact Aa.of_eq rfl|(refine Aa.q rfl ?_;omega)|exact Z0 _|exact Z2 _|exact Aa.z0 (k:=0)|exact Aa.z1 (k:=0)|exact Aa.z2 (k:=0)|exact Aa.z0|exact Aa.z1|exact Aa.z2))));done)))))
      intro a9 w9 hc9
      show Code.wp Tryz.prog _ _ a9 w9
      refine I9 (ss:= [(0,.one (.v x0)),(1,.one (DR j l)),(3,AK ((i+1:Nat):Nat)),(6,AK (l.length:Nat)),(7,AK ((i+1:Nat):Nat))]) (id:= .normal) hc9 ?_ ?_
      ·repeat (first
        | refine Aq ?_|refine Ah ?_|refine Af rfl ?_|refine Ag rfl ?_
        | ((first|refine Ae (by kernel_rfl) ?_|refine Ak (by kernel_rfl) (by kernel_rfl) (by kernel_rfl) ?_)
           repeat (first
            | refine AN (hl:=?_)
            | refine Al (hl:=?_)
            | refine Ad (hl:=?_)
            | refine As (hl:=?_)
            | refine Ax (hl:=?_)
            | refine Ab (hl:=?_)
            | refine BI (hl:=?_)
            | refine AH (hl:=?_)
            | refine AI (hl:=?_)
            | refine AC (hl:=?_)
            | refine AB (hl:=?_)
            | refine AD (hl:=?_)
            | refine Au (hl:=?_)
            | refine Ao (hl:=?_))
           apply Ai.nil;try refine And.intro (by kernel_rfl) ?_)
        | refine Am ?_|refine An ?_)
       try refine And.intro rfl ?_
       refine AT ?_ ?_ rfl
       ·repeat (first|exact Ac|(refine List.forall_mem_cons.2 ⟨?_,?_⟩;focus (first|exact Ent.of_eq rfl|(refine Ent.one' rfl ?_;(first|exact Aa.ratsLe (by omega)|exact Aa.ratsNil|exact Aa.glNil|(refine Aa.int ?_;omega)|(refine Aa.glLen ?_;first|omega|simp)|exact Aa.of_eq rfl|(refine Aa.q rfl ?_;omega)|exact Z0 _|exact Z2 _|exact Aa.z0 (k:=0)|exact Aa.z1 (k:=0)|exact Aa.z2 (k:=0)|exact Aa.z0|exact Aa.z1|exact Aa.z2))|(refine Ent.agg' rfl ?_;(repeat (first|exact EntL.nil' rfl|(refine EntL.cons' rfl ?_ ?_;focus (first|exact Aa.ratsLe (by omega)|exact Aa.ratsNil|exact Aa.glNil|(refine Aa.int ?_;omega)|(refine Aa.glLen ?_;first|omega|simp)|exact Aa.of_eq rfl|(refine Aa.q rfl ?_;omega)|exact Z0 _|exact Z2 _|exact Aa.z0 (k:=0)|exact Aa.z1 (k:=0)|exact Aa.z2 (k:=0)|exact Aa.z0|exact Aa.z1|exact Aa.z2))));done))))
       ·repeat (first|exact Ac|(refine List.forall_mem_cons.2 ⟨?_,?_⟩;focus (first|exact Ap inferInstance|(refine AG rfl ?_ rfl;focus ((repeat (first|exact EntL.nil' rfl|(refine EntL.cons' rfl ?_ ?_;focus (first|exact Aa.ratsLe (by omega)|exact Aa.ratsNil|exact Aa.glNil|(refine Aa.int ?_;omega)|(refine Aa.glLen ?_;first|omega|simp)|exact Aa.of_eq rfl|(refine Aa.q rfl ?_;omega)|exact Z0 _|exact Z2 _|exact Aa.z0 (k:=0)|exact Aa.z1 (k:=0)|exact Aa.z2 (k:=0)|exact Aa.z0|exact Aa.z1|exact Aa.z2))));done)))))
      intro a10 w10 hc10
      exact ⟨m,Nat.lt_succ_self m,i+1,i+1,by omega,UG _,_,W1,W3,hA1,hal1,Nat.le_trans hsz (hk6.trans hk3).size,hk3.row hNU6,hJ3,hpre',hc10⟩
     ·refine wp_cond_true he7 (wp_ret ?_)
      simp only [Exit.then,Exit.inBlock,if_true]
      refine bodyPost_ret (results_none (fn:=Tryz.f104) rfl _ _ _) hd7 ?_
      exact ⟨⟨_,rfl⟩,.inr ⟨_,⟨_,hpre'⟩,hJx3⟩⟩
end Go.Proofs.YtoabfmaagnmlhaaGreatDoor
