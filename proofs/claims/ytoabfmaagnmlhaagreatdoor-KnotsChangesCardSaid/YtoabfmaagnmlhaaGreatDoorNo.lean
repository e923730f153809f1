/-
  A loop over an iterator whose body writes one variable: by the engine.
-/
import Derived.RangeFuncBox
import Derived.Test.YtoabfmaagnmlhaaGreatDoorNj
import Derived.Test.YtoabfmaagnmlhaaGreatDoorNk
namespace Go.Proofs.YtoabfmaagnmlhaaGreatDoor
open Nat renaming le_refl→UG
open Go.RowKit
set_option linter.unusedVariables false
set_option linter.unusedSimpArgs false
set_option maxRecDepth 20000
set_option maxHeartbeats 4000000
abbrev XB (V B:World) (g k0 n:Nat):Ctx:=⟨V,B,fun x=>x=g,n,[k0],fun _=>(g,1)⟩
theorem TJ {V B w:World} {n g k0:Nat} {ss:List (Nat×AV)} {v:Value} {e:TypeId} {a:Act} (hF:Fr V w) (hk:Kd (fun x=>x=g) B w) (hd:a.defers= []) (hs:a.tmps.size=n) (hg:w.heap[g]?=some (.cells #[v] e (0,0))) (hv:noL v) (hna: ¬alive V g)
  (h: ∀p∈ss,cv V (fun _=>(g,1)) (fun k=>(lk [] [(k0,[C.v v])] k).length) w (a.tmps.getD p.1 undef) p.2):CN (XB V B g k0 n) (stL ss [(k0,[.v v])]) a w:=by
 have key: ∀k,(lk [] [(k0,[C.v v])] k).length≠0→k=k0:=fun k hk=>by
  unfold lk at hk
  cases hb:Nat.beq k0 k with
  | true=>exact (Nat.eq_of_beq_eq_true hb).symm
  | false=>rw [hb] at hk;exact absurd rfl hk
 have k1:lk [] [(k0,[C.v v])] k0= [C.v v]:=by
  unfold lk
  rw [show Nat.beq k0 k0=true by simp]
 refine C0.cn ⟨fun _=>(g,1),hF,hk,hd,hs,fun t=>?_,fun k hk=>?_,fun k k' h1 h2 _=>(key k h1).trans (key k' h2).symm,fun k _=>⟨hna,.inr rfl⟩,fun k hk=>?_⟩
 ·show cv V (fun _=>(g,1)) (fun k=>(lk [] [(k0,[C.v v])] k).length) w (a.tmps.getD t undef) (lk .junk ss t)
  rcases D8 (d:=AV.junk) (l:=ss) (k:=t) with h1|h1
  ·rw [h1];exact trivial
  ·exact h _ h1
 ·obtain rfl:=key k hk
  refine ⟨#[v],e,hg,rfl,?_,fun o x hx=>?_⟩
  ·show (lk [] [(k,[C.v v])] k).length≤1
   rw [k1];exact UG _
  ·have ho:o=0:=by
    have:=(Array.getElem?_eq_some_iff.1 hx).1
    simpa using this
   subst ho
   have hxv:v=x:=by simpa using hx
   subst hxv
   refine ⟨hv,fun _=>?_⟩
   show cc V _ _ w v ((lk [] [(k,[C.v v])] k).getD 0 (.v (.bool false)))∧nl ((lk [] [(k,[C.v v])] k).getD 0 (.v (.bool false)))
   rw [k1]
   exact ⟨rfl,hv⟩
 ·have:k=k0:=by simpa using hk
  subst this
  refine ⟨rfl,?_⟩
  show (lk [] [(k,[C.v v])] k).length≠0
  rw [k1];exact Nat.one_ne_zero
theorem Sw {V B w:World} {n g k0:Nat} {ss:List (Nat×AV)} {v:Value} {a:Act} (h:CN (XB V B g k0 n) (stL ss [(k0,[.v v])]) a w):Kd (fun x=>x=g) B w∧ ∃e,w.heap[g]?=some (.cells #[v] e (0,0))∧noL v:=by
 obtain ⟨W1,hg,μ,h⟩:=h
 have k1:lk [] [(k0,[C.v v])] k0= [C.v v]:=by
  unfold lk
  rw [show Nat.beq k0 k0=true by simp]
 obtain ⟨hm,hz⟩:=h.par k0 (List.mem_singleton.2 rfl)
 obtain ⟨cs,e,h1,h2,h3,h4⟩:=h.blk k0 hz
 rw [hm] at h1 h2
 refine ⟨h.kd,e,?_,?_⟩
 all_goals
  have hl:cs.size=1:=h2
  obtain ⟨x,hx⟩: ∃x,cs= #[x]:=by
   obtain ⟨l⟩:=cs
   match l,hl with
   | [x],_=>exact ⟨x,rfl⟩
  subst hx
  obtain ⟨hn,hc⟩:=h4 0 x rfl
  have hc:=(hc (by
   show 0<(lk [] [(k0,[C.v v])] k0).length
   rw [k1];exact Nat.zero_lt_one)).1
  have hc:cc W1 μ _ w x ((lk [] [(k0,[C.v v])] k0).getD 0 (.v (.bool false))):=hc
  rw [k1] at hc
  have hxv:x=v:=hc
  subst hxv
 ·exact h1
 ·exact hn
def Us (X:Ctx) (k0:Nat) (G:Prop) (v:Value) (Jm:Code→Value→Prop):Exit→St→Prop
 | .normal,σ=>G∧Wk X σ [] [(k0,[.v v])]
 | .ret,σ=> ∃v',Jm .ret v'∧Wk X σ [] [(k0,[.v v'])]
 | .exit id,σ=> ∃v',Jm (.exit id) v'∧Wk X σ [] [(k0,[.v v'])]
 | _,_=>False
theorem Kd.grownFrom {g:Nat} {w W W':World} {row:Option Nat} (h:Kd (fun x=>x=g) w W) (hg:W.grownBy W' row) (hr: ∀r,row=some r→w.heap.size≤r):Kd (fun x=>x=g) w W':=
 ⟨hg.os.trans h.os,hg.tape.trans h.tape,hg.output.trans h.output,Nat.le_trans h.size hg.size,fun k hk hd=>(hg.block k (Nat.lt_of_lt_of_le hk h.size) (fun e=>by have:=hr k e.symm;omega)).trans (h.block k hk hd)⟩
theorem To {α:Type} {P:Program} {n N:Nat} {g:Operand} {ps:Array Tmp} {assign body:Code} {gf:Nat} {lb:Array Value} {encs:α→Array Value} {S Sp:List α→Prop} {NN:Nat} {V w1:World} {gb k0:Nat} {T:TypeId} {val:List α→Value} {G:List α→Prop} {Jm:Code→List α→Value→Prop} {a:Act} {a₁:α→Act} {ssx:α→List (Nat×AV)} {Q:Exit→Act→World→Prop}
  (h1:1≤n) (hgv:a.eval g= .func (.func gf) #[] lb) (eg: ∀args w,(callFunc gf args).run P w= .ok (.enter gf args) w) (hseq:SeqStopsK Fence.wide (n-1) P gf lb encs (KpC fun x=>x=gb) S Sp NN w1) (hps: ∀x,(encs x).size=ps.size)
  (hV:Fr V w1) (hgb:w1.heap[gb]?=some (.cells #[val []] T (0,0))) (hna: ¬alive V gb) (hno: ∀pre,noL (val pre))
  (hassign: ∀(l:Nat) (x:α) (W:World) (K:Act→World→Prop),K (a₁ x) W→assign.wpIn (Fence.wide.inRound l) (n-1-1) P (Exit.then K (fun _ _ _=>False)) { tmps:=(ps.zip (encs x)).foldl (fun t (p,v)=>t.setIfInBounds p v) a.tmps,defers:= [] } W)
  (hslots: ∀x,(a₁ x).defers= []∧(a₁ x).tmps.size=N∧ ∀W sz,Fr V W→Kl w1 W→sz k0≠0→ ∀p∈ssx x,cv V (fun _=>(gb,1)) sz W ((a₁ x).tmps.getD p.1 undef) p.2)
  (hG:G []) (hbody: ∀(l:Nat) (pre:List α) (x:α) (W:World),G pre→Awf P (some l) (n-1-1) [] (XB V W gb k0 N) body (stL (ssx x) [(k0,[.v (val pre)])]) (Us (XB V W gb k0 N) k0 (G (pre++ [x])) (val (pre++ [x])) fun c v=>Jm c (pre++ [x]) v))
  (hdone: ∀(D:Nat) (xs:List α) (W:World) (e:TypeId),w1.heap.size≤D→S xs→G xs→W.heap[gb]?=some (.cells #[val xs] e (0,0))→Kd (fun x=>x=gb) w1 W→W.heap[D]?=some (.deferred (some []))→Q .normal { a with defers:= { target:= .collected D,args:= #[] } ::a.defers } W)
  (hstop: ∀(D:Nat) (c:Code) (pre:List α) (v:Value) (W:World) (e:TypeId),w1.heap.size≤D→Sp pre→Jm c pre v→noL v→W.heap[gb]?=some (.cells #[v] e (0,0))→Kd (fun x=>x=gb) w1 W→W.heap[D]?=some (.deferred (some []))→c.wpIn Fence.wide n P Q { a with defers:= { target:= .collected D,args:= #[] } ::a.defers } W):
  (Code.rangeFunc g ps assign body).wpIn Fence.wide n P Q a w1:=by
 have hlt:gb<w1.heap.size:=(Array.getElem?_eq_some_iff.1 hgb).1
 have hfr: ∀ {W:World},Kd (fun x=>x=gb) w1 W→Fr V W:=fun {W} h q hq=>by
  have h2:=hV q hq
  obtain ⟨c,e,fz,h3,h4⟩:=hq
  rw [←h2]
  exact h.block q (Array.getElem?_eq_some_iff.1 (h2.trans h3)).1 fun e=>hna (e▸⟨c,_,fz,h3,h4⟩)
 have hkl: ∀ {W:World},Kd (fun x=>x=gb) w1 W→Kl w1 W:=fun {W} h=>⟨h.size,fun q c e fz hq hu=>h.block q (Array.getElem?_eq_some_iff.1 hq).1 fun eq=>by
  subst eq
  rw [hgb] at hq
  cases hq
  obtain ⟨i,m,hi⟩:=hu
  have hi0:i=0:=by
   have:=(Array.getElem?_eq_some_iff.1 hi).1
   simpa using this
  subst hi0
  have:val []= .int .u32 m:=by simpa using hi
  exact (hno []).1 m this⟩
 refine wpIn_rangeFunc_ownF rfl h1 hgv trivial eg hseq (fun h k=>h.trans k) (fun W l o o' hle hl ho _=>KpC.put W o' hl ho (by omega)) (Below.refl _ _) hps
  (fun pre W=>(G pre∧ ∃e,W.heap[gb]?=some (.cells #[val pre] e (0,0)))∧Kd (fun x=>x=gb) w1 W)
  (fun c pre W=>(∃v e,Jm c pre v∧noL v∧W.heap[gb]?=some (.cells #[v] e (0,0)))∧Kd (fun x=>x=gb) w1 W)
  (fun s A B row hs hg hr=>⟨?_,hs.2.grownFrom hg fun r e=>(hr r e).1⟩) (fun c s A B row hs hg hr=>⟨?_,hs.2.grownFrom hg fun r e=>(hr r e).1⟩) ⟨⟨hG,T,hgb⟩,Kd.refl _ _⟩ a₁ hassign ?_ ?_ ?_
 ·obtain ⟨hG1,e,he⟩:=hs.1
  exact ⟨hG1,e,(hg.block gb (Array.getElem?_eq_some_iff.1 he).1 fun er=>by have:=(hr gb er.symm).1;omega).trans he⟩
 ·obtain ⟨v,e,hj,hv,he⟩:=hs.1
  exact ⟨v,e,hj,hv,(hg.block gb (Array.getElem?_eq_some_iff.1 he).1 fun er=>by have:=(hr gb er.symm).1;omega).trans he⟩
 ·rintro l pre x W ⟨⟨hG1,e,he⟩,hk⟩ _
  obtain ⟨hd1,hs1,hsl⟩:=hslots x
  have hz:(fun k=>(lk [] [(k0,[C.v (val pre)])] k).length) k0≠0:=by
   show (lk [] [(k0,[C.v (val pre)])] k0).length≠0
   unfold lk
   rw [show Nat.beq k0 k0=true by simp]
   exact Nat.one_ne_zero
  have hcn:CN (XB V W gb k0 N) (stL (ssx x) [(k0,[.v (val pre)])]) (a₁ x) W:=TJ (hfr hk) (Kd.refl _ _) hd1 hs1 he (hno pre) hna (hsl W _ (hfr hk) (hkl hk) hz)
  have hb:=hbody l pre x W hG1 (a₁ x) W hcn
  have e0:wd [] (a₁ x)=a₁ x:=by
   show ({ tmps:=(a₁ x).tmps,defers:= [] } :Act)=a₁ x
   rw [←hd1]
  rw [e0] at hb
  refine wpIn_mono hb ?_
  rintro ex a' W' ⟨a0,σ,rfl,hq,hc⟩
  have fin: ∀ {v:Value},Wk (XB V W gb k0 N) σ [] [(k0,[.v v])]→KeepsOthers W W'∧KpC (fun x=>x=gb) W W'∧(∃e,W'.heap[gb]?=some (.cells #[v] e (0,0)))∧noL v∧Kd (fun x=>x=gb) w1 W':=fun {v} hw=>by
   obtain ⟨hkd,e',he',hv⟩:=Sw (hw.cn hc)
   refine ⟨⟨hkd.size,fun k o ho hoc=>?_⟩,⟨hkd.os,hkd.tape,hkd.output,hkd.size,fun k c e2 fz hk2 hd2=>(hkd.block k (Array.getElem?_eq_some_iff.1 hk2).1 hd2).trans hk2,fun _ k c e2 fz hd2 hk2 i m hi=>?_⟩,⟨e',he'⟩,hv,?_⟩
   ·by_cases hkg:k=gb
    ·subst hkg
     rw [he] at ho
     cases ho
     cases hoc
    ·exact (hkd.block k (Array.getElem?_eq_some_iff.1 ho).1 hkg).trans ho
   ·subst hd2
    rw [he'] at hk2
    cases hk2
    have hi0:i=0:=by
     have:=(Array.getElem?_eq_some_iff.1 hi).1
     simpa using this
    subst hi0
    have:v= .int .u32 m:=by simpa using hi
    exact hv.1 m this
   ·exact hk.trans hkd
  cases ex with
  | normal=>
    obtain ⟨f1,f2,f3,_,f4⟩:=fin hq.2
    exact ⟨f1,f2,⟨hq.1,f3⟩,f4⟩
  | ret=>
    obtain ⟨v,hj,hw⟩:=hq
    obtain ⟨f1,_,⟨e2,f3⟩,f5,f4⟩:=fin hw
    exact ⟨f1,⟨v,e2,hj,f5,f3⟩,f4⟩
  | exit id=>
    obtain ⟨v,hj,hw⟩:=hq
    obtain ⟨f1,_,⟨e2,f3⟩,f5,f4⟩:=fin hw
    exact ⟨f1,⟨v,e2,hj,f5,f3⟩,f4⟩
  | _=>exact hq.elim
 ·rintro D xs W hD hS ⟨⟨hG1,e,he⟩,hk⟩ hDh
  exact hdone D xs W e hD hS hG1 he hk hDh
 ·rintro D c pre W hD hSp ⟨⟨v,e,hj,hv,he⟩,hk⟩ hDh
  exact hstop D c pre v W e hD hSp hj hv he hk hDh
end Go.Proofs.YtoabfmaagnmlhaaGreatDoor
