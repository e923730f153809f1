/-
  knots.clamped: a loop over the iterator.
-/
import Derived.RangeFuncBox
import Derived.Shelf.Abstract
import Derived.Shelf.RegionOpen
import Derived.WalkKit
import Derived.Test.YtoabfmaagnmlhaaGreatDoorNk
import Derived.Test.YtoabfmaagnmlhaaGreatDoorNo
import Derived.Test.YtoabfmaagnmlhaaGreatDoorNl
namespace Go.Proofs.YtoabfmaagnmlhaaGreatDoor
open Nat renaming le_refl→UG
open Go.RowKit
attribute [local go_sem] Oper.semAt_some
set_option linter.unusedVariables false
set_option linter.unusedSimpArgs false
set_option maxRecDepth 100000
set_option maxHeartbeats 4000000
section
variable {P:Program} {X:Ctx} {ops l:List Oper} {σ:St} {K:List Eff→St→Prop} {dst:Option Tmp} {ty:TypeId} {pos:String} {af:Array Edge}
theorem Eg {op:Op} {g:Nat} {want:Bool} (hg:GI ops σ.s g= .one (.v undef)) (hl:Ai P X ops l (σ.app dst EO) (fun es σ'=>K (EO::es) σ')):Ai P X ops (⟨dst,op,ty,pos,af,some (g,want)⟩::l) σ K:=
 .of (fun _ _ hl=>by
  refine .cons (e:=EO) ?_ (fun p hp=>by cases hp) Cy hl
  have h:=hg
  unfold GI at h
  split at h
  ·rename_i o ho
   split at h
   ·rename_i d hd
    exact ⟨o,ho,d,hd,.inr (.inr ⟨h,rfl⟩)⟩
   ·cases h
  ·cases h) hl
end
theorem JZ {V w1:World} {g:Nat} {vs:Array Value} {T:TypeId} (hA:Amb V) (hF:Fr V w1) (hB:w1.heap[g]?=some (.cells vs T (0,0))) (hn: ¬alive V g):
  ∃V',Amb V'∧Fr V' w1∧Ext V V'∧(∀q,alive V' q→q=g∨alive V q)∧V'.heap[g]?=some (.cells vs T (0,0)):=by
 refine ⟨frz V g (.cells vs T (0,0)),MonoA.up hA (F3 _ hn),fun q hq=>?_,F3 _ hn,fun q hq=>DE hq,Gp _ _ _⟩
 rcases DE hq with rfl|h
 ·rw [hB,Gp]
 ·rw [hF q h];exact ((F3 _ hn) q h).symm
theorem M5 {V w1:World} {g:Nat} {v:Value} {T:TypeId} {d:D} (h:V.heap[g]?=some (.cells #[v] T (0,0))) (hv:noL v) (hd:dd V w1 v d):cv V (fun _=>(0,0)) (fun _=>0) w1 (.pointer (some ⟨g,0,none⟩)) (.one (.fp [d])):=by
 have hc:V.cell? ⟨g,0,none⟩=some v:=by
  unfold World.cell?
  rw [h]
  rfl
 refine ⟨g,0,rfl,by simp,?_⟩
 unfold ddL
 exact ⟨⟨v,hc,hv,hd⟩,by unfold ddL;trivial⟩
theorem Md {l:List Rat} {j:Nat} (hl:l.length≤1000000) {D:Nat→Prop} {w0 V:World} (hD: ∀g,D g→g<w0.heap.size) (hN:NoU D w0) (hA:Amb V) (hF:Fr V w0) (hal: ∀g,alive V g→ ¬D g) {pv:Value} (hpv:cv V (fun _=>(0,0)) (fun _=>0) w0 pv (.one (DR j l))) (n:Nat):
  SeqStopsK Fence.wide n Tryz.prog 104 #[pv] (TA l) (KpC D) (fun xs=>xs=Fn l) (fun pre=>pre<+:Fn l) (Fn l).length w0:=fun l' J Jx W hW hJ hJx hY h0=>by
 have kk:=KpC.of_below hW hD
 exact callsIn_wide.2 (Pv hl hA hal (fun g h=>Nat.lt_of_lt_of_le (hD g h) kk.size) (kk.row hN) (kk.fr hF hal) (hpv.mono (kk.kl hN) fun i hi=>absurd rfl hi) hJ hY h0)
def okR (n p:Nat) (x:Nat×Nat):Bool:=if 0<x.1∧x.2<n then decide (x.2-x.1≤p) else decide (x.2-x.1=p+1)
theorem MZ {l:List Rat} {j p:Nat} (hl:l.length≤1000000) (hp:p≤1000) {W0 w:World} (hA:Amb W0) (hF:Fr W0 w) {ao:Option Addr} {cap:Nat} (hd:dd W0 w (.slice ao l.length cap) (.lst 3 l.length (l.flatMap (nmD j)))):
  CallsIn Fence.wide 6 Tryz.prog 59 #[.slice ao l.length cap,.int .i64 (p:Nat)] w fun e W'=>e= .returned (.bool ((Fn l).all fun x=>okR l.length p x.1))∧Below w.heap.size w W':=by
 refine callsIn_of_wp_marks Tryz.func59 rfl trivial ?_ rfl
 simp only [Tryz.ntmps59,List.size_toArray,List.length_cons,List.length_nil,Nat.reduceAdd,Nat.reduceSub,Array.replicate_succ,Array.replicate_zero,List.push_toArray,List.append_toArray,List.nil_append,List.cons_append]
 have hf1:Fence.wide.fn 62:=trivial
 have h1:1≤6:=by decide
 gi_wp2_with (gi_at_call 62;refine (Tk _ _ _ _ _).mono ?_;rintro e w' ⟨rfl,rfl⟩)
 obtain ⟨w1,hw1⟩: ∃w1,w1=((((w.alloc (.cells #[.slice ao l.length cap] 25)).alloc (.cells #[.int .i64 (p:Nat)] 3)).alloc (.cells #[.bool false] 4)).alloc (.cells #[.slice ao l.length cap] 25)):=⟨_,rfl⟩
 have hB0:Below w.heap.size w w1:=by rw [hw1];exact ((((Below.refl _ w).alloc (Nat.le_refl _) _).alloc (by simp) _).alloc (by simp<;>omega) _).alloc (by simp<;>omega) _
 have hs1:w1.heap.size=w.heap.size+1+1+1+1:=by rw [hw1];simp
 have hbx:w1.heap[w.heap.size+1+1+1]?=some (.cells #[.slice ao l.length cap] 25 (0,0)):=by
  rw [hw1]
  have:=World.alloc_heap_new (((w.alloc (.cells #[.slice ao l.length cap] 25)).alloc (.cells #[.int .i64 (p:Nat)] 3)).alloc (.cells #[.bool false] 4)) (.cells #[.slice ao l.length cap] 25)
  simpa using this
 have hg2:w1.heap[w.heap.size+1+1]?=some (.cells #[.bool false] 4 (0,0)):=by
  rw [hw1]
  have:=World.alloc_heap_new ((w.alloc (.cells #[.slice ao l.length cap] 25)).alloc (.cells #[.int .i64 (p:Nat)] 3)) (.cells #[.bool false] 4)
  rw [Below.heap_alloc _ _ _ (by simp)]
  simpa using this
 have hg0:w1.heap[w.heap.size]?=some (.cells #[.slice ao l.length cap] 25 (0,0)):=by
  rw [hw1,Below.heap_alloc _ _ _ (by simp<;>omega),Below.heap_alloc _ _ _ (by simp<;>omega),Below.heap_alloc _ _ _ (by simp)]
  exact World.alloc_heap_new w _
 have hg1:w1.heap[w.heap.size+1]?=some (.cells #[.int .i64 (p:Nat)] 3 (0,0)):=by
  rw [hw1,Below.heap_alloc _ _ _ (by simp<;>omega),Below.heap_alloc _ _ _ (by simp)]
  have:=World.alloc_heap_new (w.alloc (.cells #[.slice ao l.length cap] 25)) (.cells #[.int .i64 (p:Nat)] 3)
  simpa using this
 rw [←hw1]
 clear hw1
 have hkl:Kl w w1:=⟨hB0.size,fun g c e fz hg _=>hB0.block g (Array.getElem?_eq_some_iff.1 hg).1⟩
 have hlt0: ∀g,alive W0 g→g<w.heap.size:=fun g hg=>by
  have h:=hF _ hg
  obtain ⟨c,e,fz,h1,h2⟩:=hg
  exact (Array.getElem?_eq_some_iff.1 (h.trans h1)).1
 have hF1:Fr W0 w1:=fun g hg=>by
  rw [←hF g hg]
  exact hB0.block g (hlt0 g hg)
 obtain ⟨V1,hA1,hF2,he1,hal1,hc1⟩:=JZ hA hF1 hg0 fun h=>by have:=hlt0 _ h;omega
 have hn2: ¬alive V1 (w.heap.size+1):=fun h=>by
  rcases hal1 _ h with h|h
  ·omega
  ·have:=hlt0 _ h;omega
 obtain ⟨V2,hA2,hF3,he2,hal2,hc2⟩:=JZ hA1 hF2 hg1 hn2
 have hn3: ¬alive V2 (w.heap.size+1+1+1):=fun h=>by
  rcases hal2 _ h with h|h
  ·omega
  ·rcases hal1 _ h with h|h
   ·omega
   ·have:=hlt0 _ h;omega
 obtain ⟨V,hAV,hFV,he3,hal3,hc3⟩:=JZ hA2 hF3 hbx hn3
 have halV: ∀g,alive V g→g≠w.heap.size+1+1:=fun g h=>by
  rcases hal3 _ h with h|h
  ·omega
  ·rcases hal2 _ h with h|h
   ·omega
   ·rcases hal1 _ h with h|h
    ·omega
    ·have:=hlt0 _ h;omega
 have hsl:noL (Value.slice ao l.length cap):=⟨fun n e=>(by cases e),rfl⟩
 have hil:noL (Value.int .i64 (p:Nat)):=⟨fun n e=>(by cases e),rfl⟩
 have hdV:dd V w1 (.slice ao l.length cap) (.lst 3 l.length (l.flatMap (nmD j))):=dd.mono ((he1.trans he2).trans he3) hkl hd
 have hcell1:V.heap[w.heap.size]?=some (.cells #[.slice ao l.length cap] 25 (0,0)):=by
  have ha:alive V1 w.heap.size:=⟨_,_,_,hc1,by simp⟩
  rw [he3 _ (he2.alive ha),he2 _ ha]
  exact hc1
 have hcell2:V.heap[w.heap.size+1]?=some (.cells #[.int .i64 (p:Nat)] 3 (0,0)):=by
  have ha:alive V2 (w.heap.size+1):=⟨_,_,_,hc2,by simp⟩
  rw [he3 _ ha]
  exact hc2
 have hp2:cv V (fun _=>(0,0)) (fun _=>0) w1 (.pointer (some ⟨w.heap.size,0,none⟩)) (.one (DR j l)):=M5 hcell1 hsl hdV
 have hp3:cv V (fun _=>(0,0)) (fun _=>0) w1 (.pointer (some ⟨w.heap.size+1,0,none⟩)) (.one (.fp [.v (.int .i64 (p:Nat))])):=M5 hcell2 hil (by unfold dd;rfl)
 have hpr:cv V (fun _=>(0,0)) (fun _=>0) w1 (.pointer (some ⟨w.heap.size+1+1+1,0,none⟩)) (.one (DR j l)):=M5 hc3 hsl hdV
 have hseq:=Md (D:=fun x=>x=w.heap.size+1+1) hl (fun g hg=>by omega) (fun k c e fz hk hh i n hi=>by
  subst hk
  rw [hg2] at hh
  cases hh
  have hi0:i=0:=by
   have:=(Array.getElem?_eq_some_iff.1 hi).1
   simpa using this
  subst hi0
  cases hi) hAV hFV halV hpr 5
 refine To (G:=fun pre=> ∀y∈pre,okR l.length p y.1=true) (val:=fun _=> .bool false) (Jm:=fun c pre v=>c= .ret∧v= .bool false∧ ∃y∈pre,okR l.length p y.1=false) (k0:=4) (N:=40) (V:=V) (gb:=w.heap.size+1+1)
  (ssx:=fun x=> [(2,.one (DR j l)),(3,.one (.fp [.v (.int .i64 (p:Nat))])),(4,.one (.ptr 4 0)),(5,AK (x.1.1:Nat)),(6,AK (x.1.2:Nat))])
  (a₁:=fun x=> { tmps:= #[.slice ao l.length cap,.int .i64 (p:Nat),.pointer (some ⟨w.heap.size,0,none⟩),.pointer (some ⟨w.heap.size+1,0,none⟩),.pointer (some ⟨w.heap.size+1+1,0,none⟩),.int .i64 (x.1.1:Nat),.int .i64 (x.1.2:Nat),undef,undef,.slice ao l.length cap,.func (.func 104) #[] #[.pointer (some ⟨w.heap.size+1+1+1,0,none⟩)],.int .i64 (x.1.1:Nat),.int .i64 (x.1.2:Nat),undef,undef,undef,undef,undef,undef,undef,undef,undef,undef,undef,undef,undef,undef,undef,undef,undef,undef,undef,undef,undef,undef,undef,undef,undef,undef,undef],defers:= [] })
  h1 rfl (enters_of Tryz.func104 (by kernel_rfl) rfl) hseq (fun _=>rfl) hFV hg2 (fun h=>halV _ h rfl) (fun _=>⟨fun n e=>(by cases e),rfl⟩) ?assign ?slots (fun y hy=>by cases hy) ?body ?done ?stop
 case assign=>
  intro l x W K hK
  gi_wp2
  exact hK
 case slots=>
  intro x
  refine ⟨rfl,rfl,fun W sz hFW hkW hz=>?_⟩
  exact List.forall_mem_cons.2 ⟨hp2.mono hkW fun i hi=>absurd rfl hi,List.forall_mem_cons.2 ⟨hp3.mono hkW fun i hi=>absurd rfl hi,List.forall_mem_cons.2 ⟨⟨rfl,hz⟩,List.forall_mem_cons.2 ⟨rfl,List.forall_mem_cons.2 ⟨rfl,Ac⟩⟩⟩⟩⟩
 case body=>
  rintro l' pre ⟨⟨x1,x2⟩,hx12,hx2⟩ W hG
  have hGn:okR l.length p (x1,x2)=true→ ∀y∈pre++ [⟨(x1,x2),hx12,hx2⟩],okR l.length p y.1=true:=fun h y hy=>by
   rcases List.mem_append.1 hy with h2|h2
   ·exact hG y h2
   ·rw [List.mem_singleton.1 h2];exact h
  have hGs:okR l.length p (x1,x2)=false→ ∃y∈pre++ [(⟨(x1,x2),hx12,hx2⟩:Rn l)],okR l.length p y.1=false:=fun h=>⟨_,List.mem_append.2 (.inr (List.mem_singleton.2 rfl)),h⟩
  have s1:=Cq (k:= .i64) (show (IntKind.i64).wrap ((x2:Int)-(x1:Int))=((x2-x1:Nat):Int) by rw [show ((x2:Int)-(x1:Int))=((x2-x1:Nat):Int) by omega];exact IntWalk.i64_in _ (by omega))
  have a1:=BJ (k:= .i64) (show (IntKind.i64).wrap ((p:Int)+1)=((p+1:Nat):Int) from IntWalk.i64_in _ (by omega))
  by_cases h0:0<x1
  ·have b1:=EP (k:= .i64) (decide_eq_true (show ((x1:Nat):Int)>0 by omega))
   by_cases h2:x2<l.length
   ·have b2:=Cf (k:= .i64) (decide_eq_true (show ((x2:Nat):Int)<((l.length:Nat):Int) by omega))
    by_cases h3:x2-x1≤p
    ·have b3:=EP (k:= .i64) (decide_eq_false (show ¬((x2-x1:Nat):Int)>((p:Nat):Int) by omega))
     have hk:okR l.length p (x1,x2)=true:=by unfold okR;rw [if_pos ⟨h0,h2⟩];exact decide_eq_true h3
     repeat (first
      | refine Gz ?_|refine EC ?_|refine EA rfl ?_|refine EB rfl ?_
      | ((first|refine DF (by kernel_rfl) ?_|refine Eu (by kernel_rfl) (by kernel_rfl) (by kernel_rfl) ?_)
         repeat (first
          | refine AN (hl:=?_)
          | refine Al (hl:=?_)
          | refine Ad (hl:=?_)
          | refine As (hl:=?_)
          | refine At (hl:=?_)
          | refine Dj (hl:=?_)
          | refine AA (hl:=?_)
          | refine Ax (hl:=?_)
          | refine BI (hl:=?_)
          | refine AH (hl:=?_)
          | refine AI (hl:=?_)
          | refine AC (hl:=?_)
          | refine AB (hl:=?_)
          | refine AD (hl:=?_)
          | refine Au (hl:=?_)
          | refine Ao (hl:=?_)
          | (apply Eg;(case hg=>exact rfl)))
         apply Ai.nil;try refine And.intro (by kernel_rfl) ?_)
      | refine Fl ?_|refine Fm ?_)
     refine And.intro (hGn hk) ?_
     refine AT ?_ ?_ rfl
     ·repeat (first|exact Ac|(refine List.forall_mem_cons.2 ⟨?_,?_⟩;focus (first|exact Ent.of_eq rfl|(refine Ent.one' rfl ?_;(first|exact Aa.ratsLe (by omega)|exact Aa.ratsNil|exact Aa.glNil|(refine Aa.int ?_;omega)|(refine Aa.glLen ?_;first|omega|simp)|exact Aa.of_eq rfl|(refine Aa.q rfl ?_;omega)|exact Z0 _|exact Z2 _|exact Aa.z0 (k:=0)|exact Aa.z1 (k:=0)|exact Aa.z2 (k:=0)|exact Aa.z0|exact Aa.z1|exact Aa.z2))|(refine Ent.agg' rfl ?_;(repeat (first|exact EntL.nil' rfl|(refine EntL.cons' rfl ?_ ?_;focus (first|exact Aa.ratsLe (by omega)|exact Aa.ratsNil|exact Aa.glNil|(refine Aa.int ?_;omega)|(refine Aa.glLen ?_;first|omega|simp)|exact Aa.of_eq rfl|(refine Aa.q rfl ?_;omega)|exact Z0 _|exact Z2 _|exact Aa.z0 (k:=0)|exact Aa.z1 (k:=0)|exact Aa.z2 (k:=0)|exact Aa.z0|exact Aa.z1|exact Aa.z2))));done))))
     ·repeat (first|exact Ac|(refine List.forall_mem_cons.2 ⟨?_,?_⟩;focus (first|exact Ap inferInstance|(refine AG rfl ?_ rfl;focus ((repeat (first|exact EntL.nil' rfl|(refine EntL.cons' rfl ?_ ?_;focus (first|exact Aa.ratsLe (by omega)|exact Aa.ratsNil|exact Aa.glNil|(refine Aa.int ?_;omega)|(refine Aa.glLen ?_;first|omega|simp)|exact Aa.of_eq rfl|(refine Aa.q rfl ?_;omega)|exact Z0 _|exact Z2 _|exact Aa.z0 (k:=0)|exact Aa.z1 (k:=0)|exact Aa.z2 (k:=0)|exact Aa.z0|exact Aa.z1|exact Aa.z2))));done)))))
    ·have b3:=EP (k:= .i64) (decide_eq_true (show ((x2-x1:Nat):Int)>((p:Nat):Int) by omega))
     have hk:okR l.length p (x1,x2)=false:=by unfold okR;rw [if_pos ⟨h0,h2⟩];exact decide_eq_false h3
     repeat (first
      | refine Gz ?_|refine EC ?_|refine EA rfl ?_|refine EB rfl ?_
      | ((first|refine DF (by kernel_rfl) ?_|refine Eu (by kernel_rfl) (by kernel_rfl) (by kernel_rfl) ?_)
         repeat (first
          | refine AN (hl:=?_)
          | refine Al (hl:=?_)
          | refine Ad (hl:=?_)
          | refine As (hl:=?_)
          | refine At (hl:=?_)
          | refine Dj (hl:=?_)
          | refine AA (hl:=?_)
          | refine Ax (hl:=?_)
          | refine BI (hl:=?_)
          | refine AH (hl:=?_)
          | refine AI (hl:=?_)
          | refine AC (hl:=?_)
          | refine AB (hl:=?_)
          | refine AD (hl:=?_)
          | refine Au (hl:=?_)
          | refine Ao (hl:=?_)
          | (apply Eg;(case hg=>exact rfl)))
         apply Ai.nil;try refine And.intro (by kernel_rfl) ?_)
      | refine Fl ?_|refine Fm ?_)
     refine Nt (Exists.intro (Value.bool false) (And.intro (And.intro rfl (And.intro rfl (hGs hk))) ?_))
     refine AT ?_ ?_ rfl
     ·repeat (first|exact Ac|(refine List.forall_mem_cons.2 ⟨?_,?_⟩;focus (first|exact Ent.of_eq rfl|(refine Ent.one' rfl ?_;(first|exact Aa.ratsLe (by omega)|exact Aa.ratsNil|exact Aa.glNil|(refine Aa.int ?_;omega)|(refine Aa.glLen ?_;first|omega|simp)|exact Aa.of_eq rfl|(refine Aa.q rfl ?_;omega)|exact Z0 _|exact Z2 _|exact Aa.z0 (k:=0)|exact Aa.z1 (k:=0)|exact Aa.z2 (k:=0)|exact Aa.z0|exact Aa.z1|exact Aa.z2))|(refine Ent.agg' rfl ?_;(repeat (first|exact EntL.nil' rfl|(refine EntL.cons' rfl ?_ ?_;focus (first|exact Aa.ratsLe (by omega)|exact Aa.ratsNil|exact Aa.glNil|(refine Aa.int ?_;omega)|(refine Aa.glLen ?_;first|omega|simp)|exact Aa.of_eq rfl|(refine Aa.q rfl ?_;omega)|exact Z0 _|exact Z2 _|exact Aa.z0 (k:=0)|exact Aa.z1 (k:=0)|exact Aa.z2 (k:=0)|exact Aa.z0|exact Aa.z1|exact Aa.z2))));done))))
     ·repeat (first|exact Ac|(refine List.forall_mem_cons.2 ⟨?_,?_⟩;focus (first|exact Ap inferInstance|(refine AG rfl ?_ rfl;focus ((repeat (first|exact EntL.nil' rfl|(refine EntL.cons' rfl ?_ ?_;focus (first|exact Aa.ratsLe (by omega)|exact Aa.ratsNil|exact Aa.glNil|(refine Aa.int ?_;omega)|(refine Aa.glLen ?_;first|omega|simp)|exact Aa.of_eq rfl|(refine Aa.q rfl ?_;omega)|exact Z0 _|exact Z2 _|exact Aa.z0 (k:=0)|exact Aa.z1 (k:=0)|exact Aa.z2 (k:=0)|exact Aa.z0|exact Aa.z1|exact Aa.z2))));done)))))
   ·have b2:=Cf (k:= .i64) (decide_eq_false (show ¬((x2:Nat):Int)<((l.length:Nat):Int) by omega))
    by_cases h3:x2-x1=p+1
    ·have b3:=It (k:= .i64) (decide_eq_false (show ¬((x2-x1:Nat):Int)≠((p+1:Nat):Int) by omega))
     have hk:okR l.length p (x1,x2)=true:=by unfold okR;rw [if_neg (fun h=>h2 h.2)];exact decide_eq_true h3
     repeat (first
      | refine Gz ?_|refine EC ?_|refine EA rfl ?_|refine EB rfl ?_
      | ((first|refine DF (by kernel_rfl) ?_|refine Eu (by kernel_rfl) (by kernel_rfl) (by kernel_rfl) ?_)
         repeat (first
          | refine AN (hl:=?_)
          | refine Al (hl:=?_)
          | refine Ad (hl:=?_)
          | refine As (hl:=?_)
          | refine At (hl:=?_)
          | refine Dj (hl:=?_)
          | refine AA (hl:=?_)
          | refine Ax (hl:=?_)
          | refine BI (hl:=?_)
          | refine AH (hl:=?_)
          | refine AI (hl:=?_)
          | refine AC (hl:=?_)
          | refine AB (hl:=?_)
          | refine AD (hl:=?_)
          | refine Au (hl:=?_)
          | refine Ao (hl:=?_)
          | (apply Eg;(case hg=>exact rfl)))
         apply Ai.nil;try refine And.intro (by kernel_rfl) ?_)
      | refine Fl ?_|refine Fm ?_)
     refine And.intro (hGn hk) ?_
     refine AT ?_ ?_ rfl
     ·repeat (first|exact Ac|(refine List.forall_mem_cons.2 ⟨?_,?_⟩;focus (first|exact Ent.of_eq rfl|(refine Ent.one' rfl ?_;(first|exact Aa.ratsLe (by omega)|exact Aa.ratsNil|exact Aa.glNil|(refine Aa.int ?_;omega)|(refine Aa.glLen ?_;first|omega|simp)|exact Aa.of_eq rfl|(refine Aa.q rfl ?_;omega)|exact Z0 _|exact Z2 _|exact Aa.z0 (k:=0)|exact Aa.z1 (k:=0)|exact Aa.z2 (k:=0)|exact Aa.z0|exact Aa.z1|exact Aa.z2))|(refine Ent.agg' rfl ?_;(repeat (first|exact EntL.nil' rfl|(refine EntL.cons' rfl ?_ ?_;focus (first|exact Aa.ratsLe (by omega)|exact Aa.ratsNil|exact Aa.glNil|(refine Aa.int ?_;omega)|(refine Aa.glLen ?_;first|omega|simp)|exact Aa.of_eq rfl|(refine Aa.q rfl ?_;omega)|exact Z0 _|exact Z2 _|exact Aa.z0 (k:=0)|exact Aa.z1 (k:=0)|exact Aa.z2 (k:=0)|exact Aa.z0|exact Aa.z1|exact Aa.z2))));done))))
     ·repeat (first|exact Ac|(refine List.forall_mem_cons.2 ⟨?_,?_⟩;focus (first|exact Ap inferInstance|(refine AG rfl ?_ rfl;focus ((repeat (first|exact EntL.nil' rfl|(refine EntL.cons' rfl ?_ ?_;focus (first|exact Aa.ratsLe (by omega)|exact Aa.ratsNil|exact Aa.glNil|(refine Aa.int ?_;omega)|(refine Aa.glLen ?_;first|omega|simp)|exact Aa.of_eq rfl|(refine Aa.q rfl ?_;omega)|exact Z0 _|exact Z2 _|exact Aa.z0 (k:=0)|exact Aa.z1 (k:=0)|exact Aa.z2 (k:=0)|exact Aa.z0|exact Aa.z1|exact Aa.z2))));done)))))
    ·have b3:=It (k:= .i64) (decide_eq_true (show ((x2-x1:Nat):Int)≠((p+1:Nat):Int) by omega))
     have hk:okR l.length p (x1,x2)=false:=by unfold okR;rw [if_neg (fun h=>h2 h.2)];exact decide_eq_false h3
     repeat (first
      | refine Gz ?_|refine EC ?_|refine EA rfl ?_|refine EB rfl ?_
      | ((first|refine DF (by kernel_rfl) ?_|refine Eu (by kernel_rfl) (by kernel_rfl) (by kernel_rfl) ?_)
         repeat (first
          | refine AN (hl:=?_)
          | refine Al (hl:=?_)
          | refine Ad (hl:=?_)
          | refine As (hl:=?_)
          | refine At (hl:=?_)
          | refine Dj (hl:=?_)
          | refine AA (hl:=?_)
          | refine Ax (hl:=?_)
          | refine BI (hl:=?_)
          | refine AH (hl:=?_)
          | refine AI (hl:=?_)
          | refine AC (hl:=?_)
          | refine AB (hl:=?_)
          | refine AD (hl:=?_)
          | refine Au (hl:=?_)
          | refine Ao (hl:=?_)
          | (apply Eg;(case hg=>exact rfl)))
         apply Ai.nil;try refine And.intro (by kernel_rfl) ?_)
      | refine Fl ?_|refine Fm ?_)
     refine Nt (Exists.intro (Value.bool false) (And.intro (And.intro rfl (And.intro rfl (hGs hk))) ?_))
     refine AT ?_ ?_ rfl
     ·repeat (first|exact Ac|(refine List.forall_mem_cons.2 ⟨?_,?_⟩;focus (first|exact Ent.of_eq rfl|(refine Ent.one' rfl ?_;(first|exact Aa.ratsLe (by omega)|exact Aa.ratsNil|exact Aa.glNil|(refine Aa.int ?_;omega)|(refine Aa.glLen ?_;first|omega|simp)|exact Aa.of_eq rfl|(refine Aa.q rfl ?_;omega)|exact Z0 _|exact Z2 _|exact Aa.z0 (k:=0)|exact Aa.z1 (k:=0)|exact Aa.z2 (k:=0)|exact Aa.z0|exact Aa.z1|exact Aa.z2))|(refine Ent.agg' rfl ?_;(repeat (first|exact EntL.nil' rfl|(refine EntL.cons' rfl ?_ ?_;focus (first|exact Aa.ratsLe (by omega)|exact Aa.ratsNil|exact Aa.glNil|(refine Aa.int ?_;omega)|(refine Aa.glLen ?_;first|omega|simp)|exact Aa.of_eq rfl|(refine Aa.q rfl ?_;omega)|exact Z0 _|exact Z2 _|exact Aa.z0 (k:=0)|exact Aa.z1 (k:=0)|exact Aa.z2 (k:=0)|exact Aa.z0|exact Aa.z1|exact Aa.z2))));done))))
     ·repeat (first|exact Ac|(refine List.forall_mem_cons.2 ⟨?_,?_⟩;focus (first|exact Ap inferInstance|(refine AG rfl ?_ rfl;focus ((repeat (first|exact EntL.nil' rfl|(refine EntL.cons' rfl ?_ ?_;focus (first|exact Aa.ratsLe (by omega)|exact Aa.ratsNil|exact Aa.glNil|(refine Aa.int ?_;omega)|(refine Aa.glLen ?_;first|omega|simp)|exact Aa.of_eq rfl|(refine Aa.q rfl ?_;omega)|exact Z0 _|exact Z2 _|exact Aa.z0 (k:=0)|exact Aa.z1 (k:=0)|exact Aa.z2 (k:=0)|exact Aa.z0|exact Aa.z1|exact Aa.z2))));done)))))
  ·have b1:=EP (k:= .i64) (decide_eq_false (show ¬((x1:Nat):Int)>0 by omega))
   by_cases h3:x2-x1=p+1
   ·have b3:=It (k:= .i64) (decide_eq_false (show ¬((x2-x1:Nat):Int)≠((p+1:Nat):Int) by omega))
    have hk:okR l.length p (x1,x2)=true:=by unfold okR;rw [if_neg (fun h=>h0 h.1)];exact decide_eq_true h3
    repeat (first
     | refine Gz ?_|refine EC ?_|refine EA rfl ?_|refine EB rfl ?_
     | ((first|refine DF (by kernel_rfl) ?_|refine Eu (by kernel_rfl) (by kernel_rfl) (by kernel_rfl) ?_)
        repeat (first
         | refine AN (hl:=?_)
         | refine Al (hl:=?_)
         | refine Ad (hl:=?_)
         | refine As (hl:=?_)
         | refine At (hl:=?_)
         | refine Dj (hl:=?_)
         | refine AA (hl:=?_)
         | refine Ax (hl:=?_)
         | refine BI (hl:=?_)
         | refine AH (hl:=?_)
         | refine AI (hl:=?_)
         | refine AC (hl:=?_)
         | refine AB (hl:=?_)
         | refine AD (hl:=?_)
         | refine Au (hl:=?_)
         | refine Ao (hl:=?_)
         | (apply Eg;(case hg=>exact rfl)))
        apply Ai.nil;try refine And.intro (by kernel_rfl) ?_)
     | refine Fl ?_|refine Fm ?_)
    refine And.intro (hGn hk) ?_
    refine AT ?_ ?_ rfl
    ·repeat (first|exact Ac|(refine List.forall_mem_cons.2 ⟨?_,?_⟩;focus (first|exact Ent.of_eq rfl|(refine Ent.one' rfl ?_;(first|exact Aa.ratsLe (by omega)|exact Aa.ratsNil|exact Aa.glNil|(refine Aa.int ?_;omega)|(refine Aa.glLen ?_;first|omega|simp)|exact Aa.of_eq rfl|(refine Aa.q rfl ?_;omega)|exact Z0 _|exact Z2 _|exact Aa.z0 (k:=0)|exact Aa.z1 (k:=0)|exact Aa.z2 (k:=0)|exact Aa.z0|exact Aa.z1|exact Aa.z2))|(refine Ent.agg' rfl ?_;(repeat (first|exact EntL.nil' rfl|(refine EntL.cons' rfl ?_ ?_;focus (first|exact Aa.ratsLe (by omega)|exact Aa.ratsNil|exact Aa.glNil|(refine Aa.int ?_;omega)|(refine Aa.glLen ?_;first|omega|simp)|exact Aa.of_eq rfl|(refine Aa.q rfl ?_;omega)|exact Z0 _|exact Z2 _|exact Aa.z0 (k:=0)|exact Aa.z1 (k:=0)|exact Aa.z2 (k:=0)|exact Aa.z0|exact Aa.z1|exact Aa.z2))));done))))
    ·repeat (first|exact Ac|(refine List.forall_mem_cons.2 ⟨?_,?_⟩;focus (first|exact Ap inferInstance|(refine AG rfl ?_ rfl;focus ((repeat (first|exact EntL.nil' rfl|(refine EntL.cons' rfl ?_ ?_;focus (first|exact Aa.ratsLe (by omega)|exact Aa.ratsNil|exact Aa.glNil|(refine Aa.int ?_;omega)|(refine Aa.glLen ?_;first|omega|simp)|exact Aa.of_eq rfl|(refine Aa.q rfl ?_;omega)|exact Z0 _|exact Z2 _|exact Aa.z0 (k:=0)|exact Aa.z1 (k:=0)|exact Aa.z2 (k:=0)|exact Aa.z0|exact Aa.z1|exact Aa.z2))));done)))))
   ·have b3:=It (k:= .i64) (decide_eq_true (show ((x2-x1:Nat):Int)≠((p+1:Nat):Int) by omega))
    have hk:okR l.length p (x1,x2)=false:=by unfold okR;rw [if_neg (fun h=>h0 h.1)];exact decide_eq_false h3
    repeat (first
     | refine Gz ?_|refine EC ?_|refine EA rfl ?_|refine EB rfl ?_
     | ((first|refine DF (by kernel_rfl) ?_|refine Eu (by kernel_rfl) (by kernel_rfl) (by kernel_rfl) ?_)
        repeat (first
         | refine AN (hl:=?_)
         | refine Al (hl:=?_)
         | refine Ad (hl:=?_)
         | refine As (hl:=?_)
         | refine At (hl:=?_)
         | refine Dj (hl:=?_)
         | refine AA (hl:=?_)
         | refine Ax (hl:=?_)
         | refine BI (hl:=?_)
         | refine AH (hl:=?_)
         | refine AI (hl:=?_)
         | refine AC (hl:=?_)
         | refine AB (hl:=?_)
         | refine AD (hl:=?_)
         | refine Au (hl:=?_)
         | refine Ao (hl:=?_)
         | (apply Eg;(case hg=>exact rfl)))
        apply Ai.nil;try refine And.intro (by kernel_rfl) ?_)
     | refine Fl ?_|refine Fm ?_)
    refine Nt (Exists.intro (Value.bool false) (And.intro (And.intro rfl (And.intro rfl (hGs hk))) ?_))
    refine AT ?_ ?_ rfl
    ·repeat (first|exact Ac|(refine List.forall_mem_cons.2 ⟨?_,?_⟩;focus (first|exact Ent.of_eq rfl|(refine Ent.one' rfl ?_;(first|exact Aa.ratsLe (by omega)|exact Aa.ratsNil|exact Aa.glNil|(refine Aa.int ?_;omega)|(refine Aa.glLen ?_;first|omega|simp)|exact Aa.of_eq rfl|(refine Aa.q rfl ?_;omega)|exact Z0 _|exact Z2 _|exact Aa.z0 (k:=0)|exact Aa.z1 (k:=0)|exact Aa.z2 (k:=0)|exact Aa.z0|exact Aa.z1|exact Aa.z2))|(refine Ent.agg' rfl ?_;(repeat (first|exact EntL.nil' rfl|(refine EntL.cons' rfl ?_ ?_;focus (first|exact Aa.ratsLe (by omega)|exact Aa.ratsNil|exact Aa.glNil|(refine Aa.int ?_;omega)|(refine Aa.glLen ?_;first|omega|simp)|exact Aa.of_eq rfl|(refine Aa.q rfl ?_;omega)|exact Z0 _|exact Z2 _|exact Aa.z0 (k:=0)|exact Aa.z1 (k:=0)|exact Aa.z2 (k:=0)|exact Aa.z0|exact Aa.z1|exact Aa.z2))));done))))
    ·repeat (first|exact Ac|(refine List.forall_mem_cons.2 ⟨?_,?_⟩;focus (first|exact Ap inferInstance|(refine AG rfl ?_ rfl;focus ((repeat (first|exact EntL.nil' rfl|(refine EntL.cons' rfl ?_ ?_;focus (first|exact Aa.ratsLe (by omega)|exact Aa.ratsNil|exact Aa.glNil|(refine Aa.int ?_;omega)|(refine Aa.glLen ?_;first|omega|simp)|exact Aa.of_eq rfl|(refine Aa.q rfl ?_;omega)|exact Z0 _|exact Z2 _|exact Aa.z0 (k:=0)|exact Aa.z1 (k:=0)|exact Aa.z2 (k:=0)|exact Aa.z0|exact Aa.z1|exact Aa.z2))));done)))))
 case done=>
  rintro D ys W e hD rfl hne he hk hK
  have hB:Below w.heap.size w W:=⟨hk.os.trans hB0.os,hk.tape.trans hB0.tape,hk.output.trans hB0.output,Nat.le_trans hB0.size hk.size,fun k hlt=>(hk.block k (by omega) (by omega)).trans (hB0.block k hlt)⟩
  have hcr:W.cell? ⟨w.heap.size+1+1,0,none⟩=some (.bool false):=by simp [World.cell?,he]
  have hfr:W.frozen? ⟨w.heap.size+1+1,0,none⟩=false:=by simp [World.frozen?,he]
  gi_wp2
  have hK':=(KeepsOthers.setCell W ⟨w.heap.size+1+1,0,none⟩ (.bool true)).same D _ hK rfl
  refine ⟨by simp,.inl ⟨_,_,rfl,run_takeDeferred hK',?_⟩⟩
  have hc5:=cell_kept (World.cell?_setCell_same' W ⟨w.heap.size+1+1,0,none⟩ (.bool true) (by rw [hcr];rfl)) (grownBy_putObj' _ D (.deferred none)) (fun r e=>by cases e;exact ⟨_,hK',rfl⟩)
  refine ⟨.bool true,?_,by rw [show ((Fn l).all fun x=>okR l.length p x.1)=true from List.all_eq_true.2 fun y hy=>hne y hy],(hB.setCell (p:=⟨w.heap.size+1+1,0,none⟩) (show w.heap.size≤w.heap.size+1+1 by omega) _).trans (belowK_b (w:=w) (UG _) _ D _ _ (by omega) hK' rfl rfl)⟩
  simp [results,Tryz.f59,go_sem,hc5]
 case stop=>
  rintro D c pre v W e hD hpre ⟨rfl,rfl,hin⟩ _ he hk hK
  have hB:Below w.heap.size w W:=⟨hk.os.trans hB0.os,hk.tape.trans hB0.tape,hk.output.trans hB0.output,Nat.le_trans hB0.size hk.size,fun k hlt=>(hk.block k (by omega) (by omega)).trans (hB0.block k hlt)⟩
  have hcr:W.cell? ⟨w.heap.size+1+1,0,none⟩=some (.bool false):=by simp [World.cell?,he]
  have hfalse:((Fn l).all fun x=>okR l.length p x.1)=false:=by
   obtain ⟨y,hy,h2⟩:=hin
   exact List.all_eq_false.2 ⟨y,hpre.subset hy,by rw [h2];exact Bool.false_ne_true⟩
  gi_wp2
  refine ⟨by simp,.inl ⟨_,_,rfl,run_takeDeferred hK,?_⟩⟩
  have hc5:=cell_kept hcr (grownBy_putObj' _ D (.deferred none)) (fun r e=>by cases e;exact ⟨_,hK,rfl⟩)
  refine ⟨.bool false,?_,by rw [hfalse],hB.trans (belowK_b (w:=w) (UG _) W D _ _ (by omega) hK rfl rfl)⟩
  simp [results,Tryz.f59,go_sem,hc5]
theorem Oz {l:List Rat} {j p:Nat} (hl:l.length≤1000000) (hp:p≤1000):Ctr Tryz.prog Amb 59 [.one (BF j l),AK (p:Nat)] (.one (.v (.bool ((Fn l).all fun x=>okR l.length p x.1)))):=by
 intro W0 w μ sz vs hA hF hb hi hv
 obtain ⟨v0,v1,rfl⟩: ∃v0 v1,vs= [v0,v1]:=by
  match vs,hv.1 with
  | [a,b],_=>exact ⟨a,b,rfl⟩
 have d0:dd W0 w v0 (.lst 3 l.length (l.flatMap (nmD j))):=hv.2 0 v0 _ rfl rfl
 have e1:v1= .int .i64 (p:Nat):=hv.2 1 v1 _ rfl rfl
 subst e1
 obtain ⟨ao,cap,rfl⟩: ∃ao cap,v0= .slice ao l.length cap:=by
  unfold dd at d0
  obtain ⟨_,ao,cap,h,_⟩:=d0
  exact ⟨ao,cap,h⟩
 refine (callsIn_wide.1 (MZ hl hp hA hF d0)).mono ?_
 rintro e w' ⟨rfl,hB⟩
 have hkp:Kp w w':=⟨hB.os,hB.tape,hB.output,hB.size,hB.block⟩
 exact ⟨_,W0,rfl,Kd.of_kp hkp,Gr.of_kp hF hkp,rfl,fun p hp=>by cases hp⟩
end Go.Proofs.YtoabfmaagnmlhaaGreatDoor
