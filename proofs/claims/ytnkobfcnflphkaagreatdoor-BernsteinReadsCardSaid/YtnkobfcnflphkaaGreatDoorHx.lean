/-
  Several texts in one: Zd, Ze, Zf.
-/
import Derived.Test.YtnkobfcnflphkaaGreatDoorHy
import Derived.Test.YtnkobfcnflphkaaGreatDoorHz
namespace Go.Proofs.YtnkobfcnflphkaaGreatDoor
open List renaming getElem?_eq_getElem→Zd
open Nat renaming le_refl→Zc
open Go.RowKit
set_option linter.unusedVariables false
set_option linter.unusedSimpArgs false
set_option maxRecDepth 20000
set_option maxHeartbeats 4000000
theorem b00 {g:FuncId} [hG:Fun Tryz.prog g] {n J:Nat} {h:Nat→Rat} (hn:n≤1000)
  (H: ∀i,i≤n→Ctr Tryz.prog Amb g [At (i:Nat)] (nm J (h i))):
  Cy Tryz.prog Amb 101 [At (n:Nat),.one (.fn g [])] [] [(9,An (nmD J) (tab (n+1) h))] (.one (.gl 9 (tab (n+1) h).length 3)):=by
 have hne':(!(An (nmD J) (tab (n+1) h)).isEmpty)=true:=by
  have:=Cb (f:=nmD J) inferInstance (by decide) (show 0<(tab (n+1) h).length by simp)
  cases hb:An (nmD J) (tab (n+1) h) with
  | nil=>rw [hb] at this;cases this
  | cons a b=>rfl
 have h1:=AL (k:= .i64) (show (IntKind.i64).wrap ((n:Int)+1)=((n+1:Nat):Int) from IntWalk.i64_in _ (by omega))
 obtain ⟨R,hR⟩: ∃R,R=tab (n+1) h:=⟨_,rfl⟩
 have hRl:R.length=n+1:=by rw [hR];simp
 rw [←hR] at hne'⊢
 refine CV Tryz.func101 rfl rfl rfl rfl (by
  simp only [List.all_cons,List.all_nil,Bool.and_true,Bool.and_eq_true]
  exact ⟨by simp [inA,inC],Cr _ _,hne'⟩) (by simp [inA,inC]) (by simp) (by simp) ?_
 intro W0 base D μ0 hA hD
 repeat (first|refine Af ?_|refine Ac ?_|refine Aa rfl ?_|refine Ab rfl ?_|refine Ak ?_|refine Al ?_|refine Ad ?_|refine Ae ?_)
 refine AK (fun m σ=> ∃(i:Nat) (cur:List Rat),m=n+1-i∧i≤n+1∧cur=tab (n+1) (fun q=>if q<i then h q else 0)∧Wk ⟨W0,base,D,23,[],μ0⟩ σ [(1,.one (.fn g [])),(5,.one (.gl 9 (n+1) 3)),(11,At ((n+1:Nat):Int)),(12,At (i:Nat))] [(9,An (nmD J) cur)]) (n:=n+1) ⟨0,List.replicate (n+1) 0,by omega,by omega,Ee.trans (Ax fun q _=>(if_neg (Nat.not_lt_zero q)).symm),?_⟩ ?_
 ·exact AS
 intro m σ hI
 obtain ⟨i,cur,hm,hi0,hcur,hw⟩:=hI
 refine A5 hw ?_
 clear hw
 have hcl:cur.length=n+1:=by rw [hcur];simp
 by_cases hi:i<n+1
 ·have bi:=AJ (k:= .i64) (decide_eq_true (show (i:Int)<((n+1:Nat):Int) by omega))
  have hin:=AL (k:= .i64) (show (IntKind.i64).wrap ((i:Int)+1)=((i+1:Nat):Int) from IntWalk.i64_in _ (by omega))
  have hlt:(0:Int)≤((i:Nat):Int)∧((i:Nat):Int)<((n+1:Nat):Int):=by omega
  have hst:((i:Nat):Int).toNat*3+3≤(An (nmD J) cur).length:=by rw [AA (n:=3) inferInstance,hcl,Int.toNat_natCast];omega
  have H1:=H i (by omega)
  repeat (first|refine Af ?_|refine Ac ?_|refine Aa rfl ?_|refine Ab rfl ?_|refine Ak ?_|refine Al ?_|refine Ad ?_|refine Ae ?_)
  refine ⟨m-1,by omega,i+1,cur.set i (h i),by omega,by omega,?_,?_⟩
  ·rw [hcur]
   refine Cm (by omega) (by show (if i<i+1 then h i else 0)=_;rw [if_pos (by omega)]) fun q hq hqi=>?_
   by_cases hqq:q<i
   ·rw [if_pos hqq,if_pos (by omega)]
   ·rw [if_neg hqq,if_neg (by omega)]
  ·exact AS
 ·have bi:=AJ (k:= .i64) (decide_eq_false (show ¬(i:Int)<((n+1:Nat):Int) by omega))
  have he:cur=R:=by rw [hcur,hR];exact Ax fun q hq=>if_pos (by omega)
  subst he
  repeat (first|refine Af ?_|refine Ac ?_|refine Aa rfl ?_|refine Ab rfl ?_|refine Ak ?_|refine Al ?_|refine Ad ?_|refine Ae ?_)
  refine As (And.intro (Or.inr rfl) (Lc (ResIs.tmp rfl) (Ent.one' rfl (Ag.glLen (by omega))) ?_ ?_))
  ·repeat (first|exact Aq|refine List.forall_mem_cons.2 ⟨⟨rfl,rfl,rfl⟩,?_⟩)
  ·exact List.forall_mem_cons.2 ⟨.inl (AN inferInstance),Aq⟩
theorem b0 {g:FuncId} [hG:Fun Tryz.prog g] {n J:Nat} {h:Nat→Rat} (hn:n≤1000)
  (H: ∀i,i≤n→Ctr Tryz.prog Amb g [At (i:Nat)] (nm J (h i))):
  Ctr Tryz.prog Amb 101 [At (n:Nat),.one (.fn g [])] (.one (Cs J (n+1) h)):=
 (b00 hn H).freeze (g:=nmD J) inferInstance rfl (by simp) (.inr ⟨rfl,List.forall_mem_cons.2 ⟨rfl,List.forall_mem_cons.2 ⟨rfl,Aq⟩⟩⟩) rfl
theorem Y7 {g:FuncId} [hG:Fun Tryz.prog g] {n J:Nat} {h:Nat→Rat} {c0 c1:C} (p0:pfC c0=true) (q0:nlB c0=true) (p1:pfC c1=true) (q1:nlB c1=true) (hn:n≤1000)
  (H: ∀i,i≤n→BF Tryz.prog Amb g [At (i:Nat),.one (.ptr 901 0),.one (.ptr 902 0)] [(901,[c0],[c0]),(902,[c1],[c1])] (nm J (h i))):
  Cy Tryz.prog Amb 101 [At (n:Nat),.one (.fn g [(901,0),(902,0)])] [(901,[c0],[c0]),(902,[c1],[c1])] [(9,An (nmD J) (tab (n+1) h))] (.one (.gl 9 (tab (n+1) h).length 3)):=by
 have hne':(!(An (nmD J) (tab (n+1) h)).isEmpty)=true:=by
  have:=Cb (f:=nmD J) inferInstance (by decide) (show 0<(tab (n+1) h).length by simp)
  cases hb:An (nmD J) (tab (n+1) h) with
  | nil=>rw [hb] at this;cases this
  | cons a b=>rfl
 have h1:=AL (k:= .i64) (show (IntKind.i64).wrap ((n:Int)+1)=((n+1:Nat):Int) from IntWalk.i64_in _ (by omega))
 obtain ⟨R,hR⟩: ∃R,R=tab (n+1) h:=⟨_,rfl⟩
 have hRl:R.length=n+1:=by rw [hR];simp
 rw [←hR] at hne'⊢
 refine CV Tryz.func101 rfl rfl rfl rfl (by
  simp only [List.all_cons,List.all_nil,Bool.and_true,Bool.and_eq_true]
  exact ⟨⟨by simp [inA,inC],by simp [AB p0,AB p1]⟩,Cr _ _,hne'⟩) (by simp [inA,inC]) (by simp) (by simp) ?_
 intro W0 base D μ0 hA hD
 repeat (first|refine Af ?_|refine Ac ?_|refine Aa rfl ?_|refine Ab rfl ?_|refine Ak ?_|refine Al ?_|refine Ad ?_|refine Ae ?_)
 refine AK (fun m σ=> ∃(i:Nat) (cur:List Rat),m=n+1-i∧i≤n+1∧cur=tab (n+1) (fun q=>if q<i then h q else 0)∧Wk ⟨W0,base,D,23,[901,902],μ0⟩ σ [(1,.one (.fn g [(901,0),(902,0)])),(5,.one (.gl 9 (n+1) 3)),(11,At ((n+1:Nat):Int)),(12,At (i:Nat))] [(9,An (nmD J) cur),(901,[c0]),(902,[c1])]) (n:=n+1) ⟨0,List.replicate (n+1) 0,by omega,by omega,Ee.trans (Ax fun q _=>(if_neg (Nat.not_lt_zero q)).symm),?_⟩ ?_
 ·refine Dr ?_ ?_ rfl
  ·exact GY
  ·repeat (first|exact Aq|(refine List.forall_mem_cons.2 ⟨?_,?_⟩;focus (first|exact AN inferInstance|(refine Es inferInstance ?_;exact BQ;done)|(exact BB rfl (EntL.of_eq rfl) (by simp [q0,q1,AB p0,AB p1]))|(refine BB rfl ?_ rfl;focus (exact BQ;done)))))
 intro m σ hI
 obtain ⟨i,cur,hm,hi0,hcur,hw⟩:=hI
 refine A5 hw ?_
 clear hw
 have hcl:cur.length=n+1:=by rw [hcur];simp
 by_cases hi:i<n+1
 ·have bi:=AJ (k:= .i64) (decide_eq_true (show (i:Int)<((n+1:Nat):Int) by omega))
  have hin:=AL (k:= .i64) (show (IntKind.i64).wrap ((i:Int)+1)=((i+1:Nat):Int) from IntWalk.i64_in _ (by omega))
  have hlt:(0:Int)≤((i:Nat):Int)∧((i:Nat):Int)<((n+1:Nat):Int):=by omega
  have hst:((i:Nat):Int).toNat*3+3≤(An (nmD J) cur).length:=by rw [AA (n:=3) inferInstance,hcl,Int.toNat_natCast];omega
  have H1:=H i (by omega)
  repeat (first|refine Af ?_|refine Ac ?_|refine Aa rfl ?_|refine Ab rfl ?_|refine Ak ?_|refine Al ?_|refine Ad ?_|refine Ae ?_)
  refine ⟨m-1,by omega,i+1,cur.set i (h i),by omega,by omega,?_,?_⟩
  ·rw [hcur]
   refine Cm (by omega) (by show (if i<i+1 then h i else 0)=_;rw [if_pos (by omega)]) fun q hq hqi=>?_
   by_cases hqq:q<i
   ·rw [if_pos hqq,if_pos (by omega)]
   ·rw [if_neg hqq,if_neg (by omega)]
  ·refine Dr ?_ ?_ rfl
   ·exact GY
   ·repeat (first|exact Aq|(refine List.forall_mem_cons.2 ⟨?_,?_⟩;focus (first|exact AN inferInstance|(refine Gv inferInstance (i:=i) (show i<cur.length by omega) ?_;exact BQ;done)|(exact BB rfl (EntL.of_eq rfl) (by simp [q0,q1,AB p0,AB p1]))|(refine BB rfl ?_ rfl;focus (exact BQ;done)))))
 ·have bi:=AJ (k:= .i64) (decide_eq_false (show ¬(i:Int)<((n+1:Nat):Int) by omega))
  have he:cur=R:=by rw [hcur,hR];exact Ax fun q hq=>if_pos (by omega)
  subst he
  repeat (first|refine Af ?_|refine Ac ?_|refine Aa rfl ?_|refine Ab rfl ?_|refine Ak ?_|refine Al ?_|refine Ad ?_|refine Ae ?_)
  refine As (And.intro (Or.inr rfl) (Lc (ResIs.tmp rfl) (Ent.one' rfl (Ag.glLen (by omega))) ?_ ?_))
  ·repeat (first|exact Aq|refine List.forall_mem_cons.2 ⟨⟨rfl,rfl,by simp [p0,p1,q0,q1]⟩,?_⟩)
  ·exact List.forall_mem_cons.2 ⟨.inl (AN inferInstance),Aq⟩
theorem b11 {g:FuncId} [hG:Fun Tryz.prog g] {n J:Nat} {h:Nat→Rat} {c0 c1:C} (p0:pfC c0=true) (q0:nlB c0=true) (p1:pfC c1=true) (q1:nlB c1=true) {k1 k2:Nat} (hn:n≤1000)
  (H: ∀i,i≤n→BF Tryz.prog Amb g [At (i:Nat),.one (.ptr 901 0),.one (.ptr 902 0)] [(901,[c0],[c0]),(902,[c1],[c1])] (nm J (h i))) (hk:k1≠k2):
  BF Tryz.prog Amb 101 [At (n:Nat),.one (.fn g [(k1,0),(k2,0)])] [(k1,[c0],[c0]),(k2,[c1],[c1])] (.one (Cs J (n+1) h)):=by
 have F:=(Y7 p0 q0 p1 q1 hn H).freeze (g:=nmD J) inferInstance (by simp [p0,p1,q0,q1]) (by simp) (.inr ⟨rfl,List.forall_mem_cons.2 ⟨rfl,List.forall_mem_cons.2 ⟨rfl,Aq⟩⟩⟩) (by simp [p0,p1,q0,q1])
 exact F.ren (fun k=>if k=901 then k1 else k2) (by
  intro p hp q hq hpq
  simp only [List.mem_cons,List.not_mem_nil,or_false] at hp hq
  rcases hp with rfl|rfl<;>rcases hq with rfl|rfl<;>first|rfl|(simp at hpq;omega)) (by simp only [List.all_cons,List.all_nil,Bool.and_true,Bool.and_self,p0,p1];exact rfl) rfl
theorem YT {g:FuncId} [hG:Fun Tryz.prog g] {n J:Nat} {h:Nat→Rat} {c0 c1 c2:C} (p0:pfC c0=true) (q0:nlB c0=true) (p1:pfC c1=true) (q1:nlB c1=true) (p2:pfC c2=true) (q2:nlB c2=true) (hn:n≤1000)
  (H: ∀i,i≤n→BF Tryz.prog Amb g [At (i:Nat),.one (.ptr 901 0),.one (.ptr 902 0),.one (.ptr 903 0)] [(901,[c0],[c0]),(902,[c1],[c1]),(903,[c2],[c2])] (nm J (h i))):
  Cy Tryz.prog Amb 101 [At (n:Nat),.one (.fn g [(901,0),(902,0),(903,0)])] [(901,[c0],[c0]),(902,[c1],[c1]),(903,[c2],[c2])] [(9,An (nmD J) (tab (n+1) h))] (.one (.gl 9 (tab (n+1) h).length 3)):=by
 have hne':(!(An (nmD J) (tab (n+1) h)).isEmpty)=true:=by
  have:=Cb (f:=nmD J) inferInstance (by decide) (show 0<(tab (n+1) h).length by simp)
  cases hb:An (nmD J) (tab (n+1) h) with
  | nil=>rw [hb] at this;cases this
  | cons a b=>rfl
 have h1:=AL (k:= .i64) (show (IntKind.i64).wrap ((n:Int)+1)=((n+1:Nat):Int) from IntWalk.i64_in _ (by omega))
 obtain ⟨R,hR⟩: ∃R,R=tab (n+1) h:=⟨_,rfl⟩
 have hRl:R.length=n+1:=by rw [hR];simp
 rw [←hR] at hne'⊢
 refine CV Tryz.func101 rfl rfl rfl rfl (by
  simp only [List.all_cons,List.all_nil,Bool.and_true,Bool.and_eq_true]
  exact ⟨⟨by simp [inA,inC],by simp [AB p0,AB p1,AB p2]⟩,Cr _ _,hne'⟩) (by simp [inA,inC]) (by simp) (by simp) ?_
 intro W0 base D μ0 hA hD
 repeat (first|refine Af ?_|refine Ac ?_|refine Aa rfl ?_|refine Ab rfl ?_|refine Ak ?_|refine Al ?_|refine Ad ?_|refine Ae ?_)
 refine AK (fun m σ=> ∃(i:Nat) (cur:List Rat),m=n+1-i∧i≤n+1∧cur=tab (n+1) (fun q=>if q<i then h q else 0)∧Wk ⟨W0,base,D,23,[901,902,903],μ0⟩ σ [(1,.one (.fn g [(901,0),(902,0),(903,0)])),(5,.one (.gl 9 (n+1) 3)),(11,At ((n+1:Nat):Int)),(12,At (i:Nat))] [(9,An (nmD J) cur),(901,[c0]),(902,[c1]),(903,[c2])]) (n:=n+1) ⟨0,List.replicate (n+1) 0,by omega,by omega,Ee.trans (Ax fun q _=>(if_neg (Nat.not_lt_zero q)).symm),?_⟩ ?_
 ·refine Dr ?_ ?_ rfl
  ·exact GY
  ·repeat (first|exact Aq|(refine List.forall_mem_cons.2 ⟨?_,?_⟩;focus (first|exact AN inferInstance|(refine Es inferInstance ?_;exact BQ;done)|(exact BB rfl (EntL.of_eq rfl) (by simp [q0,q1,q2,AB p0,AB p1,AB p2]))|(refine BB rfl ?_ rfl;focus (exact BQ;done)))))
 intro m σ hI
 obtain ⟨i,cur,hm,hi0,hcur,hw⟩:=hI
 refine A5 hw ?_
 clear hw
 have hcl:cur.length=n+1:=by rw [hcur];simp
 by_cases hi:i<n+1
 ·have bi:=AJ (k:= .i64) (decide_eq_true (show (i:Int)<((n+1:Nat):Int) by omega))
  have hin:=AL (k:= .i64) (show (IntKind.i64).wrap ((i:Int)+1)=((i+1:Nat):Int) from IntWalk.i64_in _ (by omega))
  have hlt:(0:Int)≤((i:Nat):Int)∧((i:Nat):Int)<((n+1:Nat):Int):=by omega
  have hst:((i:Nat):Int).toNat*3+3≤(An (nmD J) cur).length:=by rw [AA (n:=3) inferInstance,hcl,Int.toNat_natCast];omega
  have H1:=H i (by omega)
  repeat (first|refine Af ?_|refine Ac ?_|refine Aa rfl ?_|refine Ab rfl ?_|refine Ak ?_|refine Al ?_|refine Ad ?_|refine Ae ?_)
  refine ⟨m-1,by omega,i+1,cur.set i (h i),by omega,by omega,?_,?_⟩
  ·rw [hcur]
   refine Cm (by omega) (by show (if i<i+1 then h i else 0)=_;rw [if_pos (by omega)]) fun q hq hqi=>?_
   by_cases hqq:q<i
   ·rw [if_pos hqq,if_pos (by omega)]
   ·rw [if_neg hqq,if_neg (by omega)]
  ·refine Dr ?_ ?_ rfl
   ·exact GY
   ·repeat (first|exact Aq|(refine List.forall_mem_cons.2 ⟨?_,?_⟩;focus (first|exact AN inferInstance|(refine Gv inferInstance (i:=i) (show i<cur.length by omega) ?_;exact BQ;done)|(exact BB rfl (EntL.of_eq rfl) (by simp [q0,q1,q2,AB p0,AB p1,AB p2]))|(refine BB rfl ?_ rfl;focus (exact BQ;done)))))
 ·have bi:=AJ (k:= .i64) (decide_eq_false (show ¬(i:Int)<((n+1:Nat):Int) by omega))
  have he:cur=R:=by rw [hcur,hR];exact Ax fun q hq=>if_pos (by omega)
  subst he
  repeat (first|refine Af ?_|refine Ac ?_|refine Aa rfl ?_|refine Ab rfl ?_|refine Ak ?_|refine Al ?_|refine Ad ?_|refine Ae ?_)
  refine As (And.intro (Or.inr rfl) (Lc (ResIs.tmp rfl) (Ent.one' rfl (Ag.glLen (by omega))) ?_ ?_))
  ·repeat (first|exact Aq|refine List.forall_mem_cons.2 ⟨⟨rfl,rfl,by simp [p0,p1,p2,q0,q1,q2]⟩,?_⟩)
  ·exact List.forall_mem_cons.2 ⟨.inl (AN inferInstance),Aq⟩
theorem YU {g:FuncId} [hG:Fun Tryz.prog g] {n J:Nat} {h:Nat→Rat} {c0 c1 c2:C} (p0:pfC c0=true) (q0:nlB c0=true) (p1:pfC c1=true) (q1:nlB c1=true) (p2:pfC c2=true) (q2:nlB c2=true) {k1 k2 k3:Nat} (hn:n≤1000)
  (H: ∀i,i≤n→BF Tryz.prog Amb g [At (i:Nat),.one (.ptr 901 0),.one (.ptr 902 0),.one (.ptr 903 0)] [(901,[c0],[c0]),(902,[c1],[c1]),(903,[c2],[c2])] (nm J (h i))) (hk:k1≠k2∧k1≠k3∧k2≠k3):
  BF Tryz.prog Amb 101 [At (n:Nat),.one (.fn g [(k1,0),(k2,0),(k3,0)])] [(k1,[c0],[c0]),(k2,[c1],[c1]),(k3,[c2],[c2])] (.one (Cs J (n+1) h)):=by
 have F:=(YT p0 q0 p1 q1 p2 q2 hn H).freeze (g:=nmD J) inferInstance (by simp [p0,p1,p2,q0,q1,q2]) (by simp) (.inr ⟨rfl,List.forall_mem_cons.2 ⟨rfl,List.forall_mem_cons.2 ⟨rfl,Aq⟩⟩⟩) (by simp [p0,p1,p2,q0,q1,q2])
 exact F.ren (fun k=>if k=901 then k1 else if k=902 then k2 else k3) (by
  intro p hp q hq hpq
  simp only [List.mem_cons,List.not_mem_nil,or_false] at hp hq
  rcases hp with rfl|rfl|rfl<;>rcases hq with rfl|rfl|rfl<;>first|rfl|(simp at hpq;omega)) (by simp only [List.all_cons,List.all_nil,Bool.and_true,Bool.and_self,p0,p1,p2];exact rfl) rfl
theorem YR {g:FuncId} [hG:Fun Tryz.prog g] {n J:Nat} {h:Nat→Rat} {c0 c1 c2 c3 c4:C} (p0:pfC c0=true) (q0:nlB c0=true) (p1:pfC c1=true) (q1:nlB c1=true) (p2:pfC c2=true) (q2:nlB c2=true) (p3:pfC c3=true) (q3:nlB c3=true) (p4:pfC c4=true) (q4:nlB c4=true) (hn:n≤1000)
  (H: ∀i,i≤n→BF Tryz.prog Amb g [At (i:Nat),.one (.ptr 901 0),.one (.ptr 902 0),.one (.ptr 903 0)] [(901,[c0],[c0]),(902,[c1,c2,c3],[c1,c2,c3]),(903,[c4],[c4])] (nm J (h i))):
  Cy Tryz.prog Amb 101 [At (n:Nat),.one (.fn g [(901,0),(902,0),(903,0)])] [(901,[c0],[c0]),(902,[c1,c2,c3],[c1,c2,c3]),(903,[c4],[c4])] [(9,An (nmD J) (tab (n+1) h))] (.one (.gl 9 (tab (n+1) h).length 3)):=by
 have hne':(!(An (nmD J) (tab (n+1) h)).isEmpty)=true:=by
  have:=Cb (f:=nmD J) inferInstance (by decide) (show 0<(tab (n+1) h).length by simp)
  cases hb:An (nmD J) (tab (n+1) h) with
  | nil=>rw [hb] at this;cases this
  | cons a b=>rfl
 have h1:=AL (k:= .i64) (show (IntKind.i64).wrap ((n:Int)+1)=((n+1:Nat):Int) from IntWalk.i64_in _ (by omega))
 obtain ⟨R,hR⟩: ∃R,R=tab (n+1) h:=⟨_,rfl⟩
 have hRl:R.length=n+1:=by rw [hR];simp
 rw [←hR] at hne'⊢
 refine CV Tryz.func101 rfl rfl rfl rfl (by
  simp only [List.all_cons,List.all_nil,Bool.and_true,Bool.and_eq_true]
  exact ⟨⟨by simp [inA,inC],by simp [AB p0,AB p1,AB p2,AB p3,AB p4]⟩,Cr _ _,hne'⟩) (by simp [inA,inC]) (by simp) (by simp) ?_
 intro W0 base D μ0 hA hD
 repeat (first|refine Af ?_|refine Ac ?_|refine Aa rfl ?_|refine Ab rfl ?_|refine Ak ?_|refine Al ?_|refine Ad ?_|refine Ae ?_)
 refine AK (fun m σ=> ∃(i:Nat) (cur:List Rat),m=n+1-i∧i≤n+1∧cur=tab (n+1) (fun q=>if q<i then h q else 0)∧Wk ⟨W0,base,D,23,[901,902,903],μ0⟩ σ [(1,.one (.fn g [(901,0),(902,0),(903,0)])),(5,.one (.gl 9 (n+1) 3)),(11,At ((n+1:Nat):Int)),(12,At (i:Nat))] [(9,An (nmD J) cur),(901,[c0]),(902,[c1,c2,c3]),(903,[c4])]) (n:=n+1) ⟨0,List.replicate (n+1) 0,by omega,by omega,Ee.trans (Ax fun q _=>(if_neg (Nat.not_lt_zero q)).symm),?_⟩ ?_
 ·refine Dr ?_ ?_ rfl
  ·exact GY
  ·repeat (first|exact Aq|(refine List.forall_mem_cons.2 ⟨?_,?_⟩;focus (first|exact AN inferInstance|(refine Es inferInstance ?_;exact BQ;done)|(exact BB rfl (EntL.of_eq rfl) (by simp [q0,q1,q2,q3,q4,AB p0,AB p1,AB p2,AB p3,AB p4]))|(refine BB rfl ?_ rfl;focus (exact BQ;done)))))
 intro m σ hI
 obtain ⟨i,cur,hm,hi0,hcur,hw⟩:=hI
 refine A5 hw ?_
 clear hw
 have hcl:cur.length=n+1:=by rw [hcur];simp
 by_cases hi:i<n+1
 ·have bi:=AJ (k:= .i64) (decide_eq_true (show (i:Int)<((n+1:Nat):Int) by omega))
  have hin:=AL (k:= .i64) (show (IntKind.i64).wrap ((i:Int)+1)=((i+1:Nat):Int) from IntWalk.i64_in _ (by omega))
  have hlt:(0:Int)≤((i:Nat):Int)∧((i:Nat):Int)<((n+1:Nat):Int):=by omega
  have hst:((i:Nat):Int).toNat*3+3≤(An (nmD J) cur).length:=by rw [AA (n:=3) inferInstance,hcl,Int.toNat_natCast];omega
  have H1:=H i (by omega)
  repeat (first|refine Af ?_|refine Ac ?_|refine Aa rfl ?_|refine Ab rfl ?_|refine Ak ?_|refine Al ?_|refine Ad ?_|refine Ae ?_)
  refine ⟨m-1,by omega,i+1,cur.set i (h i),by omega,by omega,?_,?_⟩
  ·rw [hcur]
   refine Cm (by omega) (by show (if i<i+1 then h i else 0)=_;rw [if_pos (by omega)]) fun q hq hqi=>?_
   by_cases hqq:q<i
   ·rw [if_pos hqq,if_pos (by omega)]
   ·rw [if_neg hqq,if_neg (by omega)]
  ·refine Dr ?_ ?_ rfl
   ·exact GY
   ·repeat (first|exact Aq|(refine List.forall_mem_cons.2 ⟨?_,?_⟩;focus (first|exact AN inferInstance|(refine Gv inferInstance (i:=i) (show i<cur.length by omega) ?_;exact BQ;done)|(exact BB rfl (EntL.of_eq rfl) (by simp [q0,q1,q2,q3,q4,AB p0,AB p1,AB p2,AB p3,AB p4]))|(refine BB rfl ?_ rfl;focus (exact BQ;done)))))
 ·have bi:=AJ (k:= .i64) (decide_eq_false (show ¬(i:Int)<((n+1:Nat):Int) by omega))
  have he:cur=R:=by rw [hcur,hR];exact Ax fun q hq=>if_pos (by omega)
  subst he
  repeat (first|refine Af ?_|refine Ac ?_|refine Aa rfl ?_|refine Ab rfl ?_|refine Ak ?_|refine Al ?_|refine Ad ?_|refine Ae ?_)
  refine As (And.intro (Or.inr rfl) (Lc (ResIs.tmp rfl) (Ent.one' rfl (Ag.glLen (by omega))) ?_ ?_))
  ·repeat (first|exact Aq|refine List.forall_mem_cons.2 ⟨⟨rfl,rfl,by simp [p0,p1,p2,p3,p4,q0,q1,q2,q3,q4]⟩,?_⟩)
  ·exact List.forall_mem_cons.2 ⟨.inl (AN inferInstance),Aq⟩
theorem Y4 {g:FuncId} [hG:Fun Tryz.prog g] {n J:Nat} {h:Nat→Rat} {c0 c1 c2 c3 c4:C} (p0:pfC c0=true) (q0:nlB c0=true) (p1:pfC c1=true) (q1:nlB c1=true) (p2:pfC c2=true) (q2:nlB c2=true) (p3:pfC c3=true) (q3:nlB c3=true) (p4:pfC c4=true) (q4:nlB c4=true) {k1 k2 k3:Nat} (hn:n≤1000)
  (H: ∀i,i≤n→BF Tryz.prog Amb g [At (i:Nat),.one (.ptr 901 0),.one (.ptr 902 0),.one (.ptr 903 0)] [(901,[c0],[c0]),(902,[c1,c2,c3],[c1,c2,c3]),(903,[c4],[c4])] (nm J (h i))) (hk:k1≠k2∧k1≠k3∧k2≠k3):
  BF Tryz.prog Amb 101 [At (n:Nat),.one (.fn g [(k1,0),(k2,0),(k3,0)])] [(k1,[c0],[c0]),(k2,[c1,c2,c3],[c1,c2,c3]),(k3,[c4],[c4])] (.one (Cs J (n+1) h)):=by
 have F:=(YR p0 q0 p1 q1 p2 q2 p3 q3 p4 q4 hn H).freeze (g:=nmD J) inferInstance (by simp [p0,p1,p2,p3,p4,q0,q1,q2,q3,q4]) (by simp) (.inr ⟨rfl,List.forall_mem_cons.2 ⟨rfl,List.forall_mem_cons.2 ⟨rfl,Aq⟩⟩⟩) (by simp [p0,p1,p2,p3,p4,q0,q1,q2,q3,q4])
 exact F.ren (fun k=>if k=901 then k1 else if k=902 then k2 else k3) (by
  intro p hp q hq hpq
  simp only [List.mem_cons,List.not_mem_nil,or_false] at hp hq
  rcases hp with rfl|rfl|rfl<;>rcases hq with rfl|rfl|rfl<;>first|rfl|(simp at hpq;omega)) (by simp only [List.all_cons,List.all_nil,Bool.and_true,Bool.and_self,p0,p1,p2,p3,p4];exact rfl) rfl
theorem Y5 {g:FuncId} [hG:Fun Tryz.prog g] {n J:Nat} {h:Nat→Rat} {c0 c1 c2 c3:C} (p0:pfC c0=true) (q0:nlB c0=true) (p1:pfC c1=true) (q1:nlB c1=true) (p2:pfC c2=true) (q2:nlB c2=true) (p3:pfC c3=true) (q3:nlB c3=true) (hn:n≤1000)
  (H: ∀i,i≤n→BF Tryz.prog Amb g [At (i:Nat),.one (.ptr 901 0),.one (.ptr 902 0)] [(901,[c0],[c0]),(902,[c1,c2,c3],[c1,c2,c3])] (nm J (h i))):
  Cy Tryz.prog Amb 101 [At (n:Nat),.one (.fn g [(901,0),(902,0)])] [(901,[c0],[c0]),(902,[c1,c2,c3],[c1,c2,c3])] [(9,An (nmD J) (tab (n+1) h))] (.one (.gl 9 (tab (n+1) h).length 3)):=by
 have hne':(!(An (nmD J) (tab (n+1) h)).isEmpty)=true:=by
  have:=Cb (f:=nmD J) inferInstance (by decide) (show 0<(tab (n+1) h).length by simp)
  cases hb:An (nmD J) (tab (n+1) h) with
  | nil=>rw [hb] at this;cases this
  | cons a b=>rfl
 have h1:=AL (k:= .i64) (show (IntKind.i64).wrap ((n:Int)+1)=((n+1:Nat):Int) from IntWalk.i64_in _ (by omega))
 obtain ⟨R,hR⟩: ∃R,R=tab (n+1) h:=⟨_,rfl⟩
 have hRl:R.length=n+1:=by rw [hR];simp
 rw [←hR] at hne'⊢
 refine CV Tryz.func101 rfl rfl rfl rfl (by
  simp only [List.all_cons,List.all_nil,Bool.and_true,Bool.and_eq_true]
  exact ⟨⟨by simp [inA,inC],by simp [AB p0,AB p1,AB p2,AB p3]⟩,Cr _ _,hne'⟩) (by simp [inA,inC]) (by simp) (by simp) ?_
 intro W0 base D μ0 hA hD
 repeat (first|refine Af ?_|refine Ac ?_|refine Aa rfl ?_|refine Ab rfl ?_|refine Ak ?_|refine Al ?_|refine Ad ?_|refine Ae ?_)
 refine AK (fun m σ=> ∃(i:Nat) (cur:List Rat),m=n+1-i∧i≤n+1∧cur=tab (n+1) (fun q=>if q<i then h q else 0)∧Wk ⟨W0,base,D,23,[901,902],μ0⟩ σ [(1,.one (.fn g [(901,0),(902,0)])),(5,.one (.gl 9 (n+1) 3)),(11,At ((n+1:Nat):Int)),(12,At (i:Nat))] [(9,An (nmD J) cur),(901,[c0]),(902,[c1,c2,c3])]) (n:=n+1) ⟨0,List.replicate (n+1) 0,by omega,by omega,Ee.trans (Ax fun q _=>(if_neg (Nat.not_lt_zero q)).symm),?_⟩ ?_
 ·refine Dr ?_ ?_ rfl
  ·exact GY
  ·repeat (first|exact Aq|(refine List.forall_mem_cons.2 ⟨?_,?_⟩;focus (first|exact AN inferInstance|(refine Es inferInstance ?_;exact BQ;done)|(exact BB rfl (EntL.of_eq rfl) (by simp [q0,q1,q2,q3,AB p0,AB p1,AB p2,AB p3]))|(refine BB rfl ?_ rfl;focus (exact BQ;done)))))
 intro m σ hI
 obtain ⟨i,cur,hm,hi0,hcur,hw⟩:=hI
 refine A5 hw ?_
 clear hw
 have hcl:cur.length=n+1:=by rw [hcur];simp
 by_cases hi:i<n+1
 ·have bi:=AJ (k:= .i64) (decide_eq_true (show (i:Int)<((n+1:Nat):Int) by omega))
  have hin:=AL (k:= .i64) (show (IntKind.i64).wrap ((i:Int)+1)=((i+1:Nat):Int) from IntWalk.i64_in _ (by omega))
  have hlt:(0:Int)≤((i:Nat):Int)∧((i:Nat):Int)<((n+1:Nat):Int):=by omega
  have hst:((i:Nat):Int).toNat*3+3≤(An (nmD J) cur).length:=by rw [AA (n:=3) inferInstance,hcl,Int.toNat_natCast];omega
  have H1:=H i (by omega)
  repeat (first|refine Af ?_|refine Ac ?_|refine Aa rfl ?_|refine Ab rfl ?_|refine Ak ?_|refine Al ?_|refine Ad ?_|refine Ae ?_)
  refine ⟨m-1,by omega,i+1,cur.set i (h i),by omega,by omega,?_,?_⟩
  ·rw [hcur]
   refine Cm (by omega) (by show (if i<i+1 then h i else 0)=_;rw [if_pos (by omega)]) fun q hq hqi=>?_
   by_cases hqq:q<i
   ·rw [if_pos hqq,if_pos (by omega)]
   ·rw [if_neg hqq,if_neg (by omega)]
  ·refine Dr ?_ ?_ rfl
   ·exact GY
   ·repeat (first|exact Aq|(refine List.forall_mem_cons.2 ⟨?_,?_⟩;focus (first|exact AN inferInstance|(refine Gv inferInstance (i:=i) (show i<cur.length by omega) ?_;exact BQ;done)|(exact BB rfl (EntL.of_eq rfl) (by simp [q0,q1,q2,q3,AB p0,AB p1,AB p2,AB p3]))|(refine BB rfl ?_ rfl;focus (exact BQ;done)))))
 ·have bi:=AJ (k:= .i64) (decide_eq_false (show ¬(i:Int)<((n+1:Nat):Int) by omega))
  have he:cur=R:=by rw [hcur,hR];exact Ax fun q hq=>if_pos (by omega)
  subst he
  repeat (first|refine Af ?_|refine Ac ?_|refine Aa rfl ?_|refine Ab rfl ?_|refine Ak ?_|refine Al ?_|refine Ad ?_|refine Ae ?_)
  refine As (And.intro (Or.inr rfl) (Lc (ResIs.tmp rfl) (Ent.one' rfl (Ag.glLen (by omega))) ?_ ?_))
  ·repeat (first|exact Aq|refine List.forall_mem_cons.2 ⟨⟨rfl,rfl,by simp [p0,p1,p2,p3,q0,q1,q2,q3]⟩,?_⟩)
  ·exact List.forall_mem_cons.2 ⟨.inl (AN inferInstance),Aq⟩
theorem b13 {g:FuncId} [hG:Fun Tryz.prog g] {n J:Nat} {h:Nat→Rat} {c0 c1 c2 c3:C} (p0:pfC c0=true) (q0:nlB c0=true) (p1:pfC c1=true) (q1:nlB c1=true) (p2:pfC c2=true) (q2:nlB c2=true) (p3:pfC c3=true) (q3:nlB c3=true) {k1 k2:Nat} (hn:n≤1000)
  (H: ∀i,i≤n→BF Tryz.prog Amb g [At (i:Nat),.one (.ptr 901 0),.one (.ptr 902 0)] [(901,[c0],[c0]),(902,[c1,c2,c3],[c1,c2,c3])] (nm J (h i))) (hk:k1≠k2):
  BF Tryz.prog Amb 101 [At (n:Nat),.one (.fn g [(k1,0),(k2,0)])] [(k1,[c0],[c0]),(k2,[c1,c2,c3],[c1,c2,c3])] (.one (Cs J (n+1) h)):=by
 have F:=(Y5 p0 q0 p1 q1 p2 q2 p3 q3 hn H).freeze (g:=nmD J) inferInstance (by simp [p0,p1,p2,p3,q0,q1,q2,q3]) (by simp) (.inr ⟨rfl,List.forall_mem_cons.2 ⟨rfl,List.forall_mem_cons.2 ⟨rfl,Aq⟩⟩⟩) (by simp [p0,p1,p2,p3,q0,q1,q2,q3])
 exact F.ren (fun k=>if k=901 then k1 else k2) (by
  intro p hp q hq hpq
  simp only [List.mem_cons,List.not_mem_nil,or_false] at hp hq
  rcases hp with rfl|rfl<;>rcases hq with rfl|rfl<;>first|rfl|(simp at hpq;omega)) (by simp only [List.all_cons,List.all_nil,Bool.and_true,Bool.and_self,p0,p1,p2,p3];exact rfl) rfl
theorem YS {g:FuncId} [hG:Fun Tryz.prog g] {n J:Nat} {h:Nat→Rat} {c0 c1 c2 c3 c4:C} (p0:pfC c0=true) (q0:nlB c0=true) (p1:pfC c1=true) (q1:nlB c1=true) (p2:pfC c2=true) (q2:nlB c2=true) (p3:pfC c3=true) (q3:nlB c3=true) (p4:pfC c4=true) (q4:nlB c4=true) (hn:n≤1000)
  (H: ∀i,i≤n→BF Tryz.prog Amb g [At (i:Nat),.one (.ptr 901 0),.one (.ptr 902 0),.one (.ptr 903 0)] [(901,[c0],[c0]),(902,[c1],[c1]),(903,[c2,c3,c4],[c2,c3,c4])] (nm J (h i))):
  Cy Tryz.prog Amb 101 [At (n:Nat),.one (.fn g [(901,0),(902,0),(903,0)])] [(901,[c0],[c0]),(902,[c1],[c1]),(903,[c2,c3,c4],[c2,c3,c4])] [(9,An (nmD J) (tab (n+1) h))] (.one (.gl 9 (tab (n+1) h).length 3)):=by
 have hne':(!(An (nmD J) (tab (n+1) h)).isEmpty)=true:=by
  have:=Cb (f:=nmD J) inferInstance (by decide) (show 0<(tab (n+1) h).length by simp)
  cases hb:An (nmD J) (tab (n+1) h) with
  | nil=>rw [hb] at this;cases this
  | cons a b=>rfl
 have h1:=AL (k:= .i64) (show (IntKind.i64).wrap ((n:Int)+1)=((n+1:Nat):Int) from IntWalk.i64_in _ (by omega))
 obtain ⟨R,hR⟩: ∃R,R=tab (n+1) h:=⟨_,rfl⟩
 have hRl:R.length=n+1:=by rw [hR];simp
 rw [←hR] at hne'⊢
 refine CV Tryz.func101 rfl rfl rfl rfl (by
  simp only [List.all_cons,List.all_nil,Bool.and_true,Bool.and_eq_true]
  exact ⟨⟨by simp [inA,inC],by simp [AB p0,AB p1,AB p2,AB p3,AB p4]⟩,Cr _ _,hne'⟩) (by simp [inA,inC]) (by simp) (by simp) ?_
 intro W0 base D μ0 hA hD
 repeat (first|refine Af ?_|refine Ac ?_|refine Aa rfl ?_|refine Ab rfl ?_|refine Ak ?_|refine Al ?_|refine Ad ?_|refine Ae ?_)
 refine AK (fun m σ=> ∃(i:Nat) (cur:List Rat),m=n+1-i∧i≤n+1∧cur=tab (n+1) (fun q=>if q<i then h q else 0)∧Wk ⟨W0,base,D,23,[901,902,903],μ0⟩ σ [(1,.one (.fn g [(901,0),(902,0),(903,0)])),(5,.one (.gl 9 (n+1) 3)),(11,At ((n+1:Nat):Int)),(12,At (i:Nat))] [(9,An (nmD J) cur),(901,[c0]),(902,[c1]),(903,[c2,c3,c4])]) (n:=n+1) ⟨0,List.replicate (n+1) 0,by omega,by omega,Ee.trans (Ax fun q _=>(if_neg (Nat.not_lt_zero q)).symm),?_⟩ ?_
 ·refine Dr ?_ ?_ rfl
  ·exact GY
  ·repeat (first|exact Aq|(refine List.forall_mem_cons.2 ⟨?_,?_⟩;focus (first|exact AN inferInstance|(refine Es inferInstance ?_;exact BQ;done)|(exact BB rfl (EntL.of_eq rfl) (by simp [q0,q1,q2,q3,q4,AB p0,AB p1,AB p2,AB p3,AB p4]))|(refine BB rfl ?_ rfl;focus (exact BQ;done)))))
 intro m σ hI
 obtain ⟨i,cur,hm,hi0,hcur,hw⟩:=hI
 refine A5 hw ?_
 clear hw
 have hcl:cur.length=n+1:=by rw [hcur];simp
 by_cases hi:i<n+1
 ·have bi:=AJ (k:= .i64) (decide_eq_true (show (i:Int)<((n+1:Nat):Int) by omega))
  have hin:=AL (k:= .i64) (show (IntKind.i64).wrap ((i:Int)+1)=((i+1:Nat):Int) from IntWalk.i64_in _ (by omega))
  have hlt:(0:Int)≤((i:Nat):Int)∧((i:Nat):Int)<((n+1:Nat):Int):=by omega
  have hst:((i:Nat):Int).toNat*3+3≤(An (nmD J) cur).length:=by rw [AA (n:=3) inferInstance,hcl,Int.toNat_natCast];omega
  have H1:=H i (by omega)
  repeat (first|refine Af ?_|refine Ac ?_|refine Aa rfl ?_|refine Ab rfl ?_|refine Ak ?_|refine Al ?_|refine Ad ?_|refine Ae ?_)
  refine ⟨m-1,by omega,i+1,cur.set i (h i),by omega,by omega,?_,?_⟩
  ·rw [hcur]
   refine Cm (by omega) (by show (if i<i+1 then h i else 0)=_;rw [if_pos (by omega)]) fun q hq hqi=>?_
   by_cases hqq:q<i
   ·rw [if_pos hqq,if_pos (by omega)]
   ·rw [if_neg hqq,if_neg (by omega)]
  ·refine Dr ?_ ?_ rfl
   ·exact GY
   ·repeat (first|exact Aq|(refine List.forall_mem_cons.2 ⟨?_,?_⟩;focus (first|exact AN inferInstance|(refine Gv inferInstance (i:=i) (show i<cur.length by omega) ?_;exact BQ;done)|(exact BB rfl (EntL.of_eq rfl) (by simp [q0,q1,q2,q3,q4,AB p0,AB p1,AB p2,AB p3,AB p4]))|(refine BB rfl ?_ rfl;focus (exact BQ;done)))))
 ·have bi:=AJ (k:= .i64) (decide_eq_false (show ¬(i:Int)<((n+1:Nat):Int) by omega))
  have he:cur=R:=by rw [hcur,hR];exact Ax fun q hq=>if_pos (by omega)
  subst he
  repeat (first|refine Af ?_|refine Ac ?_|refine Aa rfl ?_|refine Ab rfl ?_|refine Ak ?_|refine Al ?_|refine Ad ?_|refine Ae ?_)
  refine As (And.intro (Or.inr rfl) (Lc (ResIs.tmp rfl) (Ent.one' rfl (Ag.glLen (by omega))) ?_ ?_))
  ·repeat (first|exact Aq|refine List.forall_mem_cons.2 ⟨⟨rfl,rfl,by simp [p0,p1,p2,p3,p4,q0,q1,q2,q3,q4]⟩,?_⟩)
  ·exact List.forall_mem_cons.2 ⟨.inl (AN inferInstance),Aq⟩
theorem Y6 {g:FuncId} [hG:Fun Tryz.prog g] {n J:Nat} {h:Nat→Rat} {c0 c1 c2 c3 c4:C} (p0:pfC c0=true) (q0:nlB c0=true) (p1:pfC c1=true) (q1:nlB c1=true) (p2:pfC c2=true) (q2:nlB c2=true) (p3:pfC c3=true) (q3:nlB c3=true) (p4:pfC c4=true) (q4:nlB c4=true) {k1 k2 k3:Nat} (hn:n≤1000)
  (H: ∀i,i≤n→BF Tryz.prog Amb g [At (i:Nat),.one (.ptr 901 0),.one (.ptr 902 0),.one (.ptr 903 0)] [(901,[c0],[c0]),(902,[c1],[c1]),(903,[c2,c3,c4],[c2,c3,c4])] (nm J (h i))) (hk:k1≠k2∧k1≠k3∧k2≠k3):
  BF Tryz.prog Amb 101 [At (n:Nat),.one (.fn g [(k1,0),(k2,0),(k3,0)])] [(k1,[c0],[c0]),(k2,[c1],[c1]),(k3,[c2,c3,c4],[c2,c3,c4])] (.one (Cs J (n+1) h)):=by
 have F:=(YS p0 q0 p1 q1 p2 q2 p3 q3 p4 q4 hn H).freeze (g:=nmD J) inferInstance (by simp [p0,p1,p2,p3,p4,q0,q1,q2,q3,q4]) (by simp) (.inr ⟨rfl,List.forall_mem_cons.2 ⟨rfl,List.forall_mem_cons.2 ⟨rfl,Aq⟩⟩⟩) (by simp [p0,p1,p2,p3,p4,q0,q1,q2,q3,q4])
 exact F.ren (fun k=>if k=901 then k1 else if k=902 then k2 else k3) (by
  intro p hp q hq hpq
  simp only [List.mem_cons,List.not_mem_nil,or_false] at hp hq
  rcases hp with rfl|rfl|rfl<;>rcases hq with rfl|rfl|rfl<;>first|rfl|(simp at hpq;omega)) (by simp only [List.all_cons,List.all_nil,Bool.and_true,Bool.and_self,p0,p1,p2,p3,p4];exact rfl) rfl
theorem TB {ja jb i:Nat} {l m:List Rat} {x y:Rat} (hx:l[((i:Nat):Int).toNat]?=some x) (hy:m[((i:Nat):Int).toNat]?=some y) (h1:ja≤10000000) (h2:jb≤10000000) (h0:y≠0):
  BF Tryz.prog Amb 134 [At (i:Nat),.one (.ptr 901 0),.one (.ptr 902 0)] [(901,[Ap ja l],[Ap ja l]),(902,[Ap jb m],[Ap jb m])] (nm (ja+jb+2) (x/y)):=by
 have O1:=GI (j:=ja) (k:=jb) (x:=x) (y:=y) (by omega) (by omega) h0
 apply Am Tryz.func134 rfl rfl rfl rfl rfl
 case hin=>simp [inA,inC]
 intro W0 base D μ0 hA hD
 repeat (first|refine Af ?_|refine Ac ?_|refine Aa rfl ?_|refine Ab rfl ?_|refine Ak ?_|refine Al ?_|refine Ad ?_|refine Ae ?_)
 refine As (And.intro (Or.inr rfl) ?_)
 exact PY (hb:=by repeat (first|exact Aq|refine List.forall_mem_cons.2 ⟨⟨rfl,rfl,rfl⟩,?_⟩))
theorem TA {ja jb i n:Nat} {l m:List Rat} {x y:Rat} (hn:n≤1000) (hi:i≤n) (hx:l[((i:Nat):Int).toNat]?=some x) (hy:m[((n-i:Nat):Int).toNat]?=some y) (h1:ja≤10000000) (h2:jb≤10000000) (h0:y≠0):
  BF Tryz.prog Amb 135 [At (i:Nat),.one (.ptr 901 0),.one (.ptr 902 0),.one (.ptr 903 0)] [(901,[Ap ja l],[Ap ja l]),(902,[Ap jb m],[Ap jb m]),(903,[.v (.int .i64 (n:Nat))],[.v (.int .i64 (n:Nat))])] (nm (ja+jb+2) (x/y)):=by
 have O1:=GI (j:=ja) (k:=jb) (x:=x) (y:=y) (by omega) (by omega) h0
 have hd:=BI (k:= .i64) (show (IntKind.i64).wrap ((n:Int)-(i:Int))=((n-i:Nat):Int) by rw [show ((n:Int)-(i:Int))=((n-i:Nat):Int) by omega];exact IntWalk.i64_in _ (by omega))
 apply Am Tryz.func135 rfl rfl rfl rfl rfl
 case hin=>simp [inA,inC]
 intro W0 base D μ0 hA hD
 repeat (first|refine Af ?_|refine Ac ?_|refine Aa rfl ?_|refine Ab rfl ?_|refine Ak ?_|refine Al ?_|refine Ad ?_|refine Ae ?_)
 refine As (And.intro (Or.inr rfl) ?_)
 exact PY (hb:=by repeat (first|exact Aq|refine List.forall_mem_cons.2 ⟨⟨rfl,rfl,rfl⟩,?_⟩))
abbrev cf (l:List Rat) (i:Nat):Rat:=l.getD i 0
theorem Ku {j jt n a:Nat} {l:List Rat} {S u d:Rat} {M:Nat} (hl:l.length=n+1) (hr: ∀r∈l,RSz j r) (hM:Sz a M) (hS:S=((M:Int):Rat)) (hint: ∀r∈l,∃z:Int,((M:Int):Rat)*r=(z:Rat)) (hu: ∃z:Int,u=(z:Rat)∧Sz jt z.natAbs) (hd: ∃z:Int,d=(z:Rat)∧Sz jt z.natAbs):
  ∀k i,k+i≤n→RSz (a+j+n*(jt+1)+2) (BO u d (fun i=>S*cf l i) k i):=by
 intro k i hki
 obtain ⟨zu,rfl,hzu⟩:=hu
 obtain ⟨zd,rfl,hzd⟩:=hd
 have one: ∀x:Rat,x*(((1:Nat):Int):Rat)=x:=fun x=>by
  have:(((1:Nat):Int):Rat)=1:=rfl
  rw [this,Rat.mul_one]
 have h:=Ms (D:=1) (E:=1) (B:=4294967296^(a+j)) (U:=zu.natAbs) (V:=zd.natAbs) (u:=(zu:Rat)) (d:=(zd:Rat)) (f:=fun i=>S*cf l i) (n:=n) (fun i hi=>by
  have hlt:i<l.length:=by omega
  have hm:cf l i∈l:=by
   unfold cf
   rw [List.getD_eq_getElem?_getD,Zd hlt]
   exact List.getElem_mem hlt
  obtain ⟨z,hz⟩:=hint _ hm
  refine ⟨z,by show S*cf l i*_=_;rw [one,hS,hz],?_⟩
  have hb:=(hr _ hm).1
  have h1:(z:Rat)*(((cf l i).den:Int):Rat)=((M*(cf l i).num:Int):Rat):=by
   rw [←hz,Rat.intCast_mul,Rat.mul_assoc,show cf l i*(((cf l i).den:Int):Rat)=(((cf l i).num:Int):Rat) from Gn _]
  have h2:z*(cf l i).den=M*(cf l i).num:=by rw [←Rat.intCast_mul] at h1;exact Rat.intCast_inj.1 h1
  have h3:z.natAbs*(cf l i).den=M*(cf l i).num.natAbs:=by
   have:=congrArg Int.natAbs h2
   rw [Int.natAbs_mul,Int.natAbs_mul] at this
   simpa using this
  have h4:z.natAbs≤M*(cf l i).num.natAbs:=by
   rw [←h3]
   exact Nat.le_mul_of_pos_right _ (cf l i).den_pos
  have h5:=C9 (M*(cf l i).num.natAbs)
  have h6:(toL (M*(cf l i).num.natAbs)).length≤a+j:=hM.mul hb
  have h7:(4294967296:Nat)^(toL (M*(cf l i).num.natAbs)).length≤4294967296^(a+j):=Nat.pow_le_pow_right (by decide) h6
  omega) ⟨zu,one _,Zc _⟩ ⟨zd,one _,Zc _⟩ k i hki
 have hUV:Sz (jt+1) (zu.natAbs+zd.natAbs):=hzu.plus hzd
 refine h.rsz (by rw [Nat.one_pow];decide) (Aj _ _ (by rw [Nat.one_pow];exact Nat.one_lt_pow (by omega) (by decide))) ?_
 have h1:Sz (a+j+1) (4294967296^(a+j)):=Aj _ _ (Nat.pow_lt_pow_right (by decide) (by omega))
 refine (h1.mul (hUV.pow k)).mono ?_
 have:=Nat.mul_le_mul_right (jt+1) (show k≤n by omega)
 omega
theorem Sf {j k m:Nat} {x y t:Rat} (h1:j≤10000000) (h2:k≤10000000) (h3:m≤10000000):
  Ctr Tryz.prog Amb 147 [nm j x,nm k y,nm m t] (nm (j+(k+j+3+m+2)+3) (x+(y-x)*t)):=by
 have S1:=Xd (j:=k) (k:=j) (x:=y) (y:=x) (by omega) (by omega)
 have M1:=Nw (j:=k+j+3) (k:=m) (x:=y-x) (y:=t) (by omega) (by omega)
 have A1:=TT (j:=j) (k:=k+j+3+m+2) (x:=x) (y:=(y-x)*t) (by omega) (by omega)
 refine Am Tryz.func147 rfl rfl rfl rfl rfl rfl ?_
 intro W0 base D μ0 hA hD
 repeat (first|refine Af ?_|refine Ac ?_|refine Aa rfl ?_|refine Ab rfl ?_|refine Ak ?_|refine Al ?_|refine Ad ?_|refine Ae ?_)
 refine As (And.intro (Or.inr rfl) ?_)
 exact AX
end Go.Proofs.YtnkobfcnflphkaaGreatDoor
