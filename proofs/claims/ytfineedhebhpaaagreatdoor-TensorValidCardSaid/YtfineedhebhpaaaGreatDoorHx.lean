/-
  Several texts in one: Zd, Ze, Zf.
-/
import Derived.Test.YtfineedhebhpaaaGreatDoorHk
import Derived.Test.YtfineedhebhpaaaGreatDoorHz
namespace Go.Proofs.YtfineedhebhpaaaGreatDoor
open List renaming getElem?_eq_getElem→Yv
open Nat renaming le_refl→Yu
open Go.RowKit
set_option linter.unusedVariables false
set_option linter.unusedSimpArgs false
set_option maxRecDepth 20000
set_option maxHeartbeats 4000000
theorem b00 {g:FuncId} [hG:Fun Tryz.prog g] {n J:Nat} {h:Nat→Rat} (hn:n≤1000)
  (H: ∀i,i≤n→Ctr Tryz.prog Amb g [Ay (i:Nat)] (nm J (h i))):
  C7 Tryz.prog Amb 170 [Ay (n:Nat),.one (.fn g [])] [] [(9,Ao (nmD J) (tab (n+1) h))] (.one (.gl 9 (tab (n+1) h).length 3)):=by
 have hne':(!(Ao (nmD J) (tab (n+1) h)).isEmpty)=true:=by
  have:=Cr (f:=nmD J) inferInstance (by decide) (show 0<(tab (n+1) h).length by simp)
  cases hb:Ao (nmD J) (tab (n+1) h) with
  | nil=>rw [hb] at this;cases this
  | cons a b=>rfl
 have h1:=BW (k:= .i64) (show (IntKind.i64).wrap ((n:Int)+1)=((n+1:Nat):Int) from IntWalk.i64_in _ (by omega))
 obtain ⟨R,hR⟩: ∃R,R=tab (n+1) h:=⟨_,rfl⟩
 have hRl:R.length=n+1:=by rw [hR];simp
 rw [←hR] at hne'⊢
 refine CV Tryz.func170 rfl rfl rfl rfl (by
  simp only [List.all_cons,List.all_nil,Bool.and_true,Bool.and_eq_true]
  exact ⟨by simp [inA,inC],Cs _ _,hne'⟩) (by simp [inA,inC]) (by simp) (by simp) ?_
 intro W0 base D μ0 hA hD
 repeat (first|refine Ag ?_|refine Ac ?_|refine Aa rfl ?_|refine Ab rfl ?_|refine Am ?_|refine An ?_|refine Ad ?_|refine Ae ?_)
 refine AW (fun m σ=> ∃(i:Nat) (cur:List Rat),m=n+1-i∧i≤n+1∧cur=tab (n+1) (fun q=>if q<i then h q else 0)∧Wk ⟨W0,base,D,23,[],μ0⟩ σ [(1,.one (.fn g [])),(5,.one (.gl 9 (n+1) 3)),(11,Ay ((n+1:Nat):Int)),(12,Ay (i:Nat))] [(9,Ao (nmD J) cur)]) (n:=n+1) ⟨0,List.replicate (n+1) 0,by omega,by omega,DU.trans (AL fun q _=>(if_neg (Nat.not_lt_zero q)).symm),?_⟩ ?_
 ·exact BF
 intro m σ hI
 obtain ⟨i,cur,hm,hi0,hcur,hw⟩:=hI
 refine A8 hw ?_
 clear hw
 have hcl:cur.length=n+1:=by rw [hcur];simp
 by_cases hi:i<n+1
 ·have bi:=AS (k:= .i64) (decide_eq_true (show (i:Int)<((n+1:Nat):Int) by omega))
  have hin:=BW (k:= .i64) (show (IntKind.i64).wrap ((i:Int)+1)=((i+1:Nat):Int) from IntWalk.i64_in _ (by omega))
  have hlt:(0:Int)≤((i:Nat):Int)∧((i:Nat):Int)<((n+1:Nat):Int):=by omega
  have hst:((i:Nat):Int).toNat*3+3≤(Ao (nmD J) cur).length:=by rw [Av (n:=3) inferInstance,hcl,Int.toNat_natCast];omega
  have H1:=H i (by omega)
  repeat (first|refine Ag ?_|refine Ac ?_|refine Aa rfl ?_|refine Ab rfl ?_|refine Am ?_|refine An ?_|refine Ad ?_|refine Ae ?_)
  refine ⟨m-1,by omega,i+1,cur.set i (h i),by omega,by omega,?_,?_⟩
  ·rw [hcur]
   refine Dm (by omega) (by show (if i<i+1 then h i else 0)=_;rw [if_pos (by omega)]) fun q hq hqi=>?_
   by_cases hqq:q<i
   ·rw [if_pos hqq,if_pos (by omega)]
   ·rw [if_neg hqq,if_neg (by omega)]
  ·exact BF
 ·have bi:=AS (k:= .i64) (decide_eq_false (show ¬(i:Int)<((n+1:Nat):Int) by omega))
  have he:cur=R:=by rw [hcur,hR];exact AL fun q hq=>if_pos (by omega)
  subst he
  repeat (first|refine Ag ?_|refine Ac ?_|refine Aa rfl ?_|refine Ab rfl ?_|refine Am ?_|refine An ?_|refine Ad ?_|refine Ae ?_)
  refine Ap (And.intro (Or.inr rfl) (IG (ResIs.tmp rfl) (Ent.one' rfl (Af.glLen (by omega))) ?_ ?_))
  ·repeat (first|exact Ak|refine List.forall_mem_cons.2 ⟨⟨rfl,rfl,rfl⟩,?_⟩)
  ·exact List.forall_mem_cons.2 ⟨.inl (AN inferInstance),Ak⟩
theorem b0 {g:FuncId} [hG:Fun Tryz.prog g] {n J:Nat} {h:Nat→Rat} (hn:n≤1000)
  (H: ∀i,i≤n→Ctr Tryz.prog Amb g [Ay (i:Nat)] (nm J (h i))):
  Ctr Tryz.prog Amb 170 [Ay (n:Nat),.one (.fn g [])] (.one (EX J (n+1) h)):=
 (b00 hn H).freeze (g:=nmD J) inferInstance rfl (by simp) (.inr ⟨rfl,List.forall_mem_cons.2 ⟨rfl,List.forall_mem_cons.2 ⟨rfl,Ak⟩⟩⟩) rfl
theorem Yp {g:FuncId} [hG:Fun Tryz.prog g] {n J:Nat} {h:Nat→Rat} {c0 c1:C} (p0:pfC c0=true) (q0:nlB c0=true) (p1:pfC c1=true) (q1:nlB c1=true) (hn:n≤1000)
  (H: ∀i,i≤n→BJ Tryz.prog Amb g [Ay (i:Nat),.one (.ptr 901 0),.one (.ptr 902 0)] [(901,[c0],[c0]),(902,[c1],[c1])] (nm J (h i))):
  C7 Tryz.prog Amb 170 [Ay (n:Nat),.one (.fn g [(901,0),(902,0)])] [(901,[c0],[c0]),(902,[c1],[c1])] [(9,Ao (nmD J) (tab (n+1) h))] (.one (.gl 9 (tab (n+1) h).length 3)):=by
 have hne':(!(Ao (nmD J) (tab (n+1) h)).isEmpty)=true:=by
  have:=Cr (f:=nmD J) inferInstance (by decide) (show 0<(tab (n+1) h).length by simp)
  cases hb:Ao (nmD J) (tab (n+1) h) with
  | nil=>rw [hb] at this;cases this
  | cons a b=>rfl
 have h1:=BW (k:= .i64) (show (IntKind.i64).wrap ((n:Int)+1)=((n+1:Nat):Int) from IntWalk.i64_in _ (by omega))
 obtain ⟨R,hR⟩: ∃R,R=tab (n+1) h:=⟨_,rfl⟩
 have hRl:R.length=n+1:=by rw [hR];simp
 rw [←hR] at hne'⊢
 refine CV Tryz.func170 rfl rfl rfl rfl (by
  simp only [List.all_cons,List.all_nil,Bool.and_true,Bool.and_eq_true]
  exact ⟨⟨by simp [inA,inC],by simp [A7 p0,A7 p1]⟩,Cs _ _,hne'⟩) (by simp [inA,inC]) (by simp) (by simp) ?_
 intro W0 base D μ0 hA hD
 repeat (first|refine Ag ?_|refine Ac ?_|refine Aa rfl ?_|refine Ab rfl ?_|refine Am ?_|refine An ?_|refine Ad ?_|refine Ae ?_)
 refine AW (fun m σ=> ∃(i:Nat) (cur:List Rat),m=n+1-i∧i≤n+1∧cur=tab (n+1) (fun q=>if q<i then h q else 0)∧Wk ⟨W0,base,D,23,[901,902],μ0⟩ σ [(1,.one (.fn g [(901,0),(902,0)])),(5,.one (.gl 9 (n+1) 3)),(11,Ay ((n+1:Nat):Int)),(12,Ay (i:Nat))] [(9,Ao (nmD J) cur),(901,[c0]),(902,[c1])]) (n:=n+1) ⟨0,List.replicate (n+1) 0,by omega,by omega,DU.trans (AL fun q _=>(if_neg (Nat.not_lt_zero q)).symm),?_⟩ ?_
 ·refine Cu ?_ ?_ rfl
  ·exact Jb
  ·repeat (first|exact Ak|(refine List.forall_mem_cons.2 ⟨?_,?_⟩;focus (first|exact AN inferInstance|(refine Fu inferInstance ?_;exact CI;done)|(exact AG rfl (EntL.of_eq rfl) (by simp [q0,q1,A7 p0,A7 p1]))|(refine AG rfl ?_ rfl;focus (exact CI;done)))))
 intro m σ hI
 obtain ⟨i,cur,hm,hi0,hcur,hw⟩:=hI
 refine A8 hw ?_
 clear hw
 have hcl:cur.length=n+1:=by rw [hcur];simp
 by_cases hi:i<n+1
 ·have bi:=AS (k:= .i64) (decide_eq_true (show (i:Int)<((n+1:Nat):Int) by omega))
  have hin:=BW (k:= .i64) (show (IntKind.i64).wrap ((i:Int)+1)=((i+1:Nat):Int) from IntWalk.i64_in _ (by omega))
  have hlt:(0:Int)≤((i:Nat):Int)∧((i:Nat):Int)<((n+1:Nat):Int):=by omega
  have hst:((i:Nat):Int).toNat*3+3≤(Ao (nmD J) cur).length:=by rw [Av (n:=3) inferInstance,hcl,Int.toNat_natCast];omega
  have H1:=H i (by omega)
  repeat (first|refine Ag ?_|refine Ac ?_|refine Aa rfl ?_|refine Ab rfl ?_|refine Am ?_|refine An ?_|refine Ad ?_|refine Ae ?_)
  refine ⟨m-1,by omega,i+1,cur.set i (h i),by omega,by omega,?_,?_⟩
  ·rw [hcur]
   refine Dm (by omega) (by show (if i<i+1 then h i else 0)=_;rw [if_pos (by omega)]) fun q hq hqi=>?_
   by_cases hqq:q<i
   ·rw [if_pos hqq,if_pos (by omega)]
   ·rw [if_neg hqq,if_neg (by omega)]
  ·refine Cu ?_ ?_ rfl
   ·exact Jb
   ·repeat (first|exact Ak|(refine List.forall_mem_cons.2 ⟨?_,?_⟩;focus (first|exact AN inferInstance|(refine I5 inferInstance (i:=i) (show i<cur.length by omega) ?_;exact CI;done)|(exact AG rfl (EntL.of_eq rfl) (by simp [q0,q1,A7 p0,A7 p1]))|(refine AG rfl ?_ rfl;focus (exact CI;done)))))
 ·have bi:=AS (k:= .i64) (decide_eq_false (show ¬(i:Int)<((n+1:Nat):Int) by omega))
  have he:cur=R:=by rw [hcur,hR];exact AL fun q hq=>if_pos (by omega)
  subst he
  repeat (first|refine Ag ?_|refine Ac ?_|refine Aa rfl ?_|refine Ab rfl ?_|refine Am ?_|refine An ?_|refine Ad ?_|refine Ae ?_)
  refine Ap (And.intro (Or.inr rfl) (IG (ResIs.tmp rfl) (Ent.one' rfl (Af.glLen (by omega))) ?_ ?_))
  ·repeat (first|exact Ak|refine List.forall_mem_cons.2 ⟨⟨rfl,rfl,by simp [p0,p1,q0,q1]⟩,?_⟩)
  ·exact List.forall_mem_cons.2 ⟨.inl (AN inferInstance),Ak⟩
theorem b11 {g:FuncId} [hG:Fun Tryz.prog g] {n J:Nat} {h:Nat→Rat} {c0 c1:C} (p0:pfC c0=true) (q0:nlB c0=true) (p1:pfC c1=true) (q1:nlB c1=true) {k1 k2:Nat} (hn:n≤1000)
  (H: ∀i,i≤n→BJ Tryz.prog Amb g [Ay (i:Nat),.one (.ptr 901 0),.one (.ptr 902 0)] [(901,[c0],[c0]),(902,[c1],[c1])] (nm J (h i))) (hk:k1≠k2):
  BJ Tryz.prog Amb 170 [Ay (n:Nat),.one (.fn g [(k1,0),(k2,0)])] [(k1,[c0],[c0]),(k2,[c1],[c1])] (.one (EX J (n+1) h)):=by
 have F:=(Yp p0 q0 p1 q1 hn H).freeze (g:=nmD J) inferInstance (by simp [p0,p1,q0,q1]) (by simp) (.inr ⟨rfl,List.forall_mem_cons.2 ⟨rfl,List.forall_mem_cons.2 ⟨rfl,Ak⟩⟩⟩) (by simp [p0,p1,q0,q1])
 exact F.ren (fun k=>if k=901 then k1 else k2) (by
  intro p hp q hq hpq
  simp only [List.mem_cons,List.not_mem_nil,or_false] at hp hq
  rcases hp with rfl|rfl<;>rcases hq with rfl|rfl<;>first|rfl|(simp at hpq;omega)) (by simp only [List.all_cons,List.all_nil,Bool.and_true,Bool.and_self,p0,p1];exact rfl) rfl
theorem Yn {g:FuncId} [hG:Fun Tryz.prog g] {n J:Nat} {h:Nat→Rat} {c0 c1 c2 c3:C} (p0:pfC c0=true) (q0:nlB c0=true) (p1:pfC c1=true) (q1:nlB c1=true) (p2:pfC c2=true) (q2:nlB c2=true) (p3:pfC c3=true) (q3:nlB c3=true) (hn:n≤1000)
  (H: ∀i,i≤n→BJ Tryz.prog Amb g [Ay (i:Nat),.one (.ptr 901 0),.one (.ptr 902 0)] [(901,[c0,c1,c2],[c0,c1,c2]),(902,[c3],[c3])] (nm J (h i))):
  C7 Tryz.prog Amb 170 [Ay (n:Nat),.one (.fn g [(901,0),(902,0)])] [(901,[c0,c1,c2],[c0,c1,c2]),(902,[c3],[c3])] [(9,Ao (nmD J) (tab (n+1) h))] (.one (.gl 9 (tab (n+1) h).length 3)):=by
 have hne':(!(Ao (nmD J) (tab (n+1) h)).isEmpty)=true:=by
  have:=Cr (f:=nmD J) inferInstance (by decide) (show 0<(tab (n+1) h).length by simp)
  cases hb:Ao (nmD J) (tab (n+1) h) with
  | nil=>rw [hb] at this;cases this
  | cons a b=>rfl
 have h1:=BW (k:= .i64) (show (IntKind.i64).wrap ((n:Int)+1)=((n+1:Nat):Int) from IntWalk.i64_in _ (by omega))
 obtain ⟨R,hR⟩: ∃R,R=tab (n+1) h:=⟨_,rfl⟩
 have hRl:R.length=n+1:=by rw [hR];simp
 rw [←hR] at hne'⊢
 refine CV Tryz.func170 rfl rfl rfl rfl (by
  simp only [List.all_cons,List.all_nil,Bool.and_true,Bool.and_eq_true]
  exact ⟨⟨by simp [inA,inC],by simp [A7 p0,A7 p1,A7 p2,A7 p3]⟩,Cs _ _,hne'⟩) (by simp [inA,inC]) (by simp) (by simp) ?_
 intro W0 base D μ0 hA hD
 repeat (first|refine Ag ?_|refine Ac ?_|refine Aa rfl ?_|refine Ab rfl ?_|refine Am ?_|refine An ?_|refine Ad ?_|refine Ae ?_)
 refine AW (fun m σ=> ∃(i:Nat) (cur:List Rat),m=n+1-i∧i≤n+1∧cur=tab (n+1) (fun q=>if q<i then h q else 0)∧Wk ⟨W0,base,D,23,[901,902],μ0⟩ σ [(1,.one (.fn g [(901,0),(902,0)])),(5,.one (.gl 9 (n+1) 3)),(11,Ay ((n+1:Nat):Int)),(12,Ay (i:Nat))] [(9,Ao (nmD J) cur),(901,[c0,c1,c2]),(902,[c3])]) (n:=n+1) ⟨0,List.replicate (n+1) 0,by omega,by omega,DU.trans (AL fun q _=>(if_neg (Nat.not_lt_zero q)).symm),?_⟩ ?_
 ·refine Cu ?_ ?_ rfl
  ·exact Jb
  ·repeat (first|exact Ak|(refine List.forall_mem_cons.2 ⟨?_,?_⟩;focus (first|exact AN inferInstance|(refine Fu inferInstance ?_;exact CI;done)|(exact AG rfl (EntL.of_eq rfl) (by simp [q0,q1,q2,q3,A7 p0,A7 p1,A7 p2,A7 p3]))|(refine AG rfl ?_ rfl;focus (exact CI;done)))))
 intro m σ hI
 obtain ⟨i,cur,hm,hi0,hcur,hw⟩:=hI
 refine A8 hw ?_
 clear hw
 have hcl:cur.length=n+1:=by rw [hcur];simp
 by_cases hi:i<n+1
 ·have bi:=AS (k:= .i64) (decide_eq_true (show (i:Int)<((n+1:Nat):Int) by omega))
  have hin:=BW (k:= .i64) (show (IntKind.i64).wrap ((i:Int)+1)=((i+1:Nat):Int) from IntWalk.i64_in _ (by omega))
  have hlt:(0:Int)≤((i:Nat):Int)∧((i:Nat):Int)<((n+1:Nat):Int):=by omega
  have hst:((i:Nat):Int).toNat*3+3≤(Ao (nmD J) cur).length:=by rw [Av (n:=3) inferInstance,hcl,Int.toNat_natCast];omega
  have H1:=H i (by omega)
  repeat (first|refine Ag ?_|refine Ac ?_|refine Aa rfl ?_|refine Ab rfl ?_|refine Am ?_|refine An ?_|refine Ad ?_|refine Ae ?_)
  refine ⟨m-1,by omega,i+1,cur.set i (h i),by omega,by omega,?_,?_⟩
  ·rw [hcur]
   refine Dm (by omega) (by show (if i<i+1 then h i else 0)=_;rw [if_pos (by omega)]) fun q hq hqi=>?_
   by_cases hqq:q<i
   ·rw [if_pos hqq,if_pos (by omega)]
   ·rw [if_neg hqq,if_neg (by omega)]
  ·refine Cu ?_ ?_ rfl
   ·exact Jb
   ·repeat (first|exact Ak|(refine List.forall_mem_cons.2 ⟨?_,?_⟩;focus (first|exact AN inferInstance|(refine I5 inferInstance (i:=i) (show i<cur.length by omega) ?_;exact CI;done)|(exact AG rfl (EntL.of_eq rfl) (by simp [q0,q1,q2,q3,A7 p0,A7 p1,A7 p2,A7 p3]))|(refine AG rfl ?_ rfl;focus (exact CI;done)))))
 ·have bi:=AS (k:= .i64) (decide_eq_false (show ¬(i:Int)<((n+1:Nat):Int) by omega))
  have he:cur=R:=by rw [hcur,hR];exact AL fun q hq=>if_pos (by omega)
  subst he
  repeat (first|refine Ag ?_|refine Ac ?_|refine Aa rfl ?_|refine Ab rfl ?_|refine Am ?_|refine An ?_|refine Ad ?_|refine Ae ?_)
  refine Ap (And.intro (Or.inr rfl) (IG (ResIs.tmp rfl) (Ent.one' rfl (Af.glLen (by omega))) ?_ ?_))
  ·repeat (first|exact Ak|refine List.forall_mem_cons.2 ⟨⟨rfl,rfl,by simp [p0,p1,p2,p3,q0,q1,q2,q3]⟩,?_⟩)
  ·exact List.forall_mem_cons.2 ⟨.inl (AN inferInstance),Ak⟩
theorem b31 {g:FuncId} [hG:Fun Tryz.prog g] {n J:Nat} {h:Nat→Rat} {c0 c1 c2 c3:C} (p0:pfC c0=true) (q0:nlB c0=true) (p1:pfC c1=true) (q1:nlB c1=true) (p2:pfC c2=true) (q2:nlB c2=true) (p3:pfC c3=true) (q3:nlB c3=true) {k1 k2:Nat} (hn:n≤1000)
  (H: ∀i,i≤n→BJ Tryz.prog Amb g [Ay (i:Nat),.one (.ptr 901 0),.one (.ptr 902 0)] [(901,[c0,c1,c2],[c0,c1,c2]),(902,[c3],[c3])] (nm J (h i))) (hk:k1≠k2):
  BJ Tryz.prog Amb 170 [Ay (n:Nat),.one (.fn g [(k1,0),(k2,0)])] [(k1,[c0,c1,c2],[c0,c1,c2]),(k2,[c3],[c3])] (.one (EX J (n+1) h)):=by
 have F:=(Yn p0 q0 p1 q1 p2 q2 p3 q3 hn H).freeze (g:=nmD J) inferInstance (by simp [p0,p1,p2,p3,q0,q1,q2,q3]) (by simp) (.inr ⟨rfl,List.forall_mem_cons.2 ⟨rfl,List.forall_mem_cons.2 ⟨rfl,Ak⟩⟩⟩) (by simp [p0,p1,p2,p3,q0,q1,q2,q3])
 exact F.ren (fun k=>if k=901 then k1 else k2) (by
  intro p hp q hq hpq
  simp only [List.mem_cons,List.not_mem_nil,or_false] at hp hq
  rcases hp with rfl|rfl<;>rcases hq with rfl|rfl<;>first|rfl|(simp at hpq;omega)) (by simp only [List.all_cons,List.all_nil,Bool.and_true,Bool.and_self,p0,p1,p2,p3];exact rfl) rfl
theorem Yo {g:FuncId} [hG:Fun Tryz.prog g] {n J:Nat} {h:Nat→Rat} {c0 c1 c2 c3:C} (p0:pfC c0=true) (q0:nlB c0=true) (p1:pfC c1=true) (q1:nlB c1=true) (p2:pfC c2=true) (q2:nlB c2=true) (p3:pfC c3=true) (q3:nlB c3=true) (hn:n≤1000)
  (H: ∀i,i≤n→BJ Tryz.prog Amb g [Ay (i:Nat),.one (.ptr 901 0),.one (.ptr 902 0)] [(901,[c0],[c0]),(902,[c1,c2,c3],[c1,c2,c3])] (nm J (h i))):
  C7 Tryz.prog Amb 170 [Ay (n:Nat),.one (.fn g [(901,0),(902,0)])] [(901,[c0],[c0]),(902,[c1,c2,c3],[c1,c2,c3])] [(9,Ao (nmD J) (tab (n+1) h))] (.one (.gl 9 (tab (n+1) h).length 3)):=by
 have hne':(!(Ao (nmD J) (tab (n+1) h)).isEmpty)=true:=by
  have:=Cr (f:=nmD J) inferInstance (by decide) (show 0<(tab (n+1) h).length by simp)
  cases hb:Ao (nmD J) (tab (n+1) h) with
  | nil=>rw [hb] at this;cases this
  | cons a b=>rfl
 have h1:=BW (k:= .i64) (show (IntKind.i64).wrap ((n:Int)+1)=((n+1:Nat):Int) from IntWalk.i64_in _ (by omega))
 obtain ⟨R,hR⟩: ∃R,R=tab (n+1) h:=⟨_,rfl⟩
 have hRl:R.length=n+1:=by rw [hR];simp
 rw [←hR] at hne'⊢
 refine CV Tryz.func170 rfl rfl rfl rfl (by
  simp only [List.all_cons,List.all_nil,Bool.and_true,Bool.and_eq_true]
  exact ⟨⟨by simp [inA,inC],by simp [A7 p0,A7 p1,A7 p2,A7 p3]⟩,Cs _ _,hne'⟩) (by simp [inA,inC]) (by simp) (by simp) ?_
 intro W0 base D μ0 hA hD
 repeat (first|refine Ag ?_|refine Ac ?_|refine Aa rfl ?_|refine Ab rfl ?_|refine Am ?_|refine An ?_|refine Ad ?_|refine Ae ?_)
 refine AW (fun m σ=> ∃(i:Nat) (cur:List Rat),m=n+1-i∧i≤n+1∧cur=tab (n+1) (fun q=>if q<i then h q else 0)∧Wk ⟨W0,base,D,23,[901,902],μ0⟩ σ [(1,.one (.fn g [(901,0),(902,0)])),(5,.one (.gl 9 (n+1) 3)),(11,Ay ((n+1:Nat):Int)),(12,Ay (i:Nat))] [(9,Ao (nmD J) cur),(901,[c0]),(902,[c1,c2,c3])]) (n:=n+1) ⟨0,List.replicate (n+1) 0,by omega,by omega,DU.trans (AL fun q _=>(if_neg (Nat.not_lt_zero q)).symm),?_⟩ ?_
 ·refine Cu ?_ ?_ rfl
  ·exact Jb
  ·repeat (first|exact Ak|(refine List.forall_mem_cons.2 ⟨?_,?_⟩;focus (first|exact AN inferInstance|(refine Fu inferInstance ?_;exact CI;done)|(exact AG rfl (EntL.of_eq rfl) (by simp [q0,q1,q2,q3,A7 p0,A7 p1,A7 p2,A7 p3]))|(refine AG rfl ?_ rfl;focus (exact CI;done)))))
 intro m σ hI
 obtain ⟨i,cur,hm,hi0,hcur,hw⟩:=hI
 refine A8 hw ?_
 clear hw
 have hcl:cur.length=n+1:=by rw [hcur];simp
 by_cases hi:i<n+1
 ·have bi:=AS (k:= .i64) (decide_eq_true (show (i:Int)<((n+1:Nat):Int) by omega))
  have hin:=BW (k:= .i64) (show (IntKind.i64).wrap ((i:Int)+1)=((i+1:Nat):Int) from IntWalk.i64_in _ (by omega))
  have hlt:(0:Int)≤((i:Nat):Int)∧((i:Nat):Int)<((n+1:Nat):Int):=by omega
  have hst:((i:Nat):Int).toNat*3+3≤(Ao (nmD J) cur).length:=by rw [Av (n:=3) inferInstance,hcl,Int.toNat_natCast];omega
  have H1:=H i (by omega)
  repeat (first|refine Ag ?_|refine Ac ?_|refine Aa rfl ?_|refine Ab rfl ?_|refine Am ?_|refine An ?_|refine Ad ?_|refine Ae ?_)
  refine ⟨m-1,by omega,i+1,cur.set i (h i),by omega,by omega,?_,?_⟩
  ·rw [hcur]
   refine Dm (by omega) (by show (if i<i+1 then h i else 0)=_;rw [if_pos (by omega)]) fun q hq hqi=>?_
   by_cases hqq:q<i
   ·rw [if_pos hqq,if_pos (by omega)]
   ·rw [if_neg hqq,if_neg (by omega)]
  ·refine Cu ?_ ?_ rfl
   ·exact Jb
   ·repeat (first|exact Ak|(refine List.forall_mem_cons.2 ⟨?_,?_⟩;focus (first|exact AN inferInstance|(refine I5 inferInstance (i:=i) (show i<cur.length by omega) ?_;exact CI;done)|(exact AG rfl (EntL.of_eq rfl) (by simp [q0,q1,q2,q3,A7 p0,A7 p1,A7 p2,A7 p3]))|(refine AG rfl ?_ rfl;focus (exact CI;done)))))
 ·have bi:=AS (k:= .i64) (decide_eq_false (show ¬(i:Int)<((n+1:Nat):Int) by omega))
  have he:cur=R:=by rw [hcur,hR];exact AL fun q hq=>if_pos (by omega)
  subst he
  repeat (first|refine Ag ?_|refine Ac ?_|refine Aa rfl ?_|refine Ab rfl ?_|refine Am ?_|refine An ?_|refine Ad ?_|refine Ae ?_)
  refine Ap (And.intro (Or.inr rfl) (IG (ResIs.tmp rfl) (Ent.one' rfl (Af.glLen (by omega))) ?_ ?_))
  ·repeat (first|exact Ak|refine List.forall_mem_cons.2 ⟨⟨rfl,rfl,by simp [p0,p1,p2,p3,q0,q1,q2,q3]⟩,?_⟩)
  ·exact List.forall_mem_cons.2 ⟨.inl (AN inferInstance),Ak⟩
theorem b13 {g:FuncId} [hG:Fun Tryz.prog g] {n J:Nat} {h:Nat→Rat} {c0 c1 c2 c3:C} (p0:pfC c0=true) (q0:nlB c0=true) (p1:pfC c1=true) (q1:nlB c1=true) (p2:pfC c2=true) (q2:nlB c2=true) (p3:pfC c3=true) (q3:nlB c3=true) {k1 k2:Nat} (hn:n≤1000)
  (H: ∀i,i≤n→BJ Tryz.prog Amb g [Ay (i:Nat),.one (.ptr 901 0),.one (.ptr 902 0)] [(901,[c0],[c0]),(902,[c1,c2,c3],[c1,c2,c3])] (nm J (h i))) (hk:k1≠k2):
  BJ Tryz.prog Amb 170 [Ay (n:Nat),.one (.fn g [(k1,0),(k2,0)])] [(k1,[c0],[c0]),(k2,[c1,c2,c3],[c1,c2,c3])] (.one (EX J (n+1) h)):=by
 have F:=(Yo p0 q0 p1 q1 p2 q2 p3 q3 hn H).freeze (g:=nmD J) inferInstance (by simp [p0,p1,p2,p3,q0,q1,q2,q3]) (by simp) (.inr ⟨rfl,List.forall_mem_cons.2 ⟨rfl,List.forall_mem_cons.2 ⟨rfl,Ak⟩⟩⟩) (by simp [p0,p1,p2,p3,q0,q1,q2,q3])
 exact F.ren (fun k=>if k=901 then k1 else k2) (by
  intro p hp q hq hpq
  simp only [List.mem_cons,List.not_mem_nil,or_false] at hp hq
  rcases hp with rfl|rfl<;>rcases hq with rfl|rfl<;>first|rfl|(simp at hpq;omega)) (by simp only [List.all_cons,List.all_nil,Bool.and_true,Bool.and_self,p0,p1,p2,p3];exact rfl) rfl
theorem VC {ja jb i:Nat} {l m:List Rat} {x y:Rat} (hx:l[((i:Nat):Int).toNat]?=some x) (hy:m[((i:Nat):Int).toNat]?=some y) (h1:ja≤10000000) (h2:jb≤10000000) (h0:y≠0):
  BJ Tryz.prog Amb 171 [Ay (i:Nat),.one (.ptr 901 0),.one (.ptr 902 0)] [(901,[AH ja l],[AH ja l]),(902,[AH jb m],[AH jb m])] (nm (ja+jb+2) (x/y)):=by
 have O1:=Tp (j:=ja) (k:=jb) (x:=x) (y:=y) (by omega) (by omega) h0
 apply Aj Tryz.func171 rfl rfl rfl rfl rfl
 case hin=>simp [inA,inC]
 intro W0 base D μ0 hA hD
 repeat (first|refine Ag ?_|refine Ac ?_|refine Aa rfl ?_|refine Ab rfl ?_|refine Am ?_|refine An ?_|refine Ad ?_|refine Ae ?_)
 refine Ap (And.intro (Or.inr rfl) ?_)
 exact Sh (hb:=by repeat (first|exact Ak|refine List.forall_mem_cons.2 ⟨⟨rfl,rfl,rfl⟩,?_⟩))
abbrev cf (l:List Rat) (i:Nat):Rat:=l.getD i 0
theorem Rs {j jt n a:Nat} {l:List Rat} {S u d:Rat} {M:Nat} (hl:l.length=n+1) (hr: ∀r∈l,RSz j r) (hM:Sz a M) (hS:S=((M:Int):Rat)) (hint: ∀r∈l,∃z:Int,((M:Int):Rat)*r=(z:Rat)) (hu: ∃z:Int,u=(z:Rat)∧Sz jt z.natAbs) (hd: ∃z:Int,d=(z:Rat)∧Sz jt z.natAbs):
  ∀k i,k+i≤n→RSz (a+j+n*(jt+1)+2) (AF u d (fun i=>S*cf l i) k i):=by
 intro k i hki
 obtain ⟨zu,rfl,hzu⟩:=hu
 obtain ⟨zd,rfl,hzd⟩:=hd
 have one: ∀x:Rat,x*(((1:Nat):Int):Rat)=x:=fun x=>by
  have:(((1:Nat):Int):Rat)=1:=rfl
  rw [this,Rat.mul_one]
 have h:=GD (D:=1) (E:=1) (B:=4294967296^(a+j)) (U:=zu.natAbs) (V:=zd.natAbs) (u:=(zu:Rat)) (d:=(zd:Rat)) (f:=fun i=>S*cf l i) (n:=n) (fun i hi=>by
  have hlt:i<l.length:=by omega
  have hm:cf l i∈l:=by
   unfold cf
   rw [List.getD_eq_getElem?_getD,Yv hlt]
   exact List.getElem_mem hlt
  obtain ⟨z,hz⟩:=hint _ hm
  refine ⟨z,by show S*cf l i*_=_;rw [one,hS,hz],?_⟩
  have hb:=(hr _ hm).1
  have h1:(z:Rat)*(((cf l i).den:Int):Rat)=((M*(cf l i).num:Int):Rat):=by
   rw [←hz,Rat.intCast_mul,Rat.mul_assoc,show cf l i*(((cf l i).den:Int):Rat)=(((cf l i).num:Int):Rat) from EM _]
  have h2:z*(cf l i).den=M*(cf l i).num:=by rw [←Rat.intCast_mul] at h1;exact Rat.intCast_inj.1 h1
  have h3:z.natAbs*(cf l i).den=M*(cf l i).num.natAbs:=by
   have:=congrArg Int.natAbs h2
   rw [Int.natAbs_mul,Int.natAbs_mul] at this
   simpa using this
  have h4:z.natAbs≤M*(cf l i).num.natAbs:=by
   rw [←h3]
   exact Nat.le_mul_of_pos_right _ (cf l i).den_pos
  have h5:=Cw (M*(cf l i).num.natAbs)
  have h6:(toL (M*(cf l i).num.natAbs)).length≤a+j:=hM.mul hb
  have h7:(4294967296:Nat)^(toL (M*(cf l i).num.natAbs)).length≤4294967296^(a+j):=Nat.pow_le_pow_right (by decide) h6
  omega) ⟨zu,one _,Yu _⟩ ⟨zd,one _,Yu _⟩ k i hki
 have hUV:Sz (jt+1) (zu.natAbs+zd.natAbs):=hzu.plus hzd
 refine h.rsz (by rw [Nat.one_pow];decide) (Al _ _ (by rw [Nat.one_pow];exact Nat.one_lt_pow (by omega) (by decide))) ?_
 have h1:Sz (a+j+1) (4294967296^(a+j)):=Al _ _ (Nat.pow_lt_pow_right (by decide) (by omega))
 refine (h1.mul (hUV.pow k)).mono ?_
 have:=Nat.mul_le_mul_right (jt+1) (show k≤n by omega)
 omega
theorem RX {j k m:Nat} {x y t:Rat} (h1:j≤10000000) (h2:k≤10000000) (h3:m≤10000000):
  Ctr Tryz.prog Amb 193 [nm j x,nm k y,nm m t] (nm (j+(k+j+3+m+2)+3) (x+(y-x)*t)):=by
 have S1:=Qk (j:=k) (k:=j) (x:=y) (y:=x) (by omega) (by omega)
 have M1:=XQ (j:=k+j+3) (k:=m) (x:=y-x) (y:=t) (by omega) (by omega)
 have A1:=XR (j:=j) (k:=k+j+3+m+2) (x:=x) (y:=(y-x)*t) (by omega) (by omega)
 refine Aj Tryz.func193 rfl rfl rfl rfl rfl rfl ?_
 intro W0 base D μ0 hA hD
 repeat (first|refine Ag ?_|refine Ac ?_|refine Aa rfl ?_|refine Ab rfl ?_|refine Am ?_|refine An ?_|refine Ad ?_|refine Ae ?_)
 refine Ap (And.intro (Or.inr rfl) ?_)
 exact AA
theorem Lt {j jt N J:Nat} {l:List Rat} {t:Rat} (hl:l.length=N+1) (hN:N≤1000) (hj:j≤J) (hJ:J≤1000000) (hjt:jt≤1000000) (hr: ∀k i,k+i≤N→RSz J (AF t (1-t) (cf l) k i)):
  Ctr Tryz.prog Amb 125 [.one (AH j l),nm jt t] (.tup [.one (EX J (N+1) (CB t (cf l))),.one (EX J (N+1) (Fc t (cf l) N))]):=by
 obtain ⟨n,hn⟩: ∃n,n=N+1:=⟨_,rfl⟩
 have hln:l.length=n:=by omega
 obtain ⟨L,hL⟩: ∃L,L=tab n (CB t (cf l)):=⟨_,rfl⟩
 obtain ⟨U,hU⟩: ∃U,U=tab n (Fc t (cf l) N):=⟨_,rfl⟩
 unfold EX
 rw [←hn,←hL,←hU]
 have hl0:l=tab n (Ef t (1-t) (cf l) N 0 0):=by rw [hn,Kc,←hl];exact (OB 0 l).symm
 obtain ⟨f,hf⟩: ∃f,f=cf l:=⟨_,rfl⟩
 rw [←hf] at hr hL hU hl0
 clear hf
 have hn0:0<n:=by omega
 refine Aj Tryz.func125 rfl rfl rfl rfl rfl rfl ?_
 intro W0 base D μ0 hA hD
 repeat (first|refine Ag ?_|refine Ac ?_|refine Aa rfl ?_|refine Ab rfl ?_|refine Am ?_|refine An ?_|refine Ad ?_|refine Ae ?_)
 refine DS 2 (by simp only [List.take_succ_cons,List.take_zero,List.drop_succ_cons,List.drop_zero];exact ⟨rfl,rfl⟩) (by kernel_rfl) ?_
 refine FY (hl:=?_)
 refine AK (hl:=?_)
 apply Ah.nil
 refine FP (la:=([]:List Rat)) (f:=nmD j) (k:=18) (ss:= [(3,.one (.ptr 3 0)),(6,Ay (l.length:Nat)),(7,.one (.gl 15 l.length 3)),(8,.one (.gl 17 l.length 3))]) (bs:= [(3,nmC jt t),(15,Ao (nmD J) (List.replicate l.length 0)),(17,Ao (nmD J) (List.replicate l.length 0))]) (ns:=Ao (nmD j) l) (hns:=Hs inferInstance _ l) hD ?_ ?_ ?_
 ·exact ⟨by simp;omega,by simp;omega⟩
 ·exact BF
 repeat (refine Dy rfl ?_;refine As (hl:=?_);apply Ah.nil)
 refine DH ?_
 repeat (first|refine Ag ?_|refine Ac ?_|refine Aa rfl ?_|refine Ab rfl ?_|refine Am ?_|refine An ?_|refine Ad ?_|refine Ae ?_)
 have hm1:=Cl (k:= .i64) (show (IntKind.i64).wrap ((n:Int)-1)=(N:Int) by rw [show ((n:Int)-1)=(N:Int) by omega];exact IntWalk.i64_in _ (by omega))
 rw [hln]
 refine AW (fun m σ=> ∃(k:Nat) (a b row:List Rat),m=n-k∧k≤n∧a=tab n (fun q=>if q<k then CB t f q else 0)∧b=tab n (fun q=>if N<q+k then Fc t f N q else 0)∧row=tab n (Ef t (1-t) f N k 0)∧Wk ⟨W0,base,D,69,[],μ0⟩ σ [(3,.one (.ptr 3 0)),(6,Ay (n:Nat)),(7,.one (.gl 15 n 3)),(8,.one (.gl 17 n 3)),(9,.one (.gl 18 n 3)),(10,Ay (k:Nat))] [(3,nmC jt t),(15,Ao (nmD J) a),(17,Ao (nmD J) b),(18,Ao (nmD J) row)]) (n:=n) ⟨0,List.replicate n 0,List.replicate n 0,l,by omega,by omega,DU.trans (AL fun q _=>(if_neg (Nat.not_lt_zero q)).symm),DU.trans (AL fun q hq=>(if_neg (by omega)).symm),hl0,?_⟩ ?_
 ·refine Cu ?_ ?_ rfl
  ·exact Jb
  ·repeat (first|exact Ak|(refine List.forall_mem_cons.2 ⟨?_,?_⟩;focus (first|exact AN inferInstance|(exact XA hj (Fv (la:= []) inferInstance))|(refine AG rfl ?_ rfl;focus (exact CI;done)))))
 intro m σ hI
 obtain ⟨k,a,b,row,hm,hk0,ha,hb,hrow,hw⟩:=hI
 refine A8 hw ?_
 clear hw hl0
 have hal:a.length=n:=by rw [ha];simp
 have hbl:b.length=n:=by rw [hb];simp
 have hrl:row.length=n:=by rw [hrow];simp
 by_cases hk:k<n
 ·have bk:=AS (k:= .i64) (decide_eq_true (show (k:Int)<(n:Int) by omega))
  have hnk:=Cl (k:= .i64) (show (IntKind.i64).wrap ((N:Int)-(k:Int))=((N-k:Nat):Int) by rw [show ((N:Int)-(k:Int))=((N-k:Nat):Int) by omega];exact IntWalk.i64_in _ (by omega))
  have hx:row[((0:Nat):Int).toNat]?=some (CB t f k):=by rw [hrow,show CB t f k=Ef t (1-t) f N k 0 0 from (FL (by omega) (Nat.le_refl _)).symm];exact CG (by omega)
  have hy:row[((N-k:Nat):Int).toNat]?=some (Fc t f N (N-k)):=by
   have e:Fc t f N (N-k)=Ef t (1-t) f N k 0 (N-k):=by rw [FL (by omega) (Nat.zero_le _)];unfold Fc;rw [show N-(N-k)=k by omega]
   rw [hrow,e];exact CG (by omega)
  have lt0:(0:Int)≤((0:Nat):Int)∧((0:Nat):Int)<(n:Nat):=by omega
  have lt1:(0:Int)≤((k:Nat):Int)∧((k:Nat):Int)<(n:Nat):=by omega
  have lt2:(0:Int)≤((N-k:Nat):Int)∧((N-k:Nat):Int)<(n:Nat):=by omega
  have st0:((0:Nat):Int).toNat*3+3≤(Ao (nmD J) row).length:=by rw [Av (n:=3) inferInstance,Int.toNat_natCast];omega
  have st2:((N-k:Nat):Int).toNat*3+3≤(Ao (nmD J) row).length:=by rw [Av (n:=3) inferInstance,Int.toNat_natCast];omega
  have sa:((k:Nat):Int).toNat*3+3≤(Ao (nmD J) a).length:=by rw [Av (n:=3) inferInstance,Int.toNat_natCast];omega
  have sb:((N-k:Nat):Int).toNat*3+3≤(Ao (nmD J) b).length:=by rw [Av (n:=3) inferInstance,Int.toNat_natCast];omega
  have ld0:=CH (f:=nmD J) (n:=3) inferInstance hx
  have ld2:=CH (f:=nmD J) (n:=3) inferInstance hy
  have hta:a.set k (CB t f k)=tab n (fun q=>if q<k+1 then CB t f q else 0):=by
   rw [ha]
   refine Dm hk (if_pos (by omega)) fun q hq hqk=>?_
   by_cases h1:q<k
   ·rw [if_pos h1,if_pos (by omega)]
   ·rw [if_neg h1,if_neg (by omega)]
  have htb:b.set (N-k) (Fc t f N (N-k))=tab n (fun q=>if N<q+(k+1) then Fc t f N q else 0):=by
   rw [hb]
   refine Dm (by omega) (if_pos (by omega)) fun q hq hqk=>?_
   by_cases h1:N<q+k
   ·rw [if_pos h1,if_pos (by omega)]
   ·rw [if_neg h1,if_neg (by omega)]
  generalize CB t f k=x at*
  generalize Fc t f N (N-k)=y at*
  have hdn:=Cl (k:= .i64) (show (IntKind.i64).wrap ((n:Int)-(k:Int))=((n-k:Nat):Int) by rw [show ((n:Int)-(k:Int))=((n-k:Nat):Int) by omega];exact IntWalk.i64_in _ (by omega))
  have hkn:=BW (k:= .i64) (show (IntKind.i64).wrap ((k:Int)+1)=((k+1:Nat):Int) from IntWalk.i64_in _ (by omega))
  repeat (first|refine Ag ?_|refine Ac ?_|refine Aa rfl ?_|refine Ab rfl ?_|refine Am ?_|refine An ?_|refine Ad ?_|refine Ae ?_)
  refine AW (fun c σ=> ∃(i:Nat) (row:List Rat),c=N-k-i∧i≤N-k∧row=tab n (Ef t (1-t) f N k i)∧Wk ⟨W0,base,D,69,[],μ0⟩ σ [(3,.one (.ptr 3 0)),(6,Ay (n:Nat)),(7,.one (.gl 15 n 3)),(8,.one (.gl 17 n 3)),(9,.one (.gl 18 n 3)),(10,Ay (k:Nat)),(11,Ay (i:Nat))] [(3,nmC jt t),(15,Ao (nmD J) (a.set k x)),(17,Ao (nmD J) (b.set (N-k) y)),(18,Ao (nmD J) row)]) (n:=N-k) ⟨0,row,by omega,by omega,hrow,?_⟩ ?_
  ·exact BF
  clear hx hy ld0 ld2 hrow hrl st0 st2 lt0 lt2 row
  generalize a.set k x=a' at*
  generalize b.set (N-k) y=b' at*
  clear hal hbl sa sb ha hb a b
  intro c σ hI
  obtain ⟨i,row,hc,hi0,hrow,hw⟩:=hI
  refine A8 hw ?_
  clear hw
  have hrl:row.length=n:=by rw [hrow];simp
  have hin:=BW (k:= .i64) (show (IntKind.i64).wrap ((i:Int)+1)=((i+1:Nat):Int) from IntWalk.i64_in _ (by omega))
  by_cases hi:i<N-k
  ·have bi:=AS (k:= .i64) (decide_eq_true (show ((i+1:Nat):Int)<((n-k:Nat):Int) by omega))
   have hx:row[((i:Nat):Int).toNat]?=some (AF t (1-t) f k i):=by rw [hrow,←FL (u:=t) (d:=1-t) (f:=f) (n:=N) (k:=k) (i:=i) (q:=i) (by omega) (by omega)];exact CG (by omega)
   have hy:row[((i+1:Nat):Int).toNat]?=some (AF t (1-t) f k (i+1)):=by rw [hrow,←FL (u:=t) (d:=1-t) (f:=f) (n:=N) (k:=k) (i:=i) (q:=i+1) (by omega) (by omega)];exact CG (by omega)
   have lt1:(0:Int)≤((i:Nat):Int)∧((i:Nat):Int)<(n:Nat):=by omega
   have lt2:(0:Int)≤((i+1:Nat):Int)∧((i+1:Nat):Int)<(n:Nat):=by omega
   have st1:((i:Nat):Int).toNat*3+3≤(Ao (nmD J) row).length:=by rw [Av (n:=3) inferInstance,Int.toNat_natCast];omega
   have st2:((i+1:Nat):Int).toNat*3+3≤(Ao (nmD J) row).length:=by rw [Av (n:=3) inferInstance,Int.toNat_natCast];omega
   have ld1:=CH (f:=nmD J) (n:=3) inferInstance hx
   have ld2:=CH (f:=nmD J) (n:=3) inferInstance hy
   have B1:=RX (j:=J) (k:=J) (m:=jt) (x:=AF t (1-t) f k i) (y:=AF t (1-t) f k (i+1)) (t:=t) (by omega) (by omega) (by omega)
   have hz:RSz J (AF t (1-t) f (k+1) i):=hr (k+1) i (by omega)
   have he:AF t (1-t) f (k+1) i=AF t (1-t) f k i+(AF t (1-t) f k (i+1)-AF t (1-t) f k i)*t:=by
    show (1-t)*AF t (1-t) f k i+t*AF t (1-t) f k (i+1)=_
    grind
   have ht:=Of (u:=t) (d:=1-t) (f:=f) (n:=N) (k:=k) (i:=i) (by omega) (show AF t (1-t) f k i+(AF t (1-t) f k (i+1)-AF t (1-t) f k i)*t=_ from he.symm)
   rw [←hn,←hrow] at ht
   rw [he] at hz
   clear he
   generalize AF t (1-t) f k i=x at*
   generalize AF t (1-t) f k (i+1)=y at*
   repeat (first|refine Ag ?_|refine Ac ?_|refine Aa rfl ?_|refine Ab rfl ?_|refine Am ?_|refine An ?_|refine Ad ?_|refine Ae ?_)
   refine ⟨c-1,by omega,i+1,row.set i (x+(y-x)*t),by omega,by omega,ht,?_⟩
   exact BF
  ·have bi:=AS (k:= .i64) (decide_eq_false (show ¬((i+1:Nat):Int)<((n-k:Nat):Int) by omega))
   obtain rfl:i=N-k:=by omega
   have hrow':row=tab n (Ef t (1-t) f N (k+1) 0):=by
    rw [hrow,hn]
    by_cases hkN:k<N
    ·exact Lh hkN
    ·have:k=N:=by omega
     subst this
     rw [Nat.sub_self]
     exact Sv
   repeat (first|refine Ag ?_|refine Ac ?_|refine Aa rfl ?_|refine Ab rfl ?_|refine Am ?_|refine An ?_|refine Ad ?_|refine Ae ?_)
   refine ⟨m-1,by omega,k+1,a',b',row,by omega,by omega,hta,htb,hrow',?_⟩
   exact BF
 ·have bk:=AS (k:= .i64) (decide_eq_false (show ¬(k:Int)<(n:Int) by omega))
  have he1:a=L:=by rw [ha,hL];exact AL fun q hq=>if_pos (by omega)
  have he2:b=U:=by rw [hb,hU];exact AL fun q hq=>if_pos (by omega)
  subst he1
  subst he2
  repeat (first|refine Ag ?_|refine Ac ?_|refine Aa rfl ?_|refine Ab rfl ?_|refine Am ?_|refine An ?_|refine Ad ?_|refine Ae ?_)
  refine A5 15 hD (ss:= [(4,.one (AH J a)),(5,.one (.gl 17 b.length 3))]) (bs:= [(17,Ao (nmD J) b)]) ?_ ?_
  ·rw [hbl,←hal]
   exact IO
  refine A5 17 hD (ss:= [(4,.one (AH J a)),(5,.one (AH J b))]) (bs:= []) ?_ ?_
  ·exact IO
  refine Ap (And.intro (Or.inr rfl) ?_)
  exact X8
end Go.Proofs.YtfineedhebhpaaaGreatDoor
