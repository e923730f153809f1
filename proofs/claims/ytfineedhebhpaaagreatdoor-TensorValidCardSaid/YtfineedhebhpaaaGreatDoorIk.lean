/-
  Several texts in one: Zfa, Zfb, Zfc, Zfd.
-/
import Derived.Test.YtfineedhebhpaaaGreatDoorHy
import Derived.Test.YtfineedhebhpaaaGreatDoorHr
import Derived.Test.YtfineedhebhpaaaGreatDoorHv
namespace Go.Proofs.YtfineedhebhpaaaGreatDoor
open List renaming getElem?_eq_getElem→Yv
open Go.RowKit
set_option linter.unusedVariables false
set_option linter.unusedSimpArgs false
set_option maxRecDepth 20000
set_option maxHeartbeats 4000000
abbrev FI (j:Nat) (p:List Rat):List D:= [.lst 3 p.length (p.flatMap (nmD j))]
abbrev FH (j:Nat) (l:List (List Rat)):C:=lsG 1 (FI j) l
instance (j:Nat):Elm 1 (FI j):=⟨fun _=>rfl,fun _=>rfl⟩
abbrev net (j u v:Nat) (l:List Rat):AV:= .agg [.v (.int .i64 (u:Nat)),.v (.int .i64 (v:Nat)),AH j l]
abbrev F8 (j u v:Nat) (l:List Rat):List C:= [.v (.int .i64 (u:Nat)),.v (.int .i64 (v:Nat)),AH j l]
section
variable {u v i:Nat} {l:List Rat}
def A0 (v:Nat) (l:List Rat) (i:Nat):List Rat:=(l.take ((i+1)*(v+1))).drop (i*(v+1))
def Cd (u v:Nat) (l:List Rat):List (List Rat):=tab (u+1) (A0 v l)
theorem Ia (hi:i≤u):(i+1)*(v+1)≤(u+1)*(v+1):=Nat.mul_le_mul_right _ (by omega)
theorem CL (hl:l.length=(u+1)*(v+1)) (hi:i≤u):(A0 v l i).length=v+1:=by
 have h1:=Ia (v:=v) hi
 unfold A0
 rw [List.length_drop,List.length_take,Nat.min_eq_left (by omega),Nat.succ_mul]
 omega
theorem Ep {r:Rat} (h:r∈A0 v l i):r∈l:=List.mem_of_mem_take (List.mem_of_mem_drop h)
theorem Nh (hl:l.length=(u+1)*(v+1)) (hi:i≤u):A0 v l i=tab (v+1) fun j=>l.getD (i*(v+1)+j) 0:=Jh (CL hl hi) fun q hq=>by
 have h1:=Ia (v:=v) hi
 have h2:(i+1)*(v+1)=i*(v+1)+(v+1):=Nat.succ_mul _ _
 unfold A0
 rw [List.getElem?_drop,List.getElem?_take,if_pos (by omega),List.getD_eq_getElem?_getD,Yv (show i*(v+1)+q<l.length by omega)]
 rfl
theorem KH (hi:i≤u):(Cd u v l)[i]?=some (A0 v l i):=EJ (by omega)
theorem DO {m:Nat} : ∀ {ls:List (List Rat)},(∀p∈ls,p.length=m)→ls.flatten.length=ls.length*m
 | [],_=>by simp
 | p::ls,h=>by
   rw [List.flatten_cons,List.length_append,DO fun q hq=>h q (List.mem_cons_of_mem _ hq),h p List.mem_cons_self,List.length_cons,Nat.succ_mul]
   omega
def byR (u v:Nat) (f:List Rat→List Rat) (l:List Rat):List Rat:=((Cd u v l).map f).flatten
theorem I4 {m:Nat} {f:List Rat→List Rat} (hl:l.length=(u+1)*(v+1)) (hf: ∀i,i≤u→(f (A0 v l i)).length=m):(byR u v f l).length=(u+1)*m:=by
 unfold byR
 rw [DO (m:=m) fun p hp=>?_]
 ·rw [List.length_map];show (tab _ _).length*m=_;rw [BC]
 ·obtain ⟨q,hq,rfl⟩:=List.mem_map.1 hp
  obtain ⟨i,hi,rfl⟩:=List.mem_map.1 hq
  exact hf i (by have:=List.mem_range.1 hi;omega)
def GL (u v:Nat) (l:List Rat) (q:Nat):Rat:=l.getD (q % (u+1)*(v+1)+q/(u+1)) 0
def Dq (u v:Nat) (l:List Rat):List Rat:=tab ((v+1)*(u+1)) (GL u v l)
theorem Cv:(Dq u v l).length=(v+1)*(u+1):=BC
theorem WZ {q:Nat} (hq:q<(v+1)*(u+1)):q % (u+1)*(v+1)+q/(u+1)<(u+1)*(v+1):=by
 have h1:q % (u+1)<u+1:=Nat.mod_lt _ (by omega)
 have h2:q/(u+1)<v+1:=Nat.div_lt_of_lt_mul (by rwa [Nat.mul_comm])
 have h3:(q % (u+1)+1)*(v+1)≤(u+1)*(v+1):=Nat.mul_le_mul_right _ h1
 rw [Nat.succ_mul] at h3
 omega
theorem Fe {r:Rat} (hl:l.length=(u+1)*(v+1)) (h:r∈Dq u v l):r∈l:=by
 obtain ⟨q,hq,rfl⟩:=List.mem_map.1 h
 have hb:=WZ (u:=u) (v:=v) (List.mem_range.1 hq)
 unfold GL
 rw [List.getD_eq_getElem?_getD,Yv (show _<l.length by omega)]
 exact List.getElem_mem _
theorem Oz {j:Nat} (hi:i≤u):GL u v l (j*(u+1)+i)=l.getD (i*(v+1)+j) 0:=by
 unfold GL
 have h1:(j*(u+1)+i) % (u+1)=i:=by rw [Nat.add_comm,Nat.add_mul_mod_self_right];exact Nat.mod_eq_of_lt (by omega)
 have h2:(j*(u+1)+i)/(u+1)=j:=by rw [Nat.add_comm,Nat.add_mul_div_right _ _ (by omega),Nat.div_eq_of_lt (by omega),Nat.zero_add]
 rw [h1,h2]
def Fz (u v:Nat) (l:List Rat) (i j q:Nat):Rat:=if q % (u+1)<i∨(q % (u+1)=i∧q/(u+1)<j) then GL u v l q else 0
theorem Rc:Fz u v l 0 0=fun _=>0:=by
 funext q
 unfold Fz
 generalize q % (u+1)=a
 generalize q/(u+1)=b
 rw [if_neg (by omega)]
theorem SS {q:Nat} (hq:q<(v+1)*(u+1)):Fz u v l i (v+1) q=Fz u v l (i+1) 0 q:=by
 have h2:q/(u+1)<v+1:=Nat.div_lt_of_lt_mul (by rwa [Nat.mul_comm])
 unfold Fz
 clear hq
 generalize GL u v l q=x
 generalize q % (u+1)=a at*
 generalize q/(u+1)=b at*
 by_cases h:a<i∨(a=i∧b<v+1)
 ·rw [if_pos h,if_pos (by omega)]
 ·rw [if_neg h,if_neg (by omega)]
theorem Re {q:Nat} :Fz u v l (u+1) 0 q=GL u v l q:=by
 unfold Fz
 rw [if_pos (.inl (Nat.mod_lt _ (by omega)))]
theorem SR {j:Nat} {x:Rat} (hl:l.length=(u+1)*(v+1)) (hi:i≤u) (hj:j≤v) (hx:(A0 v l i)[j]?=some x):(tab ((v+1)*(u+1)) (Fz u v l i j)).set (j*(u+1)+i) x=tab ((v+1)*(u+1)) (Fz u v l i (j+1)):=by
 have h1:(j*(u+1)+i) % (u+1)=i:=by rw [Nat.add_comm,Nat.add_mul_mod_self_right];exact Nat.mod_eq_of_lt (by omega)
 have h2:(j*(u+1)+i)/(u+1)=j:=by rw [Nat.add_comm,Nat.add_mul_div_right _ _ (by omega),Nat.div_eq_of_lt (by omega),Nat.zero_add]
 have h3:(j+1)*(u+1)≤(v+1)*(u+1):=Nat.mul_le_mul_right _ (by omega)
 rw [Nat.succ_mul] at h3
 refine Dm (by omega) ?_ fun q hq hne=>?_
 ·unfold Fz
  rw [h1,h2,if_pos (by omega),Oz hi]
  rw [Nh hl hi,EJ (by omega)] at hx
  exact Option.some.inj hx
 ·unfold Fz
  have hd:=Nat.div_add_mod q (u+1)
  have hne2: ¬(q % (u+1)=i∧q/(u+1)=j):=fun ⟨a,b⟩=>hne (by rw [a,b,Nat.mul_comm] at hd;omega)
  clear hd hne hq
  generalize GL u v l q=y
  generalize q % (u+1)=a at*
  generalize q/(u+1)=b at*
  by_cases h:a<i∨(a=i∧b<j)
  ·rw [if_pos h,if_pos (by omega)]
  ·rw [if_neg h,if_neg (by omega)]
end
theorem Mk {u d a b:Rat} {f g:Nat→Rat} : ∀ {k i:Nat},AF u d (fun q=>a*f q+b*g q) k i=a*AF u d f k i+b*AF u d g k i
 | 0,_=>rfl
 | k+1,i=>by
   show d*AF u d _ k i+u*AF u d _ k (i+1)=a*(d*AF u d f k i+u*AF u d f k (i+1))+b*(d*AF u d g k i+u*AF u d g k (i+1))
   rw [Mk (k:=k) (i:=i),Mk (k:=k) (i:=i+1)]
   grind
theorem Kb {u d v e:Rat} {c:Nat→Nat→Rat} {m j:Nat} : ∀ {k i:Nat},AF u d (fun i=>AF v e (c i) m j) k i=AF v e (fun q=>AF u d (fun i=>c i q) k i) m j
 | 0,_=>rfl
 | k+1,i=>by
   show d*AF u d (fun i=>AF v e (c i) m j) k i+u*AF u d (fun i=>AF v e (c i) m j) k (i+1)=AF v e (fun q=>d*AF u d (fun i=>c i q) k i+u*AF u d (fun i=>c i q) k (i+1)) m j
   rw [Mk,Kb (k:=k) (i:=i),Kb (k:=k) (i:=i+1)]
theorem Ua {s t:Rat} {c:Nat→Nat→Rat} {m n:Nat} :CB s (fun i=>CB t (c i) m) n=CB t (fun q=>CB s (fun i=>c i q) n) m:=Kb
section
variable {u v i j:Nat} {l:List Rat} {a b t:Rat}
def EB (u v:Nat) (l:List Rat) (t:Rat):List Rat:=tab (u+1) fun i=>CB t (cf (A0 v l i)) v
theorem Gj:(EB u v l t).length=u+1:=BC
theorem UN (hl:l.length=(u+1)*(v+1)) (hi:i≤u) (hj:j≤v):cf (A0 v l i) j=l.getD (i*(v+1)+j) 0:=by
 rw [Nh hl hi]
 exact UM (by omega)
theorem UO (hi:i≤u):cf (EB u v l t) i=CB t (cf (A0 v l i)) v:=UM (by omega)
theorem Xy (hl:l.length=(u+1)*(v+1)) (hi:i≤u) (hj:j≤v):cf (A0 u (Dq u v l) j) i=l.getD (i*(v+1)+j) 0:=by
 rw [UN Cv hj hi]
 have h3:(j+1)*(u+1)≤(v+1)*(u+1):=Nat.mul_le_mul_right _ (by omega)
 rw [Nat.succ_mul] at h3
 unfold Dq
 rw [FZ 0 (by omega),Oz hi]
def evR (u v:Nat) (l:List Rat) (a b:Rat):Rat:=CB b (cf (EB v u (Dq u v l) a)) v
theorem V7 (hl:l.length=(u+1)*(v+1)):evR u v l a b=CB b (fun q=>CB a (fun i=>l.getD (i*(v+1)+q) 0) u) v:=by
 unfold evR
 refine GB fun q hq=>?_
 rw [UO hq]
 exact GB fun i hi=>Xy hl hi hq
theorem V6 (hl:l.length=(u+1)*(v+1)):evR u v l a b=CB a (cf (EB u v l b)) u:=by
 rw [V7 hl]
 refine Eq.trans Ua.symm (GB fun i hi=>?_)
 rw [UO hi]
 exact GB fun q hq=>(UN hl hi hq).symm
theorem J8 {J js jt:Nat} (hl:l.length=(u+1)*(v+1)) (hr: ∀r∈l,RSz js r) (ht:RSz jt t) (hJ:2+(v+1)*js+js+(v*(jt+1)+1)≤J): ∀r∈EB u v l t,RSz J r:=
 Vq fun i hi=>G8 (CL hl (by omega)) (fun r h=>hr r (Ep h)) ht hJ v 0 (by omega)
end
theorem AR {a:Nat} (h:a≤1000000000000):Gl .add .i64 ((a:Nat):Int) 1=some (.int .i64 ((a+1:Nat):Int)):=BW (k:= .i64) (show (IntKind.i64).wrap ((a:Int)+1)=((a+1:Nat):Int) from IntWalk.i64_in _ (by omega))
theorem QO {a b:Nat} (h:a+b≤1000000000000):Gl .add .i64 ((a:Nat):Int) ((b:Nat):Int)=some (.int .i64 ((a+b:Nat):Int)):=BW (k:= .i64) (show (IntKind.i64).wrap ((a:Int)+(b:Int))=((a+b:Nat):Int) by rw [show (a:Int)+(b:Int)=((a+b:Nat):Int) by omega];exact IntWalk.i64_in _ (by omega))
theorem Db {a b:Nat} (h:a*b≤1000000000000):Gl .mul .i64 ((a:Nat):Int) ((b:Nat):Int)=some (.int .i64 ((a*b:Nat):Int)):=by
 show some (Value.int .i64 ((IntKind.i64).wrap (((a:Nat):Int)*((b:Nat):Int))))=_
 rw [←Int.natCast_mul,show (IntKind.i64).wrap ((a*b:Nat):Int)=((a*b:Nat):Int) from IntWalk.i64_in _ (by omega)]
theorem Dr {u v:Nat} (hu:u≤40) (hv:v≤40):(u+1)*(v+1)≤1681:=Nat.mul_le_mul (show u+1≤41 by omega) (show v+1≤41 by omega)
theorem DI {n:Nat} (h:n≤40):Ctr Tryz.prog Amb 157 [Ay (n:Nat)] (.one (.v (.bool true))):=by
 have b1:=D7 (k:= .i64) (decide_eq_true (show ((n:Nat):Int)≥0 by omega))
 have b2:=D4 (k:= .i64) (decide_eq_true (show ((n:Nat):Int)≤40 by omega))
 refine Aj Tryz.func157 rfl rfl rfl rfl rfl rfl ?_
 intro W0 base D μ0 hA hD
 repeat (first|refine Ag ?_|refine Ac ?_|refine Aa rfl ?_|refine Ab rfl ?_|refine Am ?_|refine An ?_|refine Ad ?_|refine Ae ?_)
 refine Ap (And.intro (Or.inr rfl) ?_)
 exact AA
theorem FD {j u v:Nat} {l:List Rat} (hu:u≤40) (hv:v≤40) (hl:l.length=(u+1)*(v+1)):Ctr Tryz.prog Amb 82 [net j u v l] (.one (.v (.bool true))):=by
 have hs:=Dr hu hv
 have R1:=DI hu
 have R2:=DI hv
 have a1:=AR (a:=u) (by omega)
 have a2:=AR (a:=v) (by omega)
 have m1:=Db (a:=u+1) (b:=v+1) (by omega)
 have q1:=FS (k:= .i64) (decide_eq_true (show ((l.length:Nat):Int)=(((u+1)*(v+1):Nat):Int) by rw [hl]))
 refine Aj Tryz.func82 rfl rfl rfl rfl rfl rfl ?_
 intro W0 base D μ0 hA hD
 repeat (first|refine Ag ?_|refine Ac ?_|refine Aa rfl ?_|refine Ab rfl ?_|refine Am ?_|refine An ?_|refine Ad ?_|refine Ae ?_)
 refine Ap (And.intro (Or.inr rfl) ?_)
 exact AA
theorem Ju {g h:Nat→List Rat} {n i:Nat} (hi:i<n):(tab n fun q=>if q<i then g q else h q).set i (g i)=tab n fun q=>if q<i+1 then g q else h q:=Dm hi (if_pos (by omega)) fun q hq hne=>by
 by_cases h:q<i
 ·rw [if_pos h,if_pos (by omega)]
 ·rw [if_neg h,if_neg (by omega)]
theorem OJ {j u v:Nat} {l:List Rat} (hu:u≤40) (hv:v≤40) (hl:l.length=(u+1)*(v+1)):
  C7 Tryz.prog Amb 84 [net j u v l] [] [(15,Ao (FI j) (Cd u v l))] (.one (.gl 15 (u+1) 1)):=by
 have hs:=Dr hu hv
 have P1:=FD (j:=j) hu hv hl
 have hne:0<u+1:=by omega
 have hrl:(Cd u v l).length=u+1:=BC
 have hne':(!(Ao (FI j) (Cd u v l)).isEmpty)=true:=by
  have:=Cr (f:=FI j) inferInstance (by decide) (show 0<(Cd u v l).length by omega)
  cases hb:Ao (FI j) (Cd u v l) with
  | nil=>rw [hb] at this;cases this
  | cons a b=>rfl
 have a1:=AR (a:=u) (by omega)
 have a2:=AR (a:=v) (by omega)
 refine CV Tryz.func84 rfl rfl rfl rfl (by
  simp only [List.all_cons,List.all_nil,Bool.and_true,Bool.and_eq_true]
  exact ⟨by simp [inA,inC],Cs _ _,hne'⟩) (by simp [inA,inC]) (by simp) (by simp) ?_
 intro W0 base D μ0 hA hD
 repeat (first|refine Ag ?_|refine Ac ?_|refine Aa rfl ?_|refine Ab rfl ?_|refine Am ?_|refine An ?_|refine Ad ?_|refine Ae ?_)
 refine AW (fun m σ=> ∃(i:Nat) (cur:List (List Rat)),m=u+1-i∧i≤u+1∧cur=tab (u+1) (fun q=>if q<i then A0 v l q else [])∧Wk ⟨W0,base,D,36,[],μ0⟩ σ [(1,.one (.ptr 1 0)),(3,Ay (v+1:Nat)),(4,.one (.gl 15 (u+1) 1)),(17,Ay (u+1:Nat)),(18,Ay (i:Nat))] [(1,F8 j u v l),(15,Ao (FI j) cur)]) (n:=u+1) ⟨0,List.replicate (u+1) [],by omega,by omega,?_,?_⟩ ?_
 ·rw [DU];exact AL fun q hq=>(if_neg (by omega)).symm
 ·exact BF
 clear P1 a1 a2
 intro m σ hI
 obtain ⟨i,cur,hm,hi0,hcur,hw⟩:=hI
 refine A8 hw ?_
 clear hw
 have hcl:cur.length=u+1:=by rw [hcur];exact BC
 by_cases hi:i<u+1
 ·have bi:=AS (k:= .i64) (decide_eq_true (show ((i:Nat):Int)<((u+1:Nat):Int) by omega))
  have hin:=AR (a:=i) (by omega)
  have h1:=Ia (u:=u) (v:=v) (i:=i) (by omega)
  have h2:(i+1)*(v+1)=i*(v+1)+(v+1):=Nat.succ_mul _ _
  have m1:=Db (a:=i) (b:=v+1) (by omega)
  have m2:=Db (a:=i+1) (b:=v+1) (by omega)
  have hp1:i*(v+1)≤(i+1)*(v+1):=by omega
  have hp2:(i+1)*(v+1)≤l.length:=by omega
  have hlt:(0:Int)≤((i:Nat):Int)∧((i:Nat):Int)<((u+1:Nat):Int):=by omega
  have hst:((i:Nat):Int).toNat*1+1≤(Ao (FI j) cur).length:=by rw [Av (n:=1) inferInstance,hcl,Int.toNat_natCast];omega
  repeat (first|refine Ag ?_|refine Ac ?_|refine Aa rfl ?_|refine Ab rfl ?_|refine Am ?_|refine An ?_|refine Ad ?_|refine Ae ?_)
  refine ⟨m-1,by omega,i+1,cur.set i (A0 v l i),by omega,by omega,?_,?_⟩
  ·rw [hcur];exact Ju hi
  ·exact BF
 ·obtain rfl:i=u+1:=by omega
  have bi:=AS (k:= .i64) (decide_eq_false (show ¬((u+1:Nat):Int)<((u+1:Nat):Int) by omega))
  have he:cur=Cd u v l:=by rw [hcur];exact AL fun q hq=>if_pos hq
  subst he
  repeat (first|refine Ag ?_|refine Ac ?_|refine Aa rfl ?_|refine Ab rfl ?_|refine Am ?_|refine An ?_|refine Ad ?_|refine Ae ?_)
  refine Ap (And.intro (Or.inr rfl) (IG (ResIs.tmp rfl) (Ent.of_eq rfl) Ak ?_))
  exact List.forall_mem_cons.2 ⟨.inl (AN inferInstance),Ak⟩
theorem LB {j u v:Nat} {l:List Rat} (hu:u≤40) (hv:v≤40) (hl:l.length=(u+1)*(v+1)):
  Ctr Tryz.prog Amb 84 [net j u v l] (.one (FH j (Cd u v l))):=by
 have h:=OJ (j:=j) hu hv hl
 have hrl:(Cd u v l).length=u+1:=BC
 rw [←hrl] at h
 exact h.freeze inferInstance rfl (fun p hp=>by cases hp) (.inl rfl) rfl
theorem Vy {j u v:Nat} (hu:u≤40) (hv:v≤40):
  C7 Tryz.prog Amb 102 [Ay (u:Nat),Ay (v:Nat)] [] [(12,Ao (nmD j) (List.replicate ((u+1)*(v+1)) 0))] (.agg [.v (.int .i64 (u:Nat)),.v (.int .i64 (v:Nat)),.gl 12 ((u+1)*(v+1)) 3]):=by
 have hs:=Dr hu hv
 have a1:=AR (a:=u) (by omega)
 have a2:=AR (a:=v) (by omega)
 have m1:=Db (a:=u+1) (b:=v+1) (by omega)
 have hne:0<(u+1)*(v+1):=Nat.mul_pos (by omega) (by omega)
 generalize (u+1)*(v+1)=N at*
 have hne':(!(Ao (nmD j) (List.replicate N 0)).isEmpty)=true:=by
  have:=Cr (f:=nmD j) inferInstance (by decide) (show 0<(List.replicate N (0:Rat)).length by simpa using hne)
  cases hb:Ao (nmD j) (List.replicate N 0) with
  | nil=>rw [hb] at this;cases this
  | cons a b=>rfl
 refine CV Tryz.func102 rfl rfl rfl rfl (by
  simp only [List.all_cons,List.all_nil,Bool.and_true,Bool.and_eq_true]
  exact ⟨by simp [inA,inC],Cs _ _,hne'⟩) (by simp [inA,inC]) (by simp) (by simp) ?_
 intro W0 base D μ0 hA hD
 repeat (first|refine Ag ?_|refine Ac ?_|refine Aa rfl ?_|refine Ab rfl ?_|refine Am ?_|refine An ?_|refine Ad ?_|refine Ae ?_)
 refine A8 (ss:= [(4,.one (.ptr 4 0))]) (bs:= [(4,[.v (.int .i64 (u:Nat)),.v (.int .i64 (v:Nat)),.gl 12 N 3]),(12,Ao (nmD j) (List.replicate N 0))]) ?_ ?_
 ·exact BF
 refine Ap (And.intro (Or.inr rfl) (IG (ResIs.cell inferInstance rfl rfl rfl rfl) (Ent.of_eq rfl) Ak ?_))
 exact List.forall_mem_cons.2 ⟨.inl (AN inferInstance),Ak⟩
theorem De.net {j:Nat} {σ:St} {k kb len:Nat} {ks:List Nat} {l:List Rat} {a b:Int} (hz:σ.sz k=(Ao (nmD j) l).length:=by exact rfl) (hm:Kj (σ.m k) (Ao (nmD j) l):=by first|exact DA|exact Da) (hz2:σ.sz kb=3:=by exact rfl)
  (h0:σ.m kb 0= .v (.int .i64 a):=by exact rfl) (h1:σ.m kb 1= .v (.int .i64 b):=by exact rfl) (h2:σ.m kb 2= .gl k len 3:=by exact rfl) (hlen:len=l.length:=by first|rfl|omega):De σ k ks (kb,[.v (.int .i64 a),.v (.int .i64 b),AH j l]):=by
 subst hlen
 have h:=GW (f:=nmD j) (l:=l) inferInstance hz hm
 have hn: ∀n:Int,nl (.v (.int .i64 n)):=fun n=>⟨fun n e=>(by cases e),rfl⟩
 refine ⟨⟨hz2,fun i c hc=>?_⟩,by simp [inC]⟩
 match i,hc with
 | 0,hc=>
   cases hc
   refine ⟨?_,hn a⟩
   show FzC σ k (σ.m kb 0) _
   rw [h0]
   exact .ent Af.same
 | 1,hc=>
   cases hc
   refine ⟨?_,hn b⟩
   show FzC σ k (σ.m kb 1) _
   rw [h1]
   exact .ent Af.same
 | 2,hc=>
   cases hc
   refine ⟨?_,trivial⟩
   show FzC σ k (σ.m kb 2) _
   rw [h2]
   cases h with
   | one h=>exact h
   | ent h=>exact .ent fun W0 μ sz w x hx=>h W0 μ sz w x hx
abbrev D8:List C:= [.v (.int .i64 0),.v (.int .i64 0),.v (.slice none 0 0)]
theorem F0 {j u v:Nat} {l:List Rat} (hu:u≤40) (hv:v≤40) (hl:l.length=(u+1)*(v+1)):
  Ctr Tryz.prog Amb 90 [net j u v l] (net j v u (Dq u v l)):=by
 have hs:=Dr hv hu
 have P1:=FD (j:=j) hu hv hl
 have Z1:=Vy (j:=j) hv hu
 have R1:=LB (j:=j) hu hv hl
 have hne:0<(v+1)*(u+1):=Nat.mul_pos (by omega) (by omega)
 have hbl:0<(Ao (nmD j) (List.replicate ((v+1)*(u+1)) 0)).length:=Cr (n:=3) inferInstance (by decide) (by rw [List.length_replicate]; exact hne)
 have hrl:(Cd u v l).length=u+1:=BC
 have hset: ∀i q x,i≤u→q≤v→(A0 v l i)[q]?=some x→(tab ((v+1)*(u+1)) (Fz u v l i q)).set (q*(u+1)+i) x=tab ((v+1)*(u+1)) (Fz u v l i (q+1)):=fun i q x h1 h2 h3=>SR hl h1 h2 h3
 have hnx: ∀i,tab ((v+1)*(u+1)) (Fz u v l i (v+1))=tab ((v+1)*(u+1)) (Fz u v l (i+1) 0):=fun i=>AL fun q hq=>SS hq
 have hrow: ∀i,i≤u→(Cd u v l)[((i:Nat):Int).toNat]?=some (A0 v l i):=fun i h=>by rw [Int.toNat_natCast];exact KH h
 have hrowl: ∀i,i≤u→(A0 v l i).length=v+1:=fun i h=>CL hl h
 have hidx: ∀i q,i≤u→q≤v→q*(u+1)+i<(v+1)*(u+1):=fun i q h1 h2=>by
  have h3:(q+1)*(u+1)≤(v+1)*(u+1):=Nat.mul_le_mul_right _ (by omega)
  rw [Nat.succ_mul] at h3
  omega
 have ht0:List.replicate ((v+1)*(u+1)) 0=tab ((v+1)*(u+1)) (Fz u v l 0 0):=by rw [DU,Rc]
 have ht1:tab ((v+1)*(u+1)) (Fz u v l (u+1) 0)=Dq u v l:=AL fun q hq=>Re
 generalize Cd u v l=RS at*
 obtain ⟨N,hN⟩: ∃N,N=(v+1)*(u+1):=⟨_,rfl⟩
 rw [←hN] at hset hnx hidx ht0 ht1 Z1 hne hbl hs
 clear hN
 refine Aj Tryz.func90 rfl rfl rfl rfl rfl rfl ?_
 intro W0 base D μ0 hA hD
 repeat (first|refine Ag ?_|refine Ac ?_|refine Aa rfl ?_|refine Ab rfl ?_|refine Am ?_|refine An ?_|refine Ad ?_|refine Ae ?_)
 refine AW (fun m σ=> ∃(i:Nat) (cur:List Rat),m=u+1-i∧i≤u+1∧cur=tab N (Fz u v l i 0)∧Wk ⟨W0,base,D,46,[],μ0⟩ σ [(1,.one (.ptr 1 0)),(2,.one (.ptr 2 0)),(3,.one (.ptr 3 0)),(18,.one (FH j RS)),(19,Ay (u+1:Nat)),(20,Ay (i:Nat))] [(1,F8 j u v l),(2,D8),(3,[.v (.int .i64 (v:Nat)),.v (.int .i64 (u:Nat)),.gl 12 N 3]),(12,Ao (nmD j) cur)]) (n:=u+1) ⟨0,List.replicate N 0,by omega,by omega,ht0,?_⟩ ?_
 ·exact BF
 clear P1 Z1 R1 ht0
 intro m σ hI
 obtain ⟨i,cur,hm,hi0,hcur,hw⟩:=hI
 refine A8 hw ?_
 clear hw
 by_cases hi:i<u+1
 ·have bi:=AS (k:= .i64) (decide_eq_true (show ((i:Nat):Int)<((u+1:Nat):Int) by omega))
  have hin:=AR (a:=i) (by omega)
  have hr:=hrow i (by omega)
  have hrll:=hrowl i (by omega)
  have hset':=fun q x=>hset i q x (by omega)
  have hidx':=fun q=>hidx i q (by omega)
  have hnx':=hnx i
  generalize A0 v l i=row at*
  repeat (first|refine Ag ?_|refine Ac ?_|refine Aa rfl ?_|refine Ab rfl ?_|refine Am ?_|refine An ?_|refine Ad ?_|refine Ae ?_)
  refine AW (fun m σ=> ∃(q:Nat) (cur:List Rat),m=v+1-q∧q≤v+1∧cur=tab N (Fz u v l i q)∧Wk ⟨W0,base,D,46,[],μ0⟩ σ [(1,.one (.ptr 1 0)),(2,.one (.ptr 2 0)),(3,.one (.ptr 3 0)),(4,Ay (i:Nat)),(18,.one (FH j RS)),(19,Ay (u+1:Nat)),(20,Ay (i:Nat)),(25,.one (AH j row)),(26,Ay (v+1:Nat)),(27,Ay (q:Nat))] [(1,F8 j u v l),(2,D8),(3,[.v (.int .i64 (v:Nat)),.v (.int .i64 (u:Nat)),.gl 12 N 3]),(12,Ao (nmD j) cur)]) (n:=v+1) ⟨0,cur,by omega,by omega,hcur,?_⟩ ?_
  ·exact BF
  clear hcur cur
  intro c σ hI
  obtain ⟨q,cur,hc,hq0,hcur,hw⟩:=hI
  refine A8 hw ?_
  clear hw
  have hcl:cur.length=N:=by rw [hcur];exact BC
  by_cases hq:q<v+1
  ·have bq:=AS (k:= .i64) (decide_eq_true (show ((q:Nat):Int)<((v+1:Nat):Int) by omega))
   have hqn:=AR (a:=q) (by omega)
   obtain ⟨x,hx,hx'⟩:=Ge (l:=row) (i:=q) (by omega)
   have hid:=hidx' q (by omega)
   have a1:=AR (a:=u) (by omega)
   have m1:=Db (a:=q) (b:=u+1) (by omega)
   have a2:=QO (a:=q*(u+1)) (b:=i) (by omega)
   have hst0:=hset' q x (by omega) hx'
   generalize q*(u+1)+i=at0 at*
   have hlt:(0:Int)≤((at0:Nat):Int)∧((at0:Nat):Int)<((N:Nat):Int):=by omega
   have hst:((at0:Nat):Int).toNat*3+3≤(Ao (nmD j) cur).length:=by rw [Av (n:=3) inferInstance,hcl,Int.toNat_natCast];omega
   repeat (first|refine Ag ?_|refine Ac ?_|refine Aa rfl ?_|refine Ab rfl ?_|refine Am ?_|refine An ?_|refine Ad ?_|refine Ae ?_)
   refine ⟨c-1,by omega,q+1,cur.set at0 x,by omega,by omega,?_,?_⟩
   ·rw [hcur];exact hst0
   ·exact BF
  ·obtain rfl:q=v+1:=by omega
   have bq:=AS (k:= .i64) (decide_eq_false (show ¬((v+1:Nat):Int)<((v+1:Nat):Int) by omega))
   repeat (first|refine Ag ?_|refine Ac ?_|refine Aa rfl ?_|refine Ab rfl ?_|refine Am ?_|refine An ?_|refine Ad ?_|refine Ae ?_)
   refine ⟨m-1,by omega,i+1,cur,by omega,by omega,by rw [hcur,hnx'],?_⟩
   exact BF
 ·obtain rfl:i=u+1:=by omega
  have bi:=AS (k:= .i64) (decide_eq_false (show ¬((u+1:Nat):Int)<((u+1:Nat):Int) by omega))
  rw [ht1] at hcur
  have hcl:cur.length=N:=by rw [hcur,←ht1];exact BC
  rw [←hcur]
  repeat (first|refine Ag ?_|refine Ac ?_|refine Aa rfl ?_|refine Ab rfl ?_|refine Am ?_|refine An ?_|refine Ad ?_|refine Ae ?_)
  refine A5 12 hD (ss:= [(2,.one (.ptr 2 0))]) (bs:= [(2,[.v (.int .i64 (v:Nat)),.v (.int .i64 (u:Nat)),AH j cur])]) ?_ ?_
  ·exact Gg (List.forall_mem_cons.2 ⟨FzA.ent (Ent.of_eq rfl),Ak⟩) (List.forall_mem_cons.2 ⟨De.net (hlen:=hcl.symm),Ak⟩) rfl
  refine Ap (And.intro (Or.inr rfl) ?_)
  exact AA
theorem Af.ny {c:C} (h:nlB c=true):Af c .ny:=fun W0 μ sz w x hx=>hx.noL (DM h)
theorem KM {i:Nat} {p:List Rat} {ls:List (List Rat)} (h:ls[i]?=some p):(ls.take (i+1)).flatten=(ls.take i).flatten++p:=by
 rw [List.take_add_one,h,List.flatten_append]
 simp
theorem Hh {ls:List (List Rat)} {i:Nat} (h:i<ls.length): ∃p,ls[((i:Nat):Int).toNat]?=some p∧ls[i]?=some p∧p∈ls:=⟨_,by rw [Int.toNat_natCast];exact Yv h,Yv h,List.getElem_mem _⟩
theorem M7 {j u m:Nat} {ls:List (List Rat)} (hl:ls.length=u+1) (hm: ∀p∈ls,p.length=m+1) (hu:u≤40) (hm40:m≤40):
  Ctr Tryz.prog Amb 172 [.one (FH j ls)] (net j u m ls.flatten):=by
 have hs:=Dr hu hm40
 have hfl:ls.flatten.length=(u+1)*(m+1):=by rw [DO hm,hl]
 obtain ⟨p0,hp0,_,hp0m⟩:=Hh (ls:=ls) (i:=0) (by omega)
 replace hp0:ls[(0:Int).toNat]?=some p0:=hp0
 have hp0l:=hm p0 hp0m
 have b0:=FS (k:= .i64) (decide_eq_false (show ¬((ls.length:Nat):Int)=0 by omega))
 have s0:=Cl (k:= .i64) (show (IntKind.i64).wrap (((ls.length:Nat):Int)-1)=((u:Nat):Int) by rw [show ((ls.length:Nat):Int)-1=((u:Nat):Int) by omega];exact IntWalk.i64_in _ (by omega))
 have s1:=Cl (k:= .i64) (show (IntKind.i64).wrap (((p0.length:Nat):Int)-1)=((m:Nat):Int) by rw [show ((p0.length:Nat):Int)-1=((m:Nat):Int) by omega];exact IntWalk.i64_in _ (by omega))
 refine Aj Tryz.func172 rfl rfl rfl rfl rfl rfl ?_
 intro W0 base D μ0 hA hD
 repeat (first|refine Ag ?_|refine Ac ?_|refine Aa rfl ?_|refine Ab rfl ?_|refine Am ?_|refine An ?_|refine Ad ?_|refine Ae ?_)
 refine AW (fun c σ=> ∃(i:Nat) (done:List Rat),c=u+1-i∧i≤u+1∧done=(ls.take i).flatten∧Wk ⟨W0,base,D,32,[],μ0⟩ σ [(2,.one (.ptr 2 0)),(3,.one (.ptr 3 0)),(19,.one (FH j ls)),(20,Ay (ls.length:Nat)),(21,Ay (i:Nat))] [(2,D8),(3,[.v (.int .i64 (u:Nat)),.v (.int .i64 (m:Nat)),.gl 900 done.length 3]),(900,Ao (nmD j) done)]) (n:=u+1) ⟨0,[],by omega,by omega,rfl,?_⟩ ?_
 ·exact BF
 clear b0 s0 s1
 intro c σ hI
 obtain ⟨i,done,hc,hi0,hdone,hw⟩:=hI
 refine A8 hw ?_
 clear hw
 by_cases hi:i<u+1
 ·have bi:=AS (k:= .i64) (decide_eq_true (show ((i:Nat):Int)<((ls.length:Nat):Int) by omega))
  have hin:=AR (a:=i) (by omega)
  obtain ⟨p,hp,hp',hpm⟩:=Hh (ls:=ls) (i:=i) (by omega)
  have hpl:=hm p hpm
  have hd':done++p=(ls.take (i+1)).flatten:=by rw [KM hp',hdone]
  have hdl:done.length≤1681:=by
   have h1:done.length=(ls.take i).length*(m+1):=by rw [hdone];exact DO fun q hq=>hm q (List.mem_of_mem_take hq)
   have h2:(ls.take i).length*(m+1)≤(u+1)*(m+1):=Nat.mul_le_mul_right _ (by rw [List.length_take];omega)
   omega
  clear hdone
  repeat (first|refine Ag ?_|refine Ac ?_|refine Aa rfl ?_|refine Ab rfl ?_|refine Am ?_|refine An ?_|refine Ad ?_|refine Ae ?_)
  try refine Ag ?_
  refine DS 3 (by simp only [List.take_succ_cons,List.take_zero,List.drop_succ_cons,List.drop_zero];exact ⟨rfl,rfl⟩) (by kernel_rfl) ?_
  repeat (first
   | refine AK (hl:=?_)
   | refine As (hl:=?_)
   | refine BB (hl:=?_)
   | refine AB (hl:=?_)
   | refine AO (hl:=?_)
   | refine BP (hl:=?_)
   | refine BL (hl:=?_)
   | refine BM (hl:=?_)
   | refine BN (hl:=?_)
   | refine AT (hl:=?_)
   | refine Cc (hl:=?_)
   | refine B7 (hl:=?_)
   | refine B6 (hl:=?_)
   | refine B8 (hl:=?_)
   | refine Dp (hl:=?_)
   | refine AY (hl:=?_)
   | refine BI (hl:=?_)
   | refine Df hA (hc:=OLD) (hl:=?_))
  apply Ah.nil
  refine FP (k:=900) (la:=done) (f:=nmD j) (ss:= [(2,.one (.ptr 2 0)),(3,.one (.ptr 3 0)),(19,.one (FH j ls)),(20,Ay (ls.length:Nat)),(21,Ay (i:Nat))]) (bs:= [(2,D8),(3,[.v (.int .i64 (u:Nat)),.v (.int .i64 (m:Nat)),.ny])]) (ns:=Ao (nmD j) p) (hns:=Hs inferInstance _ p) hD ?_ ?_ ?_
  ·exact ⟨by omega,by omega⟩
  ·refine Cu ?_ ?_ rfl
   ·repeat (first|exact Ak|refine List.forall_mem_cons.2 ⟨Ent.of_eq rfl,?_⟩)
   ·exact List.forall_mem_cons.2 ⟨AG rfl (EntL.of_eq rfl) rfl,List.forall_mem_cons.2 ⟨AG rfl (.cons Af.same (.cons Af.same (.cons (Af.ny rfl) .nil))) rfl,Ak⟩⟩
  repeat (refine Dy rfl ?_;(first|refine As (hl:=?_)|refine AK (hl:=?_)|refine AB (hl:=?_)|refine AO (hl:=?_));apply Ah.nil)
  refine DH ?_
  obtain ⟨dn,hdn⟩: ∃dn,dn=done++p:=⟨_,rfl⟩
  have hdnl:done.length+p.length=dn.length:=by rw [hdn,List.length_append]
  refine A8 (ss:= [(2,.one (.ptr 2 0)),(3,.one (.ptr 3 0)),(19,.one (FH j ls)),(20,Ay (ls.length:Nat)),(21,Ay (i:Nat))]) (bs:= [(2,D8),(3,[.v (.int .i64 (u:Nat)),.v (.int .i64 (m:Nat)),.gl 900 dn.length 3]),(900,Ao (nmD j) dn)]) ?_ ?_
  ·rw [hdn]
   refine Cu ?_ ?_ rfl
   ·repeat (first|exact Ak|refine List.forall_mem_cons.2 ⟨Ent.of_eq rfl,?_⟩)
   ·exact List.forall_mem_cons.2 ⟨AG rfl (EntL.of_eq rfl) rfl,List.forall_mem_cons.2 ⟨AG rfl (.cons Af.same (.cons Af.same (.cons (Af.glLen (by rw [List.length_append])) .nil))) rfl,List.forall_mem_cons.2 ⟨Fv inferInstance,Ak⟩⟩⟩
  repeat (first|refine Ag ?_|refine Ac ?_|refine Aa rfl ?_|refine Ab rfl ?_|refine Am ?_|refine An ?_|refine Ad ?_|refine Ae ?_)
  refine ⟨c-1,by omega,i+1,dn,by omega,by omega,by rw [hdn,hd'],?_⟩
  exact BF
 ·obtain rfl:i=u+1:=by omega
  have bi:=AS (k:= .i64) (decide_eq_false (show ¬((u+1:Nat):Int)<((ls.length:Nat):Int) by omega))
  have he:done=ls.flatten:=by rw [hdone,←hl,List.take_length]
  rw [←he]
  repeat (first|refine Ag ?_|refine Ac ?_|refine Aa rfl ?_|refine Ab rfl ?_|refine Am ?_|refine An ?_|refine Ad ?_|refine Ae ?_)
  refine A5 900 hD (ss:= [(2,.one (.ptr 2 0))]) (bs:= [(2,[.v (.int .i64 (u:Nat)),.v (.int .i64 (m:Nat)),AH j done])]) ?_ ?_
  ·exact Gg (List.forall_mem_cons.2 ⟨FzA.ent (Ent.of_eq rfl),Ak⟩) (List.forall_mem_cons.2 ⟨De.net,Ak⟩) rfl
  refine Ap (And.intro (Or.inr rfl) ?_)
  exact AA
section
variable {g:FuncId} [hG:Fun Tryz.prog g] {j u v m:Nat} {l:List Rat} {F:List Rat→List Rat}
theorem Ng:tab (u+1) (fun q=>if q<u+1 then F (A0 v l q) else A0 v l q)=(Cd u v l).map F:=by
 show _=(tab (u+1) (A0 v l)).map F
 rw [Ls]
 exact AL fun q hq=>if_pos hq
theorem FF (hF: ∀i,i≤u→(F (A0 v l i)).length=m+1):((Cd u v l).map F).length=u+1∧ ∀p∈(Cd u v l).map F,p.length=m+1:=by
 refine ⟨by rw [List.length_map];exact BC,fun p hp=>?_⟩
 obtain ⟨q,hq,rfl⟩:=List.mem_map.1 hp
 obtain ⟨i,hi,rfl⟩:=List.mem_map.1 hq
 exact hF i (by have:=List.mem_range.1 hi;omega)
theorem Rz (hu:u≤40) (hv:v≤40) (hl:l.length=(u+1)*(v+1)) (hm:m≤40) (hF: ∀i,i≤u→(F (A0 v l i)).length=m+1) (H: ∀i,i≤u→Ctr Tryz.prog Amb g [.one (AH j (A0 v l i))] (.one (AH j (F (A0 v l i))))):
  Ctr Tryz.prog Amb 95 [net j u v l,.one (.fn g [])] (net j u m (byR u v F l)):=by
 have R1:=OJ (j:=j) hu hv hl
 have hrl:(Cd u v l).length=u+1:=BC
 have hbl:0<(Ao (FI j) (Cd u v l)).length:=Cr (n:=1) inferInstance (by decide) (by omega)
 obtain ⟨hk1,hk2⟩:=FF hF
 have J1:=M7 (j:=j) hk1 hk2 hu hm
 unfold byR
 have hend:=Ng (u:=u) (v:=v) (l:=l) (F:=F)
 generalize (Cd u v l).map F=LS at*
 refine Aj Tryz.func95 rfl rfl rfl rfl rfl rfl ?_
 intro W0 base D μ0 hA hD
 repeat (first|refine Ag ?_|refine Ac ?_|refine Aa rfl ?_|refine Ab rfl ?_|refine Am ?_|refine An ?_|refine Ad ?_|refine Ae ?_)
 refine AW (fun c σ=> ∃(i:Nat) (cur:List (List Rat)),c=u+1-i∧i≤u+1∧cur=tab (u+1) (fun q=>if q<i then F (A0 v l q) else A0 v l q)∧Wk ⟨W0,base,D,26,[],μ0⟩ σ [(1,.one (.fn g [])),(2,.one (.ptr 2 0)),(4,.one (.ptr 4 0)),(5,.one (.gl 15 (u+1) 1)),(10,.one (.gl 15 (u+1) 1)),(11,Ay (u+1:Nat)),(12,Ay (i:Nat))] [(2,F8 j u v l),(4,D8),(15,Ao (FI j) cur)]) (n:=u+1) ⟨0,Cd u v l,by omega,by omega,AL fun q hq=>(if_neg (by omega)).symm,?_⟩ ?_
 ·exact BF
 clear R1
 intro c σ hI
 obtain ⟨i,cur,hc,hi0,hcur,hw⟩:=hI
 refine A8 hw ?_
 clear hw
 have hcl:cur.length=u+1:=by rw [hcur];exact BC
 by_cases hi:i<u+1
 ·have bi:=AS (k:= .i64) (decide_eq_true (show ((i:Nat):Int)<((u+1:Nat):Int) by omega))
  have hin:=AR (a:=i) (by omega)
  have hlt:(0:Int)≤((i:Nat):Int)∧((i:Nat):Int)<((u+1:Nat):Int):=by omega
  have hst:((i:Nat):Int).toNat*1+1≤(Ao (FI j) cur).length:=by rw [Av (n:=1) inferInstance,hcl,Int.toNat_natCast];omega
  have hx:cur[((i:Nat):Int).toNat]?=some (A0 v l i):=by rw [hcur,CG hi,if_neg (Nat.lt_irrefl i)]
  have ld1:=CH (f:=FI j) (n:=1) inferInstance hx
  have H1:=H i (by omega)
  have hs:cur.set i (F (A0 v l i))=tab (u+1) (fun q=>if q<i+1 then F (A0 v l q) else A0 v l q):=by rw [hcur];exact Ju (g:=fun q=>F (A0 v l q)) hi
  generalize F (A0 v l i)=y at*
  generalize A0 v l i=x at*
  repeat (first|refine Ag ?_|refine Ac ?_|refine Aa rfl ?_|refine Ab rfl ?_|refine Am ?_|refine An ?_|refine Ad ?_|refine Ae ?_)
  refine ⟨c-1,by omega,i+1,cur.set i y,by omega,by omega,hs,?_⟩
  exact BF
 ·obtain rfl:i=u+1:=by omega
  have bi:=AS (k:= .i64) (decide_eq_false (show ¬((u+1:Nat):Int)<((u+1:Nat):Int) by omega))
  rw [hend] at hcur
  subst hcur
  repeat (first|refine Ag ?_|refine Ac ?_|refine Aa rfl ?_|refine Ab rfl ?_|refine Am ?_|refine An ?_|refine Ad ?_|refine Ae ?_)
  refine A8 (ss:= [(4,.one (.ptr 4 0)),(5,.one (.gl 15 cur.length 1))]) (bs:= [(4,D8),(15,Ao (FI j) cur)]) ?_ ?_
  ·exact BF
  refine A5 15 hD (ss:= [(4,.one (.ptr 4 0)),(5,.one (FH j cur))]) (bs:= [(4,D8)]) ?_ ?_
  ·exact IO
  repeat (first|refine Ag ?_|refine Ac ?_|refine Aa rfl ?_|refine Ab rfl ?_|refine Am ?_|refine An ?_|refine Ad ?_|refine Ae ?_)
  refine Ap (And.intro (Or.inr rfl) ?_)
  exact AA
theorem KD {j1 j2:Nat} {x1 x2:Rat} (hu:u≤40) (hv:v≤40) (hl:l.length=(u+1)*(v+1)) (hm:m≤40) (hF: ∀i,i≤u→(F (A0 v l i)).length=m+1)
  (H: ∀i,i≤u→BJ Tryz.prog Amb g [.one (AH j (A0 v l i)),.one (.ptr 901 0),.one (.ptr 902 0)] [(901,nmC j1 x1,nmC j1 x1),(902,nmC j2 x2,nmC j2 x2)] (.one (AH j (F (A0 v l i))))):
  BJ Tryz.prog Amb 95 [net j u v l,.one (.fn g [(901,0),(902,0)])] [(901,nmC j1 x1,nmC j1 x1),(902,nmC j2 x2,nmC j2 x2)] (net j u m (byR u v F l)):=by
 have R1:=OJ (j:=j) hu hv hl
 have hrl:(Cd u v l).length=u+1:=BC
 have hbl:0<(Ao (FI j) (Cd u v l)).length:=Cr (n:=1) inferInstance (by decide) (by omega)
 obtain ⟨hk1,hk2⟩:=FF hF
 have J1:=M7 (j:=j) hk1 hk2 hu hm
 unfold byR
 have hend:=Ng (u:=u) (v:=v) (l:=l) (F:=F)
 generalize (Cd u v l).map F=LS at*
 apply Aj Tryz.func95 rfl rfl rfl rfl rfl
 case hin=>simp [inA,inC]
 intro W0 base D μ0 hA hD
 repeat (first|refine Ag ?_|refine Ac ?_|refine Aa rfl ?_|refine Ab rfl ?_|refine Am ?_|refine An ?_|refine Ad ?_|refine Ae ?_)
 refine AW (fun c σ=> ∃(i:Nat) (cur:List (List Rat)),c=u+1-i∧i≤u+1∧cur=tab (u+1) (fun q=>if q<i then F (A0 v l q) else A0 v l q)∧Wk ⟨W0,base,D,26,[901,902],μ0⟩ σ [(1,.one (.fn g [(901,0),(902,0)])),(2,.one (.ptr 2 0)),(4,.one (.ptr 4 0)),(5,.one (.gl 15 (u+1) 1)),(10,.one (.gl 15 (u+1) 1)),(11,Ay (u+1:Nat)),(12,Ay (i:Nat))] [(2,F8 j u v l),(4,D8),(15,Ao (FI j) cur),(901,nmC j1 x1),(902,nmC j2 x2)]) (n:=u+1) ⟨0,Cd u v l,by omega,by omega,AL fun q hq=>(if_neg (by omega)).symm,?_⟩ ?_
 ·exact BF
 clear R1
 intro c σ hI
 obtain ⟨i,cur,hc,hi0,hcur,hw⟩:=hI
 refine A8 hw ?_
 clear hw
 have hcl:cur.length=u+1:=by rw [hcur];exact BC
 by_cases hi:i<u+1
 ·have bi:=AS (k:= .i64) (decide_eq_true (show ((i:Nat):Int)<((u+1:Nat):Int) by omega))
  have hin:=AR (a:=i) (by omega)
  have hlt:(0:Int)≤((i:Nat):Int)∧((i:Nat):Int)<((u+1:Nat):Int):=by omega
  have hst:((i:Nat):Int).toNat*1+1≤(Ao (FI j) cur).length:=by rw [Av (n:=1) inferInstance,hcl,Int.toNat_natCast];omega
  have hx:cur[((i:Nat):Int).toNat]?=some (A0 v l i):=by rw [hcur,CG hi,if_neg (Nat.lt_irrefl i)]
  have ld1:=CH (f:=FI j) (n:=1) inferInstance hx
  have H1:=H i (by omega)
  have hs:cur.set i (F (A0 v l i))=tab (u+1) (fun q=>if q<i+1 then F (A0 v l q) else A0 v l q):=by rw [hcur];exact Ju (g:=fun q=>F (A0 v l q)) hi
  generalize F (A0 v l i)=y at*
  generalize A0 v l i=x at*
  repeat (first|refine Ag ?_|refine Ac ?_|refine Aa rfl ?_|refine Ab rfl ?_|refine Am ?_|refine An ?_|refine Ad ?_|refine Ae ?_)
  refine ⟨c-1,by omega,i+1,cur.set i y,by omega,by omega,hs,?_⟩
  exact BF
 ·obtain rfl:i=u+1:=by omega
  have bi:=AS (k:= .i64) (decide_eq_false (show ¬((u+1:Nat):Int)<((u+1:Nat):Int) by omega))
  rw [hend] at hcur
  subst hcur
  repeat (first|refine Ag ?_|refine Ac ?_|refine Aa rfl ?_|refine Ab rfl ?_|refine Am ?_|refine An ?_|refine Ad ?_|refine Ae ?_)
  refine A8 (ss:= [(4,.one (.ptr 4 0)),(5,.one (.gl 15 cur.length 1))]) (bs:= [(4,D8),(15,Ao (FI j) cur),(901,nmC j1 x1),(902,nmC j2 x2)]) ?_ ?_
  ·exact BF
  refine A5 15 hD (ss:= [(4,.one (.ptr 4 0)),(5,.one (FH j cur))]) (bs:= [(4,D8),(901,nmC j1 x1),(902,nmC j2 x2)]) ?_ ?_
  ·exact IO
  repeat (first|refine Ag ?_|refine Ac ?_|refine Aa rfl ?_|refine Ab rfl ?_|refine Am ?_|refine An ?_|refine Ad ?_|refine Ae ?_)
  refine Ap (And.intro (Or.inr rfl) ?_)
  exact Sh (hb:=by repeat (first|exact Ak|refine List.forall_mem_cons.2 ⟨⟨rfl,rfl,rfl⟩,?_⟩))
end
def byC (u v m:Nat) (F:List Rat→List Rat) (l:List Rat):List Rat:=Dq v m (byR v u F (Dq u v l))
section
variable {g:FuncId} [hG:Fun Tryz.prog g] {j u v m:Nat} {l:List Rat} {F:List Rat→List Rat}
theorem LF (hu:u≤40) (hv:v≤40) (hl:l.length=(u+1)*(v+1)) (hm:m≤40) (hF: ∀i,i≤v→(F (A0 u (Dq u v l) i)).length=m+1) (H: ∀i,i≤v→Ctr Tryz.prog Amb g [.one (AH j (A0 u (Dq u v l) i))] (.one (AH j (F (A0 u (Dq u v l) i))))):
  Ctr Tryz.prog Amb 92 [net j u v l,.one (.fn g [])] (net j m v (byC u v m F l)):=by
 have T1:=F0 (j:=j) hu hv hl
 have B1:=Rz (j:=j) (u:=v) (v:=u) (l:=Dq u v l) hv hu Cv hm hF H
 have T2:=F0 (j:=j) (u:=v) (v:=m) (l:=byR v u F (Dq u v l)) hv hm (I4 Cv hF)
 unfold byC
 refine Aj Tryz.func92 rfl rfl rfl rfl rfl rfl ?_
 intro W0 base D μ0 hA hD
 repeat (first|refine Ag ?_|refine Ac ?_|refine Aa rfl ?_|refine Ab rfl ?_|refine Am ?_|refine An ?_|refine Ad ?_|refine Ae ?_)
 refine Ap (And.intro (Or.inr rfl) ?_)
 exact AA
theorem LE {j1 j2:Nat} {x1 x2:Rat} (hu:u≤40) (hv:v≤40) (hl:l.length=(u+1)*(v+1)) (hm:m≤40) (hF: ∀i,i≤v→(F (A0 u (Dq u v l) i)).length=m+1)
  (H: ∀i,i≤v→BJ Tryz.prog Amb g [.one (AH j (A0 u (Dq u v l) i)),.one (.ptr 901 0),.one (.ptr 902 0)] [(901,nmC j1 x1,nmC j1 x1),(902,nmC j2 x2,nmC j2 x2)] (.one (AH j (F (A0 u (Dq u v l) i))))):
  BJ Tryz.prog Amb 92 [net j u v l,.one (.fn g [(901,0),(902,0)])] [(901,nmC j1 x1,nmC j1 x1),(902,nmC j2 x2,nmC j2 x2)] (net j m v (byC u v m F l)):=by
 have T1:=F0 (j:=j) hu hv hl
 have B1:=KD (j:=j) (u:=v) (v:=u) (l:=Dq u v l) hv hu Cv hm hF H
 have T2:=F0 (j:=j) (u:=v) (v:=m) (l:=byR v u F (Dq u v l)) hv hm (I4 Cv hF)
 unfold byC
 apply Aj Tryz.func92 rfl rfl rfl rfl rfl
 case hin=>simp [inA,inC]
 intro W0 base D μ0 hA hD
 repeat (first|refine Ag ?_|refine Ac ?_|refine Aa rfl ?_|refine Ab rfl ?_|refine Am ?_|refine An ?_|refine Ad ?_|refine Ae ?_)
 refine Ap (And.intro (Or.inr rfl) ?_)
 exact Sh (hb:=by repeat (first|exact Ak|refine List.forall_mem_cons.2 ⟨⟨rfl,rfl,rfl⟩,?_⟩))
end
end Go.Proofs.YtfineedhebhpaaaGreatDoor
