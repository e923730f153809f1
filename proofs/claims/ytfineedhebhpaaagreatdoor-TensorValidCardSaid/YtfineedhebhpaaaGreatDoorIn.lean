/-
  Several texts in one: Zfj, Zfk, Zfl, LawKTA.
-/
import Derived.Test.YtfineedhebhpaaaGreatDoorIm
import Derived.Test.YtfineedhebhpaaaGreatDoorBu
import Derived.Test.YtfineedhebhpaaaGreatDoorGs
namespace Go.Proofs.YtfineedhebhpaaaGreatDoor
open Nat renaming le_refl→Yu
open List renaming getElem?_eq_getElem→Yv
open Go.RowKit
set_option linter.unusedVariables false
set_option linter.unusedSimpArgs false
set_option maxRecDepth 20000
set_option maxHeartbeats 8000000
theorem Rm {X:Ctx} {dst:Option Tmp} {ty:TypeId} {pos:String} {af:Array Edge} {gd:Option (Nat×Bool)} {s:Nat→AV} {z:Nat→Nat} (hd: ∀t,dst=some t→t<X.n):
  Sim Tryz.prog X ⟨dst,.buildSlice 32 1 #[(0,.const (.int .u32 1))],ty,pos,af,gd⟩ s z ⟨.one (.q 1 1 1),[],[],[]⟩:=by
 refine Sim.of1 fun W hW=>?_
 clear hW
 replace hd: ∀t,dst=some t→t<(X.at W).n:=hd
 generalize X.at W=X at hd⊢
 intro σ hs hsz _ hal a w hcn K Q hK
 obtain ⟨μ,hcn⟩:=hcn
 obtain ⟨i0,hi,hz0,hz1,hz2⟩:=info_parts BT
 have hr:=run_buildSlice (P:=Tryz.prog) w 32 31 1 #[(0,.int .u32 1)] #[.int .u32 1] i0 (.int .u32 0) AZ hi hz0 (by rw [hz1];decide) (by rw [hz1];decide) (by rw [hz1];kernel_rfl)
 have hrun:(execOp a.eval ⟨dst,.buildSlice 32 1 #[(0,.const (.int .u32 1))],ty,pos,af,gd⟩).run Tryz.prog w= .ok (.value (.slice (some ⟨w.heap.size,0,none⟩) 1 1)) (w.alloc (.cells #[.int .u32 1] 31)):=by
  simp only [execOp]
  have e:((#[(0,Operand.const (.int .u32 1))]:Array (Nat×Operand)).map fun x=>match x with|(i,x)=>(i,a.eval x))= #[(0,Value.int .u32 1)]:=by simp;rfl
  rw [e]
  simp [hr]
 unfold Oper.wp
 rw [hrun]
 have hkp:Kp w (w.alloc (.cells #[.int .u32 1] 31)):=(Below.refl _ _).alloc (Yu _) _
 obtain ⟨hG,hcn'⟩:=Yb hcn hkp (Ext.refl _) (hcn.w0.trans (.of_kp hkp)) (fun g hg=> .inl hg)
 refine hK _ _ ⟨X.W0,hG,μ,?_⟩
 refine Ck hcn' (d:=dst) hd (v:= .slice (some ⟨w.heap.size,0,none⟩) 1 1) (av:= .one (.q 1 1 1)) ?_
 have hown:Own (w.alloc (.cells #[.int .u32 1] 31)) 31 w.heap.size [1]:=heap_alloc_new w _
 have hrd:=hown.rd (fun x hx=>by rw [List.mem_singleton.1 hx];decide) 1 (by decide) 1 (by decide) (by unfold maxLen;omega)
 have e1:toL (1:Rat).num.natAbs= [1]:=by decide+kernel
 show Rd _ _ (toL (1:Rat).num.natAbs)∧(toL (1:Rat).num.natAbs).length≤1
 rw [e1]
 exact ⟨hrd,Yu _⟩
section
variable {X:Ctx} {ops l:List Oper} {σ:St} {K:List Eff→St→Prop} {dst:Option Tmp} {ty:TypeId} {pos:String} {af:Array Edge} {gd:Option (Nat×Bool)}
theorem PW (hg:gOk ops σ.s gd:=by first|exact trivial|exact rfl) (hd:dB X.n dst=true:=by exact rfl)
  (hl:Ah Tryz.prog X ops l (σ.app dst ⟨.one (.q 1 1 1),[],[],[]⟩) (fun es σ'=>K (⟨.one (.q 1 1 1),[],[],[]⟩::es) σ')):Ah Tryz.prog X ops (⟨dst,.buildSlice 32 1 #[(0,.const (.int .u32 1))],ty,pos,af,gd⟩::l) σ K:=
 .of (fun _ _ hl=>Run.step hg (Rm (Dd hd)) (fun p hp=>by cases hp) Ct hl) hl
end
def EZ (j:Nat):Option Rat→List D
 | none=> [.v (.bool false),.v (.slice none 0 0),.q 1 1 1]
 | some x=>nmD j x
instance (j:Nat):Elm 3 (EZ j):=⟨fun a=>by cases a<;>rfl,fun a=>by cases a<;>rfl⟩
abbrev XP:AV:= .agg [.v (.bool false),.v (.slice none 0 0),.q 1 1 1]
abbrev JF (j:Nat) (p:List (Option Rat)):List D:= [.lst 3 p.length (p.flatMap (EZ j))]
instance (j:Nat):Elm 1 (JF j):=⟨fun _=>rfl,fun _=>rfl⟩
abbrev VT (j u v:Nat) (l:List (Option Rat)):AV:= .agg [.v (.int .i64 (u:Nat)),.v (.int .i64 (v:Nat)),lsG 3 (EZ j) l]
theorem PM:Ctr Tryz.prog Amb 162 [XP] (.one (.v (.bool false))):=QL fun W0 μ sz w u ht hu=>by
 obtain ⟨l,rfl,hl⟩:=hu
 match l,hl with
 | [a,b,c],hl=>
   have h0:a= .bool false:=hl.2 0 _ _ rfl rfl
   have h1:b= .slice none 0 0:=hl.2 1 _ _ rfl rfl
   have h2:Rd w c (toL (1:Rat).num.natAbs)∧_:=hl.2 2 _ _ rfl rfl
   subst h0 h1
   have hm:M w (.slice none 0 0) 0:=by show Rd w _ (toL 0);rw [Az];exact O8 w
   exact (U8 (p:=false) hm h2.1).mono fun e w' ⟨h3,h4⟩=>⟨_,h3,h4,rfl⟩
 | [],hl=>have:=hl.1;simp at this
 | [_],hl=>have:=hl.1;simp at this
 | [_,_],hl=>have:=hl.1;simp at this
 | _::_::_::_::_,hl=>have:=hl.1;simp at this
section
variable {j u v:Nat} {l:List (Option Rat)}
theorem Rw:Ctr Tryz.prog Amb 161 [XP] (.one (.v (.bool true))):=by
 have V1:=PM
 refine Aj Tryz.func161 rfl rfl rfl rfl rfl rfl ?_
 intro W0 base D μ0 hA hD
 repeat (first|refine Ag ?_|refine Ac ?_|refine Aa rfl ?_|refine Ab rfl ?_|refine Am ?_|refine An ?_|refine Ad ?_|refine Ae ?_)
 refine Ap (And.intro (Or.inr rfl) ?_)
 exact AA
theorem Tq {p:List (Option Rat)} (hp:p[(0:Int).toNat]?=some none) (hl:p.length≤1000):Ctr Tryz.prog Amb 211 [.one (lsG 3 (EZ j) p),.one (.fn 161 [])] (Ay (0:Nat)):=by
 have V1:=Rw
 have h0:0<p.length:=by
  cases p with
  | nil=>cases hp
  | cons a b=>exact Nat.succ_pos _
 have bi:=AS (k:= .i64) (decide_eq_true (show (0:Int)<((p.length:Nat):Int) by omega))
 refine Aj Tryz.func211 rfl rfl rfl rfl rfl rfl ?_
 intro W0 base D μ0 hA hD
 repeat (first|refine Ag ?_|refine Ac ?_|refine Aa rfl ?_|refine Ab rfl ?_|refine Am ?_|refine An ?_|refine Ad ?_|refine Ae ?_)
 refine AW (fun m σ=>m=0∧Wk ⟨W0,base,D,19,[],μ0⟩ σ [(0,.one (lsG 3 (EZ j) p)),(1,.one (.fn 161 [])),(7,Ay (p.length:Nat)),(8,Ay 0)] []) (n:=0) ⟨rfl,?_⟩ ?_
 ·exact BF
 intro m σ hI
 obtain ⟨hm,hw⟩:=hI
 refine A8 hw ?_
 repeat (first
  | refine Ag ?_|refine Ac ?_|refine Aa rfl ?_|refine Ab rfl ?_
  | ((first|refine AQ (by kernel_rfl) ?_|refine BO (by kernel_rfl) (by kernel_rfl) (by kernel_rfl) ?_)
     repeat (first
      | refine AK (hl:=?_)
      | refine As (hl:=?_)
      | refine BB (hl:=?_)
      | refine BN (hl:=?_)
      | refine AT (hl:=?_)
      | refine B7 (hl:=?_)
      | refine B6 (hl:=?_)
      | refine B8 (hl:=?_)
      | refine Dp (hl:=?_)
      | refine AY (hl:=?_)
      | refine FO (i:=0) hp (by omega) (hf:=Elm.len) (hl:=?_)
      | refine AD hA (hc:=V1) (hl:=?_))
     apply Ah.nil;try refine And.intro (by kernel_rfl) ?_)
  | refine Ad ?_|refine Ae ?_)
 refine Ap (And.intro (Or.inr rfl) ?_)
 exact AA
theorem M8 {p:List (Option Rat)} (hp:p[(0:Int).toNat]?=some none) (hl:p.length≤1000):Ctr Tryz.prog Amb 160 [.one (lsG 3 (EZ j) p),.one (.fn 161 [])] (.one (.v (.bool true))):=by
 have I1:=Tq (j:=j) hp hl
 have bg:=D7 (k:= .i64) (decide_eq_true (show (((0:Nat):Int))≥0 by omega))
 refine Aj Tryz.func160 rfl rfl rfl rfl rfl rfl ?_
 intro W0 base D μ0 hA hD
 repeat (first|refine Ag ?_|refine Ac ?_|refine Aa rfl ?_|refine Ab rfl ?_|refine Am ?_|refine An ?_|refine Ad ?_|refine Ae ?_)
 refine Ap (And.intro (Or.inr rfl) ?_)
 exact AA
theorem Tg {p:List (Option Rat)} (hp:p[(0:Int).toNat]?=some none) (hl:p.length≤41):Ctr Tryz.prog Amb 86 [.one (lsG 3 (EZ j) p)] (.one (.v (.bool false))):=by
 have h0:0<p.length:=by
  cases p with
  | nil=>cases hp
  | cons a b=>exact Nat.succ_pos _
 have P1:Ctr Tryz.prog Amb 159 [.one (lsG 3 (EZ j) p)] (.one (.v (.bool true))):=by
  have b1:=WM (k:= .i64) (decide_eq_true (show (p.length:Int)>0 by omega))
  have b2:=D4 (k:= .i64) (decide_eq_true (show (p.length:Int)≤41 by omega))
  refine Aj Tryz.func159 rfl rfl rfl rfl rfl rfl ?_
  intro W0 base D μ0 hA hD
  repeat (first|refine Ag ?_|refine Ac ?_|refine Aa rfl ?_|refine Ab rfl ?_|refine Am ?_|refine An ?_|refine Ad ?_|refine Ae ?_)
  refine Ap (And.intro (Or.inr rfl) ?_)
  exact AA
 have C1:=M8 (j:=j) hp (by omega)
 refine Aj Tryz.func86 rfl rfl rfl rfl rfl rfl ?_
 intro W0 base D μ0 hA hD
 repeat (first|refine Ag ?_|refine Ac ?_|refine Aa rfl ?_|refine Ab rfl ?_|refine Am ?_|refine An ?_|refine Ad ?_|refine Ae ?_)
 refine Ap (And.intro (Or.inr rfl) ?_)
 exact AA
theorem OI {p:List (Option Rat)} (hp:p[(0:Int).toNat]?=some none) (hl:p.length≤41):Ctr Tryz.prog Amb 85 [.one (lsG 3 (EZ j) p)] (.one (.v (.bool true))):=by
 have V1:=Tg (j:=j) hp hl
 refine Aj Tryz.func85 rfl rfl rfl rfl rfl rfl ?_
 intro W0 base D μ0 hA hD
 repeat (first|refine Ag ?_|refine Ac ?_|refine Aa rfl ?_|refine Ab rfl ?_|refine Am ?_|refine An ?_|refine Ad ?_|refine Ae ?_)
 refine Ap (And.intro (Or.inr rfl) ?_)
 exact AA
theorem Rx {ls:List (List (Option Rat))} {p:List (Option Rat)} (hls:ls[(0:Int).toNat]?=some p) (hll:ls.length≤1000) (hp:p[(0:Int).toNat]?=some none) (hl:p.length≤41):
  Ctr Tryz.prog Amb 158 [.one (lsG 1 (JF j) ls),.one (.fn 85 [])] (Ay (0:Nat)):=by
 have V1:=OI (j:=j) hp hl
 have h0:0<ls.length:=by
  cases ls with
  | nil=>cases hls
  | cons a b=>exact Nat.succ_pos _
 have bi:=AS (k:= .i64) (decide_eq_true (show (0:Int)<((ls.length:Nat):Int) by omega))
 refine Aj Tryz.func158 rfl rfl rfl rfl rfl rfl ?_
 intro W0 base D μ0 hA hD
 repeat (first|refine Ag ?_|refine Ac ?_|refine Aa rfl ?_|refine Ab rfl ?_|refine Am ?_|refine An ?_|refine Ad ?_|refine Ae ?_)
 refine AW (fun m σ=>m=0∧Wk ⟨W0,base,D,19,[],μ0⟩ σ [(0,.one (lsG 1 (JF j) ls)),(1,.one (.fn 85 [])),(7,Ay (ls.length:Nat)),(8,Ay 0)] []) (n:=0) ⟨rfl,?_⟩ ?_
 ·exact BF
 intro m σ hI
 obtain ⟨hm,hw⟩:=hI
 refine A8 hw ?_
 repeat (first|refine Ag ?_|refine Ac ?_|refine Aa rfl ?_|refine Ab rfl ?_|refine Am ?_|refine An ?_|refine Ad ?_|refine Ae ?_)
 refine Ap (And.intro (Or.inr rfl) ?_)
 exact AA
theorem LC {ls:List (List (Option Rat))} {p:List (Option Rat)} (hls:ls[(0:Int).toNat]?=some p) (hll:ls.length≤1000) (hp:p[(0:Int).toNat]?=some none) (hl:p.length≤41):
  Ctr Tryz.prog Amb 83 [.one (lsG 1 (JF j) ls),.one (.fn 85 [])] (.one (.v (.bool true))):=by
 have I1:=Rx (j:=j) hls hll hp hl
 have bg:=D7 (k:= .i64) (decide_eq_true (show (((0:Nat):Int))≥0 by omega))
 refine Aj Tryz.func83 rfl rfl rfl rfl rfl rfl ?_
 intro W0 base D μ0 hA hD
 repeat (first|refine Ag ?_|refine Ac ?_|refine Aa rfl ?_|refine Ab rfl ?_|refine Am ?_|refine An ?_|refine Ad ?_|refine Ae ?_)
 refine Ap (And.intro (Or.inr rfl) ?_)
 exact AA
theorem Hd (hu:u≤40) (hv:v≤40) (hl:l.length=(u+1)*(v+1)):Ctr Tryz.prog Amb 82 [VT j u v l] (.one (.v (.bool true))):=by
 have hs:=Dr hu hv
 have R1:=DI hu
 have R2:=DI hv
 have a1:=AR (a:=u) (by omega)
 have a2:=AR (a:=v) (by omega)
 have m1:=Db (a:=u+1) (b:=v+1) (by omega)
 have q1:=FS (k:= .i64) (decide_eq_true (show ((l.length:Nat):Int)=(((u+1)*(v+1):Nat):Int) by rw [hl]))
 refine Aj Tryz.func82 rfl rfl rfl rfl rfl rfl ?_
 intro W0 base D μ0 hA hD
 repeat (first|refine Ag ?_|refine Ac ?_|refine Aa rfl ?_|refine Ab rfl ?_|refine Am ?_|refine An ?_|refine Ad ?_|refine Ae ?_)
 refine Ap (And.intro (Or.inr rfl) ?_)
 exact AA
def Ni (v:Nat) (l:List (Option Rat)) (i:Nat):List (Option Rat):=(l.take ((i+1)*(v+1))).drop (i*(v+1))
def GI (u v:Nat) (l:List (Option Rat)):List (List (Option Rat)):=tab (u+1) (Ni v l)
theorem RJ {g h:Nat→List (Option Rat)} {n i:Nat} (hi:i<n):(tab n fun q=>if q<i then g q else h q).set i (g i)=tab n fun q=>if q<i+1 then g q else h q:=Dm hi (if_pos (by omega)) fun q hq hne=>by
 by_cases h:q<i
 ·rw [if_pos h,if_pos (by omega)]
 ·rw [if_neg h,if_neg (by omega)]
theorem Af.optNil:Af (.v (.slice none 0 0)) (.ls 3 0 []):=fun W0 μ sz w x hx=>Af.ratsNil (j:=0) W0 μ sz w x hx
theorem VA (hu:u≤40) (hv:v≤40) (hl:l.length=(u+1)*(v+1)):
  C7 Tryz.prog Amb 84 [VT j u v l] [] [(15,Ao (JF j) (GI u v l))] (.one (.gl 15 (u+1) 1)):=by
 have hs:=Dr hu hv
 have P1:=Hd (j:=j) hu hv hl
 have hne:0<u+1:=by omega
 have hrl:(GI u v l).length=u+1:=BC
 have hne':(!(Ao (JF j) (GI u v l)).isEmpty)=true:=by
  have:=Cr (f:=JF j) inferInstance (by decide) (show 0<(GI u v l).length by omega)
  cases hb:Ao (JF j) (GI u v l) with
  | nil=>rw [hb] at this;cases this
  | cons a b=>rfl
 have a1:=AR (a:=u) (by omega)
 have a2:=AR (a:=v) (by omega)
 refine CV Tryz.func84 rfl rfl rfl rfl (by
  simp only [List.all_cons,List.all_nil,Bool.and_true,Bool.and_eq_true]
  exact ⟨by simp [inA,inC],Cs _ _,hne'⟩) (by simp [inA,inC]) (by simp) (by simp) ?_
 intro W0 base D μ0 hA hD
 repeat (first|refine Ag ?_|refine Ac ?_|refine Aa rfl ?_|refine Ab rfl ?_|refine Am ?_|refine An ?_|refine Ad ?_|refine Ae ?_)
 refine AW (fun m σ=> ∃(i:Nat) (cur:List (List (Option Rat))),m=u+1-i∧i≤u+1∧cur=tab (u+1) (fun q=>if q<i then Ni v l q else [])∧Wk ⟨W0,base,D,36,[],μ0⟩ σ [(1,.one (.ptr 1 0)),(3,Ay (v+1:Nat)),(4,.one (.gl 15 (u+1) 1)),(17,Ay (u+1:Nat)),(18,Ay (i:Nat))] [(1,[.v (.int .i64 (u:Nat)),.v (.int .i64 (v:Nat)),lsG 3 (EZ j) l]),(15,Ao (JF j) cur)]) (n:=u+1) ⟨0,List.replicate (u+1) [],by omega,by omega,?_,?_⟩ ?_
 ·rw [DU];exact AL fun q hq=>(if_neg (by omega)).symm
 ·refine Cu ?_ ?_ rfl
  ·repeat (first|exact Ak|refine List.forall_mem_cons.2 ⟨Ent.of_eq rfl,?_⟩)
  ·exact List.forall_mem_cons.2 ⟨AG rfl (EntL.of_eq rfl) rfl,List.forall_mem_cons.2 ⟨Fu (zc:= [.slice none 0 0]) (a:= []) inferInstance (.cons Af.optNil .nil),Ak⟩⟩
 clear P1 a1 a2
 intro m σ hI
 obtain ⟨i,cur,hm,hi0,hcur,hw⟩:=hI
 refine A8 hw ?_
 clear hw
 have hcl:cur.length=u+1:=by rw [hcur];exact BC
 by_cases hi:i<u+1
 ·have bi:=AS (k:= .i64) (decide_eq_true (show ((i:Nat):Int)<((u+1:Nat):Int) by omega))
  have hin:=AR (a:=i) (by omega)
  have h1:=Ia (u:=u) (v:=v) (i:=i) (by omega)
  have h2:(i+1)*(v+1)=i*(v+1)+(v+1):=Nat.succ_mul _ _
  have m1:=Db (a:=i) (b:=v+1) (by omega)
  have m2:=Db (a:=i+1) (b:=v+1) (by omega)
  have hp1:i*(v+1)≤(i+1)*(v+1):=by omega
  have hp2:(i+1)*(v+1)≤l.length:=by omega
  have hlt:(0:Int)≤((i:Nat):Int)∧((i:Nat):Int)<((u+1:Nat):Int):=by omega
  have hst:((i:Nat):Int).toNat*1+1≤(Ao (JF j) cur).length:=by rw [Av (n:=1) inferInstance,hcl,Int.toNat_natCast];omega
  repeat (first
   | refine Ag ?_|refine Ac ?_|refine Aa rfl ?_|refine Ab rfl ?_
   | ((first|refine AQ (by kernel_rfl) ?_|refine BO (by kernel_rfl) (by kernel_rfl) (by kernel_rfl) ?_)
      repeat (first
       | refine Mx (k:=15) hst (hl:=?_)
       | refine AK (hl:=?_)
       | refine As (hl:=?_)
       | refine BB (hl:=?_)
       | refine AB (hl:=?_)
       | refine AO (hl:=?_)
       | refine Fb (hl:=?_)
       | refine BN (hl:=?_)
       | refine AT (hl:=?_)
       | refine Dx (hl:=?_)
       | refine B7 (hl:=?_)
       | refine B6 (hl:=?_)
       | refine B8 (hl:=?_)
       | refine Dp (hl:=?_)
       | refine AY (hl:=?_)
       | refine BI (hl:=?_)
       | refine H7 (la:=l) (f:=EZ j) (a:=i*(v+1)) (b:=(i+1)*(v+1)) hp1 hp2 (.some rfl rfl) (.some rfl rfl) (hf:=Elm.len) (hl:=?_)
       | refine Lo hlt (hl:=?_))
      apply Ah.nil;try refine And.intro (by kernel_rfl) ?_)
   | refine Ad ?_|refine Ae ?_)
  refine ⟨m-1,by omega,i+1,cur.set i (Ni v l i),by omega,by omega,?_,?_⟩
  ·rw [hcur];exact RJ hi
  ·exact BF
 ·obtain rfl:i=u+1:=by omega
  have bi:=AS (k:= .i64) (decide_eq_false (show ¬((u+1:Nat):Int)<((u+1:Nat):Int) by omega))
  have he:cur=GI u v l:=by rw [hcur];exact AL fun q hq=>if_pos hq
  subst he
  repeat (first|refine Ag ?_|refine Ac ?_|refine Aa rfl ?_|refine Ab rfl ?_|refine Am ?_|refine An ?_|refine Ad ?_|refine Ae ?_)
  refine Ap (And.intro (Or.inr rfl) (IG (ResIs.tmp rfl) (Ent.of_eq rfl) Ak ?_))
  exact List.forall_mem_cons.2 ⟨.inl (AN inferInstance),Ak⟩
theorem Ru (hu:u≤40) (hv:v≤40) (hl:l.length=(u+1)*(v+1)) (h0:l[0]?=some none):Ctr Tryz.prog Amb 15 [VT j u v l] (.one (.v (.bool false))):=by
 have P1:=Hd (j:=j) hu hv hl
 have hrl:(GI u v l).length=u+1:=BC
 have R0:=VA (j:=j) hu hv hl
 rw [←hrl] at R0
 have R1:Ctr Tryz.prog Amb 84 [VT j u v l] (.one (lsG 1 (JF j) (GI u v l))):=R0.freeze inferInstance rfl (fun p hp=>by cases hp) (.inl rfl) rfl
 have hls:(GI u v l)[(0:Int).toNat]?=some (Ni v l 0):=EJ (show 0<u+1 by omega)
 have hp:(Ni v l 0)[(0:Int).toNat]?=some none:=by
  unfold Ni
  rw [Nat.zero_mul,List.drop_zero,List.getElem?_take,if_pos (by show (0:Nat)<(0+1)*(v+1);omega)]
  exact h0
 have hpl:(Ni v l 0).length≤41:=by
  unfold Ni
  rw [List.length_drop,List.length_take]
  omega
 have C1:=LC (j:=j) hls (by omega) hp hpl
 generalize GI u v l=RS at*
 clear R0 hls
 refine Aj Tryz.func15 rfl rfl rfl rfl rfl rfl ?_
 intro W0 base D μ0 hA hD
 repeat (first|refine Ag ?_|refine Ac ?_|refine Aa rfl ?_|refine Ab rfl ?_|refine Am ?_|refine An ?_|refine Ad ?_|refine Ae ?_)
 refine Ap (And.intro (Or.inr rfl) ?_)
 exact AA
end
theorem Tw {w:World} {v:Value} {x:Rat} (h:Ax w v x) {j:Nat} (hs:RSz j x) (hj:j≤1000000000):
  Calls Tryz.prog 163 #[v] w fun e w'=>e= .returned (.bool true)∧Kp w w':=by
 obtain ⟨num,den,rfl,hn,hd⟩:=h
 by_cases h0:x.num=0
 ·rw [J0 h0] at hd
  rw [h0,show (0:Int).natAbs=0 from rfl] at hn
  rw [h0]
  exact Tv hn hd rfl
 ·have e:(if AX x=0 then 1 else AX x)=x.den:=by
   unfold AX
   by_cases h:x.den=1
   ·rw [if_pos h,if_pos rfl,h]
   ·rw [if_neg h,if_neg x.den_nz]
  have:=Tx (p:=decide (x.num<0)) hn hd (by omega) (N7 x) (j:=j) hs.1 (by rw [e];exact hs.2) (by omega)
  rw [e,show Nat.gcd x.num.natAbs x.den=1 from x.reduced] at this
  exact this
theorem TI {j:Nat} {x:Rat} (hj:j≤100000000):Ctr Tryz.prog Amb 163 [nm j x] (.one (.v (.bool true))):=
 PH fun w u ht hu hs=>Tw hu hs (by omega)
theorem SV {j:Nat} {l:List Rat} (hj:j≤100000000) (hl:l.length≤1000000):Ctr Tryz.prog Amb 87 [.one (AH j l)] (.one (.v (.bool true))):=by
 refine Aj Tryz.func87 rfl rfl rfl rfl rfl rfl ?_
 intro W0 base D μ0 hA hD
 repeat (first|refine Ag ?_|refine Ac ?_|refine Aa rfl ?_|refine Ab rfl ?_|refine Am ?_|refine An ?_|refine Ad ?_|refine Ae ?_)
 refine AW (fun m σ=> ∃i:Nat,m=l.length-i∧i≤l.length∧Wk ⟨W0,base,D,16,[],μ0⟩ σ [(0,.one (AH j l)),(3,Ay (i:Nat))] []) (n:=l.length) ⟨0,by omega,by omega,?_⟩ ?_
 ·exact BF
 intro m σ hI
 obtain ⟨i,hm,hi0,hw⟩:=hI
 refine A8 hw ?_
 clear hw
 by_cases hi:i<l.length
 ·obtain ⟨x,hx,hx'⟩:=Ge hi
  have bi:=AS (k:= .i64) (decide_eq_true (show (i:Int)<(l.length:Int) by omega))
  have hin:=AR (a:=i) (by omega)
  have V1:=TI (x:=x) hj
  repeat (first|refine Ag ?_|refine Ac ?_|refine Aa rfl ?_|refine Ab rfl ?_|refine Am ?_|refine An ?_|refine Ad ?_|refine Ae ?_)
  refine ⟨m-1,by omega,i+1,by omega,by omega,?_⟩
  exact BF
 ·have bi:=AS (k:= .i64) (decide_eq_false (show ¬(i:Int)<(l.length:Int) by omega))
  repeat (first|refine Ag ?_|refine Ac ?_|refine Aa rfl ?_|refine Ab rfl ?_|refine Am ?_|refine An ?_|refine Ad ?_|refine Ae ?_)
  refine Ap (And.intro (Or.inr rfl) ?_)
  exact AA
abbrev VS (j:Nat) (u v:Int) (l:List Rat):AV:= .agg [.v (.int .i64 u),.v (.int .i64 v),AH j l]
theorem Jr {n:Int} (h:n<0∨40<n):Ctr Tryz.prog Amb 157 [Ay n] (.one (.v (.bool false))):=by
 by_cases h0:n<0
 ·have b1:=D7 (k:= .i64) (decide_eq_false (show ¬n≥0 by omega))
  refine Aj Tryz.func157 rfl rfl rfl rfl rfl rfl ?_
  intro W0 base D μ0 hA hD
  repeat (first|refine Ag ?_|refine Ac ?_|refine Aa rfl ?_|refine Ab rfl ?_|refine Am ?_|refine An ?_|refine Ad ?_|refine Ae ?_)
  refine Ap (And.intro (Or.inr rfl) ?_)
  exact AA
 ·have b1:=D7 (k:= .i64) (decide_eq_true (show n≥0 by omega))
  have b2:=D4 (k:= .i64) (decide_eq_false (show ¬n≤40 by omega))
  refine Aj Tryz.func157 rfl rfl rfl rfl rfl rfl ?_
  intro W0 base D μ0 hA hD
  repeat (first|refine Ag ?_|refine Ac ?_|refine Aa rfl ?_|refine Ab rfl ?_|refine Am ?_|refine An ?_|refine Ad ?_|refine Ae ?_)
  refine Ap (And.intro (Or.inr rfl) ?_)
  exact AA
section
variable {j:Nat} {l:List Rat}
theorem H9 {u v:Int} (P1:Ctr Tryz.prog Amb 82 [VS j u v l] (.one (.v (.bool false)))):Ctr Tryz.prog Amb 15 [VS j u v l] (.one (.v (.bool false))):=by
 refine Aj Tryz.func15 rfl rfl rfl rfl rfl rfl ?_
 intro W0 base D μ0 hA hD
 repeat (first|refine Ag ?_|refine Ac ?_|refine Aa rfl ?_|refine Ab rfl ?_|refine Am ?_|refine An ?_|refine Ad ?_|refine Ae ?_)
 refine Ap (And.intro (Or.inr rfl) ?_)
 exact AA
theorem Wl {u v:Nat} (hu:u≤40) (hv:v≤40) (hl:l.length≤1000) (hj:j≤16): ∃b,Ctr Tryz.prog Amb 15 [net j u v l] (.one (.v (.bool b)))∧Ctr Tryz.prog Amb 16 [net j u v l] (.one (.v (.bool b))):=by
 have hs:=Dr hu hv
 have R1:=DI hu
 have R2:=DI hv
 have a1:=AR (a:=u) (by omega)
 have a2:=AR (a:=v) (by omega)
 have m1:=Db (a:=u+1) (b:=v+1) (by omega)
 have g1:=D7 (k:= .i64) (decide_eq_true (show ((u:Nat):Int)≥0 by omega))
 have g2:=D4 (k:= .i64) (decide_eq_true (show ((u:Nat):Int)≤40 by omega))
 have g3:=D7 (k:= .i64) (decide_eq_true (show ((v:Nat):Int)≥0 by omega))
 have g4:=D4 (k:= .i64) (decide_eq_true (show ((v:Nat):Int)≤40 by omega))
 have V1:=SV (j:=j) (l:=l) (by omega) (by omega)
 by_cases h:l.length=(u+1)*(v+1)
 ·refine ⟨true,Jp hu hv h hj,?_⟩
  have q1:=FS (k:= .i64) (decide_eq_true (show ((l.length:Nat):Int)=(((u+1)*(v+1):Nat):Int) by rw [h]))
  refine Aj Tryz.func16 rfl rfl rfl rfl rfl rfl ?_
  intro W0 base D μ0 hA hD
  repeat (first|refine Ag ?_|refine Ac ?_|refine Aa rfl ?_|refine Ab rfl ?_|refine Am ?_|refine An ?_|refine Ad ?_|refine Ae ?_)
  refine Ap (And.intro (Or.inr rfl) ?_)
  exact AA
 ·have q1:=FS (k:= .i64) (decide_eq_false (show ¬((l.length:Nat):Int)=(((u+1)*(v+1):Nat):Int) from fun h0=>h (by exact_mod_cast h0)))
  refine ⟨false,H9 ?_,?_⟩
  ·refine Aj Tryz.func82 rfl rfl rfl rfl rfl rfl ?_
   intro W0 base D μ0 hA hD
   repeat (first|refine Ag ?_|refine Ac ?_|refine Aa rfl ?_|refine Ab rfl ?_|refine Am ?_|refine An ?_|refine Ad ?_|refine Ae ?_)
   refine Ap (And.intro (Or.inr rfl) ?_)
   exact AA
  ·clear V1
   refine Aj Tryz.func16 rfl rfl rfl rfl rfl rfl ?_
   intro W0 base D μ0 hA hD
   repeat (first|refine Ag ?_|refine Ac ?_|refine Aa rfl ?_|refine Ab rfl ?_|refine Am ?_|refine An ?_|refine Ad ?_|refine Ae ?_)
   refine Ap (And.intro (Or.inr rfl) ?_)
   exact AA
theorem PN {u v:Int} (hl:l.length≤1000) (hj:j≤16): ∃b,Ctr Tryz.prog Amb 15 [VS j u v l] (.one (.v (.bool b)))∧Ctr Tryz.prog Amb 16 [VS j u v l] (.one (.v (.bool b))):=by
 by_cases hu:u<0∨40<u
 ·have R1:=Jr hu
  refine ⟨false,H9 ?_,?_⟩
  ·refine Aj Tryz.func82 rfl rfl rfl rfl rfl rfl ?_
   intro W0 base D μ0 hA hD
   repeat (first|refine Ag ?_|refine Ac ?_|refine Aa rfl ?_|refine Ab rfl ?_|refine Am ?_|refine An ?_|refine Ad ?_|refine Ae ?_)
   refine Ap (And.intro (Or.inr rfl) ?_)
   exact AA
  ·by_cases h0:u<0
   ·have g1:=D7 (k:= .i64) (decide_eq_false (show ¬u≥0 by omega))
    refine Aj Tryz.func16 rfl rfl rfl rfl rfl rfl ?_
    intro W0 base D μ0 hA hD
    repeat (first|refine Ag ?_|refine Ac ?_|refine Aa rfl ?_|refine Ab rfl ?_|refine Am ?_|refine An ?_|refine Ad ?_|refine Ae ?_)
    refine Ap (And.intro (Or.inr rfl) ?_)
    exact AA
   ·have g1:=D7 (k:= .i64) (decide_eq_true (show u≥0 by omega))
    have g2:=D4 (k:= .i64) (decide_eq_false (show ¬u≤40 by omega))
    refine Aj Tryz.func16 rfl rfl rfl rfl rfl rfl ?_
    intro W0 base D μ0 hA hD
    repeat (first|refine Ag ?_|refine Ac ?_|refine Aa rfl ?_|refine Ab rfl ?_|refine Am ?_|refine An ?_|refine Ad ?_|refine Ae ?_)
    refine Ap (And.intro (Or.inr rfl) ?_)
    exact AA
 obtain ⟨U,rfl⟩: ∃U:Nat,u=(U:Int):=⟨u.toNat,by omega⟩
 have g1:=D7 (k:= .i64) (decide_eq_true (show ((U:Nat):Int)≥0 by omega))
 have g2:=D4 (k:= .i64) (decide_eq_true (show ((U:Nat):Int)≤40 by omega))
 by_cases hv:v<0∨40<v
 ·have R1:=DI (n:=U) (by omega)
  have R2:=Jr hv
  refine ⟨false,H9 ?_,?_⟩
  ·refine Aj Tryz.func82 rfl rfl rfl rfl rfl rfl ?_
   intro W0 base D μ0 hA hD
   repeat (first|refine Ag ?_|refine Ac ?_|refine Aa rfl ?_|refine Ab rfl ?_|refine Am ?_|refine An ?_|refine Ad ?_|refine Ae ?_)
   refine Ap (And.intro (Or.inr rfl) ?_)
   exact AA
  ·by_cases h0:v<0
   ·have g3:=D7 (k:= .i64) (decide_eq_false (show ¬v≥0 by omega))
    refine Aj Tryz.func16 rfl rfl rfl rfl rfl rfl ?_
    intro W0 base D μ0 hA hD
    repeat (first|refine Ag ?_|refine Ac ?_|refine Aa rfl ?_|refine Ab rfl ?_|refine Am ?_|refine An ?_|refine Ad ?_|refine Ae ?_)
    refine Ap (And.intro (Or.inr rfl) ?_)
    exact AA
   ·have g3:=D7 (k:= .i64) (decide_eq_true (show v≥0 by omega))
    have g4:=D4 (k:= .i64) (decide_eq_false (show ¬v≤40 by omega))
    refine Aj Tryz.func16 rfl rfl rfl rfl rfl rfl ?_
    intro W0 base D μ0 hA hD
    repeat (first|refine Ag ?_|refine Ac ?_|refine Aa rfl ?_|refine Ab rfl ?_|refine Am ?_|refine An ?_|refine Ad ?_|refine Ae ?_)
    refine Ap (And.intro (Or.inr rfl) ?_)
    exact AA
 obtain ⟨V,rfl⟩: ∃V:Nat,v=(V:Int):=⟨v.toNat,by omega⟩
 exact Wl (by omega) (by omega) hl hj
end
theorem De.netG {α:Type} {f:α→List D} (hf:Elm 3 f) {σ:St} {k kb len:Nat} {ks:List Nat} {l:List α} {a b:Int} (hz:σ.sz k=(Ao f l).length:=by exact rfl) (hm:Kj (σ.m k) (Ao f l):=by first|exact DA|exact Da) (hz2:σ.sz kb=3:=by exact rfl)
  (h0:σ.m kb 0= .v (.int .i64 a):=by exact rfl) (h1:σ.m kb 1= .v (.int .i64 b):=by exact rfl) (h2:σ.m kb 2= .gl k len 3:=by exact rfl) (hlen:len=l.length:=by first|rfl|omega):De σ k ks (kb,[.v (.int .i64 a),.v (.int .i64 b),lsG 3 f l]):=by
 subst hlen
 have h:=GW (f:=f) (l:=l) hf hz hm
 have hn: ∀n:Int,nl (.v (.int .i64 n)):=fun n=>⟨fun n e=>(by cases e),rfl⟩
 refine ⟨⟨hz2,fun i c hc=>?_⟩,by simp [inC]⟩
 match i,hc with
 | 0,hc=>
   cases hc
   refine ⟨?_,hn a⟩
   show FzC σ k (σ.m kb 0) _
   rw [h0]
   exact .ent Af.same
 | 1,hc=>
   cases hc
   refine ⟨?_,hn b⟩
   show FzC σ k (σ.m kb 1) _
   rw [h1]
   exact .ent Af.same
 | 2,hc=>
   cases hc
   refine ⟨?_,trivial⟩
   show FzC σ k (σ.m kb 2) _
   rw [h2]
   cases h with
   | one h=>exact h
   | ent h=>exact .ent fun W0 μ sz w x hx=>h W0 μ sz w x hx
set_option maxHeartbeats 4000000
section
variable {P:Program} {X:Ctx} {ops l:List Oper} {σ:St} {K:List Eff→St→Prop} {s:Nat→AV} {z:Nat→Nat}
variable {dst:Option Tmp} {ty:TypeId} {pos:String} {af:Array Edge} {gd:Option (Nat×Bool)}
theorem M5 {t e:TypeId} {parts:Array (Nat×Operand)} {agg:Bool} {n bytes:Nat} {zv:Value} [S:Sle P t e agg n bytes zv] {len id:Nat} {ps:List (Nat×AV)} {cs:List C} (hd: ∀t,dst=some t→t<X.n) (hps:parts.toList.map (fun p=>(p.1,evC s p.2))=ps)
  (hnl:(ps.all fun p=>(At p.2).all nlB)=true) (hf:Dk (fun i=>some (i*n,n)) (BU len zv.cells.toList) ps=some cs) (hnl2:cs.all nlB=true) (hb:Nat.ble (len*n) 16777216=true) (hp:Nat.blt 0 len=true):
  Sim P X ⟨dst,.buildSlice t len parts,ty,pos,af,gd⟩ s z ⟨.one (.sx id 0 len len n),[],[],[(id,cs)]⟩:=by
 refine Sim.of0 fun W=>?_
 replace hd: ∀t,dst=some t→t<(X.at W).n:=hd
 generalize X.at W=X at hd⊢
 intro σ hs hsz _ hal a w hcn K Q hK
 obtain ⟨μ,hcn⟩:=hcn
 obtain ⟨hid,hne⟩:=hal.1 _ List.mem_cons_self
 obtain ⟨inf,hi,hz,hsize,hby⟩:=S.info
 have hb:=Nat.le_of_ble_eq_true hb
 have hp:0<len:=by simpa using hp
 have hzs:=S.size
 have hpos:=S.pos
 obtain ⟨ol,rfl⟩: ∃ol:List (Nat×Operand),parts=ol.toArray:=⟨parts.toList,by simp⟩
 have hρ': ∀p∈ol,cv X.W0 μ σ.sz w (a.eval p.2) (evC s p.2):=fun p hpm=>by
  have h1:=hcn.ev p.2
  exact C5 (o:=⟨dst,.buildSlice t len ol.toArray,ty,pos,af,gd⟩) hs (by simp [Op.operands];exact ⟨p.1,hpm⟩) h1
 simp only at hps
 subst hps
 have hz0:B5 (cc X.W0 μ σ.sz w) (madeCells zv.cells (len*n)).toList (BU len zv.cells.toList):=by
  have:=FU (W0:=X.W0) (μ:=μ) (sz:=σ.sz) (w:=w) (z:=zv.cells) (by omega) len
  rw [hzs] at this
  exact this
 obtain ⟨a',h1,h2⟩:=I2 (W0:=X.W0) (μ:=μ) (sz:=σ.sz) (w:=w) (vs:=ol.map fun p=>(p.1,a.eval p.2)) (by simp) (fun i p q hp hq=>by
  simp only [List.getElem?_map,Option.map_eq_some_iff] at hp hq
  obtain ⟨x,hx,rfl⟩:=hp
  obtain ⟨y,hy,rfl⟩:=hq
  rw [hx] at hy
  cases hy
  refine ⟨rfl,hρ' x (List.mem_of_getElem? hx),fun c hc=>DM ?_⟩
  have:=List.all_eq_true.1 hnl (x.1,evC s x.2) (List.mem_map.2 ⟨x,List.mem_of_getElem? hx,rfl⟩)
  exact List.all_eq_true.1 this c hc) hz0 hf
 have hr:=run_buildSlice (P:=P) w t e len ((ol.map fun p=>(p.1,a.eval p.2)).toArray) a' inf zv S.hu hi hz (by rw [hsize];omega) (by rw [hsize];have:=Nat.mul_pos hp hpos;omega) (by
  rw [hsize]
  simpa [madeCells] using h1)
 have hrun:(execOp a.eval ⟨dst,.buildSlice t len ol.toArray,ty,pos,af,gd⟩).run P w= .ok (.value (.slice (some ⟨w.heap.size,0,none⟩) len len)) (w.alloc (.cells a' e)):=by
  simp only [execOp]
  rw [show (ol.toArray.map fun x=>match x with|(i,x)=>(i,a.eval x))=(ol.map fun p=>(p.1,a.eval p.2)).toArray by simp]
  simp [hr]
 unfold Oper.wp
 rw [hrun]
 have hkp:Kp w (w.alloc (.cells a' e)):=(Below.refl _ _).alloc (Yu _) _
 have hnl': ∀c∈cs,nl c:=fun c hc=>DM (List.all_eq_true.1 hnl2 c hc)
 have hsz':a'.size=cs.length:=by have:=h2.1;simpa using this
 have hlen:cs.length=len*n:=by
  have key: ∀(ps:List (Nat×AV)) (c0 c1:List C),Dk (fun i=>some (i*n,n)) c0 ps=some c1→c1.length=c0.length:=by
   intro ps
   induction ps with
   | nil=>intro c0 c1 h;simp [Dk] at h;rw [h]
   | cons p ps ih=>
     intro c0 c1 h
     unfold Dk at h
     simp only at h
     split at h
     ·have layl: ∀(l:List C) (c:List C) (o:Nat),(PA c o l).length=c.length:=by
       intro l
       induction l with
       | nil=>intro c o;rfl
       | cons x l ih=>intro c o;show (PA (c.set o x) (o+1) l).length=_;rw [ih];simp
      rw [ih _ _ h,layl]
     ·cases h
  rw [key _ _ _ hf,DF];simp [hzs]
 have hnew:=hcn.new (id:=id) hid (w':=w.alloc (.cells a' e)) (g:=w.heap.size) (vs:=a') (e:=e) (cs:=cs) hkp (Yu _) (heap_alloc_new w _) hne (by omega)
  (fun o x hx=>by
   have ho:o<cs.length:=by have:=(Array.getElem?_eq_some_iff.1 hx).1;omega
   exact (h2.2 o x _ (by simpa using hx) (Yv ho)).noL (hnl' _ (List.getElem_mem ho))) (fun o x c hx hc=>(h2.2 o x c (by simpa using hx) hc).mono (Kl.of_kp hkp) fun i hi=>⟨rfl,hi⟩) hnl'
 refine hK _ _ ⟨upd μ id (w.heap.size,a'.size),?_⟩
 refine Ck hnew (d:=dst) hd (v:= .slice (some ⟨w.heap.size,0,none⟩) len len) (av:= .one (.sx id 0 len len n)) ⟨by rw [AI,Nat.zero_mul],Yu _,by rw [AI,hsz',hlen,Nat.zero_add];exact Yu _,?_⟩
 show upd σ.sz id _ id≠0
 rw [AI]
 intro h0
 exact hne (List.eq_nil_of_length_eq_zero h0)
theorem Kx {d:Nat} {t e:TypeId} {parts:Array (Nat×Operand)} {agg:Bool} {n bytes:Nat} {zv:Value} [S:Sle P t e agg n bytes zv] {len:Nat} {ps:List (Nat×AV)} {cs:List C} (hg:gOk ops σ.s gd:=by first|exact trivial|exact rfl) (hd:dB X.n (some d)=true:=by exact rfl) (hx:parts.toList.map (fun p=>(p.1,evC σ.s p.2))=ps:=by exact rfl) (hy:(ps.all fun p=>(At p.2).all nlB)=true:=by exact rfl) (hc:Dk (fun i=>some (i*n,n)) (BU len zv.cells.toList) ps=some cs:=by exact rfl)
  (hf:(Nat.beq (σ.sz d) 0&&!cs.isEmpty&&cs.all nlB&&Nat.ble (len*n) 16777216&&Nat.blt 0 len)=true:=by exact rfl)
  (hl:Ah P X ops l (σ.app (some d) ⟨.one (.sx d 0 len len n),[],[],[(d,cs)]⟩) (fun es σ'=>K (⟨.one (.sx d 0 len len n),[],[],[(d,cs)]⟩::es) σ')):Ah P X ops (⟨some d,.buildSlice t len parts,ty,pos,af,gd⟩::l) σ K:=by
 simp only [Bool.and_eq_true,Bool.not_eq_true'] at hf
 exact .of (fun _ _ hl=>Run.step hg (M5 (Dd hd) hx hy hc hf.1.1.2 hf.1.2 hf.2) (fun p hp=>by cases hp) (EE (by simpa using hf.1.1.1.1) fun h0=>by rw [h0] at hf;cases hf.1.1.1.2) hl) hl
theorem Af.sxGlT {k len cap es:Nat} (h:0<len):Af (.sx k 0 len cap es) (.gl k len es):=fun W0 μ sz w x hx=>by
 obtain ⟨h1,h2,h3,h4⟩:=hx
 rw [Nat.zero_mul] at h1
 rw [Nat.zero_add] at h3
 exact ⟨_,cap,h1,h2,fun h0=>by omega,fun _=>⟨rfl,h3,h4⟩⟩
theorem Rn {t tx e:TypeId} {x y:Operand} {agg:Bool} {n bytes:Nat} {zv:Value} [S:Sle P t e agg n bytes zv] {k off len cap m id:Nat} {os:List C} {ds:List D} (hd: ∀t,dst=some t→t<X.n) (hux: ∃e,P.underlying tx=some (.slice e))
  (hx:evC s x= .one (.sx k off len cap n)) (hy:evC s y= .one (.ls n m ds)) (hol:os.length=len*n) (hz:off*n+len*n≤z k) (hg:cap<len+m) (hby:(len+m)*bytes≤140737488355328) (h63:len+m≤9223372036854775807) (hb:0<off*n+len*n):
  Sim P X ⟨dst,.call ⟨.builtin .append,#[x,y],#[t,tx]⟩,ty,pos,af,gd⟩ s z ⟨.one (.gl id (len+m) n),[(k,off*n,os)],[],[(id,os++ds.map toC)]⟩:=by
 refine Sim.of0 fun W=>?_
 replace hd: ∀t,dst=some t→t<(X.at W).n:=hd
 generalize X.at W=X at hd⊢
 intro σ hs hsz hrd hal a w hcn K Q hK
 obtain ⟨μ,hcn⟩:=hcn
 obtain ⟨hid,hne⟩:=hal.1 _ List.mem_cons_self
 have hn:=S.pos
 obtain ⟨inf,hi,hzr,hsize,hbye⟩:=S.info
 obtain ⟨ex,hux⟩:=hux
 have h1:=hcn.ev x
 replace h1:=C5 (o:=⟨dst,.call ⟨.builtin .append,#[x,y],#[t,tx]⟩,ty,pos,af,gd⟩) hs (by simp [Op.operands,Call.operands]) h1
 rw [hx] at h1
 obtain ⟨e1,hlc,hmu,hk⟩:=h1
 have h2:=hcn.ev y
 replace h2:=C5 (o:=⟨dst,.call ⟨.builtin .append,#[x,y],#[t,tx]⟩,ty,pos,af,gd⟩) hs (by simp [Op.operands,Call.operands]) h2
 rw [hy] at h2
 replace h2:cc X.W0 μ σ.sz w (a.eval y) (.ls n m ds):=h2
 obtain ⟨vn,s2,a2,n2,hln⟩:=IU (P:=P) hcn hux hn h2 (Srcs.ls (σ:=σ))
 have hzk:σ.sz k=z k:=by rcases hsz k (by omega) with h|h;exact absurd h hk;exact h
 obtain ⟨vo,hvl,hr,_,hv⟩:=hcn.slice (k:=k) (off:=off*n) (n:=len*n) hk (by omega)
 have hm: ∀(i:Nat) c,os[i]?=some c→σ.m k (off*n+i)=c:=fun i c hi=>hrd (k,off*n,os) (by simp) i c hi
 have a1:B5 (cc X.W0 μ σ.sz w) vo os:=⟨by omega,fun i v c hvi hci=>by rw [←hm i c hci];exact (hv i v hvi).1⟩
 have n1: ∀u∈vo,noL u:=fun u hu=>by
  obtain ⟨i,hi1,hi2⟩:=List.getElem_of_mem hu
  have h3:=hv i _ (Yv hi1)
  rw [hi2] at h3
  exact h3.1.noL h3.2
 have hnlo: ∀c∈os,nl c:=fun c hcm=>by
  obtain ⟨i,hi1,hi2⟩:=List.getElem_of_mem hcm
  have hi3:i<vo.length:=by omega
  have h3:=(hv i _ (Yv hi3)).2
  rwa [hm i c (by rw [Yv hi1,hi2])] at h3
 have hnln: ∀c∈ds.map toC,nl c:=fun c hcm=>by
  obtain ⟨i,hi1,hi2⟩:=List.getElem_of_mem hcm
  have hi3:i<vn.length:=by rw [a2.1];exact hi1
  have h3:=a2.2 i _ _ (Yv hi3) (Yv hi1)
  rw [hi2] at h3
  obtain ⟨d,_,rfl⟩:=List.mem_map.1 hcm
  exact X9 (Ka.1 h3) (n2 _ (List.getElem_mem hi3))
 have hold:(Builtin.firstCells inf.size len (.slice (some ⟨(μ k).1,off*n,none⟩) len cap)).run P w.drew= .ok vo.toArray w.drew:=by
  refine run_firstCells_some (P:=P) (w:=w.drew) inf.size len _ len cap vo (by rw [hsize];exact hvl) fun j u hj=>?_
  rw [Addr.add_mid]
  exact hr j u hj
 have hru:=run_append_grow_src (P:=P) w t tx ty e inf zv S.hu hi hzr (some ⟨(μ k).1,off*n,none⟩) len cap vo hold (a.eval y) m vn (by rw [hsize];exact s2) hg (by omega) (growslice_fits hg (by rw [hbye];exact hby))
 have hrun:(execOp a.eval ⟨dst,.call ⟨.builtin .append,#[x,y],#[t,tx]⟩,ty,pos,af,gd⟩).run P w= .ok (.value (.slice (some ⟨w.heap.size,0,none⟩) (len+m) (grownCap w (len+m) cap e))) (w.drew.alloc (.cells ((vo++vn).toArray++Builtin.zeroCells zv.cells (grownCap w (len+m) cap e-(len+m))) e)):=by
  simp [execOp,resolve,invoke,builtin,e1,hru]
 unfold Oper.wp
 rw [hrun]
 have hge:=grownCap_ge w (len+m) cap e
 generalize grownCap w (len+m) cap e=gc at hge
 have hkp:Kp w (w.drew.alloc (.cells ((vo++vn).toArray++Builtin.zeroCells zv.cells (gc-(len+m))) e)):=((Below.refl _ _).drew).alloc (Yu _) _
 have hall:B5 (cc X.W0 μ σ.sz (w.drew.alloc (.cells ((vo++vn).toArray++Builtin.zeroCells zv.cells (gc-(len+m))) e))) (vo++vn) (os++ds.map toC):=by
  refine (EV a1 a2).map fun v c hc hv=>hv.mono (Kl.of_kp hkp) fun i hi=>⟨rfl,hi⟩
 obtain ⟨r1,r2,r3⟩:=K9 (k:=gc-(len+m)) hall (fun u hu=>by
  rcases List.mem_append.1 hu with h|h
  ·exact n1 u h
  ·exact n2 u h) S.nl S.size hn
 have hvl2:(vo++vn).length=(len+m)*n:=by rw [(EV a1 a2).1,List.length_append,hol,hln,Nat.add_mul]
 have hol2:(os++ds.map toC).length=(len+m)*n:=by rw [List.length_append,hol,hln,Nat.add_mul]
 have hnew:=hcn.new (id:=id) hid (g:=w.heap.size) (e:=e) (cs:=os++ds.map toC) hkp (Yu _) (heap_alloc_new w.drew _) hne (by rw [r1,hvl2,hol2];omega) r2 r3 (fun c hc=>by
  rcases List.mem_append.1 hc with h|h
  ·exact hnlo c h
  ·exact hnln c h)
 have hlast:cv X.W0 (upd μ id (w.heap.size,((vo++vn).toArray++Builtin.zeroCells zv.cells (gc-(len+m))).size)) (upd σ.sz id (os++ds.map toC).length) (w.drew.alloc (.cells ((vo++vn).toArray++Builtin.zeroCells zv.cells (gc-(len+m))) e)) (.slice (some ⟨w.heap.size,0,none⟩) (len+m) gc) (.one (.gl id (len+m) n)):=by
  refine ⟨_,gc,rfl,hge,fun h=>by omega,fun _=>⟨by rw [AI],?_,?_⟩⟩
  ·rw [AI,r1,hvl2,←Nat.add_mul]
   have:len+m+(gc-(len+m))=gc:=by omega
   rw [this];exact Yu _
  ·rw [AI]
   intro h0
   exact hne (List.eq_nil_of_length_eq_zero h0)
 exact hK _ _ ⟨_,Ck hnew (d:=dst) hd hlast⟩
theorem Va {α:Type} {f:α→List D} {la:List α} {d:Nat} {t tx e:TypeId} {x y:Operand} {agg:Bool} {n bytes:Nat} {zv:Value} [S:Sle P t e agg n bytes zv] {k off len cap:Nat} {os:List C} (hux: ∃e,P.underlying tx=some (.slice e)) (hol:os.length=len*n) (hc:cap<len+la.length∧(len+la.length)*bytes≤140737488355328∧len+la.length≤9223372036854775807∧0<off*n+len*n) (hz:off*n+len*n≤σ.sz k) (hm: ∀(i:Nat) c,os[i]?=some c→σ.m k (off*n+i)=c) (hne:os≠ [])
  (hg:gOk ops σ.s gd:=by first|exact trivial|exact rfl) (hd:dB X.n (some d)=true:=by exact rfl) (hx:evC σ.s x= .one (.sx k off len cap n):=by exact rfl) (hy:evC σ.s y= .one (lsG n f la):=by exact rfl) (hf:Nat.beq (σ.sz d) 0=true:=by exact rfl)
  (hl:Ah P X ops l (σ.app (some d) ⟨.one (.gl d (len+la.length) n),[(k,off*n,os)],[],[(d,os++Ao f la)]⟩) (fun es σ'=>K (⟨.one (.gl d (len+la.length) n),[(k,off*n,os)],[],[(d,os++Ao f la)]⟩::es) σ')):Ah P X ops (⟨some d,.call ⟨.builtin .append,#[x,y],#[t,tx]⟩,ty,pos,af,gd⟩::l) σ K:=
 .of (fun _ _ hl=>Run.step hg (Rn (S:=S) (Dd hd) hux hx hy hol hz hc.1 hc.2.1 hc.2.2.1 hc.2.2.2) (fun p hp=>by rw [List.mem_singleton.1 hp];exact hm) (EE (Nat.eq_of_beq_eq_true hf) fun h0=>hne (List.append_eq_nil_iff.1 h0).1) hl) hl
theorem Ro {t tx e:TypeId} {x y:Operand} {agg:Bool} {n bytes:Nat} {zv:Value} [S:Sle P t e agg n bytes zv] {k off len cap:Nat} (hd: ∀t,dst=some t→t<X.n) (hux: ∃e,P.underlying tx=some (.slice e))
  (hx:evC s x= .one (.sx k off len cap n)) (hy:evC s y= .one (.ls n 0 [])):
  Sim P X ⟨dst,.call ⟨.builtin .append,#[x,y],#[t,tx]⟩,ty,pos,af,gd⟩ s z ⟨.one (.sx k off len cap n),[],[],[]⟩:=by
 refine Sim.of0 fun W=>?_
 replace hd: ∀t,dst=some t→t<(X.at W).n:=hd
 generalize X.at W=X at hd⊢
 intro σ hs hsz hrd hal a w hcn K Q hK
 obtain ⟨μ,hcn⟩:=hcn
 have hn:=S.pos
 obtain ⟨inf,hi,hzr,hsize,hbye⟩:=S.info
 obtain ⟨ex,hux⟩:=hux
 have h1:=hcn.ev x
 replace h1:=C5 (o:=⟨dst,.call ⟨.builtin .append,#[x,y],#[t,tx]⟩,ty,pos,af,gd⟩) hs (by simp [Op.operands,Call.operands]) h1
 rw [hx] at h1
 obtain ⟨e1,hlc,h3,h4⟩:=h1
 have h2:=hcn.ev y
 replace h2:=C5 (o:=⟨dst,.call ⟨.builtin .append,#[x,y],#[t,tx]⟩,ty,pos,af,gd⟩) hs (by simp [Op.operands,Call.operands]) h2
 rw [hy] at h2
 replace h2:cc X.W0 μ σ.sz w (a.eval y) (.ls n 0 []):=h2
 obtain ⟨vn,s2,a2,n2,hln⟩:=IU (P:=P) hcn hux hn h2 (Srcs.ls (σ:=σ))
 have hvn0:vn= []:=List.eq_nil_of_length_eq_zero (by rw [a2.1];rfl)
 subst hvn0
 have hlo':=s2.len w
 have hkind:=s2.kind
 have hcl:=s2.cells
 have hrun:(execOp a.eval ⟨dst,.call ⟨.builtin .append,#[x,y],#[t,tx]⟩,ty,pos,af,gd⟩).run P w= .ok (.value (.slice (some ⟨(μ k).1,off*n,none⟩) len cap)) w:=by
  rw [←hsize] at hcl
  rcases hkind with ⟨e',hk'⟩|hk'
  ·simp [execOp,resolve,invoke,builtin,e1,Builtin.append_,run_underlying S.hu,run_underlying hk',sizeOf,typeInfo,hi,hlo',hcl,storeCells,hlc]
  ·simp [execOp,resolve,invoke,builtin,e1,Builtin.append_,run_underlying S.hu,run_underlying hk',sizeOf,typeInfo,hi,hlo',hcl,storeCells,hlc]
 unfold Oper.wp
 rw [hrun]
 refine hK _ _ ⟨μ,?_⟩
 exact Ck hcn (d:=dst) hd (v:= .slice (some ⟨(μ k).1,off*n,none⟩) len cap) (av:= .one (.sx k off len cap n)) ⟨rfl,hlc,h3,h4⟩
theorem Vb {t tx e:TypeId} {x y:Operand} {agg:Bool} {n bytes:Nat} {zv:Value} [S:Sle P t e agg n bytes zv] {k off len cap:Nat} (hux: ∃e,P.underlying tx=some (.slice e))
  (hg:gOk ops σ.s gd:=by first|exact trivial|exact rfl) (hd:dB X.n dst=true:=by exact rfl) (hx:evC σ.s x= .one (.sx k off len cap n):=by exact rfl) (hy:evC σ.s y= .one (.ls n 0 []):=by exact rfl)
  (hl:Ah P X ops l (σ.app dst ⟨.one (.sx k off len cap n),[],[],[]⟩) (fun es σ'=>K (⟨.one (.sx k off len cap n),[],[],[]⟩::es) σ')):Ah P X ops (⟨dst,.call ⟨.builtin .append,#[x,y],#[t,tx]⟩,ty,pos,af,gd⟩::l) σ K:=
 .of (fun _ _ hl=>Run.step hg (Ro (S:=S) (Dd hd) hux hx hy) (fun p hp=>by cases hp) Ct hl) hl
end
namespace tvalid
theorem light' {l:List Int} {b:Bool} (h:decide ((l.length:Int)≤500)=b):Ctr Tryz.prog Amb 11 [.one (.ints l)] (.one (.v (.bool b))):=h▸Mf l
theorem Lj {α:Type} {n:Nat} {f:α→List D} (hf:Elm n f) {σ:St} {ks:List Nat} {k:Nat} {l:List α} {cs:List C} (e:Ao f l=cs) (hz:σ.sz k=cs.length:=by exact rfl) (hm:Kj (σ.m k) cs:=by first|exact DA|exact Da):DD σ ks (k,Ao f l):=by
 subst e
 exact AN hf hz hm
theorem NC {j:Nat} : ∀ {l:List Rat},Ao (EZ j) (l.map some)=Ao (nmD j) l
 | []=>rfl
 | x::l=>by
   show (EZ j (some x)++(l.map some).flatMap (EZ j)).map toC=(nmD j x++l.flatMap (nmD j)).map toC
   rw [List.map_append,List.map_append]
   exact congrArg ((nmD j x).map toC++ ·) (NC (j:=j) (l:=l))
theorem law {u v:Int} {l:List Int} (hu1: -9223372036854775808≤u) (hu2:u<9223372036854775808) (hv1: -9223372036854775808≤v) (hv2:v<9223372036854775808) (hb: ∀x∈l,-9223372036854775808≤x∧x<9223372036854775808):
  Ctr Tryz.prog Amb 3 [.one (.v (.int .i64 u)),.one (.v (.int .i64 v)),.one (.ints l)] (.one (.v (.bool true))):=by
 have hA7:=UV
 by_cases hL:(l.length:Int)≤500
 ·have hl:l.length≤1000000:=by omega
  have D1:=light' (decide_eq_true hL)
  have X1:=WE (k:=15) (n:=0) (U:=4) (V:=4) hb hl (Nat.zero_le _) (by decide) (by decide)
  have hU:=L4 l 4 0
  have hV:=L3 l 4 4 0
  have hlen:=NE l 4 4 0
  generalize (IN l 4 4 0).2=n1 at*
  generalize (IN l 4 4 0).1=c at*
  generalize JK l 4 0=U at*
  generalize JJ l 4 4 0=V at*
  have hsz:c.length≤1000:=by
   rw [hlen]
   exact Nat.le_trans (Nat.mul_le_mul (show U+1≤5 by omega) (show V+1≤5 by omega)) (by decide)
  have hpos:1≤c.length:=by rw [hlen];exact Nat.mul_pos (by omega) (by omega)
  have V1:=Jp (j:=2) (u:=U) (v:=V) (l:=c) (by omega) (by omega) hlen (by decide)
  obtain ⟨b,VM,RM⟩:=PN (j:=2) (u:=u) (v:=v) (l:=c) hsz (by decide)
  obtain ⟨T,hT⟩: ∃T,T=(c.take c.length).drop 1:=⟨_,rfl⟩
  have hTl:T.length+1=c.length:=by rw [hT,List.length_drop,List.length_take];omega
  have VK:=Ru (j:=2) (u:=U) (v:=V) (l:=none::T.map some) (by omega) (by omega) (by rw [List.length_cons,List.length_map,hTl,hlen]) rfl
  have hOl:(none::T.map some:List (Option Rat)).length=1+T.length:=by rw [List.length_cons,List.length_map];omega
  have hOb:Ao (EZ 2) (none::T.map some)=Ao (EZ 2) [none]++Ao (nmD 2) T:=by
   rw [←NC]
   show Ao (EZ 2) ([none]++T.map some)=_
   simp [Ao]
  obtain ⟨O,hO⟩: ∃O,O=(none::T.map some:List (Option Rat)):=⟨_,rfl⟩
  rw [←hO] at VK hOl hOb
  clear hO
  have be:Gl .add .i64 0 0=some (.int .i64 0):=rfl
  refine Aj Tryz.func3 rfl rfl rfl rfl rfl rfl ?_
  intro W0 base D μ0 hA hD
  repeat (first
   | refine Ag ?_|refine Ac ?_|refine Aa rfl ?_|refine Ab rfl ?_
   | ((first|refine AQ (by kernel_rfl) ?_|refine BO (by kernel_rfl) (by kernel_rfl) (by kernel_rfl) ?_)
      repeat (first
       | refine DG (hl:=?_)
       | refine AK (hl:=?_)
       | refine As (hl:=?_)
       | refine BB (hl:=?_)
       | refine AB (hl:=?_)
       | refine AO (hl:=?_)
       | refine BP (hl:=?_)
       | refine BL (hl:=?_)
       | refine BM (hl:=?_)
       | refine BN (hl:=?_)
       | refine Dx (hl:=?_)
       | refine C8 (hl:=?_)
       | refine C9 (hl:=?_)
       | refine Cc (hl:=?_)
       | refine B7 (hl:=?_)
       | refine B6 (hl:=?_)
       | refine B8 (hl:=?_)
       | refine AY (hl:=?_)
       | refine BI (hl:=?_)
       | refine BD (hl:=?_)
       | refine AD hA (hc:=D1) (hl:=?_)
       | refine P3 hA (hc:=UI l) (hl:=?_)
       | refine EI hA (hc:=X1) (hl:=?_))
      apply Ah.nil;try refine And.intro (by kernel_rfl) ?_)
   | refine Ad ?_|refine Ae ?_)
  by_cases hT0:T.length=0
  ·obtain rfl:T= []:=List.eq_nil_of_length_eq_zero hT0
   try refine Ag ?_
   refine BO (by kernel_rfl) (by kernel_rfl) (by kernel_rfl) ?_
   repeat (first
    | refine PW (hl:=?_)
    | refine Kx (hl:=?_)
    | refine DG (hl:=?_)
    | refine AK (hl:=?_)
    | refine As (hl:=?_)
    | refine BB (hl:=?_)
    | refine AB (hl:=?_)
    | refine AO (hl:=?_)
    | refine BP (hl:=?_)
    | refine BL (hl:=?_)
    | refine BM (hl:=?_)
    | refine BN (hl:=?_)
    | refine Dx (hl:=?_)
    | refine C8 (hl:=?_)
    | refine C9 (hl:=?_)
    | refine Cc (hl:=?_)
    | refine B7 (hl:=?_)
    | refine B6 (hl:=?_)
    | refine B8 (hl:=?_)
    | refine AY (hl:=?_)
    | refine BI (hl:=?_)
    | refine BD (hl:=?_)
    | refine Df hA (hc:=OLD) (hl:=?_)
    | refine H7 (la:=c) (f:=nmD 2) (a:=1) (b:=c.length) hpos (Yu _) (.some rfl rfl) .none (hl:=?_))
   rw [←hT]
   refine Vb ⟨_,rfl⟩ (hl:=?_)
   repeat (first
    | refine DG (hl:=?_)
    | refine AK (hl:=?_)
    | refine As (hl:=?_)
    | refine BB (hl:=?_)
    | refine AB (hl:=?_)
    | refine AO (hl:=?_)
    | refine BP (hl:=?_)
    | refine BL (hl:=?_)
    | refine BM (hl:=?_)
    | refine BN (hl:=?_)
    | refine Dx (hl:=?_)
    | refine C8 (hl:=?_)
    | refine C9 (hl:=?_)
    | refine Cc (hl:=?_)
    | refine B7 (hl:=?_)
    | refine B6 (hl:=?_)
    | refine B8 (hl:=?_)
    | refine AY (hl:=?_)
    | refine BI (hl:=?_)
    | refine BD (hl:=?_)
    | refine Df hA (hc:=OLD) (hl:=?_))
   apply Ah.nil
   refine And.intro (by kernel_rfl) ?_
   refine A8 (ss:= [(7,.one (.ptr 7 0)),(8,.one (.ptr 8 0)),(9,.one (.ptr 9 0))]) (bs:= [(7,F8 2 U V c),(8,[.v (.int .i64 u),.v (.int .i64 v),AH 2 c]),(9,[.v (.int .i64 (U:Nat)),.v (.int .i64 (V:Nat)),.gl 28 O.length 3]),(28,Ao (EZ 2) O)]) ?_ ?_
   ·refine Cu ?_ ?_ (by kernel_rfl)
    ·repeat (first|exact Ak|refine List.forall_mem_cons.2 ⟨Ent.of_eq (by kernel_rfl),?_⟩)
    ·exact List.forall_mem_cons.2 ⟨AG (by kernel_rfl) (EntL.of_eq (by kernel_rfl)) (by kernel_rfl),List.forall_mem_cons.2 ⟨AG (by kernel_rfl) (EntL.of_eq (by kernel_rfl)) (by kernel_rfl),List.forall_mem_cons.2 ⟨AG (by kernel_rfl) (.cons Af.same (.cons Af.same (.cons (fun W0 μ sz w x hx=>Af.glLen hOl.symm W0 μ sz w x (Af.sxGlT (by decide) W0 μ sz w x hx)) .nil))) (by kernel_rfl),List.forall_mem_cons.2 ⟨Lj inferInstance hOb,Ak⟩⟩⟩⟩
   refine A5 28 hD (ss:= [(7,.one (.ptr 7 0)),(8,.one (.ptr 8 0)),(9,.one (.ptr 9 0))]) (bs:= [(7,F8 2 U V c),(8,[.v (.int .i64 u),.v (.int .i64 v),AH 2 c]),(9,[.v (.int .i64 (U:Nat)),.v (.int .i64 (V:Nat)),lsG 3 (EZ 2) O])]) ?_ ?_
   ·exact Gg (List.forall_mem_cons.2 ⟨FzA.ent (Ent.of_eq rfl),List.forall_mem_cons.2 ⟨FzA.ent (Ent.of_eq rfl),List.forall_mem_cons.2 ⟨FzA.ent (Ent.of_eq rfl),Ak⟩⟩⟩) (List.forall_mem_cons.2 ⟨De.of (AG rfl (EntL.of_eq rfl) rfl),List.forall_mem_cons.2 ⟨De.of (AG rfl (EntL.of_eq rfl) rfl),List.forall_mem_cons.2 ⟨De.netG inferInstance,Ak⟩⟩⟩) rfl
   clear X1 D1
   cases b with
   | true=>
     repeat (first
      | refine Ag ?_|refine Ac ?_|refine Aa rfl ?_|refine Ab rfl ?_
      | ((first|refine AQ (by kernel_rfl) ?_|refine BO (by kernel_rfl) (by kernel_rfl) (by kernel_rfl) ?_)
         repeat (first
          | refine DG (hl:=?_)
          | refine AK (hl:=?_)
          | refine As (hl:=?_)
          | refine BB (hl:=?_)
          | refine AB (hl:=?_)
          | refine AO (hl:=?_)
          | refine BP (hl:=?_)
          | refine BL (hl:=?_)
          | refine BM (hl:=?_)
          | refine BN (hl:=?_)
          | refine Dx (hl:=?_)
          | refine C8 (hl:=?_)
          | refine C9 (hl:=?_)
          | refine Cc (hl:=?_)
          | refine B7 (hl:=?_)
          | refine B6 (hl:=?_)
          | refine B8 (hl:=?_)
          | refine AY (hl:=?_)
          | refine BI (hl:=?_)
          | refine BD (hl:=?_)
          | refine AD hA (hc:=V1) (hl:=?_)
          | refine AD hA (hc:=VM) (hl:=?_)
          | refine AD hA (hc:=RM) (hl:=?_)
          | refine AD hA (hc:=VK) (hl:=?_)
          | refine AD hA (hc:=hA7) (hl:=?_))
         apply Ah.nil;try refine And.intro (by kernel_rfl) ?_)
      | refine Ad ?_|refine Ae ?_)
     refine Ap (And.intro (Or.inr rfl) ?_)
     exact AA
   | false=>
     repeat (first
      | refine Ag ?_|refine Ac ?_|refine Aa rfl ?_|refine Ab rfl ?_
      | ((first|refine AQ (by kernel_rfl) ?_|refine BO (by kernel_rfl) (by kernel_rfl) (by kernel_rfl) ?_)
         repeat (first
          | refine DG (hl:=?_)
          | refine AK (hl:=?_)
          | refine As (hl:=?_)
          | refine BB (hl:=?_)
          | refine AB (hl:=?_)
          | refine AO (hl:=?_)
          | refine BP (hl:=?_)
          | refine BL (hl:=?_)
          | refine BM (hl:=?_)
          | refine BN (hl:=?_)
          | refine Dx (hl:=?_)
          | refine C8 (hl:=?_)
          | refine C9 (hl:=?_)
          | refine Cc (hl:=?_)
          | refine B7 (hl:=?_)
          | refine B6 (hl:=?_)
          | refine B8 (hl:=?_)
          | refine AY (hl:=?_)
          | refine BI (hl:=?_)
          | refine BD (hl:=?_)
          | refine AD hA (hc:=V1) (hl:=?_)
          | refine AD hA (hc:=VM) (hl:=?_)
          | refine AD hA (hc:=RM) (hl:=?_)
          | refine AD hA (hc:=VK) (hl:=?_)
          | refine AD hA (hc:=hA7) (hl:=?_))
         apply Ah.nil;try refine And.intro (by kernel_rfl) ?_)
      | refine Ad ?_|refine Ae ?_)
     refine Ap (And.intro (Or.inr rfl) ?_)
     exact AA
  ·try refine Ag ?_
   refine BO (by kernel_rfl) (by kernel_rfl) (by kernel_rfl) ?_
   repeat (first
    | refine PW (hl:=?_)
    | refine Kx (hl:=?_)
    | refine DG (hl:=?_)
    | refine AK (hl:=?_)
    | refine As (hl:=?_)
    | refine BB (hl:=?_)
    | refine AB (hl:=?_)
    | refine AO (hl:=?_)
    | refine BP (hl:=?_)
    | refine BL (hl:=?_)
    | refine BM (hl:=?_)
    | refine BN (hl:=?_)
    | refine Dx (hl:=?_)
    | refine C8 (hl:=?_)
    | refine C9 (hl:=?_)
    | refine Cc (hl:=?_)
    | refine B7 (hl:=?_)
    | refine B6 (hl:=?_)
    | refine B8 (hl:=?_)
    | refine AY (hl:=?_)
    | refine BI (hl:=?_)
    | refine BD (hl:=?_)
    | refine Df hA (hc:=OLD) (hl:=?_)
    | refine H7 (la:=c) (f:=nmD 2) (a:=1) (b:=c.length) hpos (Yu _) (.some rfl rfl) .none (hl:=?_))
   rw [←hT]
   refine Va (f:=nmD 2) (la:=T) (k:=28) (off:=0) (len:=1) (cap:=1) (os:= [.v (.bool false),.v (.slice none 0 0),.q 1 1 1]) ⟨_,rfl⟩ rfl ⟨by omega,by omega,by omega,by decide⟩ (Yu _) (fun i c h=>match i,h with|0,h=>by (cases h;kernel_rfl)|1,h=>by (cases h;kernel_rfl)|2,h=>by (cases h;kernel_rfl)|i+3,h=>by cases h) (by intro h;cases h) (hl:=?_)
   repeat (first
    | refine DG (hl:=?_)
    | refine AK (hl:=?_)
    | refine As (hl:=?_)
    | refine BB (hl:=?_)
    | refine AB (hl:=?_)
    | refine AO (hl:=?_)
    | refine BP (hl:=?_)
    | refine BL (hl:=?_)
    | refine BM (hl:=?_)
    | refine BN (hl:=?_)
    | refine Dx (hl:=?_)
    | refine C8 (hl:=?_)
    | refine C9 (hl:=?_)
    | refine Cc (hl:=?_)
    | refine B7 (hl:=?_)
    | refine B6 (hl:=?_)
    | refine B8 (hl:=?_)
    | refine AY (hl:=?_)
    | refine BI (hl:=?_)
    | refine BD (hl:=?_)
    | refine Df hA (hc:=OLD) (hl:=?_))
   apply Ah.nil
   refine And.intro (by kernel_rfl) ?_
   refine A8 (ss:= [(7,.one (.ptr 7 0)),(8,.one (.ptr 8 0)),(9,.one (.ptr 9 0))]) (bs:= [(7,F8 2 U V c),(8,[.v (.int .i64 u),.v (.int .i64 v),AH 2 c]),(9,[.v (.int .i64 (U:Nat)),.v (.int .i64 (V:Nat)),.gl 32 O.length 3]),(32,Ao (EZ 2) O)]) ?_ ?_
   ·refine Cu ?_ ?_ (by kernel_rfl)
    ·repeat (first|exact Ak|refine List.forall_mem_cons.2 ⟨Ent.of_eq (by kernel_rfl),?_⟩)
    ·exact List.forall_mem_cons.2 ⟨AG (by kernel_rfl) (EntL.of_eq (by kernel_rfl)) (by kernel_rfl),List.forall_mem_cons.2 ⟨AG (by kernel_rfl) (EntL.of_eq (by kernel_rfl)) (by kernel_rfl),List.forall_mem_cons.2 ⟨AG (by kernel_rfl) (.cons Af.same (.cons Af.same (.cons (Af.glLen hOl.symm) .nil))) (by kernel_rfl),List.forall_mem_cons.2 ⟨Lj inferInstance hOb,Ak⟩⟩⟩⟩
   refine A5 32 hD (ss:= [(7,.one (.ptr 7 0)),(8,.one (.ptr 8 0)),(9,.one (.ptr 9 0))]) (bs:= [(7,F8 2 U V c),(8,[.v (.int .i64 u),.v (.int .i64 v),AH 2 c]),(9,[.v (.int .i64 (U:Nat)),.v (.int .i64 (V:Nat)),lsG 3 (EZ 2) O])]) ?_ ?_
   ·exact Gg (List.forall_mem_cons.2 ⟨FzA.ent (Ent.of_eq rfl),List.forall_mem_cons.2 ⟨FzA.ent (Ent.of_eq rfl),List.forall_mem_cons.2 ⟨FzA.ent (Ent.of_eq rfl),Ak⟩⟩⟩) (List.forall_mem_cons.2 ⟨De.of (AG rfl (EntL.of_eq rfl) rfl),List.forall_mem_cons.2 ⟨De.of (AG rfl (EntL.of_eq rfl) rfl),List.forall_mem_cons.2 ⟨De.netG inferInstance,Ak⟩⟩⟩) rfl
   clear X1 D1
   cases b with
   | true=>
     repeat (first
      | refine Ag ?_|refine Ac ?_|refine Aa rfl ?_|refine Ab rfl ?_
      | ((first|refine AQ (by kernel_rfl) ?_|refine BO (by kernel_rfl) (by kernel_rfl) (by kernel_rfl) ?_)
         repeat (first
          | refine DG (hl:=?_)
          | refine AK (hl:=?_)
          | refine As (hl:=?_)
          | refine BB (hl:=?_)
          | refine AB (hl:=?_)
          | refine AO (hl:=?_)
          | refine BP (hl:=?_)
          | refine BL (hl:=?_)
          | refine BM (hl:=?_)
          | refine BN (hl:=?_)
          | refine Dx (hl:=?_)
          | refine C8 (hl:=?_)
          | refine C9 (hl:=?_)
          | refine Cc (hl:=?_)
          | refine B7 (hl:=?_)
          | refine B6 (hl:=?_)
          | refine B8 (hl:=?_)
          | refine AY (hl:=?_)
          | refine BI (hl:=?_)
          | refine BD (hl:=?_)
          | refine AD hA (hc:=V1) (hl:=?_)
          | refine AD hA (hc:=VM) (hl:=?_)
          | refine AD hA (hc:=RM) (hl:=?_)
          | refine AD hA (hc:=VK) (hl:=?_)
          | refine AD hA (hc:=hA7) (hl:=?_))
         apply Ah.nil;try refine And.intro (by kernel_rfl) ?_)
      | refine Ad ?_|refine Ae ?_)
     refine Ap (And.intro (Or.inr rfl) ?_)
     exact AA
   | false=>
     repeat (first
      | refine Ag ?_|refine Ac ?_|refine Aa rfl ?_|refine Ab rfl ?_
      | ((first|refine AQ (by kernel_rfl) ?_|refine BO (by kernel_rfl) (by kernel_rfl) (by kernel_rfl) ?_)
         repeat (first
          | refine DG (hl:=?_)
          | refine AK (hl:=?_)
          | refine As (hl:=?_)
          | refine BB (hl:=?_)
          | refine AB (hl:=?_)
          | refine AO (hl:=?_)
          | refine BP (hl:=?_)
          | refine BL (hl:=?_)
          | refine BM (hl:=?_)
          | refine BN (hl:=?_)
          | refine Dx (hl:=?_)
          | refine C8 (hl:=?_)
          | refine C9 (hl:=?_)
          | refine Cc (hl:=?_)
          | refine B7 (hl:=?_)
          | refine B6 (hl:=?_)
          | refine B8 (hl:=?_)
          | refine AY (hl:=?_)
          | refine BI (hl:=?_)
          | refine BD (hl:=?_)
          | refine AD hA (hc:=V1) (hl:=?_)
          | refine AD hA (hc:=VM) (hl:=?_)
          | refine AD hA (hc:=RM) (hl:=?_)
          | refine AD hA (hc:=VK) (hl:=?_)
          | refine AD hA (hc:=hA7) (hl:=?_))
         apply Ah.nil;try refine And.intro (by kernel_rfl) ?_)
      | refine Ad ?_|refine Ae ?_)
     refine Ap (And.intro (Or.inr rfl) ?_)
     exact AA
 ·have D1:=light' (decide_eq_false hL)
  refine Aj Tryz.func3 rfl rfl rfl rfl rfl rfl ?_
  intro W0 base D μ0 hA hD
  repeat (first
   | refine Ag ?_|refine Ac ?_|refine Aa rfl ?_|refine Ab rfl ?_
   | ((first|refine AQ (by kernel_rfl) ?_|refine BO (by kernel_rfl) (by kernel_rfl) (by kernel_rfl) ?_)
      repeat (first
       | refine DG (hl:=?_)
       | refine AK (hl:=?_)
       | refine As (hl:=?_)
       | refine BB (hl:=?_)
       | refine AB (hl:=?_)
       | refine AO (hl:=?_)
       | refine BP (hl:=?_)
       | refine BL (hl:=?_)
       | refine BM (hl:=?_)
       | refine BN (hl:=?_)
       | refine Dx (hl:=?_)
       | refine C8 (hl:=?_)
       | refine C9 (hl:=?_)
       | refine Cc (hl:=?_)
       | refine B7 (hl:=?_)
       | refine B6 (hl:=?_)
       | refine B8 (hl:=?_)
       | refine AY (hl:=?_)
       | refine BI (hl:=?_)
       | refine BD (hl:=?_)
       | refine AD hA (hc:=D1) (hl:=?_)
       | refine AD hA (hc:=hA7) (hl:=?_))
      apply Ah.nil;try refine And.intro (by kernel_rfl) ?_)
   | refine Ad ?_|refine Ae ?_)
  refine Ap (And.intro (Or.inr rfl) ?_)
  exact AA
end tvalid
end Go.Proofs.YtfineedhebhpaaaGreatDoor
