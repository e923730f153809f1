/-
  Several texts in one: Zee, Zef, Zeh.
-/
import Derived.Test.YtfineedhebhpaaaGreatDoorIi
import Derived.Test.YtfineedhebhpaaaGreatDoorIg
import Derived.Test.YtfineedhebhpaaaGreatDoorHy
namespace Go.Proofs.YtfineedhebhpaaaGreatDoor
open Nat renaming le_refl→Xv
open List renaming getElem?_eq_getElem→Xw
open Lib renaming hid→Xu
open Go.RowKit
set_option linter.unusedVariables false
set_option linter.unusedSimpArgs false
set_option maxRecDepth 20000
set_option maxHeartbeats 4000000
section
variable {P:Program} {X:Ctx} {ops l:List Oper} {σ:St} {K:List Eff→St→Prop} {s:Nat→AV}
variable {dst:Option Tmp} {ty:TypeId} {pos:String} {af:Array Edge} {gd:Option (Nat×Bool)}
theorem Lk {t e:TypeId} {x:Operand} {lo:Option Operand} {agg:Bool} {n bytes:Nat} {zv:Value} [S:Sle P t e agg n bytes zv] {k off len:Nat} (hx:evC s x= .one (.sx k off len len n)) (hl:Bnd s 0 lo len) (h0:lo≠none):
  CP P ⟨dst,.slice t x lo none none,ty,pos,af,gd⟩ s .junk:=fun W0 μ sz w ρ hρ=>by
 have e1:=hρ x (by simp [Op.operands])
 rw [hx] at e1
 obtain ⟨hp,hlc,hmu,hk⟩:=e1
 cases lo with
 | none=>exact absurd rfl h0
 | some v=>
   have rl:(Instr.sliceBound (ρ v) len .sliceB).run P w= .ok len w:=GU hl (hρ v (by simp [Op.operands])) (Xv _)
   have rb:(Instr.sliceBounds true len len ((some v).map ρ) ((none:Option Operand).map ρ) none).run P w= .ok (len,len,len) w:=by
    unfold Instr.sliceBounds
    simp [rl]
   exact ⟨.slice (some ⟨(μ k).1,off*n,none⟩) 0 0,by simp at rb;simp [execOp,Instr.sliceAt,Instr.slice,run_underlying S.hu w,hp,rb,S.tsz.size w],trivial⟩
theorem QA {t e:TypeId} {x:Operand} {lo:Option Operand} {agg:Bool} {n bytes:Nat} {zv:Value} [S:Sle P t e agg n bytes zv] {k off len:Nat} (hlo:Bnd σ.s 0 lo len) (h0:lo≠none) (hg:gOk ops σ.s gd:=by first|exact trivial|exact rfl) (hd:dB X.n dst=true:=by exact rfl) (hx:evC σ.s x= .one (.sx k off len len n):=by exact rfl)
  (hl:Ab P X ops l (σ.app dst ⟨.junk,[],[],[]⟩) (fun es σ'=>K (⟨.junk,[],[],[]⟩::es) σ')):Ab P X ops (⟨dst,.slice t x lo none none,ty,pos,af,gd⟩::l) σ K:=
 BF (o:=⟨dst,.slice t x lo none none,ty,pos,af,gd⟩) hg hd (Lk (S:=S) hx hlo h0) hl
theorem Rj {t e:TypeId} {x:Operand} {agg:Bool} {n bytes:Nat} {zv:Value} [S:Sle P t e agg n bytes zv] {k off len cap:Nat} (hx:evC s x= .one (.sx k off len cap n)):CP P ⟨dst,.call ⟨.builtin .cap,#[x],#[t]⟩,ty,pos,af,gd⟩ s (.one (.v (.int .i64 (cap:Nat)))):=fun W0 μ sz w ρ hρ=>by
 have e1:=hρ x (by simp [Op.operands,Call.operands])
 rw [hx] at e1
 obtain ⟨hp,_,_,_⟩:=e1
 exact ⟨_,by simp [execOp,resolve,invoke,builtin,Builtin.cap_,run_underlying S.hu w,hp,goInt],rfl⟩
theorem V0 {t e:TypeId} {x:Operand} {agg:Bool} {n bytes:Nat} {zv:Value} [S:Sle P t e agg n bytes zv] {k off len cap:Nat} (hg:gOk ops σ.s gd:=by first|exact trivial|exact rfl) (hd:dB X.n dst=true:=by exact rfl) (hx:evC σ.s x= .one (.sx k off len cap n):=by exact rfl)
  (hl:Ab P X ops l (σ.app dst ⟨.one (.v (.int .i64 (cap:Nat))),[],[],[]⟩) (fun es σ'=>K (⟨.one (.v (.int .i64 (cap:Nat))),[],[],[]⟩::es) σ')):Ab P X ops (⟨dst,.call ⟨.builtin .cap,#[x],#[t]⟩,ty,pos,af,gd⟩::l) σ K:=
 BF (o:=⟨dst,.call ⟨.builtin .cap,#[x],#[t]⟩,ty,pos,af,gd⟩) hg hd (Rj (S:=S) hx) hl
end
theorem J4 {cs:List C} :rdL (FF cs) 0 cs.length=cs:=List.ext_getElem? fun i=>by
 by_cases hi:i<cs.length
 ·rw [C6 _ _ _ _ hi,Nat.zero_add,Xw hi]
  exact congrArg some (C5 (Xw hi))
 ·rw [List.getElem?_eq_none (by rw [DM];omega),List.getElem?_eq_none (by omega)]
theorem Qd {j:Nat} {l:List Rat} :(Al (nmD j) l).all nlB=true:=List.all_eq_true.2 fun c hc=>by
 obtain ⟨d,hd,rfl⟩:=List.mem_map.1 hc
 obtain ⟨x,_,hx⟩:=List.mem_flatMap.1 hd
 have hx:d∈([.q x j 0,.q x j 1,.q x j 2]:List D):=hx
 rcases List.mem_cons.1 hx with rfl|hx
 ·rfl
 ·rcases List.mem_cons.1 hx with rfl|hx
  ·rfl
  ·rcases List.mem_cons.1 hx with rfl|hx
   ·rfl
   ·cases hx
theorem Vq {σ:St} {ks:List Nat} {k j J:Nat} {L:List Rat} {t:Rat} (hJ:j≤J) (hz:σ.sz k=(Al (nmD J) L++nmC j t).length:=by exact rfl) (hm:JT (σ.m k) (Al (nmD J) L++nmC j t):=by first|exact DT|exact Do):D0 σ ks (k,Al (nmD J) (L++ [t])):=by
 have e:Al (nmD J) (L++ [t])=Al (nmD J) L++nmC J t:=by
  rw [show Al (nmD J) (L++ [t])=Al (nmD J) L++(nmD J t).map toC by simp [Al]]
  rfl
 rw [e]
 refine GV (os:=Al (nmD J) L++nmC j t) (EE Fd (.cons (Aa.q rfl hJ) (.cons (Aa.q rfl hJ) (.cons (Aa.q rfl hJ) .nil)))) (fun c hc=>Dg (n:=3) (f:=nmD J) inferInstance (L++ [t]) c (by rw [e];exact hc)) (by rw [←e];exact BM _ (L++ [t])) hz hm
theorem So {J jt n:Nat} {L:List Rat} {t:Rat} (hJ:jt≤J) (hn:0<n∧n≤1000000) (hL:L.length=n):
  Dd Tryz.prog Amb 141 [.one (.sx 900 0 n n 3),Au (n:Nat),.one (BI jt [t])] [(900,Al (nmD J) L,Al (nmD J) L)] [(25,Al (nmD J) (L++ [t]))] (.one (.gl 25 (n+1) 3)):=by
 have hne':(!(Al (nmD J) (L++ [t])).isEmpty)=true:=by
  have:=EJ (f:=nmD J) inferInstance (by decide) (show 0<(L++ [t]).length by simp)
  cases hb:Al (nmD J) (L++ [t]) with
  | nil=>rw [hb] at this;cases this
  | cons a b=>rfl
 have hbl:(Al (nmD J) L).length=n*3:=by rw [A5 (n:=3) inferInstance,hL]
 have hbne:Al (nmD J) L≠ []:=fun h=>by rw [h] at hbl;simp at hbl;omega
 refine Ei Tryz.func141 rfl rfl rfl rfl (by
  simp only [List.all_cons,List.all_nil,Bool.and_true,Bool.true_and,Bool.and_eq_true]
  exact ⟨⟨by simp [inA,inC],BM _ _,BM _ _⟩,BM _ _,hne'⟩) (by simp [inA,inC]) (by simp) (by simp) ?_
 intro W0 base D μ0 hA hD
 have b0:=Fx (k:= .i64) (decide_eq_false (show ¬(1:Int)=0 by decide))
 have b1:=Fx (k:= .i64) (decide_eq_true (show ((n:Nat):Int)=((n:Nat):Int) from rfl))
 repeat (first
  | refine Aj ?_|refine Ae ?_|refine Ac rfl ?_|refine Ad rfl ?_
  | ((first|refine An (by kernel_rfl) ?_|refine Az (by kernel_rfl) (by kernel_rfl) (by kernel_rfl) ?_)
     repeat (first
      | refine QA (k:=900) (len:=n) (.some rfl rfl) (by intro h;cases h) (hl:=?_)
      | refine Aq (hl:=?_)
      | refine Ai (hl:=?_)
      | refine AJ (hl:=?_)
      | refine Cy (hl:=?_)
      | refine AR (hl:=?_)
      | refine AO (hl:=?_)
      | refine AN (hl:=?_)
      | refine AP (hl:=?_)
      | refine AB (hl:=?_))
     apply Ab.nil;try refine And.intro (by kernel_rfl) ?_)
  | refine Ag ?_|refine Ah ?_)
 try refine Aj ?_
 refine An (by kernel_rfl) ?_
 repeat (first
  | refine Aq (hl:=?_)
  | refine Ai (hl:=?_)
  | refine AJ (hl:=?_)
  | refine Cy (hl:=?_)
  | refine AR (hl:=?_)
  | refine AO (hl:=?_)
  | refine AN (hl:=?_)
  | refine AP (hl:=?_)
  | refine AB (hl:=?_)
  | refine DB hA (hc:=OLD) (hl:=?_))
 refine V4 (f:=nmD jt) (la:= [t]) (k:=900) (off:=0) (len:=n) (cap:=n) (os:=Al (nmD J) L) ⟨_,rfl⟩ hbl ⟨by simp,by simp;omega,by simp;omega,by omega⟩ (by rw [Nat.zero_mul,Nat.zero_add,←hbl];exact Xv _) (fun i c h=>by rw [Nat.zero_mul,Nat.zero_add];exact C5 h) hbne (hl:=?_)
 repeat (first
  | refine Aq (hl:=?_)
  | refine Ai (hl:=?_)
  | refine AJ (hl:=?_)
  | refine Cy (hl:=?_)
  | refine AR (hl:=?_)
  | refine AO (hl:=?_)
  | refine AN (hl:=?_)
  | refine AP (hl:=?_)
  | refine AB (hl:=?_)
  | refine DB hA (hc:=OLD) (hl:=?_))
 apply Ab.nil
 refine C7 (ss:= [(6,.one (.gl 25 (n+1) 3))]) (bs:= [(25,Al (nmD J) (L++ [t])),(900,Al (nmD J) L)]) ?_ ?_
 ·refine DP ?_ ?_ (by kernel_rfl)
  ·repeat (first|exact Ao|refine List.forall_mem_cons.2 ⟨Ent.of_eq (by kernel_rfl),?_⟩)
  ·refine List.forall_mem_cons.2 ⟨Vq hJ,?_⟩
   repeat (first|exact Ao|refine List.forall_mem_cons.2 ⟨BH inferInstance,?_⟩)
 repeat (first|refine Aj ?_|refine Ae ?_|refine Ac rfl ?_|refine Ad rfl ?_|refine AW ?_|refine AX ?_|refine Ag ?_|refine Ah ?_)
 refine AU (And.intro (Or.inr rfl) (Np (ResIs.tmp rfl) (Ent.of_eq rfl) ?_ ?_))
 ·exact List.forall_mem_cons.2 ⟨⟨rfl,J4,Qd⟩,Ao⟩
 ·exact List.forall_mem_cons.2 ⟨.inl (BH inferInstance),Ao⟩
theorem Jq {J:Nat} : ∀ {m:Nat},EntL (AS m [.bool false,.slice none 0 0,.slice none 0 0]) (Al (nmD J) (List.replicate m 0))
 | 0=> .nil
 | m+1=>by
   have e:Al (nmD J) (List.replicate (m+1) (0:Rat))=nmC J 0++Al (nmD J) (List.replicate m 0):=by rw [List.replicate_succ];rfl
   rw [e]
   exact EE (.cons Aa.z0 (.cons Aa.z1 (.cons Aa.z2 .nil))) Jq
theorem JG {J i:Nat} {L:List Rat} :Al (nmD J) L=Al (nmD J) (L.take i)++Al (nmD J) (L.drop i):=by
 have ap:Al (nmD J) (L.take i++L.drop i)=Al (nmD J) (L.take i)++Al (nmD J) (L.drop i):=by unfold Al;rw [List.flatMap_append,List.map_append]
 rw [List.take_append_drop] at ap
 exact ap
theorem Sn {J n i:Nat} {L:List Rat} {t:Rat} (hi:i<n) (hn:n≤1000000) (hL:L.length=n):
  Dd Tryz.prog Amb 141 [.one (.sx 900 0 n n 3),Au (i:Nat),.one (BI J [t])] [(900,Al (nmD J) L,Al (nmD J) L)] [(40,Al (nmD J) (L.take i++t::L.drop i))] (.one (.gl 40 (n+1) 3)):=by
 obtain ⟨S,hS⟩: ∃S,S=L.take i++t::L.drop i:=⟨_,rfl⟩
 rw [←hS]
 have hSl:S.length=n+1:=by rw [hS];simp;omega
 have hne':(!(Al (nmD J) S).isEmpty)=true:=by
  have:=EJ (f:=nmD J) inferInstance (by decide) (show 0<S.length by omega)
  cases hb:Al (nmD J) S with
  | nil=>rw [hb] at this;cases this
  | cons a b=>rfl
 have hbl:(Al (nmD J) L).length=n*3:=by rw [A5 (n:=3) inferInstance,hL]
 have htl:(Al (nmD J) (L.take i)).length=i*3:=by rw [A5 (n:=3) inferInstance,List.length_take,Nat.min_eq_left (by omega)]
 have hdl:(Al (nmD J) (L.drop i)).length=(n-i)*3:=by rw [A5 (n:=3) inferInstance,List.length_drop,hL]
 have hr1: ∀(o:Nat) c,(Al (nmD J) (L.take i))[o]?=some c→FF (Al (nmD J) L) (0*3+o)=c:=fun o c h=>by
  rw [Nat.zero_mul,Nat.zero_add]
  refine C5 ?_
  rw [JG (i:=i),List.getElem?_append_left (List.getElem?_eq_some_iff.1 h).1]
  exact h
 have hr2: ∀(o:Nat) c,(Al (nmD J) (L.drop i))[o]?=some c→FF (Al (nmD J) L) ((0+i)*3+o)=c:=fun o c h=>by
  rw [Nat.zero_add]
  refine C5 ?_
  rw [JG (i:=i),List.getElem?_append_right (by omega),htl,Nat.add_sub_cancel_left]
  exact h
 refine Ei Tryz.func141 rfl rfl rfl rfl (by
  simp only [List.all_cons,List.all_nil,Bool.and_true,Bool.true_and,Bool.and_eq_true]
  exact ⟨⟨by simp [inA,inC],BM _ _,BM _ _⟩,BM _ _,hne'⟩) (by simp [inA,inC]) (by simp) (by simp) ?_
 intro W0 base D μ0 hA hD
 have b0:=Fx (k:= .i64) (decide_eq_false (show ¬(1:Int)=0 by decide))
 have b1:=Fx (k:= .i64) (decide_eq_false (show ¬((i:Nat):Int)=((n:Nat):Int) by omega))
 have a1:=BD (k:= .i64) (show (IntKind.i64).wrap (((n:Nat):Int)+1)=((n+1:Nat):Int) from IntWalk.i64_in _ (by omega))
 have g1:=DY (k:= .i64) (decide_eq_true (show ((n+1:Nat):Int)>((n:Nat):Int) by omega))
 have a2:=Cq (k:= .i64) (show (IntKind.i64).wrap (((n+1:Nat):Int)-((i:Nat):Int))=((n+1-i:Nat):Int) by rw [show ((n+1:Nat):Int)-((i:Nat):Int)=((n+1-i:Nat):Int) by omega];exact IntWalk.i64_in _ (by omega))
 have a3:=BD (k:= .i64) (show (IntKind.i64).wrap (((i:Nat):Int)+1)=((i+1:Nat):Int) from IntWalk.i64_in _ (by omega))
 repeat (first
  | refine Aj ?_|refine Ae ?_|refine Ac rfl ?_|refine Ad rfl ?_
  | ((first|refine An (by kernel_rfl) ?_|refine Az (by kernel_rfl) (by kernel_rfl) (by kernel_rfl) ?_)
     repeat (first
      | refine GE (k:=900) (off:=0) (len:=n) (cap:=n) (a:=i) (h:=n) (by omega) (by omega) (by omega) (.some rfl rfl) .none (hl:=?_)
      | refine V0 (k:=900) (off:=0) (len:=n) (cap:=n) (hl:=?_)
      | refine Aq (hl:=?_)
      | refine Ai (hl:=?_)
      | refine AJ (hl:=?_)
      | refine Cy (hl:=?_)
      | refine AR (hl:=?_)
      | refine AO (hl:=?_)
      | refine AN (hl:=?_)
      | refine AP (hl:=?_)
      | refine AB (hl:=?_))
     apply Ab.nil;try refine And.intro (by kernel_rfl) ?_)
  | refine Ag ?_|refine Ah ?_)
 try refine Aj ?_
 refine An (by kernel_rfl) ?_
 repeat (first
  | refine GE (k:=900) (off:=0) (len:=n) (cap:=n) (a:=0) (h:=i) (by omega) (by omega) (by omega) .none (.some rfl rfl) (hl:=?_)
  | refine Aq (hl:=?_)
  | refine Ai (hl:=?_)
  | refine AJ (hl:=?_)
  | refine Cy (hl:=?_)
  | refine AR (hl:=?_)
  | refine AO (hl:=?_)
  | refine AN (hl:=?_)
  | refine AP (hl:=?_)
  | refine AB (hl:=?_)
  | refine DB hA (hc:=OLD) (hl:=?_))
 refine Ur (k:=900) (off:=0) (len:=i) (cap:=n) (m:=n+1-i) (os:=Al (nmD J) (L.take i)) rfl htl ⟨by omega,by omega,by omega,by omega⟩ ?_ ?_ hr1 (hl:=?_)
 ·show 0*3+i*3≤(Al (nmD J) L).length
  omega
 ·show (Al (nmD J) L).length≠0
  omega
 repeat (first
  | refine Aq (hl:=?_)
  | refine Ai (hl:=?_)
  | refine AJ (hl:=?_)
  | refine Cy (hl:=?_)
  | refine AR (hl:=?_)
  | refine AO (hl:=?_)
  | refine AN (hl:=?_)
  | refine AP (hl:=?_)
  | refine AB (hl:=?_)
  | refine DB hA (hc:=OLD) (hl:=?_))
 apply Ab.nil
 obtain ⟨M0,hM0⟩: ∃M0,M0=L.take i++List.replicate (n+1-i) (0:Rat):=⟨_,rfl⟩
 have hM0l:M0.length=n+1:=by rw [hM0];simp;omega
 have e0:Al (nmD J) M0=Al (nmD J) (L.take i)++Al (nmD J) (List.replicate (n+1-i) (0:Rat)):=by rw [hM0];unfold Al;rw [List.flatMap_append,List.map_append]
 have hM0b:(Al (nmD J) M0).length=(n+1)*3:=by rw [A5 (n:=3) inferInstance,hM0l]
 refine C7 (ss:= [(9,.one (.gl 40 (n+1) 3)),(0,.one (.sx 900 0 n n 3)),(1,Au (i:Nat)),(2,.one (BI J [t])),(7,Au 1)]) (bs:= [(40,Al (nmD J) M0),(900,Al (nmD J) L)]) ?_ ?_
 ·refine DP ?_ ?_ (by kernel_rfl)
  ·refine List.forall_mem_cons.2 ⟨Ent.one' rfl (Aa.glLen (by omega)),?_⟩
   repeat (first|exact Ao|refine List.forall_mem_cons.2 ⟨Ent.of_eq (by kernel_rfl),?_⟩)
  ·refine List.forall_mem_cons.2 ⟨?_,List.forall_mem_cons.2 ⟨BH inferInstance,Ao⟩⟩
   rw [e0]
   exact GV (os:=Al (nmD J) (L.take i)++AS (n+1-i) [.bool false,.slice none 0 0,.slice none 0 0]) (EE Fd Jq) (fun c hc=>Dg (n:=3) (f:=nmD J) inferInstance M0 c (by rw [e0];exact hc)) (by rw [←e0];exact BM _ M0)
 refine Vt (by omega) fun cap hcap=>?_
 obtain ⟨M1,hM1⟩: ∃M1,M1=M0.take i++ [t]++M0.drop (i+ [t].length):=⟨_,rfl⟩
 have hM1l:M1.length=n+1:=by rw [hM1];simp;omega
 have hM1b:(Al (nmD J) M1).length=(n+1)*3:=by rw [A5 (n:=3) inferInstance,hM1l]
 have hq1:([t]:List Rat).length≤n+1-i:=by simp;omega
 have hz1:(0+i)*3+([t]:List Rat).length*3≤(Al (nmD J) M0).length:=by rw [hM0b];simp;omega
 try refine Aj ?_
 refine An (by kernel_rfl) ?_
 repeat (first
  | refine GE (k:=40) (off:=0) (len:=n+1) (cap:=cap) (a:=i) (h:=n+1) (by omega) (by omega) (by omega) (.some rfl rfl) .none (hl:=?_)
  | refine RU (k:=40) (off:=0+i) (f:=nmD J) (la:= [t]) ⟨_,rfl⟩ hq1 Nat.one_pos hz1 (hl:=?_)
  | refine Aq (hl:=?_)
  | refine Ai (hl:=?_)
  | refine AJ (hl:=?_)
  | refine Cy (hl:=?_)
  | refine AR (hl:=?_)
  | refine AO (hl:=?_)
  | refine AN (hl:=?_)
  | refine AP (hl:=?_)
  | refine AB (hl:=?_)
  | refine DB hA (hc:=OLD) (hl:=?_))
 apply Ab.nil
 refine C7 (ss:= [(9,.one (.sx 40 0 (n+1) cap 3)),(0,.one (.sx 900 0 n n 3)),(1,Au (i:Nat)),(7,Au 1)]) (bs:= [(40,Al (nmD J) M1),(900,Al (nmD J) L)]) ?_ ?_
 ·rw [hM1]
  refine DP ?_ ?_ (by kernel_rfl)
  ·repeat (first|exact Ao|refine List.forall_mem_cons.2 ⟨Ent.of_eq (by kernel_rfl),?_⟩)
  ·exact List.forall_mem_cons.2 ⟨ND inferInstance (i:=i) (la:= [t]) (by rw [hM0l];simp;omega) (hm:=by rw [show i*3=(0+i)*3 by omega];kernel_rfl),List.forall_mem_cons.2 ⟨BH inferInstance,Ao⟩⟩
 have hq:n-i=min (n-i) (n+1-(i+1)):=by omega
 have hz2:(0+(i+1))*3+(n-i)*3≤(Al (nmD J) M1).length:=by rw [hM1b];omega
 have hz3:(0+i)*3+(n-i)*3≤(Al (nmD J) L).length:=by rw [hbl];omega
 repeat (first
  | refine Aj ?_|refine Ae ?_|refine Ac rfl ?_|refine Ad rfl ?_
  | ((first|refine An (by kernel_rfl) ?_|refine Az (by kernel_rfl) (by kernel_rfl) (by kernel_rfl) ?_)
     repeat (first
      | refine Aq (hl:=?_)
      | refine Ai (hl:=?_)
      | refine AJ (hl:=?_)
      | refine Cy (hl:=?_)
      | refine AR (hl:=?_)
      | refine AO (hl:=?_)
      | refine AN (hl:=?_)
      | refine AP (hl:=?_)
      | refine AB (hl:=?_)
      | refine GE (k:=40) (off:=0) (len:=n+1) (cap:=cap) (a:=i+1) (h:=n+1) (by omega) (by omega) (by omega) (.some rfl rfl) .none (hl:=?_)
      | refine GE (k:=900) (off:=0) (len:=n) (cap:=n) (a:=i) (h:=n) (by omega) (by omega) (by omega) (.some rfl rfl) .none (hl:=?_)
      | refine RT (k:=40) (k2:=900) (off:=0+(i+1)) (off2:=0+i) (q:=n-i) (os:=Al (nmD J) (L.drop i)) hq (by omega) hdl hz2 hz3 hr2 (hl:=?_))
     apply Ab.nil;try refine And.intro (by kernel_rfl) ?_)
  | refine Ag ?_|refine Ah ?_)
 have hS2:M1.take (i+1)++L.drop i++M1.drop (i+1+(L.drop i).length)=S:=by
  have h1:M0.take i=L.take i:=by rw [hM0,List.take_append_of_le_length (by simp;omega),List.take_take,Nat.min_self]
  have h2:M1=(L.take i++ [t])++M0.drop (i+ [t].length):=by rw [hM1,h1]
  have h3:(L.take i++ [t]).length=i+1:=by simp;omega
  have h4:M1.drop (i+1+(L.drop i).length)= []:=List.drop_of_length_le (by rw [hM1l,List.length_drop];omega)
  have h5:M1.take (i+1)=L.take i++ [t]:=by rw [h2,List.take_append_of_le_length (by omega),List.take_of_length_le (by omega)]
  rw [h4,h5,List.append_nil,hS,List.append_assoc]
  rfl
 refine C7 (ss:= [(6,.one (.gl 40 (n+1) 3))]) (bs:= [(40,Al (nmD J) S),(900,Al (nmD J) L)]) ?_ ?_
 ·rw [←hS2]
  refine DP ?_ ?_ (by kernel_rfl)
  ·exact List.forall_mem_cons.2 ⟨Ent.one' rfl (Aa.sxGl (by omega)),Ao⟩
  ·exact List.forall_mem_cons.2 ⟨ND inferInstance (i:=i+1) (la:=L.drop i) (by rw [hM1l,List.length_drop];omega) (hm:=by rw [show (i+1)*3=(0+(i+1))*3 by omega];kernel_rfl),List.forall_mem_cons.2 ⟨BH inferInstance,Ao⟩⟩
 refine AU (And.intro (Or.inr rfl) (Np (ResIs.tmp rfl) (Ent.of_eq rfl) ?_ ?_))
 ·exact List.forall_mem_cons.2 ⟨⟨rfl,J4,Qd⟩,Ao⟩
 ·exact List.forall_mem_cons.2 ⟨.inl (BH inferInstance),Ao⟩
theorem Mz {f:Nat→C} {cs:List C} :rdL (laid f 0 cs) 0 cs.length=cs:=List.ext_getElem? fun i=>by
 by_cases hi:i<cs.length
 ·rw [C6 _ _ _ _ hi,Xw hi]
  exact congrArg some (Dw (f:=f) (off:=0) (Xw hi))
 ·rw [List.getElem?_eq_none (by rw [DM];omega),List.getElem?_eq_none (by omega)]
theorem QS {j jt J:Nat} {l:List Rat} {t:Rat} (hj:j≤1000000) (hjt:jt≤1000000) (hne:0<l.length) (hl:l.length≤1000000)
  (HC1: ∀x,Ctr Tryz.prog Amb 138 [nm j x] (nm J x)) (HC2:Ctr Tryz.prog Amb 138 [nm jt t] (nm J t)):
  Ctr Tryz.prog Amb 70 [.one (BI j l),nm jt t] (.one (BI J (Fb t l))):=by
 have I1:=Sr (j:=j) (jt:=jt) (l:=l) (t:=t) hj hjt hl
 have E1:=UM (g:=138) (j:=j) (J:=J) (l:=l) (h:=id) hl hne HC1
 rw [List.map_id] at E1
 have hbl:0<(Al (nmD J) l).length:=EJ (n:=3) inferInstance (by decide) hne
 have hle:=Pl (t:=t) (l:=l)
 have hbS:0<(Al (nmD J) (Fb t l)).length:=EJ (n:=3) inferInstance (by decide) (by rw [FP];omega)
 by_cases ha:abv t l<l.length
 ·rw [if_pos ha] at I1
  have I2:=(Sn (J:=J) (n:=l.length) (i:=abv t l) (L:=l) (t:=t) ha hl rfl).ren (swp 900 10) (Ip 900 10) rfl
  rw [←Ji] at I2
  have hS:(Fb t l).length=l.length+1:=FP
  generalize Fb t l=S at*
  generalize abv t l=i at*
  have I3:Dd Tryz.prog Amb 141 [.one (.sx 10 0 l.length l.length 3),Au (i:Nat),.one (BI J [t])] [(10,Al (nmD J) l,Al (nmD J) l)] [(40,Al (nmD J) S)] (.one (.gl 40 (l.length+1) 3)):=by
   have hh:=I2
   simp only [List.map_cons,List.map_nil] at hh
   rw [show (Al (nmD J) l).map (E6 (swp 900 10))=Al (nmD J) l from Fl (Fs _),show (Al (nmD J) S).map (E6 (swp 900 10))=Al (nmD J) S from Fl (Fs _)] at hh
   exact hh
  have bi:=BL (k:= .i64) (decide_eq_false (show ¬((i:Nat):Int)<0 by omega))
  clear I2
  refine AK Tryz.func70 rfl rfl rfl rfl rfl rfl ?_
  intro W0 base D μ0 hA hD
  repeat (first
   | refine Aj ?_|refine Ae ?_|refine Ac rfl ?_|refine Ad rfl ?_
   | ((first|refine An (by kernel_rfl) ?_|refine Az (by kernel_rfl) (by kernel_rfl) (by kernel_rfl) ?_)
      repeat (first
       | refine Aq (hl:=?_)
       | refine Ai (hl:=?_)
       | refine AA (hl:=?_)
       | refine Ct (hl:=?_)
       | refine AJ (hl:=?_)
       | refine BV (hl:=?_)
       | refine AO (hl:=?_)
       | refine AN (hl:=?_)
       | refine AP (hl:=?_)
       | refine AB (hl:=?_)
       | refine Av (hl:=?_)
       | refine BO (hl:=?_)
       | refine DK hA [(3,nmC jt t)] I1 (hl:=?_))
      apply Ab.nil;try refine And.intro (by kernel_rfl) ?_)
   | refine Ag ?_|refine Ah ?_)
  have hSl:l.length+1=S.length:=hS.symm
  try refine Aj ?_
  refine Az (by kernel_rfl) (by kernel_rfl) (by kernel_rfl) ?_
  repeat (first
   | refine EZ hA [] E1 hbl (hl:=?_)
   | refine JW (f:=nmD J) (la:= [t]) (hl:=?_)
   | refine Aq (hl:=?_)
   | refine Ai (hl:=?_)
   | refine AA (hl:=?_)
   | refine Ct (hl:=?_)
   | refine AJ (hl:=?_)
   | refine BV (hl:=?_)
   | refine AO (hl:=?_)
   | refine AN (hl:=?_)
   | refine AP (hl:=?_)
   | refine AB (hl:=?_)
   | refine Av (hl:=?_)
   | refine BO (hl:=?_)
   | refine DB hA (hc:=OLD) (hl:=?_)
   | refine Ap hA (hc:=HC2) (hl:=?_))
  refine EZ hA [(10,Al (nmD J) l)] I3 hbS (hro:=List.forall_mem_cons.2 ⟨Mz,Ao⟩) (hb:=?_) (hl:=?_)
  ·simp only [List.all_cons,List.all_nil,Bool.and_true,Ed,Bool.and_eq_true,Nat.beq_eq,Nat.blt_eq]
   refine ⟨⟨⟨⟨⟨?_,hbl⟩,trivial⟩,?_⟩,?_⟩,?_⟩
   ·kernel_rfl
   ·kernel_rfl
   ·kernel_rfl
   ·kernel_rfl
  repeat (first
   | refine Aq (hl:=?_)
   | refine Ai (hl:=?_)
   | refine AA (hl:=?_)
   | refine Ct (hl:=?_)
   | refine AJ (hl:=?_)
   | refine BV (hl:=?_)
   | refine AO (hl:=?_)
   | refine AN (hl:=?_)
   | refine AP (hl:=?_)
   | refine AB (hl:=?_)
   | refine Av (hl:=?_)
   | refine BO (hl:=?_)
   | refine DB hA (hc:=OLD) (hl:=?_))
  apply Ab.nil
  refine And.intro (by kernel_rfl) ?_
  refine C7 (ss:= [(4,.one (.gl 40 S.length 3))]) (bs:= [(40,Al (nmD J) S)]) ?_ ?_
  ·refine DP ?_ ?_ (by kernel_rfl)
   ·exact List.forall_mem_cons.2 ⟨Ent.one' rfl (Aa.glLen hSl),Ao⟩
   ·exact List.forall_mem_cons.2 ⟨GV (os:=Al (nmD J) S) Fd (Dg (n:=3) inferInstance S) (BM _ S),Ao⟩
  refine Ek 40 hD (ss:= [(4,.one (BI J S))]) (bs:= []) ?_ ?_
  ·exact TE
  refine AU (And.intro (Or.inr rfl) ?_)
  exact Cw
 ·rw [if_neg ha] at I1
  have hS0:Fb t l=l++ [t]:=by
   rw [Ji,show abv t l=l.length by omega,List.take_length,List.drop_length]
  have I2:=(So (J:=J) (jt:=J) (n:=l.length) (L:=l) (t:=t) (Xv _) ⟨hne,hl⟩ rfl).ren (swp 900 10) (Ip 900 10) rfl
  rw [←hS0] at I2
  have hS:(Fb t l).length=l.length+1:=FP
  generalize Fb t l=S at*
  have I3:Dd Tryz.prog Amb 141 [.one (.sx 10 0 l.length l.length 3),Au (l.length:Nat),.one (BI J [t])] [(10,Al (nmD J) l,Al (nmD J) l)] [(25,Al (nmD J) S)] (.one (.gl 25 (l.length+1) 3)):=by
   have hh:=I2
   simp only [List.map_cons,List.map_nil] at hh
   rw [show (Al (nmD J) l).map (E6 (swp 900 10))=Al (nmD J) l from Fl (Fs _),show (Al (nmD J) S).map (E6 (swp 900 10))=Al (nmD J) S from Fl (Fs _)] at hh
   exact hh
  have bi:=BL (k:= .i64) (decide_eq_true (show (-1:Int)<0 by decide))
  clear I2
  have hSl:l.length+1=S.length:=hS.symm
  refine AK Tryz.func70 rfl rfl rfl rfl rfl rfl ?_
  intro W0 base D μ0 hA hD
  repeat (first
   | refine Aj ?_|refine Ae ?_|refine Ac rfl ?_|refine Ad rfl ?_
   | ((first|refine An (by kernel_rfl) ?_|refine Az (by kernel_rfl) (by kernel_rfl) (by kernel_rfl) ?_)
      repeat (first
       | refine Aq (hl:=?_)
       | refine Ai (hl:=?_)
       | refine AA (hl:=?_)
       | refine Ct (hl:=?_)
       | refine AJ (hl:=?_)
       | refine BV (hl:=?_)
       | refine AO (hl:=?_)
       | refine AN (hl:=?_)
       | refine AP (hl:=?_)
       | refine AB (hl:=?_)
       | refine Av (hl:=?_)
       | refine BO (hl:=?_)
       | refine DK hA [(3,nmC jt t)] I1 (hl:=?_))
      apply Ab.nil;try refine And.intro (by kernel_rfl) ?_)
   | refine Ag ?_|refine Ah ?_)
  try refine Aj ?_
  refine Az (by kernel_rfl) (by kernel_rfl) (by kernel_rfl) ?_
  repeat (first
   | refine EZ hA [] E1 hbl (hl:=?_)
   | refine JW (f:=nmD J) (la:= [t]) (hl:=?_)
   | refine Aq (hl:=?_)
   | refine Ai (hl:=?_)
   | refine AA (hl:=?_)
   | refine Ct (hl:=?_)
   | refine AJ (hl:=?_)
   | refine BV (hl:=?_)
   | refine AO (hl:=?_)
   | refine AN (hl:=?_)
   | refine AP (hl:=?_)
   | refine AB (hl:=?_)
   | refine Av (hl:=?_)
   | refine BO (hl:=?_)
   | refine DB hA (hc:=OLD) (hl:=?_)
   | refine Ap hA (hc:=HC2) (hl:=?_))
  refine EZ hA [(10,Al (nmD J) l)] I3 hbS (hro:=List.forall_mem_cons.2 ⟨Mz,Ao⟩) (hb:=?_) (hl:=?_)
  ·simp only [List.all_cons,List.all_nil,Bool.and_true,Ed,Bool.and_eq_true,Nat.beq_eq,Nat.blt_eq]
   refine ⟨⟨⟨⟨⟨?_,hbl⟩,trivial⟩,?_⟩,?_⟩,?_⟩
   ·kernel_rfl
   ·kernel_rfl
   ·kernel_rfl
   ·kernel_rfl
  repeat (first
   | refine Aq (hl:=?_)
   | refine Ai (hl:=?_)
   | refine AA (hl:=?_)
   | refine Ct (hl:=?_)
   | refine AJ (hl:=?_)
   | refine BV (hl:=?_)
   | refine AO (hl:=?_)
   | refine AN (hl:=?_)
   | refine AP (hl:=?_)
   | refine AB (hl:=?_)
   | refine Av (hl:=?_)
   | refine BO (hl:=?_)
   | refine DB hA (hc:=OLD) (hl:=?_))
  apply Ab.nil
  refine And.intro (by kernel_rfl) ?_
  refine C7 (ss:= [(4,.one (.gl 25 S.length 3))]) (bs:= [(25,Al (nmD J) S)]) ?_ ?_
  ·refine DP ?_ ?_ (by kernel_rfl)
   ·exact List.forall_mem_cons.2 ⟨Ent.one' rfl (Aa.glLen hSl),Ao⟩
   ·exact List.forall_mem_cons.2 ⟨GV (os:=Al (nmD J) S) Fd (Dg (n:=3) inferInstance S) (BM _ S),Ao⟩
  refine Ek 25 hD (ss:= [(4,.one (BI J S))]) (bs:= []) ?_ ?_
  ·exact TE
  refine AU (And.intro (Or.inr rfl) ?_)
  exact Cw
instance fun_clone32:Fun Tryz.prog 204:=⟨by kernel_rfl⟩
theorem Kv {v:Value} {xs:List Nat} {w:World} (h:Rd w v xs) (hl:xs.length≤1000000000):
  Calls Tryz.prog 204 #[v] w fun e w'=> ∃r,e= .returned r∧Kp w w'∧Rd w' r xs:=by
 obtain ⟨i0,hi,hz0,hz1,hz2⟩:=info_parts BQ
 obtain ⟨ao,cap,rfl,h1,h2,hx,hs⟩:=h
 have q22: ∀(w:World) (a:Option Addr) (n c n' c':Nat),(binOp .eql 32 (.slice a n c) (.slice none n' c')).run Tryz.prog w= .ok (.bool a.isNone) w:=fun w a n c n' c'=>Lib.run_eql_slice_nil w _ _ a n c n' c' AZ
 cases ao with
 | none=>
   obtain rfl:xs= []:=by
    cases xs with
    | nil=>rfl
    | cons a b=>obtain ⟨b,off,h,_⟩:=hs (by simp);cases h
   go_enter Tryz.func204,Tryz.ntmps204
   go_wp2
   go_ret
   exact ⟨_,rfl,Below.refl _ _,Om _⟩
 | some a=>
   have hnews:Src (w.alloc (Obj.cells #[] 31)) (some a) (cellsOf xs):=(hs.kp (Kp.alloc w _)).news
   have hlen:(cellsOf xs).length=xs.length*1:=by rw [CY,Nat.mul_one]
   have HX:=Xu hx
   have HN:=Xu hnews
   have HL:=Xu hlen
   clear hs hx hnews hlen
   go_enter Tryz.func204,Tryz.ntmps204
   go_wp2_with (at_builtin;refine AF _ rfl _ _ 32 rfl w.heap.size 31 i0 (.int .u32 0) 1 4 AZ hi hz0 hz1 hz2 rfl (by decide) (.slice (some ⟨w.heap.size,0,none⟩) 0 0) 0 [] rfl (World.ownsRow_made w #[] 0 (Xv _) (Nat.zero_le _) rfl) (some a) xs.length cap (cellsOf xs) rfl HL.out HN.out (A6 _) (by unfold maxLen;omega) (by omega) (by simp) ?_;intro v' w1 hown hg _)
   simp only [List.nil_append,Nat.zero_add] at hown
   have hr:=Rd.owned hown HX.out
   go_wp2
   go_ret
   exact ⟨_,rfl,(Kp.alloc w _).grown hg (by simp) (by intro j hj;simp [Value.ownBlock] at hj;omega),hr⟩
theorem Sw {j:Nat} {x:Rat} (hj:j≤1000000000):Ctr Tryz.prog Amb 204 [.one (.q x j 1)] (.one (.q x j 1)):=
 P7 fun W0 μ sz w u ht hu=>by
  have hu':Rd w u (toL x.num.natAbs)∧(toL x.num.natAbs).length≤j:=hu
  exact (Kv hu'.1 (by omega)).mono fun e w' ⟨r,k1,k2,k3⟩=>⟨r,k1,k2,(show Rd w' r (toL x.num.natAbs)∧(toL x.num.natAbs).length≤j from ⟨k3,hu'.2⟩)⟩
theorem Sv {j:Nat} {x:Rat} (hj:j≤1000000000):Ctr Tryz.prog Amb 204 [.one (.q x j 2)] (.one (.q x j 2)):=
 P7 fun W0 μ sz w u ht hu=>by
  have hu':Rd w u (toL (Gw x))∧(toL (Gw x)).length≤j:=hu
  exact (Kv hu'.1 (by omega)).mono fun e w' ⟨r,k1,k2,k3⟩=>⟨r,k1,k2,(show Rd w' r (toL (Gw x))∧(toL (Gw x)).length≤j from ⟨k3,hu'.2⟩)⟩
theorem PB {j J:Nat} {x:Rat} (hj:j≤J) (hJ:J≤1000000000):Ctr Tryz.prog Amb 138 [nm j x] (nm J x):=by
 have C1:=Sw (j:=j) (x:=x) (by omega)
 have C2:=Sv (j:=j) (x:=x) (by omega)
 refine AK Tryz.func138 rfl rfl rfl rfl rfl rfl ?_
 intro W0 base D μ0 hA hD
 repeat (first
  | refine Aj ?_|refine Ae ?_|refine Ac rfl ?_|refine Ad rfl ?_
  | ((first|refine An (by kernel_rfl) ?_|refine Az (by kernel_rfl) (by kernel_rfl) (by kernel_rfl) ?_)
     repeat (first
      | refine AA (hl:=?_)
      | refine Dk (hl:=?_)
      | refine Ay (hl:=?_)
      | refine Ct (hl:=?_)
      | refine AG (hl:=?_)
      | refine DQ (hl:=?_)
      | refine DR (hl:=?_)
      | refine Ap hA (hc:=C1) (hl:=?_)
      | refine Ap hA (hc:=C2) (hl:=?_))
     apply Ab.nil;try refine And.intro (by kernel_rfl) ?_)
  | refine Ag ?_|refine Ah ?_)
 refine AU (And.intro (Or.inr rfl) ?_)
 exact Cw
theorem QT {j jt J:Nat} {l:List Rat} {t:Rat} (hj:j≤J) (hjt:jt≤J) (hJ:J≤1000000) (hne:0<l.length) (hl:l.length≤1000000):
  Ctr Tryz.prog Amb 70 [.one (BI j l),nm jt t] (.one (BI J (Fb t l))):=
 QS (by omega) (by omega) hne hl (fun x=>PB hj (by omega)) (PB hjt (by omega))
end Go.Proofs.YtfineedhebhpaaaGreatDoor
