/-
  Several texts in one: Nw, Nx, Ny, Nz.
-/
import Derived.Test.YtkmalkcgkcpcmaaGreatDoorIb
import Derived.Test.YtkmalkcgkcpcmaaGreatDoorIc
namespace Go.Proofs.YtkmalkcgkcpcmaaGreatDoor
open List renaming getElem?_eq_getElem→Yi
open Nat renaming le_refl→Yh
open Go.RowKit
set_option linter.unusedVariables false
set_option linter.unusedSimpArgs false
set_option maxRecDepth 20000
set_option maxHeartbeats 4000000
set_option maxHeartbeats 1000000
section
variable {P:Program} {X:Ctx} {ops l:List Oper} {σ:St} {K:List Eff→St→Prop} {s:Nat→AV} {z:Nat→Nat}
variable {dst:Option Tmp} {ty:TypeId} {pos:String} {af:Array Edge} {gd:Option (Nat×Bool)}
theorem GW (w:World) (t tx ty e:TypeId) (i:TypeInfo) (ht:P.underlying t=some (.slice e)) (hi:P.info? e=some i) (b off dLen dCap:Nat) (x:Value) (n:Nat) (news:List Value) (hs:Go.Src P i.size tx x n news w) (hle:n≤dLen)
  (hc: ∀j,j<news.length→(w.cell? ⟨b,off+j,none⟩).isSome=true) (hf: ∀j,j<news.length→w.frozen? ⟨b,off+j,none⟩=false):
  (Builtin.copy_ #[t,tx] ty #[.slice (some ⟨b,off,none⟩) dLen dCap,x]).run P w= .ok (goInt n) (w.setCells b off news):=by
 have hst:=run_storeCells_cells (P:=P) b off news 0 w (by simpa using hc) (by simpa using hf) hs.one
 simp only [Nat.add_zero] at hst
 have hm:Nat.min n dLen=n:=Nat.min_eq_left hle
 simp [Builtin.copy_,run_underlying ht,sizeOf,typeInfo,hi,hs.len,hm,hs.cells,hst]
theorem SM {t tx e:TypeId} {x y:Operand} {agg:Bool} {n bytes:Nat} {zv:Value} [S:Sle P t e agg n bytes zv] {k len:Nat} {ds:List D} (hd: ∀t,dst=some t→t<X.n) (hux: ∃e,P.underlying tx=some (.slice e))
  (hx:evC s x= .one (.gl k len n)) (hy:evC s y= .one (.ls n len ds)) (hp:0<len) (hz:len*n≤z k):
  Sim P X ⟨dst,.call ⟨.builtin .copy,#[x,y],#[t,tx]⟩,ty,pos,af,gd⟩ s z ⟨.one (.v (.int .i64 len)),[],[(k,0,ds.map toC)],[]⟩:=by
 refine Sim.of0 fun W=>?_
 replace hd: ∀t,dst=some t→t<(X.at W).n:=hd
 generalize X.at W=X at hd⊢
 intro σ hs hsz _ _ a w hc K Q hK
 obtain ⟨μ,hc⟩:=hc
 have hn:=S.pos
 have hpn:=Nat.mul_pos hp hn
 obtain ⟨inf,hi,hzr,hsize,hbye⟩:=S.info
 obtain ⟨ex,hux⟩:=hux
 have h1:=hc.ev x
 replace h1:=CE (o:=⟨dst,.call ⟨.builtin .copy,#[x,y],#[t,tx]⟩,ty,pos,af,gd⟩) hs (by simp [Op.operands,Call.operands]) h1
 rw [hx] at h1
 have h2:=hc.ev y
 replace h2:=CE (o:=⟨dst,.call ⟨.builtin .copy,#[x,y],#[t,tx]⟩,ty,pos,af,gd⟩) hs (by simp [Op.operands,Call.operands]) h2
 rw [hy] at h2
 replace h2:cc X.W0 μ σ.sz w (a.eval y) (.ls n len ds):=h2
 obtain ⟨vn,s2,a2,n2,hln⟩:=IJ (P:=P) hc hux hn h2 (Srcs.ls (σ:=σ))
 have hnl: ∀c∈ds.map toC,nl c:=fun c hcm=>by
  obtain ⟨i,hi1,hi2⟩:=List.getElem_of_mem hcm
  have hi3:i<vn.length:=by rw [a2.1];exact hi1
  have h3:=a2.2 i _ _ (Yi hi3) (Yi hi1)
  rw [hi2] at h3
  obtain ⟨d,_,rfl⟩:=List.mem_map.1 hcm
  exact Wi (Ij.1 h3) (n2 _ (List.getElem_mem hi3))
 obtain ⟨ao,c1,e1,hlc,hc0,hne⟩:=h1
 obtain ⟨rfl,hcap,hk⟩:=hne (Nat.pos_iff_ne_zero.1 hp)
 have hzk:σ.sz k=z k:=by rcases hsz k (by omega) with h|h;exact absurd h hk;exact h
 have hvn:vn.length=len*n:=a2.1.trans hln
 obtain ⟨vs,hvl,hr,hth,hv⟩:=hc.slice (k:=k) (off:=0) (n:=len*n) hk (by omega)
 have hrun:=GW (P:=P) w t tx ty e inf S.hu hi (μ k).1 0 len c1 (a.eval y) len vn (by rw [hsize];exact s2) (Yh _) (fun j hj=>(hth j (by omega)).1) (fun j hj=>(hth j (by omega)).2)
 have hrun2:(execOp a.eval ⟨dst,.call ⟨.builtin .copy,#[x,y],#[t,tx]⟩,ty,pos,af,gd⟩).run P w= .ok (.value (goInt len)) (w.setCells (μ k).1 0 vn):=by
  simp [execOp,resolve,invoke,builtin,e1,hrun]
 unfold Oper.wp
 rw [hrun2]
 refine hK _ _ ⟨μ,?_⟩
 exact Cg (hc.store (off:=0) hk a2 hnl) (d:=dst) hd (v:=goInt len) (av:= .one (.v (.int .i64 len))) rfl
theorem WA {α:Type} {f:α→List D} {la:List α} {t tx e:TypeId} {x y:Operand} {agg:Bool} {n bytes:Nat} {zv:Value} [S:Sle P t e agg n bytes zv] {k:Nat} (hux: ∃e,P.underlying tx=some (.slice e)) (hp:0<la.length) (hz:la.length*n≤σ.sz k)
  (hg:gOk ops σ.s gd:=by first|exact trivial|exact rfl) (hd:dB X.n dst=true:=by exact rfl) (hx:evC σ.s x= .one (.gl k la.length n):=by exact rfl) (hy:evC σ.s y= .one (lsG n f la):=by exact rfl)
  (hl:Ag P X ops l (σ.app dst ⟨.one (.v (.int .i64 la.length)),[],[(k,0,AE f la)],[]⟩) (fun es σ'=>K (⟨.one (.v (.int .i64 la.length)),[],[(k,0,AE f la)],[]⟩::es) σ')):Ag P X ops (⟨dst,.call ⟨.builtin .copy,#[x,y],#[t,tx]⟩,ty,pos,af,gd⟩::l) σ K:=
 .of (fun _ _ hl=>Run.step hg (SM (CX hd) hux hx hy hp hz) (fun p hp=>by cases hp) B8 hl) hl
theorem VY {α:Type} {f:α→List D} {n:Nat} (hf:Elm n f) {σ:St} {ks:List Nat} {k:Nat} {l:List α} {cs:List C} {g:Nat→C} (he:EntL cs (AE f l)) (hz:σ.sz k=(AE f l).length) (hm:σ.m k=laid g 0 cs:=by exact rfl):DX σ ks (k,AE f l):=by
 refine ⟨⟨hz,fun o d hd=>⟨?_,Ea hf _ d (List.mem_of_getElem? hd)⟩⟩,DP ks _⟩
 have hq:o<cs.length:=by rw [he.len];exact (List.getElem?_eq_some_iff.1 hd).1
 show Aa (σ.m k o) d
 rw [hm]
 have:=Dy (f:=g) (off:=0) (Yi hq)
 rw [Nat.zero_add] at this
 rw [this]
 exact he.get o _ d (Yi hq) hd
theorem KO {j J:Nat} (h:j≤J): ∀l:List Rat,EntL (AE (nmD j) l) (AE (nmD J) l)
 | []=> .nil
 | x::l=>by
   rw [AE,AE,List.flatMap_cons,List.flatMap_cons,List.map_append,List.map_append]
   exact Iy (.cons (Aa.q rfl h) (.cons (Aa.q rfl h) (.cons (Aa.q rfl h) .nil))) (KO h l)
end
set_option maxHeartbeats 300000
def plI (near:List Rat) (p s:Nat) (t:Rat) (w:List Rat):Nat→List Rat
 | 0=>w
 | j+1=>(plI near p s t w j).set j ((plI near p s t w j).getD j 0+((plI near p s t w j).getD (j+1) 0-(plI near p s t w j).getD j 0)*((t-near.getD (s+j) 0)/(near.getD (p+j) 0-near.getD (s+j) 0)))
def plO (near:List Rat) (p:Nat) (args c:List Rat):Nat→List Rat
 | 0=>c
 | s+1=>plI near p s (args.getD s 0) (plO near p args c s) (p-s)
theorem Ge {near:List Rat} {p s:Nat} {t:Rat} {w:List Rat} : ∀ {j:Nat},(plI near p s t w j).length=w.length
 | 0=>rfl
 | j+1=>by
   unfold plI
   rw [List.length_set]
   exact Ge
theorem Fp {near:List Rat} {p:Nat} {args c:List Rat} : ∀ {s:Nat},(plO near p args c s).length=c.length
 | 0=>rfl
 | s+1=>by
   unfold plO
   rw [Ge]
   exact Fp
theorem P5 {jn jc jt J p:Nat} {near c args:List Rat} (h1:jn≤1000000) (h2:jc≤J) (h3:jt≤1000000) (hJ:J≤1000000) (hp:1≤p∧p≤6) (hn:near.length=2*p) (hc:c.length=p+1) (ha:args.length=p)
  (hd: ∀s j,s<p→j<p-s→near.getD (p+j) 0-near.getD (s+j) 0≠0)
  (hz: ∀s j,s<p→j≤p-s→ ∀r∈plI near p s (args.getD s 0) (plO near p args c s) j,RSz J r):
  Ctr Tryz.prog Amb 88 [.one (Ax jn near),.one (Ax jc c),.one (Ax jt args)] (nm J ((plO near p args c p).getD 0 0)):=by
 obtain ⟨R,hR⟩: ∃R,R=plO near p args c p:=⟨_,rfl⟩
 rw [←hR]
 refine As Tryz.func88 rfl rfl rfl rfl rfl rfl ?_
 intro W0 base D μ0 hA hD
 repeat (first
  | refine Ah ?_|refine Ad ?_|refine Ab rfl ?_|refine Ac rfl ?_
  | ((first|refine Al (by kernel_rfl) ?_|refine Aq (by kernel_rfl) (by kernel_rfl) (by kernel_rfl) ?_)
     repeat (first
      | refine An (hl:=?_)
      | refine Ai (hl:=?_)
      | refine Az (hl:=?_)
      | refine Ao (hl:=?_)
      | refine At (hl:=?_)
      | refine AC (hl:=?_)
      | refine Ak (hl:=?_)
      | refine AJ (hl:=?_)
      | refine AI (hl:=?_)
      | refine AK (hl:=?_)
      | refine AH (hl:=?_)
      | refine Ar (hl:=?_)
      | refine Si (cap:=c.length) (by omega) (by omega) (by omega) (hl:=?_))
     apply Ag.nil;try refine And.intro (by kernel_rfl) ?_)
  | refine Ae ?_|refine Af ?_)
 refine BW (ss:= [(0,.one (Ax jn near)),(1,.one (Ax jc c)),(2,.one (Ax jt args)),(6,.one (.ptr 6 0)),(7,Aj (args.length:Nat)),(8,.one (.gl 17 c.length 3))]) (bs:= [(17,AE (nmD J) (List.replicate c.length 0)),(6,nmC 2 0)]) ?_ ?_
 ·refine D3 ?_ ?_ rfl
  ·repeat (first|exact AR|(refine List.forall_mem_cons.2 ⟨?_,?_⟩;focus (first|exact Ent.of_eq rfl|(refine Ent.one' rfl ?_;(first|exact Aa.ratsLe (by omega)|exact Aa.ratsNil|exact Aa.glNil|(refine Aa.int ?_;omega)|(refine Aa.glLen ?_;first|omega|simp)|exact Aa.of_eq rfl|(refine Aa.q rfl ?_;omega)|exact Z0 _|exact Z2 _|exact Aa.z0 (k:=0)|exact Aa.z1 (k:=0)|exact Aa.z2 (k:=0)|exact Aa.z0|exact Aa.z1|exact Aa.z2))|(refine Ent.agg' rfl ?_;(repeat (first|exact EntL.nil' rfl|(refine EntL.cons' rfl ?_ ?_;focus (first|exact Aa.ratsLe (by omega)|exact Aa.ratsNil|exact Aa.glNil|(refine Aa.int ?_;omega)|(refine Aa.glLen ?_;first|omega|simp)|exact Aa.of_eq rfl|(refine Aa.q rfl ?_;omega)|exact Z0 _|exact Z2 _|exact Aa.z0 (k:=0)|exact Aa.z1 (k:=0)|exact Aa.z2 (k:=0)|exact Aa.z0|exact Aa.z1|exact Aa.z2))));done))))
  ·repeat (first|exact AR|(refine List.forall_mem_cons.2 ⟨?_,?_⟩;focus (first|exact C6 inferInstance|(refine La inferInstance ?_;(repeat (first|exact EntL.nil' rfl|(refine EntL.cons' rfl ?_ ?_;focus (first|exact Aa.ratsLe (by omega)|exact Aa.ratsNil|exact Aa.glNil|(refine Aa.int ?_;omega)|(refine Aa.glLen ?_;first|omega|simp)|exact Aa.of_eq rfl|(refine Aa.q rfl ?_;omega)|exact Z0 _|exact Z2 _|exact Aa.z0 (k:=0)|exact Aa.z1 (k:=0)|exact Aa.z2 (k:=0)|exact Aa.z0|exact Aa.z1|exact Aa.z2))));done)|(refine Dk rfl ?_ rfl;focus ((repeat (first|exact EntL.nil' rfl|(refine EntL.cons' rfl ?_ ?_;focus (first|exact Aa.ratsLe (by omega)|exact Aa.ratsNil|exact Aa.glNil|(refine Aa.int ?_;omega)|(refine Aa.glLen ?_;first|omega|simp)|exact Aa.of_eq rfl|(refine Aa.q rfl ?_;omega)|exact Z0 _|exact Z2 _|exact Aa.z0 (k:=0)|exact Aa.z1 (k:=0)|exact Aa.z2 (k:=0)|exact Aa.z0|exact Aa.z1|exact Aa.z2))));done)))))
 have hlz:(AE (nmD J) (List.replicate c.length (0:Rat))).length=c.length*3:=by rw [BF (n:=3) inferInstance,List.length_replicate]
 have stc:c.length*3≤(AE (nmD J) (List.replicate c.length (0:Rat))).length:=by omega
 repeat (first
  | refine Ah ?_|refine Ad ?_|refine Ab rfl ?_|refine Ac rfl ?_
  | ((first|refine Al (by kernel_rfl) ?_|refine Aq (by kernel_rfl) (by kernel_rfl) (by kernel_rfl) ?_)
     repeat (first
      | refine An (hl:=?_)
      | refine Ai (hl:=?_)
      | refine Az (hl:=?_)
      | refine Ao (hl:=?_)
      | refine At (hl:=?_)
      | refine AC (hl:=?_)
      | refine Ak (hl:=?_)
      | refine AJ (hl:=?_)
      | refine AI (hl:=?_)
      | refine AK (hl:=?_)
      | refine AH (hl:=?_)
      | refine Ar (hl:=?_)
      | refine WA (f:=nmD jc) (la:=c) (k:=17) ⟨_,rfl⟩ (by omega) stc (hl:=?_))
     apply Ag.nil;try refine And.intro (by kernel_rfl) ?_)
  | refine Ae ?_|refine Af ?_)
 refine Cq (fun m σ=> ∃s:Nat,m=p-s∧s≤p∧Wk ⟨W0,base,D,73,[],μ0⟩ σ [(0,.one (Ax jn near)),(6,.one (.ptr 6 0)),(7,Aj (p:Nat)),(8,.one (.gl 17 (p+1) 3)),(21,.one (Ax jt args)),(22,Aj (p:Nat)),(23,Aj (s:Nat))] [(17,AE (nmD J) (plO near p args c s)),(6,nmC 2 0)]) (n:=p) ⟨0,rfl,Nat.zero_le _,?_⟩ ?_
 ·rw [←ha,show args.length+1=c.length by omega]
  refine D3 ?_ ?_ rfl
  ·repeat (first|exact AR|(refine List.forall_mem_cons.2 ⟨?_,?_⟩;focus (first|exact Ent.of_eq rfl|(refine Ent.one' rfl ?_;(first|exact Aa.ratsLe (by omega)|exact Aa.ratsNil|exact Aa.glNil|(refine Aa.int ?_;omega)|(refine Aa.glLen ?_;first|omega|simp)|exact Aa.of_eq rfl|(refine Aa.q rfl ?_;omega)|exact Z0 _|exact Z2 _|exact Aa.z0 (k:=0)|exact Aa.z1 (k:=0)|exact Aa.z2 (k:=0)|exact Aa.z0|exact Aa.z1|exact Aa.z2))|(refine Ent.agg' rfl ?_;(repeat (first|exact EntL.nil' rfl|(refine EntL.cons' rfl ?_ ?_;focus (first|exact Aa.ratsLe (by omega)|exact Aa.ratsNil|exact Aa.glNil|(refine Aa.int ?_;omega)|(refine Aa.glLen ?_;first|omega|simp)|exact Aa.of_eq rfl|(refine Aa.q rfl ?_;omega)|exact Z0 _|exact Z2 _|exact Aa.z0 (k:=0)|exact Aa.z1 (k:=0)|exact Aa.z2 (k:=0)|exact Aa.z0|exact Aa.z1|exact Aa.z2))));done))))
  ·repeat (first|exact AR|(refine List.forall_mem_cons.2 ⟨?_,?_⟩;focus (first|exact C6 inferInstance|(exact VY inferInstance (KO h2 c) (by rw [BF (n:=3) inferInstance];exact hlz))|(refine Dk rfl ?_ rfl;focus ((repeat (first|exact EntL.nil' rfl|(refine EntL.cons' rfl ?_ ?_;focus (first|exact Aa.ratsLe (by omega)|exact Aa.ratsNil|exact Aa.glNil|(refine Aa.int ?_;omega)|(refine Aa.glLen ?_;first|omega|simp)|exact Aa.of_eq rfl|(refine Aa.q rfl ?_;omega)|exact Z0 _|exact Z2 _|exact Aa.z0 (k:=0)|exact Aa.z1 (k:=0)|exact Aa.z2 (k:=0)|exact Aa.z0|exact Aa.z1|exact Aa.z2))));done)))))
 intro m σ hI
 obtain ⟨s,hm,hs0,hw⟩:=hI
 refine BW hw ?_
 clear hw
 by_cases hs:s<p
 ·have bi:=BO (k:= .i64) (decide_eq_true (show (s:Int)<(p:Int) by omega))
  have b1:=BB (k:= .i64) (show (IntKind.i64).wrap ((p:Int)-(s:Int))=((p-s:Nat):Int) by rw [show ((p:Int)-(s:Int))=((p-s:Nat):Int) by omega];exact IntWalk.i64_in _ (by omega))
  obtain ⟨t,ht,ht'⟩:=BC (l:=args) (i:=s) (by omega)
  repeat (first
   | refine Ah ?_|refine Ad ?_|refine Ab rfl ?_|refine Ac rfl ?_
   | ((first|refine Al (by kernel_rfl) ?_|refine Aq (by kernel_rfl) (by kernel_rfl) (by kernel_rfl) ?_)
      repeat (first
       | refine An (hl:=?_)
       | refine Ai (hl:=?_)
       | refine Az (hl:=?_)
       | refine Ao (hl:=?_)
       | refine At (hl:=?_)
       | refine AC (hl:=?_)
       | refine Ak (hl:=?_)
       | refine AJ (hl:=?_)
       | refine AI (hl:=?_)
       | refine AK (hl:=?_)
       | refine AH (hl:=?_)
       | refine Ar (hl:=?_)
       | refine C9 ht (by omega) (hl:=?_))
      apply Ag.nil;try refine And.intro (by kernel_rfl) ?_)
   | refine Ae ?_|refine Af ?_)
  obtain ⟨w0,hw0⟩: ∃w0,w0=plO near p args c s:=⟨_,rfl⟩
  have hta:args.getD s 0=t:=by rw [List.getD_eq_getElem?_getD,ht'];rfl
  have hw0l:w0.length=p+1:=by rw [hw0,Fp,hc]
  have hz': ∀j,j≤p-s→ ∀r∈plI near p s t w0 j,RSz J r:=fun j hj=>by rw [hw0,←hta];exact hz s j hs hj
  have hnext:plO near p args c (s+1)=plI near p s t w0 (p-s):=by rw [hw0,←hta];rfl
  rw [←hw0]
  refine Cq (fun q σ=> ∃j:Nat,q=p-s-j∧j≤p-s∧Wk ⟨W0,base,D,73,[],μ0⟩ σ [(0,.one (Ax jn near)),(6,.one (.ptr 6 0)),(7,Aj (p:Nat)),(8,.one (.gl 17 (p+1) 3)),(21,.one (Ax jt args)),(22,Aj (p:Nat)),(23,Aj (s:Nat)),(9,Aj (s:Nat)),(10,.one (.ptr 10 0)),(30,Aj ((p-s:Nat))),(31,Aj (j:Nat))] [(17,AE (nmD J) (plI near p s t w0 j)),(6,nmC 2 0),(10,nmC jt t)]) (n:=p-s) ⟨0,rfl,Nat.zero_le _,?_⟩ ?_
  ·refine D3 ?_ ?_ rfl
   ·repeat (first|exact AR|(refine List.forall_mem_cons.2 ⟨?_,?_⟩;focus (first|exact Ent.of_eq rfl|(refine Ent.one' rfl ?_;(first|exact Aa.ratsLe (by omega)|exact Aa.ratsNil|exact Aa.glNil|(refine Aa.int ?_;omega)|(refine Aa.glLen ?_;first|omega|simp)|exact Aa.of_eq rfl|(refine Aa.q rfl ?_;omega)|exact Z0 _|exact Z2 _|exact Aa.z0 (k:=0)|exact Aa.z1 (k:=0)|exact Aa.z2 (k:=0)|exact Aa.z0|exact Aa.z1|exact Aa.z2))|(refine Ent.agg' rfl ?_;(repeat (first|exact EntL.nil' rfl|(refine EntL.cons' rfl ?_ ?_;focus (first|exact Aa.ratsLe (by omega)|exact Aa.ratsNil|exact Aa.glNil|(refine Aa.int ?_;omega)|(refine Aa.glLen ?_;first|omega|simp)|exact Aa.of_eq rfl|(refine Aa.q rfl ?_;omega)|exact Z0 _|exact Z2 _|exact Aa.z0 (k:=0)|exact Aa.z1 (k:=0)|exact Aa.z2 (k:=0)|exact Aa.z0|exact Aa.z1|exact Aa.z2))));done))))
   ·repeat (first|exact AR|(refine List.forall_mem_cons.2 ⟨?_,?_⟩;focus (first|exact C6 inferInstance|(refine Dk rfl ?_ rfl;focus ((repeat (first|exact EntL.nil' rfl|(refine EntL.cons' rfl ?_ ?_;focus (first|exact Aa.ratsLe (by omega)|exact Aa.ratsNil|exact Aa.glNil|(refine Aa.int ?_;omega)|(refine Aa.glLen ?_;first|omega|simp)|exact Aa.of_eq rfl|(refine Aa.q rfl ?_;omega)|exact Z0 _|exact Z2 _|exact Aa.z0 (k:=0)|exact Aa.z1 (k:=0)|exact Aa.z2 (k:=0)|exact Aa.z0|exact Aa.z1|exact Aa.z2))));done)))))
  intro q σ hI
  obtain ⟨j,hq,hj0,hw⟩:=hI
  refine BW hw ?_
  clear hw
  obtain ⟨w,hww⟩: ∃w,w=plI near p s t w0 j:=⟨_,rfl⟩
  have hwl:w.length=p+1:=by rw [hww,Ge,hw0l]
  by_cases hj:j<p-s
  ·have bj:=BO (k:= .i64) (decide_eq_true (show (j:Int)<((p-s:Nat):Int) by omega))
   have hjn:=AZ (k:= .i64) (show (IntKind.i64).wrap ((j:Int)+1)=((j+1:Nat):Int) from IntWalk.i64_in _ (by omega))
   have hj1:=hjn
   have a1:=AZ (k:= .i64) (show (IntKind.i64).wrap ((s:Int)+(j:Int))=((s+j:Nat):Int) from IntWalk.i64_in _ (by omega))
   have a2:=AZ (k:= .i64) (show (IntKind.i64).wrap ((p:Int)+(j:Int))=((p+j:Nat):Int) from IntWalk.i64_in _ (by omega))
   obtain ⟨x,hx,hx'⟩:=BC (l:=w) (i:=j) (by omega)
   obtain ⟨y,hy,hy'⟩:=BC (l:=w) (i:=j+1) (by omega)
   obtain ⟨u,hu,hu'⟩:=BC (l:=near) (i:=s+j) (by omega)
   obtain ⟨v,hv,hv'⟩:=BC (l:=near) (i:=p+j) (by omega)
   have hne:=hd s j hs hj
   have hset:plI near p s t w0 (j+1)=w.set j (x+(y-x)*((t-u)/(v-u))):=by
    unfold plI
    rw [←hww,AS hx',AS hy',AS hu',AS hv']
   rw [AS hu',AS hv'] at hne
   have hzr:RSz J (x+(y-x)*((t-u)/(v-u))):=hz' (j+1) (by omega) _ (by rw [hset];exact List.mem_set (by omega) _)
   rw [←hww]
   have lt1:(0:Int)≤((j:Nat):Int)∧((j:Nat):Int)<(p+1:Nat):=by omega
   have lt2:(0:Int)≤((j+1:Nat):Int)∧((j+1:Nat):Int)<(p+1:Nat):=by omega
   have hbl:(AE (nmD J) w).length=(p+1)*3:=by rw [BF (n:=3) inferInstance,hwl]
   have st1:((j:Nat):Int).toNat*3+3≤(AE (nmD J) w).length:=by rw [hbl,Int.toNat_natCast];omega
   have st2:((j+1:Nat):Int).toNat*3+3≤(AE (nmD J) w).length:=by rw [hbl,Int.toNat_natCast];omega
   have ld1:=ED (f:=nmD J) (n:=3) inferInstance hx
   have ld2:=ED (f:=nmD J) (n:=3) inferInstance hy
   have S1:=Qy (j:=J) (k:=J) (x:=y) (y:=x) (by omega) (by omega)
   have H1:=P4 (j:=jn) (k:=jn) (m:=jt) (lo:=u) (hi:=v) (t:=t) (by omega) (by omega) (by omega) hne
   have M1:=Wr (j:=J+J+3) (k:=jt+jn+3+(jn+jn+3)+2) (x:=y-x) (y:=(t-u)/(v-u)) (by omega) (by omega)
   have A1:=Ws (j:=J) (k:=J+J+3+(jt+jn+3+(jn+jn+3)+2)+2) (x:=x) (y:=(y-x)*((t-u)/(v-u))) (by omega) (by omega)
   generalize y-x=d at S1 M1 A1 hset hzr
   generalize (t-u)/(v-u)=h at H1 M1 A1 hset hzr
   generalize d*h=e at M1 A1 hset hzr
   generalize x+e=r at A1 hset hzr
   clear hne hz hz' hd
   clear hjn
   repeat (first
    | refine Ah ?_|refine Ad ?_|refine Ab rfl ?_|refine Ac rfl ?_
    | ((first|refine Al (by kernel_rfl) ?_|refine Aq (by kernel_rfl) (by kernel_rfl) (by kernel_rfl) ?_)
       repeat (first
        | refine DL (k:=17) st1 ld1 (hl:=?_)
        | refine DL (k:=17) st2 ld2 (hl:=?_)
        | refine An (hl:=?_)
        | refine Ai (hl:=?_)
        | refine Az (hl:=?_)
        | refine Ao (hl:=?_)
        | refine At (hl:=?_)
        | refine AC (hl:=?_)
        | refine Ak (hl:=?_)
        | refine AJ (hl:=?_)
        | refine AI (hl:=?_)
        | refine AK (hl:=?_)
        | refine AH (hl:=?_)
        | refine Ar (hl:=?_)
        | refine Ek lt1 (hl:=?_)
        | refine Ek lt2 (hl:=?_)
        | refine Ap hA (hc:=S1) (hl:=?_))
       apply Ag.nil;try refine And.intro (by kernel_rfl) ?_)
    | refine Ae ?_|refine Af ?_)
   refine BW (ss:= [(0,.one (Ax jn near)),(6,.one (.ptr 6 0)),(7,Aj (p:Nat)),(8,.one (.gl 17 (p+1) 3)),(21,.one (Ax jt args)),(22,Aj (p:Nat)),(23,Aj (s:Nat)),(9,Aj (s:Nat)),(10,.one (.ptr 10 0)),(30,Aj ((p-s:Nat))),(31,Aj (j:Nat)),(11,Aj (j:Nat)),(12,.one (.ptr 12 0))]) (bs:= [(17,AE (nmD J) w),(6,nmC 2 0),(10,nmC jt t),(12,nmC (J+J+3) d)]) ?_ ?_
   ·refine D3 ?_ ?_ rfl
    ·repeat (first|exact AR|(refine List.forall_mem_cons.2 ⟨?_,?_⟩;focus (first|exact Ent.of_eq rfl|(refine Ent.one' rfl ?_;(first|exact Aa.ratsLe (by omega)|exact Aa.ratsNil|exact Aa.glNil|(refine Aa.int ?_;omega)|(refine Aa.glLen ?_;first|omega|simp)|exact Aa.of_eq rfl|(refine Aa.q rfl ?_;omega)|exact Z0 _|exact Z2 _|exact Aa.z0 (k:=0)|exact Aa.z1 (k:=0)|exact Aa.z2 (k:=0)|exact Aa.z0|exact Aa.z1|exact Aa.z2))|(refine Ent.agg' rfl ?_;(repeat (first|exact EntL.nil' rfl|(refine EntL.cons' rfl ?_ ?_;focus (first|exact Aa.ratsLe (by omega)|exact Aa.ratsNil|exact Aa.glNil|(refine Aa.int ?_;omega)|(refine Aa.glLen ?_;first|omega|simp)|exact Aa.of_eq rfl|(refine Aa.q rfl ?_;omega)|exact Z0 _|exact Z2 _|exact Aa.z0 (k:=0)|exact Aa.z1 (k:=0)|exact Aa.z2 (k:=0)|exact Aa.z0|exact Aa.z1|exact Aa.z2))));done))))
    ·repeat (first|exact AR|(refine List.forall_mem_cons.2 ⟨?_,?_⟩;focus (first|exact C6 inferInstance|(refine Dk rfl ?_ rfl;focus ((repeat (first|exact EntL.nil' rfl|(refine EntL.cons' rfl ?_ ?_;focus (first|exact Aa.ratsLe (by omega)|exact Aa.ratsNil|exact Aa.glNil|(refine Aa.int ?_;omega)|(refine Aa.glLen ?_;first|omega|simp)|exact Aa.of_eq rfl|(refine Aa.q rfl ?_;omega)|exact Z0 _|exact Z2 _|exact Aa.z0 (k:=0)|exact Aa.z1 (k:=0)|exact Aa.z2 (k:=0)|exact Aa.z0|exact Aa.z1|exact Aa.z2))));done)))))
   repeat (first
    | refine Ah ?_|refine Ad ?_|refine Ab rfl ?_|refine Ac rfl ?_
    | ((first|refine Al (by kernel_rfl) ?_|refine Aq (by kernel_rfl) (by kernel_rfl) (by kernel_rfl) ?_)
       repeat (first
        | refine GP (k:=17) st1 (hl:=?_)
        | refine DL (k:=17) st1 ld1 (hl:=?_)
        | refine An (hl:=?_)
        | refine Ai (hl:=?_)
        | refine Az (hl:=?_)
        | refine Ao (hl:=?_)
        | refine At (hl:=?_)
        | refine AC (hl:=?_)
        | refine Ak (hl:=?_)
        | refine AJ (hl:=?_)
        | refine AI (hl:=?_)
        | refine AK (hl:=?_)
        | refine AH (hl:=?_)
        | refine Ar (hl:=?_)
        | refine C9 hu (by omega) (hl:=?_)
        | refine C9 hv (by omega) (hl:=?_)
        | refine Ek lt1 (hl:=?_)
        | refine Ap hA (hc:=H1) (hl:=?_)
        | refine Ap hA (hc:=M1) (hl:=?_)
        | refine Ap hA (hc:=A1) (hl:=?_))
       apply Ag.nil;try refine And.intro (by kernel_rfl) ?_)
    | refine Ae ?_|refine Af ?_)
   refine ⟨q-1,by omega,j+1,by omega,by omega,?_⟩
   rw [hset]
   refine D3 ?_ ?_ (by kernel_rfl)
   ·repeat (first|exact AR|refine List.forall_mem_cons.2 ⟨Ent.of_eq (by kernel_rfl),?_⟩)
   ·refine List.forall_mem_cons.2 ⟨Hg inferInstance (i:=j) (show j<w.length by omega) (cs:=nmC (J+(J+J+3+(jt+jn+3+(jn+jn+3)+2)+2)+3) r) (.cons (Aa.qe rfl hzr) (.cons (Aa.qe rfl hzr) (.cons (Aa.qe rfl hzr) .nil))) (hz:=by exact rfl) (hm:=by kernel_rfl),?_⟩
    repeat (first|exact AR|refine List.forall_mem_cons.2 ⟨Dk (by kernel_rfl) (EntL.of_eq (by kernel_rfl)) (by kernel_rfl),?_⟩)
  ·have hje:j=p-s:=by omega
   have bj:=BO (k:= .i64) (decide_eq_false (show ¬(j:Int)<((p-s:Nat):Int) by omega))
   have hsn:=AZ (k:= .i64) (show (IntKind.i64).wrap ((s:Int)+1)=((s+1:Nat):Int) from IntWalk.i64_in _ (by omega))
   rw [←hww]
   repeat (first
    | refine Ah ?_|refine Ad ?_|refine Ab rfl ?_|refine Ac rfl ?_
    | ((first|refine Al (by kernel_rfl) ?_|refine Aq (by kernel_rfl) (by kernel_rfl) (by kernel_rfl) ?_)
       repeat (first
        | refine An (hl:=?_)
        | refine Ai (hl:=?_)
        | refine Az (hl:=?_)
        | refine Ao (hl:=?_)
        | refine At (hl:=?_)
        | refine AC (hl:=?_)
        | refine Ak (hl:=?_)
        | refine AJ (hl:=?_)
        | refine AI (hl:=?_)
        | refine AK (hl:=?_)
        | refine AH (hl:=?_)
        | refine Ar (hl:=?_))
       apply Ag.nil;try refine And.intro (by kernel_rfl) ?_)
    | refine Ae ?_|refine Af ?_)
   refine ⟨m-1,by omega,s+1,by omega,by omega,?_⟩
   rw [hnext,←hje,←hww]
   refine D3 ?_ ?_ rfl
   ·repeat (first|exact AR|(refine List.forall_mem_cons.2 ⟨?_,?_⟩;focus (first|exact Ent.of_eq rfl|(refine Ent.one' rfl ?_;(first|exact Aa.ratsLe (by omega)|exact Aa.ratsNil|exact Aa.glNil|(refine Aa.int ?_;omega)|(refine Aa.glLen ?_;first|omega|simp)|exact Aa.of_eq rfl|(refine Aa.q rfl ?_;omega)|exact Z0 _|exact Z2 _|exact Aa.z0 (k:=0)|exact Aa.z1 (k:=0)|exact Aa.z2 (k:=0)|exact Aa.z0|exact Aa.z1|exact Aa.z2))|(refine Ent.agg' rfl ?_;(repeat (first|exact EntL.nil' rfl|(refine EntL.cons' rfl ?_ ?_;focus (first|exact Aa.ratsLe (by omega)|exact Aa.ratsNil|exact Aa.glNil|(refine Aa.int ?_;omega)|(refine Aa.glLen ?_;first|omega|simp)|exact Aa.of_eq rfl|(refine Aa.q rfl ?_;omega)|exact Z0 _|exact Z2 _|exact Aa.z0 (k:=0)|exact Aa.z1 (k:=0)|exact Aa.z2 (k:=0)|exact Aa.z0|exact Aa.z1|exact Aa.z2))));done))))
   ·repeat (first|exact AR|(refine List.forall_mem_cons.2 ⟨?_,?_⟩;focus (first|exact C6 inferInstance|(refine Dk rfl ?_ rfl;focus ((repeat (first|exact EntL.nil' rfl|(refine EntL.cons' rfl ?_ ?_;focus (first|exact Aa.ratsLe (by omega)|exact Aa.ratsNil|exact Aa.glNil|(refine Aa.int ?_;omega)|(refine Aa.glLen ?_;first|omega|simp)|exact Aa.of_eq rfl|(refine Aa.q rfl ?_;omega)|exact Z0 _|exact Z2 _|exact Aa.z0 (k:=0)|exact Aa.z1 (k:=0)|exact Aa.z2 (k:=0)|exact Aa.z0|exact Aa.z1|exact Aa.z2))));done)))))
 ·obtain rfl:s=p:=by omega
  have bi:=BO (k:= .i64) (decide_eq_false (show ¬(s:Int)<(s:Int) by omega))
  rw [←hR]
  have hRl:R.length=s+1:=by rw [hR,Fp,hc]
  obtain ⟨x,hx,hx'⟩:=BC (l:=R) (i:=0) (by omega)
  rw [AS hx']
  have lt1:(0:Int)≤0∧(0:Int)<(s+1:Nat):=by omega
  have st1:(0:Int).toNat*3+3≤(AE (nmD J) R).length:=by rw [BF (n:=3) inferInstance,hRl];simp;omega
  have ld1:=ED (f:=nmD J) (n:=3) inferInstance hx
  repeat (first
   | refine Ah ?_|refine Ad ?_|refine Ab rfl ?_|refine Ac rfl ?_
   | ((first|refine Al (by kernel_rfl) ?_|refine Aq (by kernel_rfl) (by kernel_rfl) (by kernel_rfl) ?_)
      repeat (first
       | refine DL (k:=17) st1 ld1 (hl:=?_)
       | refine An (hl:=?_)
       | refine Ai (hl:=?_)
       | refine Az (hl:=?_)
       | refine Ao (hl:=?_)
       | refine At (hl:=?_)
       | refine AC (hl:=?_)
       | refine Ak (hl:=?_)
       | refine AJ (hl:=?_)
       | refine AI (hl:=?_)
       | refine AK (hl:=?_)
       | refine AH (hl:=?_)
       | refine Ar (hl:=?_)
       | refine Ek lt1 (hl:=?_))
      apply Ag.nil;try refine And.intro (by kernel_rfl) ?_)
   | refine Ae ?_|refine Af ?_)
  refine AG (And.intro (Or.inr rfl) ?_)
  exact B7
set_option maxHeartbeats 1000000
theorem DU {P:Program} {r1 r2 r3:ResultVar} {R a b c:AV} {σ:St} (h1:ResIs P σ r1 a:=by first|exact ResIs.tmp rfl|exact ResIs.cell inferInstance rfl rfl rfl rfl) (h2:ResIs P σ r2 b:=by first|exact ResIs.tmp rfl|exact ResIs.cell inferInstance rfl rfl rfl rfl) (h3:ResIs P σ r3 c:=by first|exact ResIs.tmp rfl|exact ResIs.cell inferInstance rfl rfl rfl rfl) (ha:([a,b,c].all fun a=>match a with | .tup _=>false|_=>true)=true:=by exact rfl) (hE:Ent (.tup [a,b,c]) R:=by exact Ent.of_eq rfl):Fin P [r1,r2,r3] [] R σ:=
 ⟨⟨[a,b,c],.cons h1 (.cons h2 (.cons h3 .nil)),.inr ha,hE⟩,fun p hp=>by cases hp⟩
theorem XC {j jt p i:Nat} {l:List Rat} {t:Rat} (hj:j≤1000000) (hjt:jt≤1000000) (hl:l.length≤1000000) (hp:1≤p∧p≤6) (hi:p≤i) (hi2:i+p+1<l.length) (hlt:l.getD i 0<l.getD (i+1) 0) (hI:ivR l t= [Aj (i:Nat),Aj 0]):
  Ctr Tryz.prog Amb 84 [.one (Ax j l),Aj (p:Nat),nm jt t] (.tup [Aj (i:Nat),.one (Ax j (Dw l p i)),Aj 0]):=by
 have I1:=I9 (l:=l) (j:=j) (jt:=jt) (t:=t) (p:=(p:Nat)) hl (by omega) hj hjt
 rw [hI] at I1
 have A1:=MJ (j:=j) (p:=p) (i:=i) (l:=l) hj hl hp hi hi2 hlt
 refine As Tryz.func84 rfl rfl rfl rfl rfl rfl ?_
 intro W0 base D μ0 hA hD
 repeat (first|refine Ah ?_|refine Ad ?_|refine Ab rfl ?_|refine Ac rfl ?_|refine AT ?_|refine AU ?_|refine Ae ?_|refine Af ?_)
 refine AG (And.intro (Or.inr rfl) ?_)
 exact DU
theorem Oy {j jc jt J p i:Nat} {l c args:List Rat} (hj:j≤1000000) (hjc:jc≤J) (hjt:jt≤1000000) (hJ:J≤1000000) (hl:l.length≤1000000) (hp:1≤p∧p≤6) (hi:p≤i) (hi2:i+p+1<l.length) (hlt:l.getD i 0<l.getD (i+1) 0) (hc:c.length=l.length-p-1) (ha:args.length=p)
  (hd: ∀s j,s<p→j<p-s→(Dw l p i).getD (p+j) 0-(Dw l p i).getD (s+j) 0≠0)
  (hz: ∀s j,s<p→j≤p-s→ ∀r∈plI (Dw l p i) p s (args.getD s 0) (plO (Dw l p i) p args ((c.take (i+1)).drop (i-p)) s) j,RSz J r):
  Ctr Tryz.prog Amb 42 [.one (Ax j l),Aj (p:Nat),.one (Ax jc c),Aj (i:Nat),.one (Ax jt args)] (.tup [nm J ((plO (Dw l p i) p args ((c.take (i+1)).drop (i-p)) p).getD 0 0),Aj 0]):=by
 have A1:=MJ (j:=j) (p:=p) (i:=i) (l:=l) hj hl hp hi hi2 hlt
 have hcl:((c.take (i+1)).drop (i-p)).length=p+1:=by rw [List.length_drop,List.length_take];omega
 have hnl:(Dw l p i).length=2*p:=by unfold Dw;rw [List.length_drop,List.length_take];omega
 have P1:=P5 (jn:=j) (jc:=jc) (jt:=jt) (J:=J) (p:=p) hj hjc hjt hJ hp hnl hcl ha hd hz
 have Q1:=EB (j:=j) (p:=p) hl (by omega)
 have n1:=CI (k:= .i64) (decide_eq_false (show ¬((c.length:Nat):Int)≠((l.length-p-1:Nat):Int) by omega))
 have n2:=CI (k:= .i64) (decide_eq_false (show ¬((args.length:Nat):Int)≠((p:Nat):Int) by omega))
 have b1:=BB (k:= .i64) (show (IntKind.i64).wrap ((i:Int)-(p:Int))=((i-p:Nat):Int) by rw [show ((i:Int)-(p:Int))=((i-p:Nat):Int) by omega];exact IntWalk.i64_in _ (by omega))
 have b2:=AZ (k:= .i64) (show (IntKind.i64).wrap ((i:Int)+1)=((i+1:Nat):Int) from IntWalk.i64_in _ (by omega))
 refine As Tryz.func42 rfl rfl rfl rfl rfl rfl ?_
 intro W0 base D μ0 hA hD
 repeat (first|refine Ah ?_|refine Ad ?_|refine Ab rfl ?_|refine Ac rfl ?_|refine AT ?_|refine AU ?_|refine Ae ?_|refine Af ?_)
 refine AG (And.intro (Or.inr rfl) ?_)
 exact CW
theorem Ox {j jc jt p:Nat} {i:Int} {l c args:List Rat} (hl:l.length≤1000000) (hp:p+1≤l.length) (h:c.length≠l.length-p-1∨args.length≠p):
  Ctr Tryz.prog Amb 42 [.one (Ax j l),Aj (p:Nat),.one (Ax jc c),Aj i,.one (Ax jt args)] (.tup [nm 2 0,Aj 1]):=by
 have Q1:=EB (j:=j) (p:=p) hl (by omega)
 by_cases h1:c.length=l.length-p-1
 ·have n1:=CI (k:= .i64) (decide_eq_false (show ¬((c.length:Nat):Int)≠((l.length-p-1:Nat):Int) by omega))
  have n2:=CI (k:= .i64) (decide_eq_true (show ((args.length:Nat):Int)≠((p:Nat):Int) by omega))
  refine As Tryz.func42 rfl rfl rfl rfl rfl rfl ?_
  intro W0 base D μ0 hA hD
  repeat (first|refine Ah ?_|refine Ad ?_|refine Ab rfl ?_|refine Ac rfl ?_|refine AT ?_|refine AU ?_|refine Ae ?_|refine Af ?_)
  refine AG (And.intro (Or.inr rfl) ?_)
  exact CW
 ·have n1:=CI (k:= .i64) (decide_eq_true (show ((c.length:Nat):Int)≠((l.length-p-1:Nat):Int) by omega))
  refine As Tryz.func42 rfl rfl rfl rfl rfl rfl ?_
  intro W0 base D μ0 hA hD
  repeat (first|refine Ah ?_|refine Ad ?_|refine Ab rfl ?_|refine Ac rfl ?_|refine AT ?_|refine AU ?_|refine Ae ?_|refine Af ?_)
  refine AG (And.intro (Or.inr rfl) ?_)
  exact CW
theorem Rc {j p:Nat} {i:Int} {l:List Rat} (hj:j≤1000000) (hl:l.length≤1000000) (hp:1≤p∧p≤6) (hlp:p+1≤l.length) (h:i<p∨(l.length-p-1:Nat)≤i∨ ¬l.getD i.toNat 0<l.getD (i.toNat+1) 0):
  Ctr Tryz.prog Amb 90 [.one (Ax j l),Aj (p:Nat),Aj i] (.tup [.one (Ax 0 []),Aj 7]):=by
 have p1:=BO (k:= .i64) (decide_eq_false (show ¬((p:Nat):Int)<1 by omega))
 have p2:=D4 (k:= .i64) (decide_eq_false (show ¬((p:Nat):Int)>6 by omega))
 have P1:=EB (j:=j) (p:=p) hl (by omega)
 by_cases h1:i<p
 ·have b1:=BO (k:= .i64) (decide_eq_true (show i<((p:Nat):Int) by omega))
  refine As Tryz.func90 rfl rfl rfl rfl rfl rfl ?_
  intro W0 base D μ0 hA hD
  repeat (first|refine Ah ?_|refine Ad ?_|refine Ab rfl ?_|refine Ac rfl ?_|refine AT ?_|refine AU ?_|refine Ae ?_|refine Af ?_)
  refine AG (And.intro (Or.inr rfl) ?_)
  exact CW (hE:=(Ent.tup rfl (EntT.cons (Ent.one' rfl Aa.ratsNil) rfl rfl (EntT.cons (Ent.of_eq rfl) rfl rfl EntT.nil))))
 have b1:=BO (k:= .i64) (decide_eq_false (show ¬i<((p:Nat):Int) by omega))
 by_cases h2:((l.length-p-1:Nat):Int)≤i
 ·have b2:=FE (k:= .i64) (decide_eq_true (show i≥((l.length-p-1:Nat):Int) by omega))
  refine As Tryz.func90 rfl rfl rfl rfl rfl rfl ?_
  intro W0 base D μ0 hA hD
  repeat (first|refine Ah ?_|refine Ad ?_|refine Ab rfl ?_|refine Ac rfl ?_|refine AT ?_|refine AU ?_|refine Ae ?_|refine Af ?_)
  refine AG (And.intro (Or.inr rfl) ?_)
  exact CW (hE:=(Ent.tup rfl (EntT.cons (Ent.one' rfl Aa.ratsNil) rfl rfl (EntT.cons (Ent.of_eq rfl) rfl rfl EntT.nil))))
 have b2:=FE (k:= .i64) (decide_eq_false (show ¬i≥((l.length-p-1:Nat):Int) by omega))
 obtain ⟨i,rfl⟩: ∃q:Nat,i=(q:Int):=⟨i.toNat,by omega⟩
 have h3: ¬l.getD i 0<l.getD (i+1) 0:=by
  rcases h with h|h|h
  ·omega
  ·omega
  ·exact h
 have hin:=AZ (k:= .i64) (show (IntKind.i64).wrap ((i:Int)+1)=((i+1:Nat):Int) from IntWalk.i64_in _ (by omega))
 obtain ⟨x,hx,hx'⟩:=BC (l:=l) (i:=i) (by omega)
 obtain ⟨y,hy,hy'⟩:=BC (l:=l) (i:=i+1) (by omega)
 rw [AS hx',AS hy'] at h3
 have C1:=Qz (j:=j) (k:=j) (x:=x) (y:=y) (by omega) (by omega)
 have b3:=FE (k:= .i64) (decide_eq_true (show C4 x y≥0 from Fy.2 h3))
 refine As Tryz.func90 rfl rfl rfl rfl rfl rfl ?_
 intro W0 base D μ0 hA hD
 repeat (first|refine Ah ?_|refine Ad ?_|refine Ab rfl ?_|refine Ac rfl ?_|refine AT ?_|refine AU ?_|refine Ae ?_|refine Af ?_)
 refine AG (And.intro (Or.inr rfl) ?_)
 exact CW (hE:=(Ent.tup rfl (EntT.cons (Ent.one' rfl Aa.ratsNil) rfl rfl (EntT.cons (Ent.of_eq rfl) rfl rfl EntT.nil))))
theorem Ow {j jc jt p:Nat} {i:Int} {l c args:List Rat} (hj:j≤1000000) (hl:l.length≤1000000) (hp:1≤p∧p≤6) (hlp:p+1≤l.length) (hc:c.length=l.length-p-1) (ha:args.length=p) (h:i<p∨(l.length-p-1:Nat)≤i∨ ¬l.getD i.toNat 0<l.getD (i.toNat+1) 0):
  Ctr Tryz.prog Amb 42 [.one (Ax j l),Aj (p:Nat),.one (Ax jc c),Aj i,.one (Ax jt args)] (.tup [nm 2 0,Aj 7]):=by
 have A1:=Rc (j:=j) (p:=p) (i:=i) (l:=l) hj hl hp hlp h
 have Q1:=EB (j:=j) (p:=p) hl (by omega)
 have n1:=CI (k:= .i64) (decide_eq_false (show ¬((c.length:Nat):Int)≠((l.length-p-1:Nat):Int) by omega))
 have n2:=CI (k:= .i64) (decide_eq_false (show ¬((args.length:Nat):Int)≠((p:Nat):Int) by omega))
 refine As Tryz.func42 rfl rfl rfl rfl rfl rfl ?_
 intro W0 base D μ0 hA hD
 repeat (first|refine Ah ?_|refine Ad ?_|refine Ab rfl ?_|refine Ac rfl ?_|refine AT ?_|refine AU ?_|refine Ae ?_|refine Af ?_)
 refine AG (And.intro (Or.inr rfl) ?_)
 exact CW
theorem We {j jt p:Nat} {l:List Rat} {t:Rat} (hj:j≤1000000) (hjt:jt≤1000000) (hl:l.length≤1000000) (hne:0<l.length) (hI:ivR l t= [Aj 0,Aj 7]):
  Ctr Tryz.prog Amb 84 [.one (Ax j l),Aj (p:Nat),nm jt t] (.tup [Aj 0,.one (Ax 0 []),Aj 7]):=by
 have I1:=I9 (l:=l) (j:=j) (jt:=jt) (t:=t) (p:=(p:Nat)) hl hne hj hjt
 rw [hI] at I1
 refine As Tryz.func84 rfl rfl rfl rfl rfl rfl ?_
 intro W0 base D μ0 hA hD
 repeat (first|refine Ah ?_|refine Ad ?_|refine Ab rfl ?_|refine Ac rfl ?_|refine AT ?_|refine AU ?_|refine Ae ?_|refine Af ?_)
 refine AG (And.intro (Or.inr rfl) ?_)
 exact DU (hE:=Ent.tup rfl (EntT.cons (Ent.of_eq rfl) rfl rfl (EntT.cons (Ent.one' rfl Aa.ratsNil) rfl rfl (EntT.cons (Ent.of_eq rfl) rfl rfl EntT.nil))))
end Go.Proofs.YtkmalkcgkcpcmaaGreatDoor
