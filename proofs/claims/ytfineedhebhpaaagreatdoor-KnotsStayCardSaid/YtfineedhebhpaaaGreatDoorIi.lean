/-
  Several texts in one: Zea, Zeb, Zec, Zed, Zeg.
-/
import Derived.Test.YtfineedhebhpaaaGreatDoorIc
import Derived.Test.YtfineedhebhpaaaGreatDoorIb
import Derived.Test.YtfineedhebhpaaaGreatDoorHy
import Derived.Test.YtfineedhebhpaaaGreatDoorHn
import Derived.Test.YtfineedhebhpaaaGreatDoorIg
import Derived.Test.YtfineedhebhpaaaGreatDoorIe
namespace Go.Proofs.YtfineedhebhpaaaGreatDoor
open Nat renaming le_refl→Xv
open List renaming getElem?_eq_getElem→Xw
open Go.RowKit
set_option linter.unusedVariables false
set_option linter.unusedSimpArgs false
set_option maxRecDepth 20000
set_option maxHeartbeats 4000000
def Fb (t:Rat):List Rat→List Rat
 | []=> [t]
 | x::l=>if t<x then t::x::l else x::Fb t l
theorem FP {t:Rat} : ∀ {l:List Rat},(Fb t l).length=l.length+1
 | []=>rfl
 | x::l=>by
   unfold Fb
   split
   ·rfl
   ·rw [List.length_cons,FP,List.length_cons]
def abv (t:Rat):List Rat→Nat
 | []=>0
 | x::l=>if t<x then 0 else abv t l+1
theorem Pl {t:Rat} : ∀ {l:List Rat},abv t l≤l.length
 | []=>Xv _
 | x::l=>by
   have:=Pl (t:=t) (l:=l)
   unfold abv
   rw [List.length_cons]
   split<;>omega
theorem Ji {t:Rat} : ∀ {l:List Rat},Fb t l=l.take (abv t l)++t::l.drop (abv t l)
 | []=>rfl
 | x::l=>by
   unfold Fb abv
   split
   ·rfl
   ·rw [Ji,List.take_succ_cons,List.drop_succ_cons];rfl
theorem UP {j jt:Nat} {x t:Rat} (h1:j≤1000000) (h2:jt≤1000000):
  B9 Tryz.prog Amb 140 [nm j x,.one (.ptr 901 0)] [(901,nmC jt t,nmC jt t)] (.one (.v (.bool (decide (t<x))))):=by
 have C1:=NC (j:=j) (k:=jt) (x:=x) (y:=t) (by omega) (by omega)
 have bc:FA .gtr .i64 (Cm x t) 0=some (.bool (decide (t<x))):=DY (k:= .i64) (by rw [decide_eq_decide];exact LI)
 apply AK Tryz.func140 rfl rfl rfl rfl rfl
 case hin=>simp [inA,inC]
 intro W0 base D μ0 hA hD
 repeat (first|refine Aj ?_|refine Ae ?_|refine Ac rfl ?_|refine Ad rfl ?_|refine AW ?_|refine AX ?_|refine Ag ?_|refine Ah ?_)
 refine AU (And.intro (Or.inr rfl) ?_)
 exact TH (hb:=by repeat (first|exact Ao|refine List.forall_mem_cons.2 ⟨⟨rfl,rfl,rfl⟩,?_⟩))
theorem Sq {g:FuncId} [hG:Fun Tryz.prog g] {j jt:Nat} {l:List Rat} {t:Rat} (hl:l.length≤1000000)
  (H: ∀x,B9 Tryz.prog Amb g [nm j x,.one (.ptr 901 0)] [(901,nmC jt t,nmC jt t)] (.one (.v (.bool (decide (t<x)))))):
  B9 Tryz.prog Amb 139 [.one (BI j l),.one (.fn g [(901,0)])] [(901,nmC jt t,nmC jt t)] (Au (if abv t l<l.length then (abv t l:Nat) else-1)):=by
 obtain ⟨A,hA1⟩: ∃A,A=abv t l:=⟨_,rfl⟩
 have hAl:=Pl (t:=t) (l:=l)
 rw [←hA1] at hAl⊢
 apply AK Tryz.func139 rfl rfl rfl rfl rfl
 case hin=>simp [inA,inC]
 intro W0 base D μ0 hA hD
 repeat (first|refine Aj ?_|refine Ae ?_|refine Ac rfl ?_|refine Ad rfl ?_|refine AW ?_|refine AX ?_|refine Ag ?_|refine Ah ?_)
 refine Cs (fun n σ=> ∃i:Nat,n=l.length-i∧i≤l.length∧i+abv t (l.drop i)=A∧Wk ⟨W0,base,D,19,[901],μ0⟩ σ [(0,.one (BI j l)),(1,.one (.fn g [(901,0)])),(7,Au (l.length:Nat)),(8,Au (i:Nat))] [(901,nmC jt t)]) (n:=l.length) ⟨0,rfl,Nat.zero_le _,by rw [hA1,Nat.zero_add];rfl,?_⟩ ?_
 ·exact BN
 intro n σ hI
 obtain ⟨i,hn,hi0,hS,hw⟩:=hI
 refine C7 hw ?_
 clear hw
 by_cases hi:i<l.length
 ·obtain ⟨x,hx,hx'⟩:=CX hi
  have bi:=BL (k:= .i64) (decide_eq_true (show (i:Int)<(l.length:Int) by omega))
  have hin:=BD (k:= .i64) (show (IntKind.i64).wrap ((i:Int)+1)=((i+1:Nat):Int) from IntWalk.i64_in _ (by omega))
  rw [GS hx'] at hS
  unfold abv at hS
  have Hx:=H x
  by_cases htx:t<x
  ·rw [if_pos htx] at hS
   rw [decide_eq_true htx] at Hx
   obtain rfl:i=A:=by omega
   rw [if_pos hi]
   repeat (first
    | refine Aj ?_|refine Ae ?_|refine Ac rfl ?_|refine Ad rfl ?_
    | ((first|refine An (by kernel_rfl) ?_|refine Az (by kernel_rfl) (by kernel_rfl) (by kernel_rfl) ?_)
       repeat (first
        | refine Aq (hl:=?_)
        | refine Ai (hl:=?_)
        | refine AA (hl:=?_)
        | refine AJ (hl:=?_)
        | refine Ak (hl:=?_)
        | refine AO (hl:=?_)
        | refine AN (hl:=?_)
        | refine AP (hl:=?_)
        | refine AB (hl:=?_)
        | refine Av (hl:=?_)
        | refine Cz hx (by omega) (hl:=?_)
        | refine DK hA [(901,nmC jt t)] Hx (hl:=?_))
       apply Ab.nil;try refine And.intro (by kernel_rfl) ?_)
    | refine Ag ?_|refine Ah ?_)
   refine AU (And.intro (Or.inr rfl) ?_)
   exact TH (hb:=by repeat (first|exact Ao|refine List.forall_mem_cons.2 ⟨⟨rfl,rfl,rfl⟩,?_⟩))
  ·rw [if_neg htx] at hS
   rw [decide_eq_false htx] at Hx
   repeat (first
    | refine Aj ?_|refine Ae ?_|refine Ac rfl ?_|refine Ad rfl ?_
    | ((first|refine An (by kernel_rfl) ?_|refine Az (by kernel_rfl) (by kernel_rfl) (by kernel_rfl) ?_)
       repeat (first
        | refine Aq (hl:=?_)
        | refine Ai (hl:=?_)
        | refine AA (hl:=?_)
        | refine AJ (hl:=?_)
        | refine Ak (hl:=?_)
        | refine AO (hl:=?_)
        | refine AN (hl:=?_)
        | refine AP (hl:=?_)
        | refine AB (hl:=?_)
        | refine Av (hl:=?_)
        | refine Cz hx (by omega) (hl:=?_)
        | refine DK hA [(901,nmC jt t)] Hx (hl:=?_))
       apply Ab.nil;try refine And.intro (by kernel_rfl) ?_)
    | refine Ag ?_|refine Ah ?_)
   refine ⟨n-1,by omega,i+1,by omega,by omega,by omega,?_⟩
   exact BN
 ·have bi:=BL (k:= .i64) (decide_eq_false (show ¬(i:Int)<(l.length:Int) by omega))
  rw [List.drop_eq_nil_of_le (by omega)] at hS
  have hA9:A=l.length:=by
   have:i+0=A:=hS
   omega
  rw [if_neg (by omega)]
  repeat (first
   | refine Aj ?_|refine Ae ?_|refine Ac rfl ?_|refine Ad rfl ?_
   | ((first|refine An (by kernel_rfl) ?_|refine Az (by kernel_rfl) (by kernel_rfl) (by kernel_rfl) ?_)
      repeat (first
       | refine Aq (hl:=?_)
       | refine Ai (hl:=?_)
       | refine AA (hl:=?_)
       | refine AJ (hl:=?_)
       | refine Ak (hl:=?_)
       | refine AO (hl:=?_)
       | refine AN (hl:=?_)
       | refine AP (hl:=?_)
       | refine AB (hl:=?_)
       | refine Av (hl:=?_))
      apply Ab.nil;try refine And.intro (by kernel_rfl) ?_)
   | refine Ag ?_|refine Ah ?_)
  refine AU (And.intro (Or.inr rfl) ?_)
  exact TH (hb:=by repeat (first|exact Ao|refine List.forall_mem_cons.2 ⟨⟨rfl,rfl,rfl⟩,?_⟩))
theorem Sr {j jt:Nat} {l:List Rat} {t:Rat} (hj:j≤1000000) (hjt:jt≤1000000) (hl:l.length≤1000000):
  B9 Tryz.prog Amb 139 [.one (BI j l),.one (.fn 140 [(3,0)])] [(3,nmC jt t,nmC jt t)] (Au (if abv t l<l.length then (abv t l:Nat) else-1)):=
 (Sq hl fun x=>UP hj hjt).ren (fun k=>if k=901 then 3 else k) (by simp) rfl rfl
theorem Fy {P:Program} {w:World} (t tx ty e:TypeId) (i:TypeInfo) (z:Value) {kn:IntKind} (ht:P.underlying t=some (.slice e)) (htx:P.underlying tx=some (.int kn)) (hi:P.info? e=some i) (hz:i.zero=some z) (base:Option Addr) (sLen sCap:Nat) (olds:List Value)
  (hold:(Builtin.firstCells i.size sLen (.slice base sLen sCap)).run P w.drew= .ok olds.toArray w.drew) (n:Nat) (hn0:0<n*i.size) (hs:i.size=z.cells.size)
  (hg:sCap<sLen+n) (h63:((sLen+n:Nat):Int)≤9223372036854775807) (hnb:n*i.bytes≤281474976710656) (hfit:Builtin.nextslicecap (sLen+n) sCap*i.bytes≤281474976710656):
  (Builtin.append_ #[t,tx] ty #[.slice base sLen sCap,.int .i64 n]).run P w=
   .ok (.slice (some ⟨w.heap.size,0,none⟩) (sLen+n) (grownCap w (sLen+n) sCap e))
    (w.drew.alloc (.cells ((olds++(madeCells z.cells (n*i.size)).toList).toArray++Builtin.zeroCells z.cells (grownCap w (sLen+n) sCap e-(sLen+n))) e)):=by
 have hw:IntKind.i64.wrap (n:Int)=n:=by rw [IntKind.wrap_i64];omega
 have hn: ¬(sLen+n≤sCap):=by omega
 have h63': ¬(9223372036854775807<((sLen:Int)+(n:Int))):=by omega
 have h48': ¬(281474976710656<Builtin.nextslicecap (sLen+n) sCap*i.bytes):=by omega
 have h48i: ¬(281474976710656<(n:Int)*(i.bytes:Int)):=by rw [←Int.natCast_mul];omega
 have hneg: ¬((n:Int)<0):=by omega
 have hne: ¬(n=0∨i.size=0):=fun h=>by rcases h with h|h<;>rw [h] at hn0<;>simp at hn0
 have hmc:Builtin.zeroCells z.cells n=madeCells z.cells (n*i.size):=by unfold Builtin.zeroCells madeCells;rw [hs]
 simp [Builtin.append_,run_underlying ht,run_underlying htx,sizeOf,typeInfo,zeroValue,asInt,asIntOf,hi,hz,hw,hn,h63',h48',h48i,hneg,hne,Question.forced,hold,newRow,grownCap,hmc]
 rw [if_neg (by omega),show (olds++(madeCells z.cells (n*i.size)).toList).toArray=olds.toArray++madeCells z.cells (n*i.size) by apply Array.ext';simp,Array.append_assoc]
section
variable {P:Program} {X:Ctx} {ops l:List Oper} {σ:St} {K:List Eff→St→Prop} {s:Nat→AV} {z:Nat→Nat}
variable {dst:Option Tmp} {ty:TypeId} {pos:String} {af:Array Edge} {gd:Option (Nat×Bool)}
theorem QO {t tx e:TypeId} {x y:Operand} {agg:Bool} {n bytes:Nat} {zv:Value} {kn:IntKind} [S:Sle P t e agg n bytes zv] {k off len cap m id:Nat} {os:List C} (hd: ∀t,dst=some t→t<X.n) (htx:P.underlying tx=some (.int kn))
  (hx:evC s x= .one (.sx k off len cap n)) (hy:evC s y= .one (.v (.int .i64 (m:Nat)))) (hol:os.length=len*n) (hz:off*n+len*n≤z k) (hk0:z k≠0) (hg:cap<len+m) (hm0:0<m) (hby:(len+m)*bytes≤140737488355328) (h63:len+m≤9223372036854775807):
  Sim P X ⟨dst,.call ⟨.builtin .append,#[x,y],#[t,tx]⟩,ty,pos,af,gd⟩ s z ⟨.one (.gl id (len+m) n),[(k,off*n,os)],[],[(id,os++AS m zv.cells.toList)]⟩:=by
 refine Sim.of0 fun W=>?_
 replace hd: ∀t,dst=some t→t<(X.at W).n:=hd
 generalize X.at W=X at hd⊢
 intro σ hs hsz hrd hal a w hcn K Q hK
 obtain ⟨μ,hcn⟩:=hcn
 obtain ⟨hid,hne⟩:=hal.1 _ List.mem_cons_self
 have hn:=S.pos
 have hzs:=S.size
 obtain ⟨inf,hi,hzr,hsize,hbye⟩:=S.info
 have h1:=hcn.ev x
 replace h1:=Cd (o:=⟨dst,.call ⟨.builtin .append,#[x,y],#[t,tx]⟩,ty,pos,af,gd⟩) hs (by simp [Op.operands,Call.operands]) h1
 rw [hx] at h1
 obtain ⟨e1,hlc,hmu,hk⟩:=h1
 have h2:=hcn.ev y
 replace h2:=Cd (o:=⟨dst,.call ⟨.builtin .append,#[x,y],#[t,tx]⟩,ty,pos,af,gd⟩) hs (by simp [Op.operands,Call.operands]) h2
 rw [hy] at h2
 replace h2:a.eval y= .int .i64 (m:Nat):=h2
 have hzk:σ.sz k=z k:=by rcases hsz k hk0 with h|h;exact absurd h hk;exact h
 have hm: ∀(i:Nat) c,os[i]?=some c→σ.m k (off*n+i)=c:=fun i c hi=>hrd (k,off*n,os) (by simp) i c hi
 obtain ⟨vo,hvl,hold,a1,n1,hnlo⟩: ∃vo:List Value,vo.length=len*n∧(Builtin.firstCells inf.size len (.slice (some ⟨(μ k).1,off*n,none⟩) len cap)).run P w.drew= .ok vo.toArray w.drew∧BS (cc X.W0 μ σ.sz w) vo os∧(∀u∈vo,noL u)∧ ∀c∈os,nl c:=by
  by_cases hl0:len=0
  ·subst hl0
   have ho:os= []:=List.eq_nil_of_length_eq_zero (by omega)
   subst ho
   exact ⟨[],by simp,H8 rfl _,⟨rfl,fun i v c hv hc=>by simp at hv⟩,fun u hu=>(by cases hu),fun u hu=>(by cases hu)⟩
  ·have hlp:0<len*n:=Nat.mul_pos (by omega) hn
   obtain ⟨vo,hvl,hr,_,hv⟩:=hcn.slice (k:=k) (off:=off*n) (n:=len*n) hk (by omega)
   refine ⟨vo,hvl,?_,⟨by omega,fun i v c hvi hci=>by rw [←hm i c hci];exact (hv i v hvi).1⟩,fun u hu=>?_,fun c hcm=>?_⟩
   ·refine run_firstCells_some (P:=P) (w:=w.drew) inf.size len _ len cap vo (by rw [hsize];exact hvl) fun j u hj=>?_
    rw [Addr.add_mid]
    exact hr j u hj
   ·obtain ⟨i,hi1,hi2⟩:=List.getElem_of_mem hu
    have h3:=hv i _ (Xw hi1)
    rw [hi2] at h3
    exact h3.1.noL h3.2
   ·obtain ⟨i,hi1,hi2⟩:=List.getElem_of_mem hcm
    have hi3:i<vo.length:=by omega
    have h3:=(hv i _ (Xw hi3)).2
    rwa [hm i c (by rw [Xw hi1,hi2])] at h3
 have hmn:0<m*n:=Nat.mul_pos hm0 hn
 have hbm:m*bytes≤(len+m)*bytes:=Nat.mul_le_mul_right _ (by omega)
 have hru:=Fy (P:=P) (w:=w) t tx ty e inf zv S.hu htx hi hzr (some ⟨(μ k).1,off*n,none⟩) len cap vo hold m (by rw [hsize];exact hmn) (by rw [hsize,hzs]) hg (by omega) (by rw [hbye];omega) (growslice_fits hg (by rw [hbye];exact hby))
 rw [hsize] at hru
 obtain ⟨vn,hvn⟩: ∃vn,vn=(madeCells zv.cells (m*n)).toList:=⟨_,rfl⟩
 rw [←hvn] at hru
 have a2:BS (cc X.W0 μ σ.sz w) vn (AS m zv.cells.toList):=by
  have:=DO (W0:=X.W0) (μ:=μ) (sz:=σ.sz) (w:=w) (z:=zv.cells) (by omega) m
  rwa [hzs,←hvn] at this
 have hln:(AS m zv.cells.toList).length=m*n:=by rw [CE,Array.length_toList,hzs]
 have n2: ∀u∈vn,noL u:=fun u hu=>by
  rw [hvn] at hu
  obtain ⟨i,hi1,hi2⟩:=List.getElem_of_mem hu
  exact GO S.nl (by omega) (by rw [←Array.getElem?_toList,Xw hi1,hi2])
 have hnln:=FS S.nl m
 have hrun:(execOp a.eval ⟨dst,.call ⟨.builtin .append,#[x,y],#[t,tx]⟩,ty,pos,af,gd⟩).run P w= .ok (.value (.slice (some ⟨w.heap.size,0,none⟩) (len+m) (grownCap w (len+m) cap e))) (w.drew.alloc (.cells ((vo++vn).toArray++Builtin.zeroCells zv.cells (grownCap w (len+m) cap e-(len+m))) e)):=by
  simp [execOp,resolve,invoke,builtin,e1,h2,hru]
 unfold Oper.wp
 rw [hrun]
 have hge:=grownCap_ge w (len+m) cap e
 generalize grownCap w (len+m) cap e=gc at hge
 have hkp:Kp w (w.drew.alloc (.cells ((vo++vn).toArray++Builtin.zeroCells zv.cells (gc-(len+m))) e)):=((Below.refl _ _).drew).alloc (Xv _) _
 have hall:BS (cc X.W0 μ σ.sz (w.drew.alloc (.cells ((vo++vn).toArray++Builtin.zeroCells zv.cells (gc-(len+m))) e))) (vo++vn) (os++AS m zv.cells.toList):=by
  refine (Ds a1 a2).map fun v c hc hv=>hv.mono (Kl.of_kp hkp) fun i hi=>⟨rfl,hi⟩
 obtain ⟨r1,r2,r3⟩:=He (k:=gc-(len+m)) hall (fun u hu=>by
  rcases List.mem_append.1 hu with h|h
  ·exact n1 u h
  ·exact n2 u h) S.nl S.size hn
 have hvl2:(vo++vn).length=(len+m)*n:=by rw [(Ds a1 a2).1,List.length_append,hol,hln,Nat.add_mul]
 have hol2:(os++AS m zv.cells.toList).length=(len+m)*n:=by rw [List.length_append,hol,hln,Nat.add_mul]
 have hnew:=hcn.new (id:=id) hid (g:=w.heap.size) (e:=e) (cs:=os++AS m zv.cells.toList) hkp (Xv _) (heap_alloc_new w.drew _) hne (by rw [r1,hvl2,hol2];omega) r2 r3 (fun c hc=>by
  rcases List.mem_append.1 hc with h|h
  ·exact hnlo c h
  ·exact hnln c h)
 have hlast:cv X.W0 (upd μ id (w.heap.size,((vo++vn).toArray++Builtin.zeroCells zv.cells (gc-(len+m))).size)) (upd σ.sz id (os++AS m zv.cells.toList).length) (w.drew.alloc (.cells ((vo++vn).toArray++Builtin.zeroCells zv.cells (gc-(len+m))) e)) (.slice (some ⟨w.heap.size,0,none⟩) (len+m) gc) (.one (.gl id (len+m) n)):=by
  refine ⟨_,gc,rfl,hge,fun h=>by omega,fun _=>⟨by rw [AD],?_,?_⟩⟩
  ·rw [AD,r1,hvl2,←Nat.add_mul]
   have:len+m+(gc-(len+m))=gc:=by omega
   rw [this];exact Xv _
  ·rw [AD]
   intro h0
   exact hne (List.eq_nil_of_length_eq_zero h0)
 exact hK _ _ ⟨_,BW hnew (d:=dst) hd hlast⟩
theorem Ur {d:Nat} {t tx e:TypeId} {x y:Operand} {agg:Bool} {n bytes:Nat} {zv:Value} {kn:IntKind} [S:Sle P t e agg n bytes zv] {k off len cap m:Nat} {os:List C} (htx:P.underlying tx=some (.int kn)) (hol:os.length=len*n) (hc:cap<len+m∧0<m∧(len+m)*bytes≤140737488355328∧len+m≤9223372036854775807) (hz:off*n+len*n≤σ.sz k) (hk0:σ.sz k≠0) (hm: ∀(i:Nat) c,os[i]?=some c→σ.m k (off*n+i)=c)
  (hg:gOk ops σ.s gd:=by first|exact trivial|exact rfl) (hd:dB X.n (some d)=true:=by exact rfl) (hx:evC σ.s x= .one (.sx k off len cap n):=by exact rfl) (hy:evC σ.s y= .one (.v (.int .i64 (m:Nat))):=by exact rfl) (hf:Nat.beq (σ.sz d) 0=true:=by exact rfl)
  (hl:Ab P X ops l (σ.app (some d) ⟨.one (.gl d (len+m) n),[(k,off*n,os)],[],[(d,os++AS m zv.cells.toList)]⟩) (fun es σ'=>K (⟨.one (.gl d (len+m) n),[(k,off*n,os)],[],[(d,os++AS m zv.cells.toList)]⟩::es) σ')):Ab P X ops (⟨some d,.call ⟨.builtin .append,#[x,y],#[t,tx]⟩,ty,pos,af,gd⟩::l) σ K:=
 .of (fun _ _ hl=>Run.step hg (QO (S:=S) (CH hd) htx hx hy hol hz hk0 hc.1 hc.2.1 hc.2.2.1 hc.2.2.2) (fun p hp=>by rw [List.mem_singleton.1 hp];exact hm) (DZ (Nat.eq_of_beq_eq_true hf) fun h0=>by
  have h1:(AS m zv.cells.toList).length=0:=by rw [(List.append_eq_nil_iff.1 h0).2];rfl
  rw [CE] at h1
  have:=Nat.mul_pos hc.2.1 S.pos
  have h2:=S.size
  simp [h2] at h1
  omega) hl) hl
theorem Vt {c:Code} {Q:Exit→St→Prop} {t k len n:Nat} {ss:List (Nat×AV)} {bs:List (Nat×List C)} (hl:0<len) (h: ∀cap,len≤cap→Aw P X c (stL ((t,.one (.sx k 0 len cap n))::ss) bs) Q):Aw P X c (stL ((t,.one (.gl k len n))::ss) bs) Q:=by
 intro a w hc
 obtain ⟨W,hG,μ,hcn⟩:=hc
 have e: ∀A:AV,(stL ((t,A)::ss) bs).s t=A:=fun A=>by
  show (match Nat.beq t t with|true=>A|false=>lk .junk ss t)=A
  rw [Nat.beq_refl]
 have h1:=hcn.slot t
 rw [e] at h1
 obtain ⟨ao,c1,e1,hlc,_,hne⟩:=h1
 obtain ⟨rfl,hcap,hk⟩:=hne (by omega)
 refine h c1 hlc a w ⟨W,hG,μ,⟨hcn.w0,hcn.kd,hcn.defers,hcn.size,fun u=>?_,hcn.blk,hcn.inj,hcn.own,hcn.par⟩⟩
 by_cases hu:u=t
 ·subst hu
  rw [e]
  exact ⟨by rw [Nat.zero_mul];exact e1,hlc,by rw [Nat.zero_add];exact hcap,hk⟩
 ·have h2:=hcn.slot u
  have hb:Nat.beq t u=false:=by
   cases hb:Nat.beq t u with
   | true=>exact absurd (Nat.eq_of_beq_eq_true hb).symm hu
   | false=>rfl
  have e2: ∀A:AV,(stL ((t,A)::ss) bs).s u=lk .junk ss u:=fun A=>by
   show (match Nat.beq t u with|true=>A|false=>lk .junk ss u)=_
   rw [hb]
  rw [e2] at h2⊢
  exact h2
end
theorem UM {g:FuncId} [hG:Fun Tryz.prog g] {j J:Nat} {l:List Rat} {h:Rat→Rat} (hl:l.length≤1000000) (hne:0<l.length) (H: ∀x,Ctr Tryz.prog Amb g [nm j x] (nm J (h x))):
  Dd Tryz.prog Amb 142 [.one (BI j l),.one (.fn g [])] [] [(10,Al (nmD J) (l.map h))] (.one (.sx 10 0 l.length l.length 3)):=by
 obtain ⟨N,hN⟩: ∃N,N=l.length:=⟨_,rfl⟩
 have hne':(!(Al (nmD J) (l.map h)).isEmpty)=true:=by
  have:=EJ (f:=nmD J) inferInstance (by decide) (show 0<(l.map h).length by simpa using hne)
  cases hb:Al (nmD J) (l.map h) with
  | nil=>rw [hb] at this;cases this
  | cons a b=>rfl
 refine Ei Tryz.func142 rfl rfl rfl rfl (by
  simp only [List.all_cons,List.all_nil,Bool.and_true,Bool.true_and,Bool.and_eq_true]
  first|exact ⟨⟨by simp [inA,inC],BM _ _⟩,hne'⟩|exact ⟨by simp [inA,inC],BM _ _,hne'⟩|exact ⟨by simp [inA,inC],⟨by simp [inC],BM _ _⟩,hne'⟩|exact ⟨BM _ _,hne'⟩|exact (0:Nat)) (by simp [inA,inC]) (by simp) (by simp) ?_
 intro W0 base D μ0 hA hD
 repeat (first
  | refine Aj ?_|refine Ae ?_|refine Ac rfl ?_|refine Ad rfl ?_
  | ((first|refine An (by kernel_rfl) ?_|refine Az (by kernel_rfl) (by kernel_rfl) (by kernel_rfl) ?_)
     repeat (first
      | refine Uo (cap:=l.length) hne (by omega) (by omega) (hl:=?_)
      | refine Aq (hl:=?_)
      | refine Ai (hl:=?_)
      | refine AA (hl:=?_)
      | refine Ay (hl:=?_)
      | refine AG (hl:=?_)
      | refine AJ (hl:=?_)
      | refine Ak (hl:=?_)
      | refine AO (hl:=?_)
      | refine AN (hl:=?_)
      | refine AP (hl:=?_)
      | refine AB (hl:=?_)
      | refine Av (hl:=?_))
     apply Ab.nil;try refine And.intro (by kernel_rfl) ?_)
  | refine Ag ?_|refine Ah ?_)
 refine Cs (fun n σ=> ∃(i:Nat) (cur:List Rat),n=N-i∧i≤N∧cur=(l.take i).map h++List.replicate (l.length-i) 0∧Wk ⟨W0,base,D,26,[],μ0⟩ σ [(1,.one (.fn g [])),(5,.one (.sx 10 0 l.length l.length 3)),(11,.one (BI j l)),(12,Au (l.length:Nat)),(13,Au (i:Nat))] [(10,Al (nmD J) cur)]) (n:=N) ⟨0,_,rfl,by omega,rfl,?_⟩ ?_
 ·exact BN
 intro n σ hI
 obtain ⟨i,cur,hn,hi0,hcur,hw⟩:=hI
 refine C7 hw ?_
 clear hw
 have hcl:cur.length=l.length:=by rw [hcur];simp;omega
 by_cases hi:i<l.length
 ·obtain ⟨x,hx,hx'⟩:=CX hi
  have bi:=BL (k:= .i64) (decide_eq_true (show (i:Int)<(l.length:Int) by omega))
  have hin:=BD (k:= .i64) (show (IntKind.i64).wrap ((i:Int)+1)=((i+1:Nat):Int) from IntWalk.i64_in _ (by omega))
  have hlt:(0:Int)≤((i:Nat):Int)∧((i:Nat):Int)<(l.length:Nat):=by omega
  have hst:0*3+((i:Nat):Int).toNat*3+3≤(Al (nmD J) cur).length:=by rw [A5 (n:=3) inferInstance,hcl,Int.toNat_natCast];omega
  have Hx:=H x
  repeat (first
   | refine Aj ?_|refine Ae ?_|refine Ac rfl ?_|refine Ad rfl ?_
   | ((first|refine An (by kernel_rfl) ?_|refine Az (by kernel_rfl) (by kernel_rfl) (by kernel_rfl) ?_)
      repeat (first
       | refine EY (k:=10) hst (hl:=?_)
       | refine Aq (hl:=?_)
       | refine Ai (hl:=?_)
       | refine AA (hl:=?_)
       | refine Ay (hl:=?_)
       | refine AG (hl:=?_)
       | refine AJ (hl:=?_)
       | refine Ak (hl:=?_)
       | refine AO (hl:=?_)
       | refine AN (hl:=?_)
       | refine AP (hl:=?_)
       | refine AB (hl:=?_)
       | refine Av (hl:=?_)
       | refine Cz hx (by omega) (hl:=?_)
       | refine Ap hA (hc:=Hx) (hl:=?_)
       | refine VY hlt (hl:=?_))
      apply Ab.nil;try refine And.intro (by kernel_rfl) ?_)
   | refine Ag ?_|refine Ah ?_)
  refine ⟨n-1,by omega,i+1,cur.set i (h x),by omega,by omega,?_,?_⟩
  ·rw [hcur];exact KT rfl hx'
  ·refine DP ?_ ?_ (by kernel_rfl)
   ·repeat (first|exact Ao|refine List.forall_mem_cons.2 ⟨Ent.of_eq (by kernel_rfl),?_⟩)
   ·refine List.forall_mem_cons.2 ⟨Iz inferInstance (i:=i) (show i<cur.length by omega) (cs:=nmC J (h x)) (.cons (Aa.q rfl (Xv _)) (.cons (Aa.q rfl (Xv _)) (.cons (Aa.q rfl (Xv _)) .nil))) (hz:=by exact rfl) (hm:=by rw [show i*3=0*3+((i:Nat):Int).toNat*3 by rw [Int.toNat_natCast];omega];kernel_rfl),Ao⟩
 ·have bi:=BL (k:= .i64) (decide_eq_false (show ¬(i:Int)<(l.length:Int) by omega))
  have he:cur=l.map h:=by rw [hcur,List.take_of_length_le (by omega),show l.length-i=0 by omega];simp
  subst he
  repeat (first
   | refine Aj ?_|refine Ae ?_|refine Ac rfl ?_|refine Ad rfl ?_
   | ((first|refine An (by kernel_rfl) ?_|refine Az (by kernel_rfl) (by kernel_rfl) (by kernel_rfl) ?_)
      repeat (first
       | refine Aq (hl:=?_)
       | refine Ai (hl:=?_)
       | refine AA (hl:=?_)
       | refine Ay (hl:=?_)
       | refine AG (hl:=?_)
       | refine AJ (hl:=?_)
       | refine Ak (hl:=?_)
       | refine AO (hl:=?_)
       | refine AN (hl:=?_)
       | refine AP (hl:=?_)
       | refine AB (hl:=?_)
       | refine Av (hl:=?_))
      apply Ab.nil;try refine And.intro (by kernel_rfl) ?_)
   | refine Ag ?_|refine Ah ?_)
  refine AU (And.intro (Or.inr rfl) (Np (ResIs.tmp rfl) (Ent.of_eq rfl) Ao ?_))
  exact List.forall_mem_cons.2 ⟨.inl (BH inferInstance),Ao⟩
set_option maxHeartbeats 400000
theorem Pt {t:Rat} : ∀ {l:List Rat},tms t (Fb t l)=tms t l+1
 | []=>by simp [Fb,tms]
 | x::l=>by
   unfold Fb
   split
   ·show (if t=t then 1 else 0)+tms t (x::l)=_
    rw [if_pos rfl,Nat.add_comm]
   ·show (if x=t then 1 else 0)+tms t (Fb t l)=((if x=t then 1 else 0)+tms t l)+1
    rw [Pt,Nat.add_assoc]
theorem Ld {f:Rat→Rat} : ∀ {g:List (Rat×Nat)},(rep g).map f=rep (g.map fun a=>(f a.1,a.2))
 | []=>rfl
 | (y,c)::g=>by
   show (List.replicate c y++rep g).map f=List.replicate c (f y)++rep (g.map fun a=>(f a.1,a.2))
   rw [List.map_append,List.map_replicate,Ld]
theorem PG: ∀ {g:List (Rat×Nat)},(rep g).reverse=rep g.reverse
 | []=>rfl
 | (y,c)::g=>by
   show (List.replicate c y++rep g).reverse=rep ((y,c)::g).reverse
   rw [List.reverse_append,List.reverse_replicate,PG,List.reverse_cons,Eu]
   show _=rep g.reverse++(List.replicate c y++ [])
   rw [List.append_nil]
theorem Iv: ∀ {g:List (Rat×Nat)},Et g↔g.Pairwise fun a b=>a.1<b.1
 | []=>⟨fun _=> .nil,fun _=>trivial⟩
 | (y,c)::g=>by
   rw [List.pairwise_cons,←Iv (g:=g)]
   exact Iff.rfl
theorem Tq {f:Rat→Rat} (hf: ∀x y,x<y→f x<f y) {g:List (Rat×Nat)} (h:Et g):Et (g.map fun a=>(f a.1,a.2)):=by
 rw [Iv] at h⊢
 exact List.pairwise_map.2 (h.imp fun hab=>hf _ _ hab)
theorem Tp {f:Rat→Rat} (hf: ∀x y,x<y→f y<f x) {g:List (Rat×Nat)} (h:Et g):Et (g.reverse.map fun a=>(f a.1,a.2)):=by
 rw [Iv] at h⊢
 exact List.pairwise_map.2 (List.pairwise_reverse.2 (h.imp fun hab=>hf _ _ hab))
section
variable {K:List Rat} {p:Nat} {t0 u:Rat} {mid:List (Rat×Nat)}
theorem Kns.mir (hk:Kns K p t0 u mid) (h0:Fz K=t0) (h1:Ea K=u):Kns (GN K) p t0 u (mid.reverse.map fun a=>(t0+u-a.1,a.2)):=by
 obtain ⟨he,hm,hi⟩:=hk
 have e0:((t0,p+1)::(mid++ [(u,p+1)])).reverse.map (fun a=>(t0+u-a.1,a.2))=(t0,p+1)::((mid.reverse.map fun a=>(t0+u-a.1,a.2))++ [(u,p+1)]):=by
  simp only [List.reverse_cons,List.reverse_append,List.reverse_nil,List.nil_append,List.map_append,List.map_cons,List.map_nil,List.cons_append]
  rw [show t0+u-u=t0 by grind,show t0+u-t0=u by grind]
 refine ⟨?_,fun a ha=>?_,?_⟩
 ·unfold GN
  rw [h0,h1,he,PG,Ld,e0]
 ·obtain ⟨b,hb,rfl⟩:=List.mem_map.1 ha
  exact hm b (List.mem_reverse.1 hb)
 ·rw [←e0]
  exact Tp (f:=fun x=>t0+u-x) (fun x y h=>by grind) hi
theorem Kns.aff {a b:Rat} (hk:Kns K p t0 u mid) (h0:Fz K=t0) (h1:Ea K=u) (htu:t0<u) (hab:a<b):Kns (GA K a b) p a b (mid.map fun c=>(a+(c.1-t0)*((b-a)/(u-t0)),c.2)):=by
 obtain ⟨he,hm,hi⟩:=hk
 have hr:0<(b-a)/(u-t0):=by
  rw [Rat.div_def]
  exact Rat.mul_pos (by grind) (Rat.inv_pos.2 (by grind))
 have hu:a+(u-t0)*((b-a)/(u-t0))=b:=by
  have:u-t0≠0:=by grind
  grind
 have ht:a+(t0-t0)*((b-a)/(u-t0))=a:=by grind
 have e0:((t0,p+1)::(mid++ [(u,p+1)])).map (fun c=>(a+(c.1-t0)*((b-a)/(u-t0)),c.2))=(a,p+1)::((mid.map fun c=>(a+(c.1-t0)*((b-a)/(u-t0)),c.2))++ [(b,p+1)]):=by
  simp only [List.map_append,List.map_cons,List.map_nil]
  rw [hu,ht]
 refine ⟨?_,fun c hc=>?_,?_⟩
 ·unfold GA
  rw [h0,h1,he,Ld,e0]
 ·obtain ⟨d,hd,rfl⟩:=List.mem_map.1 hc
  exact hm d hd
 ·rw [←e0]
  refine Tq (f:=fun x=>a+(x-t0)*((b-a)/(u-t0))) (fun x y h=>?_) hi
  have:0<(y-x)*((b-a)/(u-t0)):=Rat.mul_pos (by grind) hr
  grind
theorem Kns.mir2 (hk:Kns K p t0 u mid):GN (GN K)=K:=by
 have hm:=hk.mir hk.fst hk.lst
 have e1: ∀l:List Rat,GN l=l.reverse.map fun x=>Fz l+Ea l-x:=fun _=>rfl
 rw [e1 (GN K),hm.fst,hm.lst,e1 K,hk.fst,hk.lst,←List.map_reverse,List.reverse_reverse,List.map_map]
 have: ∀x:Rat,((fun x=>t0+u-x)∘fun x=>t0+u-x) x=x:=fun x=>by
  show t0+u-(t0+u-x)=x
  grind
 rw [show ((fun x=>t0+u-x)∘fun x=>t0+u-x)=(id:Rat→Rat) from funext this,List.map_id]
theorem Kns.aff2 {a b:Rat} (hk:Kns K p t0 u mid) (htu:t0<u) (hab:a<b):GA (GA K a b) t0 u=K:=by
 have hm:=hk.aff hk.fst hk.lst htu hab
 have e1: ∀(l:List Rat) (a b:Rat),GA l a b=l.map fun x=>a+(x-Fz l)*((b-a)/(Ea l-Fz l)):=fun _ _ _=>rfl
 rw [e1 (GA K a b),hm.fst,hm.lst,e1 K,hk.fst,hk.lst,List.map_map]
 have hr:(b-a)/(u-t0)*((u-t0)/(b-a))=1:=by
  have h1:u-t0≠0:=by grind
  have h2:b-a≠0:=by grind
  rw [Rat.div_def,Rat.div_def]
  have k1:=Rat.mul_inv_cancel _ h1
  have k2:=Rat.mul_inv_cancel _ h2
  grind
 generalize (b-a)/(u-t0)=r at*
 generalize (u-t0)/(b-a)=q at*
 have: ∀x:Rat,((fun x=>t0+(x-a)*q)∘fun x=>a+(x-t0)*r) x=x:=fun x=>by
  show t0+(a+(x-t0)*r-a)*q=x
  have:(x-t0)*(r*q)=x-t0:=by rw [hr,Rat.mul_one]
  grind
 rw [show ((fun x=>t0+(x-a)*q)∘fun x=>a+(x-t0)*r)=(id:Rat→Rat) from funext this,List.map_id]
theorem Kns.sm_mono (hk:Kns K p t0 u mid) {i:Nat} : ∀ {q:Nat},i+1+q<K.length→smR K i q≤smR K (i+1) q
 | 0,_=>Rat.le_refl
 | q+1,h=>by
   have ih:=hk.sm_mono (i:=i) (q:=q) (by omega)
   have:=hk.mono (i:=i+(q+1)) (j:=i+1+(q+1)) (by omega) (by omega)
   show smR K i q+K.getD (i+(q+1)) 0≤smR K (i+1) q+K.getD (i+1+(q+1)) 0
   grind
theorem U9 {i:Nat} (hi:i<K.length-p-1):(Ge K p)[i]?=some (smR K i p*(((1:Int):Rat)/((p:Int):Rat))):=by
 unfold Ge
 rw [List.getElem?_map,Xw (by rw [List.length_range];exact hi),List.getElem_range]
 rfl
theorem Kns.grev_asc (hk:Kns K p t0 u mid) (hp:1≤p) {i:Nat} (hi:i+1<K.length-p-1):smR K i p*(((1:Int):Rat)/((p:Int):Rat))≤smR K (i+1) p*(((1:Int):Rat)/((p:Int):Rat)):=by
 have h0:(0:Rat)<((p:Int):Rat):=by exact_mod_cast (show (0:Int)<(p:Int) by omega)
 have h1:0≤((1:Int):Rat)/((p:Int):Rat):=by
  rw [Rat.div_def,show ((1:Int):Rat)=1 from rfl,Rat.one_mul]
  exact Rat.le_of_lt (Rat.inv_pos.2 h0)
 exact Rat.mul_le_mul_of_nonneg_right (hk.sm_mono (by omega)) h1
end
end Go.Proofs.YtfineedhebhpaaaGreatDoor
