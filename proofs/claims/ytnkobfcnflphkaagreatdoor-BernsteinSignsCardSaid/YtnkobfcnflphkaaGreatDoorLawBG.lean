/-
  BernsteinSigns, by contracts.
-/
import Derived.Test.YtnkobfcnflphkaaGreatDoorHr
import Derived.Test.YtnkobfcnflphkaaGreatDoorHy
import Derived.Test.YtnkobfcnflphkaaGreatDoorLawBT
namespace Go.Proofs.YtnkobfcnflphkaaGreatDoor
open Go.RowKit
set_option linter.unusedVariables false
set_option linter.unusedSimpArgs false
set_option maxRecDepth 20000
set_option maxHeartbeats 1000000
theorem conv_lin (A B:Nat→Rat): ∀i k,convR A B 1 i k=(if k<i then A k*B 0 else 0)+(if 0<k∧k-1<i then A (k-1)*B 1 else 0)
 | 0,k=>by
   rw [if_neg (Nat.not_lt_zero k),if_neg (fun h=>Nat.not_lt_zero _ h.2)]
   show (0:Rat)=0+0
   grind
 | i+1,k=>by
   show convR A B 1 i k+(if i≤k∧k≤i+1 then A i*B (k-i) else 0)=_
   rw [conv_lin A B i k]
   by_cases h1:k=i
   ·subst h1
    rw [Nat.sub_self]
    repeat' split
    all_goals first | (exfalso;omega) | grind
   ·by_cases h2:k=i+1
    ·subst h2
     rw [show i+1-i=1 by omega,show i+1-1=i by omega]
     repeat' split
     all_goals first | (exfalso;omega) | grind
    ·repeat' split
     all_goals first | (exfalso;omega) | grind
theorem mul_lin {f W:Nat→Rat} {m k:Nat} {a b:Rat} (hW: ∀q,q≤m→binQ m q*f q=W q) (hs: ∀q,m<q→W q=0) (hk:k≤m+1):binQ (m+1) k*mulQ f (cf [a,b]) m 1 k=mulF a b W k:=by
 unfold mulQ
 have h0:=binQ_ne hk
 have e:convR (wgt m f) (wgt 1 (cf [a,b])) 1 (m+1) k=mulF a b W k:=by
  rw [conv_lin]
  have b0:wgt 1 (cf [a,b]) 0=a:=by
   show ((bin 1 0:Int):Rat)*a=a
   have:((bin 1 0:Int):Rat)=1:=rfl
   rw [this];grind
  have b1:wgt 1 (cf [a,b]) 1=b:=by
   show ((bin 1 1:Int):Rat)*b=b
   have:((bin 1 1:Int):Rat)=1:=rfl
   rw [this];grind
  rw [b0,b1]
  unfold mulF
  have w: ∀q,q≤m→wgt m f q=W q:=fun q hq=>hW q hq
  by_cases h1:k<m+1
  ·rw [if_pos h1,w k (by omega)]
   by_cases h2:k=0
   ·rw [if_neg (by omega),if_pos h2];grind
   ·rw [if_pos ⟨by omega,by omega⟩,if_neg h2,w (k-1) (by omega)];grind
  ·rw [if_neg h1,hs k (by omega),if_pos ⟨by omega,by omega⟩,if_neg (by omega),w (k-1) (by omega)];grind
 rw [e]
 generalize binQ (m+1) k=x at*
 generalize mulF a b W k=y
 grind
theorem mul_lin_rsz {j k m i:Nat} {f g:Nat→Rat} (hf: ∀q,q≤m→RSz j (f q)) (hg: ∀q,q≤1→RSz k (g q)) (hm:m≤39) (hi:i≤m+1):RSz (2*j+2*k+11) (mulQ f g m 1 i):=by
 unfold mulQ
 rw [conv_lin]
 have z: ∀b,RSz (b+1) 0:=fun b=>(IZ.zero (b:=1)).rsz (Nat.le_refl 1) |>.mono (by omega)
 have t1:RSz (2+j+(2+k)) (if i<m+1 then wgt m f i*wgt 1 g 0 else 0):=by
  split
  ·exact ((binQ_rsz (by omega)).mul (hf i (by omega))).mul ((binQ_rsz (by omega)).mul (hg 0 (by omega)))
  ·exact (z (2+j+(1+k))).mono (by omega)
 have t2:RSz (2+j+(2+k)) (if 0<i∧i-1<m+1 then wgt m f (i-1)*wgt 1 g 1 else 0):=by
  split
  ·exact ((binQ_rsz (by omega)).mul (hf (i-1) (by omega))).mul ((binQ_rsz (by omega)).mul (hg 1 (by omega)))
  ·exact (z (2+j+(1+k))).mono (by omega)
 exact (rsz_div (t1.add t2) (binQ_rsz (n:=m+1) (k:=i) (by omega)) (binQ_ne hi)).mono (by omega)
theorem varR_sgn {f g:Nat→Rat} : ∀ {m:Nat} {s:Int},(∀k,k<m→sgnR (f k)=sgnR (g k))→varR s (tab m f)=varR s (tab m g)
 | 0,_,_=>rfl
 | m+1,s,h=>by
   rw [tab_cons,tab_cons,varR_step,varR_step,h 0 (by omega)]
   congr 1
   exact varR_sgn fun k hk=>h (k+1) (by omega)
theorem binQ_sgn {n k:Nat} (h:k≤n):sgnR (binQ n k)=1:=by
 have:=bin_pos h
 refine sgnR_pos.2 ?_
 have:((0:Int):Rat)<binQ n k:=Rat.intCast_lt_intCast.2 (by omega)
 exact this
namespace bsigns
def szS:Nat→Nat
 | 0=>2
 | m+1=>2*szS m+21
theorem szS_le: ∀m,m≤7→szS m≤10000
 | 0,_ | 1,_ | 2,_ | 3,_ | 4,_ | 5,_ | 6,_ | 7,_=>by decide
structure Prod (c:Rat) (fs:List (Rat×Rat)) (p:List Rat):Prop where
 len:p.length=fs.length+1
 nz:Nz fs
 wt: ∀k,k≤fs.length→binQ fs.length k*cf p k=prodF fs (fun k=>if k=0 then c else 0) k
 sz: ∀r∈p,RSz (szS fs.length) r
theorem Prod.start {c:Rat} (h:RSz 2 c):Prod c [] [c]:=by
 refine ⟨rfl,fun f hf=>(by cases hf),fun k hk=>?_,fun r hr=>?_⟩
 ·have hk0:k=0:=by simpa using hk
  subst hk0
  show ((bin 0 0:Int):Rat)*c=c
  have:((bin 0 0:Int):Rat)=1:=rfl
  rw [this];grind
 ·rw [List.mem_singleton.1 hr];exact h
theorem Prod.step {c a b:Rat} {fs:List (Rat×Rat)} {p:List Rat} (h:Prod c fs p) (ha:sgnR a≠0) (hb:sgnR b≠0) (hl:fs.length≤20) (hz: ∀r∈ [a,b],RSz 5 r):Prod c (fs++ [(a,b)]) (tab (fs.length+1+1) (mulQ (cf p) (cf [a,b]) fs.length 1)):=by
 have hsup:=prodF_sup fs (fun k=>if k=0 then c else 0) 0 (fun k hk=>if_neg (by omega))
 refine ⟨by rw [tab_len,List.length_append];rfl,fun f hf=>?_,fun k hk=>?_,?_⟩
 ·rcases List.mem_append.1 hf with h1 | h1
  ·exact h.nz f h1
  ·rw [List.mem_singleton.1 h1];exact ⟨ha,hb⟩
 ·rw [List.length_append] at hk⊢
  rw [prodF_app]
  show binQ (fs.length+1) k*_=_
  replace hk:k≤fs.length+1:=hk
  rw [show cf (tab (fs.length+1+1) (mulQ (cf p) (cf [a,b]) fs.length 1)) k=mulQ (cf p) (cf [a,b]) fs.length 1 k from tab_getD 0 (by omega)]
  exact mul_lin h.wt (fun q hq=>hsup q (by omega)) hk
 ·have e:szS (fs++ [(a,b)]).length=2*szS fs.length+21:=by rw [List.length_append];rfl
  rw [e]
  intro r hr
  obtain ⟨i,hi,he⟩:=List.getElem_of_mem hr
  have hi':i<fs.length+1+1:=by simpa using hi
  have h2:(tab (fs.length+1+1) (mulQ (cf p) (cf [a,b]) fs.length 1))[i]?=some (mulQ (cf p) (cf [a,b]) fs.length 1 i):=tab_get hi'
  rw [List.getElem?_eq_getElem hi,he] at h2
  rw [Option.some.inj h2]
  refine (mul_lin_rsz (j:=szS fs.length) (k:=5) (fun q hq=>?_) (fun q hq=>?_) (by omega) (by omega)).mono (by omega)
  ·have hlt:q<p.length:=by rw [h.len];omega
   refine h.sz _ ?_
   unfold cf
   rw [List.getD_eq_getElem?_getD,List.getElem?_eq_getElem hlt];exact List.getElem_mem hlt
  ·match q,hq with
   | 0,_=>exact hz a List.mem_cons_self
   | 1,_=>exact hz b (List.mem_cons_of_mem _ List.mem_cons_self)
theorem Prod.var {c:Rat} {fs:List (Rat×Rat)} {p:List Rat} (h:Prod c fs p) (hc:c≠0):posR fs≤varR 0 p∧varR 0 p % 2=posR fs % 2:=by
 have e:p=tab (fs.length+1) (cf p):=by
  have:=tab_of (0:Rat) p
  rw [h.len] at this
  exact this.symm
 have e2:varR 0 p=varR 0 (tab (fs.length+1) (prodF fs fun k=>if k=0 then c else 0)):=by
  rw [e]
  refine varR_sgn fun k hk=>?_
  rw [←h.wt k (by omega),sgnR_mul,binQ_sgn (by omega),Int.one_mul]
 rw [e2]
 exact descartes h.nz hc
theorem sgn_lin (a:Rat):sgnR (-a)= -sgnR a:=by
 have:=sgnR_three a
 rcases this with h | h | h
 ·have h1:=sgnR_neg1.1 h
  rw [h];exact sgnR_pos.2 (by grind)
 ·have h1:=sgnR_zero.1 h
  rw [h,h1];rfl
 ·have h1:=sgnR_pos.1 h
  rw [h];exact sgnR_neg1.2 (by grind)
theorem cmp_one (a:Rat):cmpR a oneR= -sgnR (oneR-a):=by
 rw [ord_sub]
 have:oneR-a= -(a-oneR):=by grind
 rw [this,sgn_lin];omega
theorem posR_one {a b:Rat} :posR [(a,b)]=if sgnR a= -sgnR b then 1 else 0:=by
 unfold posR
 by_cases h:sgnR a= -sgnR b
 ·rw [if_pos h];simp [h]
 ·rw [if_neg h];simp [h]
theorem law {l:List Int} {z:Int} (hb: ∀x∈l,-9223372036854775808≤x∧x<9223372036854775808) (hz1: -9223372036854775808≤z) (hz2:z<9223372036854775808):
  Ctr Tryz.prog Amb 8 [.one (.ints l),.one (.v (.int .i64 z))] (.one (.v (.bool true))):=by
 by_cases hL:(l.length:Int)>7
 ·have b0:=binGt (k:= .i64) (decide_eq_true hL)
  refine ctr_body Tryz.func8 rfl rfl rfl rfl rfl rfl ?_
  intro W0 base D μ0 hA hD
  have:=awake5
  repeat (first | refine aw_seq ?_ | refine aw_block ?_ | refine aw_condT rfl ?_ | refine aw_condF rfl ?_ | refine aw_pa ?_ | refine aw_da ?_ | refine aw_skip ?_ | refine aw_exit ?_)
  refine aw_ret (And.intro (Or.inr rfl) ?_)
  exact f_one
 have b0:=binGt (k:= .i64) (decide_eq_false hL)
 have D1:=d_mod hz1 hz2 (m:=5) (by decide) (by decide)
 obtain ⟨m,hm,hm5⟩: ∃m:Nat,z % 5=(m:Int)∧m<5:=⟨(z % 5).toNat,by omega,by omega⟩
 rw [hm] at D1
 have a1:=binAdd (k:= .i64) (show (IntKind.i64).wrap (1+(m:Int))=((m+1:Nat):Int) by rw [show (1+(m:Int))=((m+1:Nat):Int) by omega];exact IntWalk.i64_in _ (by omega))
 have I1:=r_int (n:=((m+1:Nat):Int)) (by rw [decide_eq_true (show-9223372036854775808≤((m+1:Nat):Int) by omega),decide_eq_true (show ((m+1:Nat):Int)<9223372036854775808 by omega)];rfl)
 have hc0:(((m+1:Nat):Int):Rat)≠0:=natQ_ne (by omega)
 have hcz:RSz 2 (((m+1:Nat):Int):Rat):=rsz_cast _ (by omega) (by omega)
 obtain ⟨c,hc⟩: ∃c,c=(((m+1:Nat):Int):Rat):=⟨_,rfl⟩
 rw [←hc] at I1 hc0 hcz
 have hP0:=Prod.start hcz
 clear hc hcz hm
 have J1:=r_int (n:=1) rfl
 refine ctr_body Tryz.func8 rfl rfl rfl rfl rfl rfl ?_
 intro W0 base D μ0 hA hD
 repeat (first
  | refine aw_seq ?_ | refine aw_block ?_ | refine aw_condT rfl ?_ | refine aw_condF rfl ?_
  | ((first | refine aw_plainK (by kernel_rfl) ?_ | refine aw_drawK (by kernel_rfl) (by kernel_rfl) (by kernel_rfl) ?_)
     repeat (first
      | refine v_buildFz (f:=nmD 2) (la:= [c]) (hl:=?_)
      | refine v_skip (hl:=?_)
      | refine v_move (hl:=?_)
      | refine v_assign (hl:=?_)
      | refine v_load (hl:=?_)
      | refine v_store (hl:=?_)
      | refine v_alloc (hl:=?_)
      | refine v_extract (hl:=?_)
      | refine v_bin (hl:=?_)
      | refine v_indexAddr (hl:=?_)
      | refine v_pickT (hl:=?_)
      | refine v_pickF (hl:=?_)
      | refine v_eqBool (hl:=?_)
      | refine v_max (hl:=?_)
      | refine v_min (hl:=?_)
      | refine v_len (hl:=?_)
      | refine v_lenS (hl:=?_)
      | refine v_loadF (hl:=?_)
      | refine v_buildL (hl:=?_)
      | refine v_callE hA (hc:=D1) (hl:=?_)
      | refine v_callE hA (hc:=I1) (hl:=?_))
     apply RunK.nil;try refine And.intro (by kernel_rfl) ?_)
  | refine aw_skip ?_ | refine aw_exit ?_)
 refine aw_loop (fun k σ=> ∃(i:Nat) (fs:List (Rat×Rat)) (p:List Rat),k=l.length-i∧i≤l.length∧fs.length≤i∧Prod c fs p∧Wk ⟨W0,base,D,85,[],μ0⟩ σ [(0,.one (.ints l)),(5,.one (rats 5000000 p)),(6,errV ((posR fs:Nat):Int)),(7,errV (i:Nat))] []) (n:=l.length) ⟨0,[],[c],by omega,by omega,Nat.le_refl _,hP0,?_⟩ ?_
 ·exact wk_a
 clear hP0 D1 a1 I1 b0
 intro k σ hI
 obtain ⟨i,fs,p,hk,hi0,hfi,hP,hw⟩:=hI
 refine aw_wk hw ?_
 clear hw
 by_cases hi:i<l.length
 ·have bi:=binLt (k:= .i64) (decide_eq_true (show (i:Int)<(l.length:Int) by omega))
  have hin:=binAdd (k:= .i64) (show (IntKind.i64).wrap ((i:Int)+1)=((i+1:Nat):Int) from IntWalk.i64_in _ (by omega))
  obtain ⟨x,hx'⟩: ∃x,l[i]?=some x:=⟨_,List.getElem?_eq_getElem hi⟩
  have hx:l[((i:Nat):Int).toNat]?=some x:=by rw [Int.toNat_natCast];exact hx'
  obtain ⟨hx1,hx2⟩:=hb x (List.mem_of_getElem? hx')
  have hqa:=Int.natAbs_tdiv x 41
  have hqb:x.natAbs/41≤230584300921369395:=by omega
  replace hqa:(x.tdiv 41).natAbs≤230584300921369395:=by rw [hqa];exact hqb
  have hq1: -9223372036854775808≤x.tdiv 41:=by omega
  have hq2:x.tdiv 41<9223372036854775808:=by omega
  clear hqa hqb
  have bq:binR .quo .i64 x 41=some (.int .i64 (x.tdiv 41)):=by
   show (if (41:Int)=0 then none else some (Value.int .i64 ((IntKind.i64).wrap (x.tdiv 41))))=_
   rw [if_neg (by decide),show (IntKind.i64).wrap (x.tdiv 41)=x.tdiv 41 from IntWalk.i64_in _ (by omega)]
  have R1:=d_rat hx1 hx2 hq1 hq2
  have ha:=ratM_rsz x (x.tdiv 41)
  generalize ratM x (x.tdiv 41)=a at*
  generalize x.tdiv 41=y at*
  repeat (first
   | refine aw_seq ?_ | refine aw_block ?_ | refine aw_condT rfl ?_ | refine aw_condF rfl ?_
   | ((first | refine aw_plainK (by kernel_rfl) ?_ | refine aw_drawK (by kernel_rfl) (by kernel_rfl) (by kernel_rfl) ?_)
      repeat (first
       | refine v_skip (hl:=?_)
       | refine v_move (hl:=?_)
       | refine v_assign (hl:=?_)
       | refine v_load (hl:=?_)
       | refine v_store (hl:=?_)
       | refine v_alloc (hl:=?_)
       | refine v_extract (hl:=?_)
       | refine v_bin (hl:=?_)
       | refine v_indexAddr (hl:=?_)
       | refine v_pickT (hl:=?_)
       | refine v_pickF (hl:=?_)
       | refine v_eqBool (hl:=?_)
       | refine v_max (hl:=?_)
       | refine v_min (hl:=?_)
       | refine v_loadInt (hl:=?_)
       | refine v_len (hl:=?_)
       | refine v_lenS (hl:=?_)
       | refine v_loadF (hl:=?_)
       | refine v_buildL (hl:=?_)
       | refine v_callE hA (hc:=R1) (hl:=?_)
       | (apply u_indexInts;(case hg=>first | exact trivial | exact rfl);(case hd=>exact rfl);(case hx=>exact rfl);(case hy=>exact rfl);(case hi=>omega);(case hc=>exact hx)))
      apply RunK.nil;try refine And.intro (by kernel_rfl) ?_)
   | refine aw_skip ?_ | refine aw_exit ?_)
  refine aw_wk (ss:= [(0,.one (.ints l)),(5,.one (rats 5000000 p)),(6,errV ((posR fs:Nat):Int)),(7,errV (i:Nat)),(8,.one (.ptr 8 0))]) (bs:= [(8,nmC 2 a)]) ?_ ?_
  ·exact wk_a
  have S1:=r_sign (j:=2) (x:=a)
  have S2:=r_same (j:=2) (k:=2) (x:=a) (y:=oneR)
  have S3:=r_cmp (j:=2) (k:=2) (x:=a) (y:=oneR) (by decide) (by decide)
  rw [cmp_one] at S3
  have hs:=sgnR_three a
  have hs1:=sgnR_three (oneR-a)
  have hcn:=binAdd (k:= .i64) (show (IntKind.i64).wrap (((posR fs:Nat):Int)+1)=((posR fs+1:Nat):Int) from IntWalk.i64_in _ (by
   have h1:posR fs≤fs.length:=List.length_filter_le _ _
   omega))
  by_cases h0:sgnR a=0
  ·have q0:=binEq (k:= .i64) (decide_eq_true h0)
   repeat (first
    | refine aw_seq ?_ | refine aw_block ?_ | refine aw_condT rfl ?_ | refine aw_condF rfl ?_
    | ((first | refine aw_plainK (by kernel_rfl) ?_ | refine aw_drawK (by kernel_rfl) (by kernel_rfl) (by kernel_rfl) ?_)
       repeat (first
        | refine v_skip (hl:=?_)
        | refine v_move (hl:=?_)
        | refine v_assign (hl:=?_)
        | refine v_load (hl:=?_)
        | refine v_store (hl:=?_)
        | refine v_alloc (hl:=?_)
        | refine v_extract (hl:=?_)
        | refine v_bin (hl:=?_)
        | refine v_indexAddr (hl:=?_)
        | refine v_pickT (hl:=?_)
        | refine v_pickF (hl:=?_)
        | refine v_eqBool (hl:=?_)
        | refine v_max (hl:=?_)
        | refine v_min (hl:=?_)
        | refine v_len (hl:=?_)
        | refine v_lenS (hl:=?_)
        | refine v_loadF (hl:=?_)
        | refine v_buildL (hl:=?_)
        | refine v_callE hA (hc:=S1) (hl:=?_))
       apply RunK.nil;try refine And.intro (by kernel_rfl) ?_)
    | refine aw_skip ?_ | refine aw_exit ?_)
   refine ⟨k-1,by omega,i+1,fs,p,by omega,by omega,by omega,hP,?_⟩
   exact wk_a
  have q0:=binEq (k:= .i64) (decide_eq_false h0)
  by_cases h1:a=oneR
  ·rw [decide_eq_true h1] at S2
   repeat (first
    | refine aw_seq ?_ | refine aw_block ?_ | refine aw_condT rfl ?_ | refine aw_condF rfl ?_
    | ((first | refine aw_plainK (by kernel_rfl) ?_ | refine aw_drawK (by kernel_rfl) (by kernel_rfl) (by kernel_rfl) ?_)
       repeat (first
        | refine v_skip (hl:=?_)
        | refine v_move (hl:=?_)
        | refine v_assign (hl:=?_)
        | refine v_load (hl:=?_)
        | refine v_store (hl:=?_)
        | refine v_alloc (hl:=?_)
        | refine v_extract (hl:=?_)
        | refine v_bin (hl:=?_)
        | refine v_indexAddr (hl:=?_)
        | refine v_pickT (hl:=?_)
        | refine v_pickF (hl:=?_)
        | refine v_eqBool (hl:=?_)
        | refine v_max (hl:=?_)
        | refine v_min (hl:=?_)
        | refine v_len (hl:=?_)
        | refine v_lenS (hl:=?_)
        | refine v_loadF (hl:=?_)
        | refine v_buildL (hl:=?_)
        | refine v_callE hA (hc:=S1) (hl:=?_)
        | refine v_callE hA (hc:=J1) (hl:=?_)
        | refine v_callE hA (hc:=S2) (hl:=?_))
       apply RunK.nil;try refine And.intro (by kernel_rfl) ?_)
    | refine aw_skip ?_ | refine aw_exit ?_)
   refine ⟨k-1,by omega,i+1,fs,p,by omega,by omega,by omega,hP,?_⟩
   exact wk_a
  rw [decide_eq_false h1] at S2
  have hn1:sgnR (oneR-a)≠0:=fun hh=>h1 (by have:=sgnR_zero.1 hh;grind)
  have hna:sgnR (-a)≠0:=by rw [sgn_lin];omega
  have hz5: ∀r∈ [-a,oneR-a],RSz 5 r:=fun r hr=>by
   rcases List.mem_cons.1 hr with rfl | hr
   ·exact ⟨by rw [Rat.neg_num,Int.natAbs_neg];exact ha.1.mono (by decide),by rw [Rat.neg_den];exact ha.2.mono (by decide)⟩
   ·rw [List.mem_singleton.1 hr]
    exact ((rsz_cast 1 (by decide) (by decide)).sub ha).mono (by decide)
  have hP':=hP.step hna hn1 (by omega) hz5
  have hsz:=szS_le fs.length (by omega)
  have M1:=(s_mulB (j:=szS fs.length) (k:=5) (p:=p) (q:= [-a,oneR-a]) (m:=fs.length) (n:=1) hP.len rfl (by omega) hsz (by decide) hP.sz hz5)
  replace M1:Ctr Tryz.prog Amb 45 [.one (rats 5000000 p),.one (rats 7 [-a,oneR-a])] (.tup [.one (rats 5000000 (tab (fs.length+1+1) (mulQ (cf p) (cf [-a,oneR-a]) fs.length 1))),errV 0]):=CtrM.weak M1 (.cons (Ent.one' rfl (EntC.ratsRs hP.sz)) (.cons (Ent.one' rfl (EntC.ratsRs hz5)) .nil)) (Ent.of_eq rfl)
  have N1:=r_neg (j:=2) (x:=a)
  have U1:=r_sub (j:=2) (k:=2) (x:=oneR) (y:=a) (by decide) (by decide)
  have hpos:posR (fs++ [(-a,oneR-a)])=posR fs+if sgnR a=sgnR (oneR-a) then 1 else 0:=by
   rw [posR_app,posR_one,sgn_lin]
   congr 1
   by_cases h:sgnR a=sgnR (oneR-a)
   ·rw [if_pos h,if_pos (by omega)]
   ·rw [if_neg h,if_neg (by omega)]
  have hlen:(fs++ [(-a,oneR-a)]).length≤i+1:=by rw [List.length_append];show fs.length+1≤i+1;omega
  generalize tab (fs.length+1+1) (mulQ (cf p) (cf [-a,oneR-a]) fs.length 1)=Q at*
  generalize fs++ [(-a,oneR-a)]=gs at*
  generalize posR fs=w at*
  by_cases h2:sgnR a>0
  ·have g1:=binGt (k:= .i64) (decide_eq_true h2)
   by_cases h3: -sgnR (oneR-a)<0
   ·have g2:=binLt (k:= .i64) (decide_eq_true h3)
    rw [if_pos (by omega)] at hpos
    rw [←hpos] at hcn
    repeat (first
     | refine aw_seq ?_ | refine aw_block ?_ | refine aw_condT rfl ?_ | refine aw_condF rfl ?_
     | ((first | refine aw_plainK (by kernel_rfl) ?_ | refine aw_drawK (by kernel_rfl) (by kernel_rfl) (by kernel_rfl) ?_)
        repeat (first
         | refine v_skip (hl:=?_)
         | refine v_move (hl:=?_)
         | refine v_assign (hl:=?_)
         | refine v_load (hl:=?_)
         | refine v_store (hl:=?_)
         | refine v_alloc (hl:=?_)
         | refine v_extract (hl:=?_)
         | refine v_bin (hl:=?_)
         | refine v_indexAddr (hl:=?_)
         | refine v_pickT (hl:=?_)
         | refine v_pickF (hl:=?_)
         | refine v_eqBool (hl:=?_)
         | refine v_max (hl:=?_)
         | refine v_min (hl:=?_)
         | refine v_len (hl:=?_)
         | refine v_lenS (hl:=?_)
         | refine v_loadF (hl:=?_)
         | refine v_buildL (hl:=?_)
         | refine v_callE hA (hc:=S1) (hl:=?_)
         | refine v_callE hA (hc:=J1) (hl:=?_)
         | refine v_callE hA (hc:=S2) (hl:=?_)
         | refine v_callE hA (hc:=S3) (hl:=?_))
        apply RunK.nil;try refine And.intro (by kernel_rfl) ?_)
     | refine aw_skip ?_ | refine aw_exit ?_)
    refine aw_wk (ss:= [(0,.one (.ints l)),(5,.one (rats 5000000 p)),(6,errV ((posR gs:Nat):Int)),(7,errV (i:Nat)),(8,.one (.ptr 8 0))]) (bs:= [(8,nmC 2 a)]) ?_ ?_
    ·exact wk_a
    repeat (first
     | refine aw_seq ?_ | refine aw_block ?_ | refine aw_condT rfl ?_ | refine aw_condF rfl ?_
     | ((first | refine aw_plainK (by kernel_rfl) ?_ | refine aw_drawK (by kernel_rfl) (by kernel_rfl) (by kernel_rfl) ?_)
        repeat (first
         | refine v_buildFz (f:=nmD 7) (la:= [-a,oneR-a]) (hl:=?_)
         | refine v_skip (hl:=?_)
         | refine v_move (hl:=?_)
         | refine v_assign (hl:=?_)
         | refine v_load (hl:=?_)
         | refine v_store (hl:=?_)
         | refine v_alloc (hl:=?_)
         | refine v_extract (hl:=?_)
         | refine v_bin (hl:=?_)
         | refine v_indexAddr (hl:=?_)
         | refine v_pickT (hl:=?_)
         | refine v_pickF (hl:=?_)
         | refine v_eqBool (hl:=?_)
         | refine v_max (hl:=?_)
         | refine v_min (hl:=?_)
         | refine v_len (hl:=?_)
         | refine v_lenS (hl:=?_)
         | refine v_loadF (hl:=?_)
         | refine v_buildL (hl:=?_)
         | refine v_callE hA (hc:=J1) (hl:=?_)
         | refine v_callE hA (hc:=N1) (hl:=?_)
         | refine v_callE hA (hc:=U1) (hl:=?_)
         | refine v_callE hA (hc:=M1) (hl:=?_))
        apply RunK.nil;try refine And.intro (by kernel_rfl) ?_)
     | refine aw_skip ?_ | refine aw_exit ?_)
    refine ⟨k-1,by omega,i+1,gs,Q,by omega,by omega,hlen,hP',?_⟩
    exact wk_a
   ·have g2:=binLt (k:= .i64) (decide_eq_false h3)
    rw [if_neg (by omega),Nat.add_zero] at hpos
    repeat (first
     | refine aw_seq ?_ | refine aw_block ?_ | refine aw_condT rfl ?_ | refine aw_condF rfl ?_
     | ((first | refine aw_plainK (by kernel_rfl) ?_ | refine aw_drawK (by kernel_rfl) (by kernel_rfl) (by kernel_rfl) ?_)
        repeat (first
         | refine v_skip (hl:=?_)
         | refine v_move (hl:=?_)
         | refine v_assign (hl:=?_)
         | refine v_load (hl:=?_)
         | refine v_store (hl:=?_)
         | refine v_alloc (hl:=?_)
         | refine v_extract (hl:=?_)
         | refine v_bin (hl:=?_)
         | refine v_indexAddr (hl:=?_)
         | refine v_pickT (hl:=?_)
         | refine v_pickF (hl:=?_)
         | refine v_eqBool (hl:=?_)
         | refine v_max (hl:=?_)
         | refine v_min (hl:=?_)
         | refine v_len (hl:=?_)
         | refine v_lenS (hl:=?_)
         | refine v_loadF (hl:=?_)
         | refine v_buildL (hl:=?_)
         | refine v_callE hA (hc:=S1) (hl:=?_)
         | refine v_callE hA (hc:=J1) (hl:=?_)
         | refine v_callE hA (hc:=S2) (hl:=?_)
         | refine v_callE hA (hc:=S3) (hl:=?_))
        apply RunK.nil;try refine And.intro (by kernel_rfl) ?_)
     | refine aw_skip ?_ | refine aw_exit ?_)
    refine aw_wk (ss:= [(0,.one (.ints l)),(5,.one (rats 5000000 p)),(6,errV ((w:Nat):Int)),(7,errV (i:Nat)),(8,.one (.ptr 8 0))]) (bs:= [(8,nmC 2 a)]) ?_ ?_
    ·exact wk_a
    repeat (first
     | refine aw_seq ?_ | refine aw_block ?_ | refine aw_condT rfl ?_ | refine aw_condF rfl ?_
     | ((first | refine aw_plainK (by kernel_rfl) ?_ | refine aw_drawK (by kernel_rfl) (by kernel_rfl) (by kernel_rfl) ?_)
        repeat (first
         | refine v_buildFz (f:=nmD 7) (la:= [-a,oneR-a]) (hl:=?_)
         | refine v_skip (hl:=?_)
         | refine v_move (hl:=?_)
         | refine v_assign (hl:=?_)
         | refine v_load (hl:=?_)
         | refine v_store (hl:=?_)
         | refine v_alloc (hl:=?_)
         | refine v_extract (hl:=?_)
         | refine v_bin (hl:=?_)
         | refine v_indexAddr (hl:=?_)
         | refine v_pickT (hl:=?_)
         | refine v_pickF (hl:=?_)
         | refine v_eqBool (hl:=?_)
         | refine v_max (hl:=?_)
         | refine v_min (hl:=?_)
         | refine v_len (hl:=?_)
         | refine v_lenS (hl:=?_)
         | refine v_loadF (hl:=?_)
         | refine v_buildL (hl:=?_)
         | refine v_callE hA (hc:=J1) (hl:=?_)
         | refine v_callE hA (hc:=N1) (hl:=?_)
         | refine v_callE hA (hc:=U1) (hl:=?_)
         | refine v_callE hA (hc:=M1) (hl:=?_))
        apply RunK.nil;try refine And.intro (by kernel_rfl) ?_)
     | refine aw_skip ?_ | refine aw_exit ?_)
    refine ⟨k-1,by omega,i+1,gs,Q,by omega,by omega,hlen,hP',?_⟩
    rw [hpos]
    clear hpos hP' hlen hP
    exact wk_a
  ·have g1:=binGt (k:= .i64) (decide_eq_false h2)
   have hp1:sgnR (oneR-a)=1:=by
    have:sgnR a= -1:=by omega
    have:=sgnR_neg1.1 this
    refine sgnR_pos.2 ?_
    have h9:oneR=1:=rfl
    rw [h9];grind
   rw [if_neg (by omega),Nat.add_zero] at hpos
   repeat (first
    | refine aw_seq ?_ | refine aw_block ?_ | refine aw_condT rfl ?_ | refine aw_condF rfl ?_
    | ((first | refine aw_plainK (by kernel_rfl) ?_ | refine aw_drawK (by kernel_rfl) (by kernel_rfl) (by kernel_rfl) ?_)
       repeat (first
        | refine v_skip (hl:=?_)
        | refine v_move (hl:=?_)
        | refine v_assign (hl:=?_)
        | refine v_load (hl:=?_)
        | refine v_store (hl:=?_)
        | refine v_alloc (hl:=?_)
        | refine v_extract (hl:=?_)
        | refine v_bin (hl:=?_)
        | refine v_indexAddr (hl:=?_)
        | refine v_pickT (hl:=?_)
        | refine v_pickF (hl:=?_)
        | refine v_eqBool (hl:=?_)
        | refine v_max (hl:=?_)
        | refine v_min (hl:=?_)
        | refine v_len (hl:=?_)
        | refine v_lenS (hl:=?_)
        | refine v_loadF (hl:=?_)
        | refine v_buildL (hl:=?_)
        | refine v_callE hA (hc:=S1) (hl:=?_)
        | refine v_callE hA (hc:=J1) (hl:=?_)
        | refine v_callE hA (hc:=S2) (hl:=?_))
       apply RunK.nil;try refine And.intro (by kernel_rfl) ?_)
    | refine aw_skip ?_ | refine aw_exit ?_)
   refine aw_wk (ss:= [(0,.one (.ints l)),(5,.one (rats 5000000 p)),(6,errV ((w:Nat):Int)),(7,errV (i:Nat)),(8,.one (.ptr 8 0))]) (bs:= [(8,nmC 2 a)]) ?_ ?_
   ·exact wk_a
   repeat (first
    | refine aw_seq ?_ | refine aw_block ?_ | refine aw_condT rfl ?_ | refine aw_condF rfl ?_
    | ((first | refine aw_plainK (by kernel_rfl) ?_ | refine aw_drawK (by kernel_rfl) (by kernel_rfl) (by kernel_rfl) ?_)
       repeat (first
        | refine v_buildFz (f:=nmD 7) (la:= [-a,oneR-a]) (hl:=?_)
        | refine v_skip (hl:=?_)
        | refine v_move (hl:=?_)
        | refine v_assign (hl:=?_)
        | refine v_load (hl:=?_)
        | refine v_store (hl:=?_)
        | refine v_alloc (hl:=?_)
        | refine v_extract (hl:=?_)
        | refine v_bin (hl:=?_)
        | refine v_indexAddr (hl:=?_)
        | refine v_pickT (hl:=?_)
        | refine v_pickF (hl:=?_)
        | refine v_eqBool (hl:=?_)
        | refine v_max (hl:=?_)
        | refine v_min (hl:=?_)
        | refine v_len (hl:=?_)
        | refine v_lenS (hl:=?_)
        | refine v_loadF (hl:=?_)
        | refine v_buildL (hl:=?_)
        | refine v_callE hA (hc:=J1) (hl:=?_)
        | refine v_callE hA (hc:=N1) (hl:=?_)
        | refine v_callE hA (hc:=U1) (hl:=?_)
        | refine v_callE hA (hc:=M1) (hl:=?_))
       apply RunK.nil;try refine And.intro (by kernel_rfl) ?_)
    | refine aw_skip ?_ | refine aw_exit ?_)
   refine ⟨k-1,by omega,i+1,gs,Q,by omega,by omega,hlen,hP',?_⟩
   rw [hpos]
   clear hpos hP' hlen hP
   exact wk_a
 ·have bi:=binLt (k:= .i64) (decide_eq_false (show ¬(i:Int)<(l.length:Int) by omega))
  have V1:=s_variations (j:=5000000) (l:=p) (by rw [hP.len];omega)
  obtain ⟨hv1,hv2⟩:=hP.var hc0
  have hvl:=varR_le p 0
  rw [hP.len] at hvl
  generalize varR 0 p=v at*
  generalize posR fs=w at*
  have g1:=binGe (k:= .i64) (decide_eq_true (show (v:Int)≥(w:Int) by omega))
  have g2:=binSub (k:= .i64) (show (IntKind.i64).wrap ((v:Int)-(w:Int))=((v-w:Nat):Int) by rw [show ((v:Int)-(w:Int))=((v-w:Nat):Int) by omega];exact IntWalk.i64_in _ (by omega))
  have g3:binR .rem .i64 ((v-w:Nat):Int) 2=some (.int .i64 0):=by
   obtain ⟨u,hu⟩: ∃u,v-w=2*u:=⟨(v-w)/2,by omega⟩
   rw [binRem (by decide),show ((v-w:Nat):Int)=2*(u:Int) by omega,Int.mul_tmod_right]
  repeat (first
   | refine aw_seq ?_ | refine aw_block ?_ | refine aw_condT rfl ?_ | refine aw_condF rfl ?_
   | ((first | refine aw_plainK (by kernel_rfl) ?_ | refine aw_drawK (by kernel_rfl) (by kernel_rfl) (by kernel_rfl) ?_)
      repeat (first
       | refine v_skip (hl:=?_)
       | refine v_move (hl:=?_)
       | refine v_assign (hl:=?_)
       | refine v_load (hl:=?_)
       | refine v_store (hl:=?_)
       | refine v_alloc (hl:=?_)
       | refine v_extract (hl:=?_)
       | refine v_bin (hl:=?_)
       | refine v_indexAddr (hl:=?_)
       | refine v_pickT (hl:=?_)
       | refine v_pickF (hl:=?_)
       | refine v_eqBool (hl:=?_)
       | refine v_max (hl:=?_)
       | refine v_min (hl:=?_)
       | refine v_len (hl:=?_)
       | refine v_lenS (hl:=?_)
       | refine v_loadF (hl:=?_)
       | refine v_buildL (hl:=?_)
       | refine v_callE hA (hc:=V1) (hl:=?_)
       | refine v_callE hA (hc:=awake5) (hl:=?_))
      apply RunK.nil;try refine And.intro (by kernel_rfl) ?_)
   | refine aw_skip ?_ | refine aw_exit ?_)
  refine aw_ret (And.intro (Or.inr rfl) ?_)
  exact f_one
end bsigns
end Go.Proofs.YtnkobfcnflphkaaGreatDoor
