/-
  Several texts in one: Sn, So.
-/
import Derived.Test.YtoabfmaagnmlhaaGreatDoorGk
import Derived.Test.YtoabfmaagnmlhaaGreatDoorEw
namespace Go.Proofs.YtoabfmaagnmlhaaGreatDoor
open Go.RowKit
set_option linter.unusedVariables false
set_option linter.unusedSimpArgs false
set_option maxRecDepth 20000
set_option maxHeartbeats 4000000
abbrev C5 (l:List Int) (n:Nat):List C:= [.ints l,.v (.int .i64 (n:Nat))]
def nxt (l:List Int) (n:Nat) (m:Int):Int×Nat:=match l[n]? with|some x=>(x % m,n+1)|none=>(0,n)
theorem D4 (l:List Int) (n:Nat) {m:Int} (hm:0<m):0≤(nxt l n m).1∧(nxt l n m).1<m∧(n≤l.length→(nxt l n m).2≤l.length):=by
 unfold nxt
 cases h:l[n]? with
 | none=>exact ⟨Int.le_refl _,hm,fun h=>h⟩
 | some x=>
   have:=(List.getElem?_eq_some_iff.1 h).1
   exact ⟨Int.emod_nonneg _ (by omega),Int.emod_lt_of_pos _ hm,fun _=>this⟩
theorem Q3 {n m:Int} (hm:0<m) (h:n.tmod m<0):n % m=n.tmod m+m:=by
 have h3: -m<n.tmod m:=Int.lt_tmod_of_pos n hm
 have h4:n=m*n.tdiv m+n.tmod m:=(Int.mul_tdiv_add_tmod n m).symm
 have h5:n=(n.tmod m+m)+m*(n.tdiv m-1):=by rw [Int.mul_sub];omega
 rw [h5,Int.add_mul_emod_self_left]
 rw [←h5]
 exact Int.emod_eq_of_lt (by omega) (by omega)
theorem Q2 {n m:Int} (hm:0<m) (h: ¬n.tmod m<0):n % m=n.tmod m:=by
 have h3:=Int.tmod_lt_of_pos n hm
 have h4:n=n.tmod m+m*n.tdiv m:=by have:=Int.mul_tdiv_add_tmod n m;omega
 rw [h4,Int.add_mul_emod_self_left,←h4]
 exact Int.emod_eq_of_lt (by omega) h3
theorem Re {n m:Int} (h1: -9223372036854775808≤n) (h2:n<9223372036854775808) (hm:0<m) (hm2:m<1000000):Ctr Tryz.prog Amb 19 [.one (.v (.int .i64 n)),.one (.v (.int .i64 m))] (.one (.v (.int .i64 (n % m)))):=by
 have hr:(IntKind.i64).wrap (n.tmod m+m)=n.tmod m+m:=by
  have h3:=Int.tmod_lt_of_pos n hm
  have h4: -m<n.tmod m:=Int.lt_tmod_of_pos n hm
  exact IntWalk.i64_in _ (by omega)
 have hs:=BJ (k:= .i64) hr
 refine AW Tryz.func19 rfl rfl rfl rfl rfl rfl ?_
 intro W0 base D μ0 hA hD
 repeat (first
  | refine Aq ?_|refine Ah ?_|refine Af rfl ?_|refine Ag rfl ?_
  | (refine Ae (by kernel_rfl) ?_
     repeat (first
      | refine Al (hl:=?_)
      | refine Ad (hl:=?_)
      | refine Ax (hc:=(TN (show m≠0 by omega))) (hl:=?_)
      | refine Ax (hl:=?_))
     apply Ai.nil)
  | refine Am ?_|refine An ?_)
 refine SC rfl (fun h=>?_) (fun h=>?_)
 ·repeat (first
   | refine Aq ?_|refine Ah ?_|refine Af rfl ?_|refine Ag rfl ?_
   | (refine Ae (by kernel_rfl) ?_
      repeat (first
       | refine Al (hl:=?_)
       | refine Ad (hl:=?_)
       | refine Ax (hl:=?_))
      apply Ai.nil)
   | refine Am ?_|refine An ?_)
  refine A9 (And.intro (Or.inr rfl) ?_)
  exact Ct (hE:=(Ent.of_eq (by rw [Q3 hm (of_decide_eq_true h)];rfl)))
 ·repeat (first
   | refine Aq ?_|refine Ah ?_|refine Af rfl ?_|refine Ag rfl ?_
   | (refine Ae (by kernel_rfl) ?_
      repeat (first
       | refine Al (hl:=?_)
       | refine Ad (hl:=?_)
       | refine Ax (hl:=?_))
      apply Ai.nil)
   | refine Am ?_|refine An ?_)
  refine A9 (And.intro (Or.inr rfl) ?_)
  exact Ct (hE:=(Ent.of_eq (by rw [Q2 hm (of_decide_eq_false h)];rfl)))
theorem Ss (l:List Int):Ctr Tryz.prog Amb 11 [.one (.ints l)] (.one (.v (.bool (decide ((l.length:Int)≤500))))):=by
 refine AW Tryz.func11 rfl rfl rfl rfl rfl rfl ?_
 intro W0 base D μ0 hA hD
 repeat (first
  | refine Aq ?_|refine Ah ?_|refine Af rfl ?_|refine Ag rfl ?_
  | (refine Ae (by kernel_rfl) ?_
     repeat (first
      | refine Al (hl:=?_)
      | refine Ad (hl:=?_)
      | refine Ax (hl:=?_)
      | refine AC (hl:=?_)
      | refine AB (hl:=?_)
      | refine AD (hl:=?_))
     apply Ai.nil)
  | refine Am ?_|refine An ?_)
 refine A9 (And.intro (Or.inr rfl) ?_)
 exact Ct
theorem Sr {l:List Int} {n:Nat} {m:Int} (hb: ∀x∈l,-9223372036854775808≤x∧x<9223372036854775808) (hl:l.length≤1000000) (hn:n≤l.length) (hm:0<m) (hm2:m<1000000):
  Cj Tryz.prog Amb 54 [.one (.ptr 900 0),.one (.v (.int .i64 m))] [(900,C5 l n,C5 l (nxt l n m).2)] (.one (.v (.int .i64 (nxt l n m).1))):=by
 apply AW Tryz.func54 rfl rfl rfl rfl rfl
 case hin=>simp [inA,inC]
 intro W0 base D μ0 hA hD
 unfold nxt
 cases hx:l[n]? with
 | none=>
   have hge:decide ((n:Int)≥(l.length:Int))=true:=decide_eq_true (by have:=List.getElem?_eq_none_iff.1 hx;omega)
   have hge':=F9 (k:= .i64) hge
   repeat (first
    | refine Aq ?_|refine Ah ?_|refine Af rfl ?_|refine Ag rfl ?_
    | ((first|refine Ae (by kernel_rfl) ?_|refine Ak (by kernel_rfl) (by kernel_rfl) (by kernel_rfl) ?_)
       repeat (first
        | refine Al (hl:=?_)
        | refine Ad (hl:=?_)
        | refine As (hl:=?_)
        | refine GC (hl:=?_)
        | refine At (hl:=?_)
        | refine Ax (hl:=?_)
        | refine Ab (hl:=?_)
        | refine G9 (hl:=?_)
        | refine FO (hl:=?_)
        | refine AC (hl:=?_)
        | refine AB (hl:=?_)
        | refine AD (hl:=?_))
       apply Ai.nil;try refine And.intro (by kernel_rfl) ?_)
    | refine Am ?_|refine An ?_)
   refine A9 (And.intro (Or.inr rfl) ?_)
   exact M7
 | some x=>
   have hlt:=(List.getElem?_eq_some_iff.1 hx).1
   have hge:decide ((n:Int)≥(l.length:Int))=false:=decide_eq_false (by omega)
   have hge':=F9 (k:= .i64) hge
   have hup:(IntKind.i64).wrap ((n:Int)+1)=((n+1:Nat):Int):=IntWalk.i64_in _ (by omega)
   have hup':=BJ (k:= .i64) hup
   have hdn:(IntKind.i64).wrap (((n+1:Nat):Int)-1)=(n:Int):=by rw [show ((n+1:Nat):Int)-1=n by omega];exact IntWalk.i64_in _ (by omega)
   have hdn':=Cq (k:= .i64) hdn
   have hxb:=hb x (List.mem_of_getElem? hx)
   have hix:l[((n:Nat):Int).toNat]?=some x:=by simpa using hx
   repeat (first
    | refine Aq ?_|refine Ah ?_|refine Af rfl ?_|refine Ag rfl ?_
    | ((first|refine Ae (by kernel_rfl) ?_|refine Ak (by kernel_rfl) (by kernel_rfl) (by kernel_rfl) ?_)
       repeat (first
        | refine Al (hl:=?_)
        | refine Ad (hl:=?_)
        | refine As (hl:=?_)
        | refine GC (hl:=?_)
        | refine At (hl:=?_)
        | refine Ax (hl:=?_)
        | refine Ab (hl:=?_)
        | refine G9 (hl:=?_)
        | refine FO (hl:=?_)
        | refine AC (hl:=?_)
        | refine AB (hl:=?_)
        | refine Og (hl:=?_)
        | refine AD (hl:=?_)
        | refine Ha hA (hc:=Re hxb.1 hxb.2 hm hm2) (hl:=?_)
        | (apply Ku;(case hg=>first|exact trivial|exact rfl);(case hd=>exact rfl);(case hx=>exact rfl);(case hy=>exact rfl);(case hi=>omega);(case hc=>exact hix)))
       apply Ai.nil;try refine And.intro (by kernel_rfl) ?_)
    | refine Am ?_|refine An ?_)
   refine A9 (And.intro (Or.inr rfl) ?_)
   exact M7
theorem Ec {l:List Int} {n k:Nat} {m:Int} (hb: ∀x∈l,-9223372036854775808≤x∧x<9223372036854775808) (hl:l.length≤1000000) (hn:n≤l.length) (hm:0<m) (hm2:m<1000000):
  Cj Tryz.prog Amb 54 [.one (.ptr k 0),.one (.v (.int .i64 m))] [(k,C5 l n,C5 l (nxt l n m).2)] (.one (.v (.int .i64 (nxt l n m).1))):=
 (Sr hb hl hn hm hm2).at1 k rfl rfl
theorem TD (l:List Int):SJ Tryz.prog Amb 53 [.one (.ints l)] (C5 l 0):=by
 refine Pj 5 Tryz.func53 rfl rfl rfl rfl rfl ?_
 intro W0 base D μ0 hA hD
 repeat (first
  | refine Aq ?_|refine Ah ?_|refine Af rfl ?_|refine Ag rfl ?_
  | (refine Ae (by kernel_rfl) ?_
     repeat (first
      | refine Al (hl:=?_)
      | refine Ad (hl:=?_)
      | refine Dj (hl:=?_)
      | refine Kr (hl:=?_)
      | refine Ks (hl:=?_))
     apply Ai.nil)
  | refine Am ?_|refine An ?_)
 refine A9 (And.intro (Or.inr rfl) (And.intro Ct (fun q hq=>?_)))
 obtain rfl:=List.mem_singleton.1 hq
 refine ⟨rfl,fun i c h=>?_⟩
 match i,h with
 | 0,h=>exact ⟨Aa.of_eq (Option.some.inj h),by cases h;trivial⟩
 | 1,h=>exact ⟨Aa.of_eq (Option.some.inj h),by cases h;exact Fh rfl⟩
def RZ (n d:Int):Rat:=((n % 41-20:Int):Rat)/((d % 8+1:Int):Rat)
theorem SS {n d:Int} (h1: -9223372036854775808≤n) (h2:n<9223372036854775808) (h3: -9223372036854775808≤d) (h4:d<9223372036854775808):
  Ctr Tryz.prog Amb 18 [.one (.v (.int .i64 n)),.one (.v (.int .i64 d))] (nm 2 (RZ n d)):=by
 have hs:(IntKind.i64).wrap (n % 41-20)=n % 41-20:=IntWalk.i64_in _ (by omega)
 have hs':=Cq (k:= .i64) hs
 have hp:(IntKind.i64).wrap (d % 8+1)=d % 8+1:=IntWalk.i64_in _ (by omega)
 have hp':=BJ (k:= .i64) hp
 have hs2:(IntKind.i64).wrap (n % 41)=n % 41:=IntWalk.i64_in _ (by omega)
 have hp2:(IntKind.i64).wrap (d % 8)=d % 8:=IntWalk.i64_in _ (by omega)
 have M1:=Re (n:=n) (m:=41) h1 h2 (by decide) (by decide)
 have M2:=Re (n:=d) (m:=8) h3 h4 (by decide) (by decide)
 have hfr:(decide (-9223372036854775808≤n % 41-20)&&decide (n % 41-20<9223372036854775808)&&decide (1≤d % 8+1)&&decide (d % 8+1<9223372036854775808))=true:=by
  rw [decide_eq_true (show-9223372036854775808≤n % 41-20 by omega),decide_eq_true (show n % 41-20<9223372036854775808 by omega),decide_eq_true (show 1≤d % 8+1 by omega),decide_eq_true (show d % 8+1<9223372036854775808 by omega)];rfl
 have R1:=Hl hfr
 unfold RZ
 refine AW Tryz.func18 rfl rfl rfl rfl rfl rfl ?_
 intro W0 base D μ0 hA hD
 repeat (first
  | refine Aq ?_|refine Ah ?_|refine Af rfl ?_|refine Ag rfl ?_
  | (refine Ae (by kernel_rfl) ?_
     repeat (first
      | refine Al (hl:=?_)
      | refine At (hl:=?_)
      | refine AA (hl:=?_)
      | refine Ax (hl:=?_)
      | refine Ha hA (hc:=M1) (hl:=?_)
      | refine Ha hA (hc:=M2) (hl:=?_)
      | refine Ha hA (hc:=R1) (hl:=?_))
     apply Ai.nil)
  | refine Am ?_|refine An ?_)
 refine A9 (And.intro (Or.inr rfl) ?_)
 exact Ct
end Go.Proofs.YtoabfmaagnmlhaaGreatDoor
