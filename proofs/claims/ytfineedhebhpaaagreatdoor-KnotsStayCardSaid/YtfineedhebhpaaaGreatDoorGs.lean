/-
  Several texts in one: Sn, So.
-/
import Derived.Test.YtfineedhebhpaaaGreatDoorGk
import Derived.Test.YtfineedhebhpaaaGreatDoorEw
namespace Go.Proofs.YtfineedhebhpaaaGreatDoor
open Go.RowKit
set_option linter.unusedVariables false
set_option linter.unusedSimpArgs false
set_option maxRecDepth 20000
set_option maxHeartbeats 4000000
abbrev Dx (l:List Int) (n:Nat):List C:= [.ints l,.v (.int .i64 (n:Nat))]
def nxt (l:List Int) (n:Nat) (m:Int):Int×Nat:=match l[n]? with|some x=>(x % m,n+1)|none=>(0,n)
theorem EN (l:List Int) (n:Nat) {m:Int} (hm:0<m):0≤(nxt l n m).1∧(nxt l n m).1<m∧(n≤l.length→(nxt l n m).2≤l.length):=by
 unfold nxt
 cases h:l[n]? with
 | none=>exact ⟨Int.le_refl _,hm,fun h=>h⟩
 | some x=>
   have:=(List.getElem?_eq_some_iff.1 h).1
   exact ⟨Int.emod_nonneg _ (by omega),Int.emod_lt_of_pos _ hm,fun _=>this⟩
theorem TL {n m:Int} (hm:0<m) (h:n.tmod m<0):n % m=n.tmod m+m:=by
 have h3: -m<n.tmod m:=Int.lt_tmod_of_pos n hm
 have h4:n=m*n.tdiv m+n.tmod m:=(Int.mul_tdiv_add_tmod n m).symm
 have h5:n=(n.tmod m+m)+m*(n.tdiv m-1):=by rw [Int.mul_sub];omega
 rw [h5,Int.add_mul_emod_self_left]
 rw [←h5]
 exact Int.emod_eq_of_lt (by omega) (by omega)
theorem TK {n m:Int} (hm:0<m) (h: ¬n.tmod m<0):n % m=n.tmod m:=by
 have h3:=Int.tmod_lt_of_pos n hm
 have h4:n=n.tmod m+m*n.tdiv m:=by have:=Int.mul_tdiv_add_tmod n m;omega
 rw [h4,Int.add_mul_emod_self_left,←h4]
 exact Int.emod_eq_of_lt (by omega) h3
theorem TV {n m:Int} (h1: -9223372036854775808≤n) (h2:n<9223372036854775808) (hm:0<m) (hm2:m<1000000):Ctr Tryz.prog Amb 52 [.one (.v (.int .i64 n)),.one (.v (.int .i64 m))] (.one (.v (.int .i64 (n % m)))):=by
 have hr:(IntKind.i64).wrap (n.tmod m+m)=n.tmod m+m:=by
  have h3:=Int.tmod_lt_of_pos n hm
  have h4: -m<n.tmod m:=Int.lt_tmod_of_pos n hm
  exact IntWalk.i64_in _ (by omega)
 have hs:=BD (k:= .i64) hr
 refine AK Tryz.func52 rfl rfl rfl rfl rfl rfl ?_
 intro W0 base D μ0 hA hD
 repeat (first
  | refine Aj ?_|refine Ae ?_|refine Ac rfl ?_|refine Ad rfl ?_
  | (refine An (by kernel_rfl) ?_
     repeat (first
      | refine Aq (hl:=?_)
      | refine Ai (hl:=?_)
      | refine AJ (hc:=(WH (show m≠0 by omega))) (hl:=?_)
      | refine AJ (hl:=?_))
     apply Ab.nil)
  | refine Ag ?_|refine Ah ?_)
 refine Vu rfl (fun h=>?_) (fun h=>?_)
 ·repeat (first
   | refine Aj ?_|refine Ae ?_|refine Ac rfl ?_|refine Ad rfl ?_
   | (refine An (by kernel_rfl) ?_
      repeat (first
       | refine Aq (hl:=?_)
       | refine Ai (hl:=?_)
       | refine AJ (hl:=?_))
      apply Ab.nil)
   | refine Ag ?_|refine Ah ?_)
  refine AU (And.intro (Or.inr rfl) ?_)
  exact Cw (hE:=(Ent.of_eq (by rw [TL hm (of_decide_eq_true h)];rfl)))
 ·repeat (first
   | refine Aj ?_|refine Ae ?_|refine Ac rfl ?_|refine Ad rfl ?_
   | (refine An (by kernel_rfl) ?_
      repeat (first
       | refine Aq (hl:=?_)
       | refine Ai (hl:=?_)
       | refine AJ (hl:=?_))
      apply Ab.nil)
   | refine Ag ?_|refine Ah ?_)
  refine AU (And.intro (Or.inr rfl) ?_)
  exact Cw (hE:=(Ent.of_eq (by rw [TK hm (of_decide_eq_false h)];rfl)))
theorem Vm (l:List Int):Ctr Tryz.prog Amb 11 [.one (.ints l)] (.one (.v (.bool (decide ((l.length:Int)≤500))))):=by
 refine AK Tryz.func11 rfl rfl rfl rfl rfl rfl ?_
 intro W0 base D μ0 hA hD
 repeat (first
  | refine Aj ?_|refine Ae ?_|refine Ac rfl ?_|refine Ad rfl ?_
  | (refine An (by kernel_rfl) ?_
     repeat (first
      | refine Aq (hl:=?_)
      | refine Ai (hl:=?_)
      | refine AJ (hl:=?_)
      | refine AO (hl:=?_)
      | refine AN (hl:=?_)
      | refine AP (hl:=?_))
     apply Ab.nil)
  | refine Ag ?_|refine Ah ?_)
 refine AU (And.intro (Or.inr rfl) ?_)
 exact Cw
theorem Vl {l:List Int} {n:Nat} {m:Int} (hb: ∀x∈l,-9223372036854775808≤x∧x<9223372036854775808) (hl:l.length≤1000000) (hn:n≤l.length) (hm:0<m) (hm2:m<1000000):
  B9 Tryz.prog Amb 80 [.one (.ptr 900 0),.one (.v (.int .i64 m))] [(900,Dx l n,Dx l (nxt l n m).2)] (.one (.v (.int .i64 (nxt l n m).1))):=by
 apply AK Tryz.func80 rfl rfl rfl rfl rfl
 case hin=>simp [inA,inC]
 intro W0 base D μ0 hA hD
 unfold nxt
 cases hx:l[n]? with
 | none=>
   have hge:decide ((n:Int)≥(l.length:Int))=true:=decide_eq_true (by have:=List.getElem?_eq_none_iff.1 hx;omega)
   have hge':=Ky (k:= .i64) hge
   repeat (first
    | refine Aj ?_|refine Ae ?_|refine Ac rfl ?_|refine Ad rfl ?_
    | ((first|refine An (by kernel_rfl) ?_|refine Az (by kernel_rfl) (by kernel_rfl) (by kernel_rfl) ?_)
       repeat (first
        | refine Aq (hl:=?_)
        | refine Ai (hl:=?_)
        | refine AA (hl:=?_)
        | refine Dk (hl:=?_)
        | refine Ay (hl:=?_)
        | refine AJ (hl:=?_)
        | refine Ak (hl:=?_)
        | refine Fh (hl:=?_)
        | refine D8 (hl:=?_)
        | refine AO (hl:=?_)
        | refine AN (hl:=?_)
        | refine AP (hl:=?_))
       apply Ab.nil;try refine And.intro (by kernel_rfl) ?_)
    | refine Ag ?_|refine Ah ?_)
   refine AU (And.intro (Or.inr rfl) ?_)
   exact O7
 | some x=>
   have hlt:=(List.getElem?_eq_some_iff.1 hx).1
   have hge:decide ((n:Int)≥(l.length:Int))=false:=decide_eq_false (by omega)
   have hge':=Ky (k:= .i64) hge
   have hup:(IntKind.i64).wrap ((n:Int)+1)=((n+1:Nat):Int):=IntWalk.i64_in _ (by omega)
   have hup':=BD (k:= .i64) hup
   have hdn:(IntKind.i64).wrap (((n+1:Nat):Int)-1)=(n:Int):=by rw [show ((n+1:Nat):Int)-1=n by omega];exact IntWalk.i64_in _ (by omega)
   have hdn':=Cq (k:= .i64) hdn
   have hxb:=hb x (List.mem_of_getElem? hx)
   have hix:l[((n:Nat):Int).toNat]?=some x:=by simpa using hx
   repeat (first
    | refine Aj ?_|refine Ae ?_|refine Ac rfl ?_|refine Ad rfl ?_
    | ((first|refine An (by kernel_rfl) ?_|refine Az (by kernel_rfl) (by kernel_rfl) (by kernel_rfl) ?_)
       repeat (first
        | refine Aq (hl:=?_)
        | refine Ai (hl:=?_)
        | refine AA (hl:=?_)
        | refine Dk (hl:=?_)
        | refine Ay (hl:=?_)
        | refine AJ (hl:=?_)
        | refine Ak (hl:=?_)
        | refine Fh (hl:=?_)
        | refine D8 (hl:=?_)
        | refine AO (hl:=?_)
        | refine AN (hl:=?_)
        | refine G0 (hl:=?_)
        | refine AP (hl:=?_)
        | refine DB hA (hc:=TV hxb.1 hxb.2 hm hm2) (hl:=?_)
        | (apply L4;(case hg=>first|exact trivial|exact rfl);(case hd=>exact rfl);(case hx=>exact rfl);(case hy=>exact rfl);(case hi=>omega);(case hc=>exact hix)))
       apply Ab.nil;try refine And.intro (by kernel_rfl) ?_)
    | refine Ag ?_|refine Ah ?_)
   refine AU (And.intro (Or.inr rfl) ?_)
   exact O7
theorem EU {l:List Int} {n k:Nat} {m:Int} (hb: ∀x∈l,-9223372036854775808≤x∧x<9223372036854775808) (hl:l.length≤1000000) (hn:n≤l.length) (hm:0<m) (hm2:m<1000000):
  B9 Tryz.prog Amb 80 [.one (.ptr k 0),.one (.v (.int .i64 m))] [(k,Dx l n,Dx l (nxt l n m).2)] (.one (.v (.int .i64 (nxt l n m).1))):=
 (Vl hb hl hn hm hm2).at1 k rfl rfl
theorem Wy (l:List Int):Um Tryz.prog Amb 13 [.one (.ints l)] (Dx l 0):=by
 refine RG 5 Tryz.func13 rfl rfl rfl rfl rfl ?_
 intro W0 base D μ0 hA hD
 repeat (first
  | refine Aj ?_|refine Ae ?_|refine Ac rfl ?_|refine Ad rfl ?_
  | (refine An (by kernel_rfl) ?_
     repeat (first
      | refine Aq (hl:=?_)
      | refine Ai (hl:=?_)
      | refine Ct (hl:=?_)
      | refine DQ (hl:=?_)
      | refine DR (hl:=?_))
     apply Ab.nil)
  | refine Ag ?_|refine Ah ?_)
 refine AU (And.intro (Or.inr rfl) (And.intro Cw (fun q hq=>?_)))
 obtain rfl:=List.mem_singleton.1 hq
 refine ⟨rfl,fun i c h=>?_⟩
 match i,h with
 | 0,h=>exact ⟨Aa.of_eq (Option.some.inj h),by cases h;trivial⟩
 | 1,h=>exact ⟨Aa.of_eq (Option.some.inj h),by cases h;exact F5 rfl⟩
def Cv (n:Int):Int:=1+n.tdiv 17 % 12
def E7 (n:Int):Rat:=((n % (Cv n+1):Int):Rat)/((Cv n:Int):Rat)
theorem MJ (n:Int):1≤Cv n∧Cv n≤12:=by
 have h1:=Int.emod_nonneg (n.tdiv 17) (b:=12) (by decide)
 have h2:=Int.emod_lt_of_pos (n.tdiv 17) (b:=12) (by decide)
 unfold Cv
 omega
theorem S9 (n:Int):0≤E7 n∧0≤1-E7 n:=by
 obtain ⟨h1,h2⟩:=MJ n
 have h3:=Int.emod_nonneg n (b:=Cv n+1) (by omega)
 have h4:=Int.emod_lt_of_pos n (b:=Cv n+1) (by omega)
 obtain ⟨d,hd⟩: ∃d,d=Cv n:=⟨_,rfl⟩
 obtain ⟨a,ha⟩: ∃a,a=n % (Cv n+1):=⟨_,rfl⟩
 unfold E7
 rw [←ha,←hd]
 rw [←ha,←hd] at h4
 rw [←ha] at h3
 rw [←hd] at h1
 clear ha hd h2
 have k1:(0:Rat)<(d:Rat):=by
  have:((0:Int):Rat)<(d:Rat):=Rat.intCast_lt_intCast.2 (by omega)
  exact this
 have k2:(0:Rat)≤(a:Rat):=by
  have:((0:Int):Rat)≤(a:Rat):=Rat.intCast_le_intCast.2 h3
  exact this
 have k3:(a:Rat)≤(d:Rat):=Rat.intCast_le_intCast.2 (by omega)
 have k4:(a:Rat)/(d:Rat)*(d:Rat)=a:=by
  have:(d:Rat)≠0:=by grind
  grind
 generalize (a:Rat)/(d:Rat)=x at*
 have key: ∀y:Rat,0≤y*(d:Rat)→0≤y:=fun y hy=>by
  rcases Std.lt_trichotomy (a:=(0:Rat)) (b:=y) with h|h|h
  ·grind
  ·grind
  ·have:=Rat.mul_pos (show 0< -y by grind) k1
   grind
 exact ⟨key _ (by rw [k4];exact k2),key _ (by grind)⟩
theorem Wz {n:Int} (h1: -9223372036854775808≤n) (h2:n<9223372036854775808):Ctr Tryz.prog Amb 56 [.one (.v (.int .i64 n))] (nm 2 (E7 n)):=by
 obtain ⟨b1,b2⟩:=MJ n
 have z1:=Int.tmod_lt_of_pos n (b:=17) (by decide)
 have z2: -17<n.tmod 17:=Int.lt_tmod_of_pos n (by decide)
 have z3:=Int.mul_tdiv_add_tmod n 17
 have hq:(IntKind.i64).wrap (n.tdiv 17)=n.tdiv 17:=IntWalk.i64_in _ (by omega)
 have hq':FA .quo .i64 n 17=some (.int .i64 (n.tdiv 17)):=by unfold FA;rw [if_neg (by decide),hq]
 have M1:=TV (n:=n.tdiv 17) (m:=12) (by omega) (by omega) (by decide) (by decide)
 have hd:(IntKind.i64).wrap (1+n.tdiv 17 % 12)=Cv n:=IntWalk.i64_in _ (by unfold Cv at b1 b2;omega)
 have hd':=BD (k:= .i64) hd
 have he:(IntKind.i64).wrap (Cv n+1)=Cv n+1:=IntWalk.i64_in _ (by omega)
 have he':=BD (k:= .i64) he
 have M2:=TV (n:=n) (m:=Cv n+1) h1 h2 (by omega) (by omega)
 have c3:=Int.emod_nonneg n (b:=Cv n+1) (by omega)
 have c4:=Int.emod_lt_of_pos n (b:=Cv n+1) (by omega)
 have hs1:(IntKind.i64).wrap (n % (Cv n+1))=n % (Cv n+1):=IntWalk.i64_in _ (by omega)
 have hs2:(IntKind.i64).wrap (Cv n)=Cv n:=IntWalk.i64_in _ (by omega)
 have hfr:(decide (-9223372036854775808≤n % (Cv n+1))&&decide (n % (Cv n+1)<9223372036854775808)&&decide (1≤Cv n)&&decide (Cv n<9223372036854775808))=true:=by
  rw [decide_eq_true (show-9223372036854775808≤n % (Cv n+1) by omega),decide_eq_true (show n % (Cv n+1)<9223372036854775808 by omega),decide_eq_true b1,decide_eq_true (show Cv n<9223372036854775808 by omega)];rfl
 have R1:=Li hfr
 unfold E7
 refine AK Tryz.func56 rfl rfl rfl rfl rfl rfl ?_
 intro W0 base D μ0 hA hD
 repeat (first
  | refine Aj ?_|refine Ae ?_|refine Ac rfl ?_|refine Ad rfl ?_
  | (refine An (by kernel_rfl) ?_
     repeat (first
      | refine Aq (hl:=?_)
      | refine Ai (hl:=?_)
      | refine Ay (hl:=?_)
      | refine AG (hl:=?_)
      | refine AJ (hl:=?_)
      | refine DB hA (hc:=M1) (hl:=?_)
      | refine DB hA (hc:=M2) (hl:=?_)
      | refine DB hA (hc:=R1) (hl:=?_))
     apply Ab.nil)
  | refine Ag ?_|refine Ah ?_)
 refine AU (And.intro (Or.inr rfl) ?_)
 exact Cw
end Go.Proofs.YtfineedhebhpaaaGreatDoor
