/-
  Several texts in one: Sn, So.
-/
import Derived.Test.YtkmalkcgkcpcmaaGreatDoorGk
import Derived.Test.YtkmalkcgkcpcmaaGreatDoorEw
namespace Go.Proofs.YtkmalkcgkcpcmaaGreatDoor
open Go.RowKit
set_option linter.unusedVariables false
set_option linter.unusedSimpArgs false
set_option maxRecDepth 20000
set_option maxHeartbeats 4000000
abbrev BV (l:List Int) (n:Nat):List C:= [.ints l,.v (.int .i64 (n:Nat))]
def nxt (l:List Int) (n:Nat) (m:Int):Int×Nat:=match l[n]? with|some x=>(x % m,n+1)|none=>(0,n)
def FS (l:List Int) (n:Nat):Rat×Nat:=
 let a:=nxt l n 13
 let b:=nxt l a.2 4
 if b.1=3 then (let c:=nxt l b.2 4;(((a.1-6:Int):Rat)/((1+c.1:Int):Rat),c.2)) else (((a.1-6:Int):Rat),b.2)
theorem Co (l:List Int) (n:Nat) {m:Int} (hm:0<m):0≤(nxt l n m).1∧(nxt l n m).1<m∧(n≤l.length→(nxt l n m).2≤l.length):=by
 unfold nxt
 cases h:l[n]? with
 | none=>exact ⟨Int.le_refl _,hm,fun h=>h⟩
 | some x=>
   have:=(List.getElem?_eq_some_iff.1 h).1
   exact ⟨Int.emod_nonneg _ (by omega),Int.emod_lt_of_pos _ hm,fun _=>this⟩
theorem Vu (l:List Int) (n:Nat) (h:n≤l.length):(FS l n).2≤l.length:=by
 unfold FS
 have h1:=(Co l n (m:=13) (by decide)).2.2 h
 have h2:=(Co l (nxt l n 13).2 (m:=4) (by decide)).2.2 h1
 have h3:=(Co l (nxt l (nxt l n 13).2 4).2 (m:=4) (by decide)).2.2 h2
 simp only
 split
 ·exact h3
 ·exact h2
theorem Ue {n m:Int} (hm:0<m) (h:n.tmod m<0):n % m=n.tmod m+m:=by
 have h3: -m<n.tmod m:=Int.lt_tmod_of_pos n hm
 have h4:n=m*n.tdiv m+n.tmod m:=(Int.mul_tdiv_add_tmod n m).symm
 have h5:n=(n.tmod m+m)+m*(n.tdiv m-1):=by rw [Int.mul_sub];omega
 rw [h5,Int.add_mul_emod_self_left]
 rw [←h5]
 exact Int.emod_eq_of_lt (by omega) (by omega)
theorem Ud {n m:Int} (hm:0<m) (h: ¬n.tmod m<0):n % m=n.tmod m:=by
 have h3:=Int.tmod_lt_of_pos n hm
 have h4:n=n.tmod m+m*n.tdiv m:=by have:=Int.mul_tdiv_add_tmod n m;omega
 rw [h4,Int.add_mul_emod_self_left,←h4]
 exact Int.emod_eq_of_lt (by omega) h3
theorem He {n m:Int} (h1: -9223372036854775808≤n) (h2:n<9223372036854775808) (hm:0<m) (hm2:m<1000000):Ctr Tryz.prog Amb 18 [.one (.v (.int .i64 n)),.one (.v (.int .i64 m))] (.one (.v (.int .i64 (n % m)))):=by
 have hr:(IntKind.i64).wrap (n.tmod m+m)=n.tmod m+m:=by
  have h3:=Int.tmod_lt_of_pos n hm
  have h4: -m<n.tmod m:=Int.lt_tmod_of_pos n hm
  exact IntWalk.i64_in _ (by omega)
 have hs:=AZ (k:= .i64) hr
 refine As Tryz.func18 rfl rfl rfl rfl rfl rfl ?_
 intro W0 base D μ0 hA hD
 repeat (first
  | refine Ah ?_|refine Ad ?_|refine Ab rfl ?_|refine Ac rfl ?_
  | (refine Al (by kernel_rfl) ?_
     repeat (first
      | refine An (hl:=?_)
      | refine Ai (hl:=?_)
      | refine AC (hc:=(Xo (show m≠0 by omega))) (hl:=?_)
      | refine AC (hl:=?_))
     apply Ag.nil)
  | refine Ae ?_|refine Af ?_)
 refine V3 rfl (fun h=>?_) (fun h=>?_)
 ·repeat (first
   | refine Ah ?_|refine Ad ?_|refine Ab rfl ?_|refine Ac rfl ?_
   | (refine Al (by kernel_rfl) ?_
      repeat (first
       | refine An (hl:=?_)
       | refine Ai (hl:=?_)
       | refine AC (hl:=?_))
      apply Ag.nil)
   | refine Ae ?_|refine Af ?_)
  refine AG (And.intro (Or.inr rfl) ?_)
  exact B7 (hE:=(Ent.of_eq (by rw [Ue hm (of_decide_eq_true h)];rfl)))
 ·repeat (first
   | refine Ah ?_|refine Ad ?_|refine Ab rfl ?_|refine Ac rfl ?_
   | (refine Al (by kernel_rfl) ?_
      repeat (first
       | refine An (hl:=?_)
       | refine Ai (hl:=?_)
       | refine AC (hl:=?_))
      apply Ag.nil)
   | refine Ae ?_|refine Af ?_)
  refine AG (And.intro (Or.inr rfl) ?_)
  exact B7 (hE:=(Ent.of_eq (by rw [Ud hm (of_decide_eq_false h)];rfl)))
theorem Qu (l:List Int):Ctr Tryz.prog Amb 10 [.one (.ints l)] (.one (.v (.bool (decide ((l.length:Int)≤500))))):=by
 refine As Tryz.func10 rfl rfl rfl rfl rfl rfl ?_
 intro W0 base D μ0 hA hD
 repeat (first
  | refine Ah ?_|refine Ad ?_|refine Ab rfl ?_|refine Ac rfl ?_
  | (refine Al (by kernel_rfl) ?_
     repeat (first
      | refine An (hl:=?_)
      | refine Ai (hl:=?_)
      | refine AC (hl:=?_)
      | refine AJ (hl:=?_)
      | refine AI (hl:=?_)
      | refine AK (hl:=?_))
     apply Ag.nil)
  | refine Ae ?_|refine Af ?_)
 refine AG (And.intro (Or.inr rfl) ?_)
 exact B7
theorem VQ {l:List Int} {n:Nat} {m:Int} (hb: ∀x∈l,-9223372036854775808≤x∧x<9223372036854775808) (hl:l.length≤1000000) (hn:n≤l.length) (hm:0<m) (hm2:m<1000000):
  Ct Tryz.prog Amb 51 [.one (.ptr 900 0),.one (.v (.int .i64 m))] [(900,BV l n,BV l (nxt l n m).2)] (.one (.v (.int .i64 (nxt l n m).1))):=by
 apply As Tryz.func51 rfl rfl rfl rfl rfl
 case hin=>simp [inA,inC]
 intro W0 base D μ0 hA hD
 unfold nxt
 cases hx:l[n]? with
 | none=>
   have hge:decide ((n:Int)≥(l.length:Int))=true:=decide_eq_true (by have:=List.getElem?_eq_none_iff.1 hx;omega)
   have hge':=FE (k:= .i64) hge
   repeat (first
    | refine Ah ?_|refine Ad ?_|refine Ab rfl ?_|refine Ac rfl ?_
    | ((first|refine Al (by kernel_rfl) ?_|refine Aq (by kernel_rfl) (by kernel_rfl) (by kernel_rfl) ?_)
       repeat (first
        | refine An (hl:=?_)
        | refine Ai (hl:=?_)
        | refine Az (hl:=?_)
        | refine DQ (hl:=?_)
        | refine Ao (hl:=?_)
        | refine AC (hl:=?_)
        | refine Ak (hl:=?_)
        | refine Fi (hl:=?_)
        | refine D5 (hl:=?_)
        | refine AJ (hl:=?_)
        | refine AI (hl:=?_)
        | refine AK (hl:=?_))
       apply Ag.nil;try refine And.intro (by kernel_rfl) ?_)
    | refine Ae ?_|refine Af ?_)
   refine AG (And.intro (Or.inr rfl) ?_)
   exact H7
 | some x=>
   have hlt:=(List.getElem?_eq_some_iff.1 hx).1
   have hge:decide ((n:Int)≥(l.length:Int))=false:=decide_eq_false (by omega)
   have hge':=FE (k:= .i64) hge
   have hup:(IntKind.i64).wrap ((n:Int)+1)=((n+1:Nat):Int):=IntWalk.i64_in _ (by omega)
   have hup':=AZ (k:= .i64) hup
   have hdn:(IntKind.i64).wrap (((n+1:Nat):Int)-1)=(n:Int):=by rw [show ((n+1:Nat):Int)-1=n by omega];exact IntWalk.i64_in _ (by omega)
   have hdn':=BB (k:= .i64) hdn
   have hxb:=hb x (List.mem_of_getElem? hx)
   have hix:l[((n:Nat):Int).toNat]?=some x:=by simpa using hx
   repeat (first
    | refine Ah ?_|refine Ad ?_|refine Ab rfl ?_|refine Ac rfl ?_
    | ((first|refine Al (by kernel_rfl) ?_|refine Aq (by kernel_rfl) (by kernel_rfl) (by kernel_rfl) ?_)
       repeat (first
        | refine An (hl:=?_)
        | refine Ai (hl:=?_)
        | refine Az (hl:=?_)
        | refine DQ (hl:=?_)
        | refine Ao (hl:=?_)
        | refine AC (hl:=?_)
        | refine Ak (hl:=?_)
        | refine Fi (hl:=?_)
        | refine D5 (hl:=?_)
        | refine AJ (hl:=?_)
        | refine AI (hl:=?_)
        | refine F5 (hl:=?_)
        | refine AK (hl:=?_)
        | refine EO hA (hc:=He hxb.1 hxb.2 hm hm2) (hl:=?_)
        | (apply Ip;(case hg=>first|exact trivial|exact rfl);(case hd=>exact rfl);(case hx=>exact rfl);(case hy=>exact rfl);(case hi=>omega);(case hc=>exact hix)))
       apply Ag.nil;try refine And.intro (by kernel_rfl) ?_)
    | refine Ae ?_|refine Af ?_)
   refine AG (And.intro (Or.inr rfl) ?_)
   exact H7
theorem DA {l:List Int} {n k:Nat} {m:Int} (hb: ∀x∈l,-9223372036854775808≤x∧x<9223372036854775808) (hl:l.length≤1000000) (hn:n≤l.length) (hm:0<m) (hm2:m<1000000):
  Ct Tryz.prog Amb 51 [.one (.ptr k 0),.one (.v (.int .i64 m))] [(k,BV l n,BV l (nxt l n m).2)] (.one (.v (.int .i64 (nxt l n m).1))):=
 (VQ hb hl hn hm hm2).at1 k rfl rfl
theorem RX {l:List Int} {n:Nat} (hb: ∀x∈l,-9223372036854775808≤x∧x<9223372036854775808) (hl:l.length≤1000000) (hn:n≤l.length):
  Ct Tryz.prog Amb 114 [.one (.ptr 900 0)] [(900,BV l n,BV l (FS l n).2)] (nm 2 (FS l n).1):=by
 obtain ⟨a1,a2,a3⟩:=Co l n (m:=13) (by decide)
 have a3:=a3 hn
 obtain ⟨b1,b2,b3⟩:=Co l (nxt l n 13).2 (m:=4) (by decide)
 have b3:=b3 a3
 obtain ⟨c1,c2,c3⟩:=Co l (nxt l (nxt l n 13).2 4).2 (m:=4) (by decide)
 have hs:(IntKind.i64).wrap ((nxt l n 13).1-6)=(nxt l n 13).1-6:=IntWalk.i64_in _ (by omega)
 have hs':=BB (k:= .i64) hs
 have hp:(IntKind.i64).wrap (1+(nxt l (nxt l (nxt l n 13).2 4).2 4).1)=1+(nxt l (nxt l (nxt l n 13).2 4).2 4).1:=IntWalk.i64_in _ (by omega)
 have hp':=AZ (k:= .i64) hp
 have hint:(decide (-9223372036854775808≤(nxt l n 13).1-6)&&decide ((nxt l n 13).1-6<9223372036854775808))=true:=by
  rw [decide_eq_true (show-9223372036854775808≤(nxt l n 13).1-6 by omega),decide_eq_true (show (nxt l n 13).1-6<9223372036854775808 by omega)];rfl
 have hfr:(decide (-9223372036854775808≤(nxt l n 13).1-6)&&decide ((nxt l n 13).1-6<9223372036854775808)&&decide (1≤1+(nxt l (nxt l (nxt l n 13).2 4).2 4).1)&&decide (1+(nxt l (nxt l (nxt l n 13).2 4).2 4).1<9223372036854775808))=true:=by
  rw [hint,decide_eq_true (show 1≤1+(nxt l (nxt l (nxt l n 13).2 4).2 4).1 by omega),decide_eq_true (show 1+(nxt l (nxt l (nxt l n 13).2 4).2 4).1<9223372036854775808 by omega)];rfl
 have N1:=DA (k:=900) (n:=n) (m:=13) hb hl hn (by decide) (by decide)
 have N2:=DA (k:=900) (n:=(nxt l n 13).2) (m:=4) hb hl a3 (by decide) (by decide)
 have N3:=DA (k:=900) (n:=(nxt l (nxt l n 13).2 4).2) (m:=4) hb hl b3 (by decide) (by decide)
 apply As Tryz.func114 rfl rfl rfl rfl rfl
 case hin=>simp [inA,inC]
 intro W0 base D μ0 hA hD
 unfold FS
 by_cases h3:(nxt l (nxt l n 13).2 4).1=3
 ·have he:=CJ (k:= .i64) (decide_eq_true h3)
  simp only [h3,if_true]
  rw [h3] at N2 he
  repeat (first
   | refine Ah ?_|refine Ad ?_|refine Ab rfl ?_|refine Ac rfl ?_
   | (refine Al (by kernel_rfl) ?_
      repeat (first
       | refine An (hl:=?_)
       | refine Ai (hl:=?_)
       | refine Ao (hl:=?_)
       | refine At (hl:=?_)
       | refine AC (hl:=?_)
       | refine AL (hl:=?_)
       | refine Cj hA (hc:=N1) (hl:=?_)
       | refine Cj hA (hc:=N2) (hl:=?_)
       | refine Cj hA (hc:=N3) (hl:=?_)
       | refine EO hA (hc:=GD hfr) (hl:=?_))
      apply Ag.nil)
   | refine Ae ?_|refine Af ?_)
  refine AG (And.intro (Or.inr rfl) ?_)
  exact H7
 ·have he:=CJ (k:= .i64) (decide_eq_false h3)
  rw [if_neg h3]
  repeat (first
   | refine Ah ?_|refine Ad ?_|refine Ab rfl ?_|refine Ac rfl ?_
   | (refine Al (by kernel_rfl) ?_
      repeat (first
       | refine An (hl:=?_)
       | refine Ai (hl:=?_)
       | refine Ao (hl:=?_)
       | refine At (hl:=?_)
       | refine AC (hl:=?_)
       | refine AL (hl:=?_)
       | refine Cj hA (hc:=N1) (hl:=?_)
       | refine Cj hA (hc:=N2) (hl:=?_)
       | refine EO hA (hc:=Na hint) (hl:=?_))
      apply Ag.nil)
   | refine Ae ?_|refine Af ?_)
  refine AG (And.intro (Or.inr rfl) ?_)
  exact H7
theorem Uq {l:List Int} {n k:Nat} (hb: ∀x∈l,-9223372036854775808≤x∧x<9223372036854775808) (hl:l.length≤1000000) (hn:n≤l.length):
  Ct Tryz.prog Amb 114 [.one (.ptr k 0)] [(k,BV l n,BV l (FS l n).2)] (nm 2 (FS l n).1):=
 (RX hb hl hn).at1 k rfl rfl
theorem Up (l:List Int):UM Tryz.prog Amb 50 [.one (.ints l)] (BV l 0):=by
 refine RZ 5 Tryz.func50 rfl rfl rfl rfl rfl ?_
 intro W0 base D μ0 hA hD
 repeat (first
  | refine Ah ?_|refine Ad ?_|refine Ab rfl ?_|refine Ac rfl ?_
  | (refine Al (by kernel_rfl) ?_
     repeat (first
      | refine An (hl:=?_)
      | refine Ai (hl:=?_)
      | refine Da (hl:=?_)
      | refine A0 (hl:=?_)
      | refine A5 (hl:=?_))
     apply Ag.nil)
  | refine Ae ?_|refine Af ?_)
 refine AG (And.intro (Or.inr rfl) (And.intro B7 (fun q hq=>?_)))
 obtain rfl:=List.mem_singleton.1 hq
 refine ⟨rfl,fun i c h=>?_⟩
 match i,h with
 | 0,h=>exact ⟨Aa.of_eq (Option.some.inj h),by cases h;trivial⟩
 | 1,h=>exact ⟨Aa.of_eq (Option.some.inj h),by cases h;exact Gh rfl⟩
def C5 (n:Int):Int:=1+n.tdiv 17 % 12
def Jo (n:Int):Rat:=((n % (C5 n+1):Int):Rat)/((C5 n:Int):Rat)
theorem Tv (n:Int):1≤C5 n∧C5 n≤12:=by
 have h1:=Int.emod_nonneg (n.tdiv 17) (b:=12) (by decide)
 have h2:=Int.emod_lt_of_pos (n.tdiv 17) (b:=12) (by decide)
 unfold C5
 omega
theorem Xg {n:Int} (h1: -9223372036854775808≤n) (h2:n<9223372036854775808):Ctr Tryz.prog Amb 78 [.one (.v (.int .i64 n))] (nm 2 (Jo n)):=by
 obtain ⟨b1,b2⟩:=Tv n
 have z1:=Int.tmod_lt_of_pos n (b:=17) (by decide)
 have z2: -17<n.tmod 17:=Int.lt_tmod_of_pos n (by decide)
 have z3:=Int.mul_tdiv_add_tmod n 17
 have hq:(IntKind.i64).wrap (n.tdiv 17)=n.tdiv 17:=IntWalk.i64_in _ (by omega)
 have hq':FF .quo .i64 n 17=some (.int .i64 (n.tdiv 17)):=by unfold FF;rw [if_neg (by decide),hq]
 have M1:=He (n:=n.tdiv 17) (m:=12) (by omega) (by omega) (by decide) (by decide)
 have hd:(IntKind.i64).wrap (1+n.tdiv 17 % 12)=C5 n:=IntWalk.i64_in _ (by unfold C5 at b1 b2;omega)
 have hd':=AZ (k:= .i64) hd
 have he:(IntKind.i64).wrap (C5 n+1)=C5 n+1:=IntWalk.i64_in _ (by omega)
 have he':=AZ (k:= .i64) he
 have M2:=He (n:=n) (m:=C5 n+1) h1 h2 (by omega) (by omega)
 have c3:=Int.emod_nonneg n (b:=C5 n+1) (by omega)
 have c4:=Int.emod_lt_of_pos n (b:=C5 n+1) (by omega)
 have hs1:(IntKind.i64).wrap (n % (C5 n+1))=n % (C5 n+1):=IntWalk.i64_in _ (by omega)
 have hs2:(IntKind.i64).wrap (C5 n)=C5 n:=IntWalk.i64_in _ (by omega)
 have hfr:(decide (-9223372036854775808≤n % (C5 n+1))&&decide (n % (C5 n+1)<9223372036854775808)&&decide (1≤C5 n)&&decide (C5 n<9223372036854775808))=true:=by
  rw [decide_eq_true (show-9223372036854775808≤n % (C5 n+1) by omega),decide_eq_true (show n % (C5 n+1)<9223372036854775808 by omega),decide_eq_true b1,decide_eq_true (show C5 n<9223372036854775808 by omega)];rfl
 have R1:=GD hfr
 unfold Jo
 refine As Tryz.func78 rfl rfl rfl rfl rfl rfl ?_
 intro W0 base D μ0 hA hD
 repeat (first
  | refine Ah ?_|refine Ad ?_|refine Ab rfl ?_|refine Ac rfl ?_
  | (refine Al (by kernel_rfl) ?_
     repeat (first
      | refine An (hl:=?_)
      | refine Ai (hl:=?_)
      | refine Ao (hl:=?_)
      | refine At (hl:=?_)
      | refine AC (hl:=?_)
      | refine EO hA (hc:=M1) (hl:=?_)
      | refine EO hA (hc:=M2) (hl:=?_)
      | refine EO hA (hc:=R1) (hl:=?_))
     apply Ag.nil)
  | refine Ae ?_|refine Af ?_)
 refine AG (And.intro (Or.inr rfl) ?_)
 exact B7
def Rw (n d:Int):Rat:=((n % 41-20:Int):Rat)/((d % 8+1:Int):Rat)
theorem Wl {n d:Int} (h1: -9223372036854775808≤n) (h2:n<9223372036854775808) (h3: -9223372036854775808≤d) (h4:d<9223372036854775808):
  Ctr Tryz.prog Amb 17 [.one (.v (.int .i64 n)),.one (.v (.int .i64 d))] (nm 2 (Rw n d)):=by
 have hs:(IntKind.i64).wrap (n % 41-20)=n % 41-20:=IntWalk.i64_in _ (by omega)
 have hs':=BB (k:= .i64) hs
 have hp:(IntKind.i64).wrap (d % 8+1)=d % 8+1:=IntWalk.i64_in _ (by omega)
 have hp':=AZ (k:= .i64) hp
 have hs2:(IntKind.i64).wrap (n % 41)=n % 41:=IntWalk.i64_in _ (by omega)
 have hp2:(IntKind.i64).wrap (d % 8)=d % 8:=IntWalk.i64_in _ (by omega)
 have M1:=He (n:=n) (m:=41) h1 h2 (by decide) (by decide)
 have M2:=He (n:=d) (m:=8) h3 h4 (by decide) (by decide)
 have hfr:(decide (-9223372036854775808≤n % 41-20)&&decide (n % 41-20<9223372036854775808)&&decide (1≤d % 8+1)&&decide (d % 8+1<9223372036854775808))=true:=by
  rw [decide_eq_true (show-9223372036854775808≤n % 41-20 by omega),decide_eq_true (show n % 41-20<9223372036854775808 by omega),decide_eq_true (show 1≤d % 8+1 by omega),decide_eq_true (show d % 8+1<9223372036854775808 by omega)];rfl
 have R1:=GD hfr
 unfold Rw
 refine As Tryz.func17 rfl rfl rfl rfl rfl rfl ?_
 intro W0 base D μ0 hA hD
 repeat (first
  | refine Ah ?_|refine Ad ?_|refine Ab rfl ?_|refine Ac rfl ?_
  | (refine Al (by kernel_rfl) ?_
     repeat (first
      | refine An (hl:=?_)
      | refine Ao (hl:=?_)
      | refine At (hl:=?_)
      | refine AC (hl:=?_)
      | refine EO hA (hc:=M1) (hl:=?_)
      | refine EO hA (hc:=M2) (hl:=?_)
      | refine EO hA (hc:=R1) (hl:=?_))
     apply Ag.nil)
  | refine Ae ?_|refine Af ?_)
 refine AG (And.intro (Or.inr rfl) ?_)
 exact B7
end Go.Proofs.YtkmalkcgkcpcmaaGreatDoor
