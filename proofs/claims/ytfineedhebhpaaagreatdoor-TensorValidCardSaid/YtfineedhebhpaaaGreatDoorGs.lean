/-
  Several texts in one: Sn, So.
-/
import Derived.Test.YtfineedhebhpaaaGreatDoorGk
import Derived.Test.YtfineedhebhpaaaGreatDoorEw
namespace Go.Proofs.YtfineedhebhpaaaGreatDoor
open Go.RowKit
set_option linter.unusedVariables false
set_option linter.unusedSimpArgs false
set_option maxRecDepth 20000
set_option maxHeartbeats 4000000
abbrev D0 (l:List Int) (n:Nat):List C:= [.ints l,.v (.int .i64 (n:Nat))]
def nxt (l:List Int) (n:Nat) (m:Int):Int×Nat:=match l[n]? with|some x=>(x % m,n+1)|none=>(0,n)
def GS (l:List Int) (n:Nat):Rat×Nat:=
 let a:=nxt l n 13
 let b:=nxt l a.2 4
 if b.1=3 then (let c:=nxt l b.2 4;(((a.1-6:Int):Rat)/((1+c.1:Int):Rat),c.2)) else (((a.1-6:Int):Rat),b.2)
theorem D5 (l:List Int) (n:Nat) {m:Int} (hm:0<m):0≤(nxt l n m).1∧(nxt l n m).1<m∧(n≤l.length→(nxt l n m).2≤l.length):=by
 unfold nxt
 cases h:l[n]? with
 | none=>exact ⟨Int.le_refl _,hm,fun h=>h⟩
 | some x=>
   have:=(List.getElem?_eq_some_iff.1 h).1
   exact ⟨Int.emod_nonneg _ (by omega),Int.emod_lt_of_pos _ hm,fun _=>this⟩
theorem VQ (l:List Int) (n:Nat) (h:n≤l.length):(GS l n).2≤l.length:=by
 unfold GS
 have h1:=(D5 l n (m:=13) (by decide)).2.2 h
 have h2:=(D5 l (nxt l n 13).2 (m:=4) (by decide)).2.2 h1
 have h3:=(D5 l (nxt l (nxt l n 13).2 4).2 (m:=4) (by decide)).2.2 h2
 simp only
 split
 ·exact h3
 ·exact h2
theorem Uu {n m:Int} (hm:0<m) (h:n.tmod m<0):n % m=n.tmod m+m:=by
 have h3: -m<n.tmod m:=Int.lt_tmod_of_pos n hm
 have h4:n=m*n.tdiv m+n.tmod m:=(Int.mul_tdiv_add_tmod n m).symm
 have h5:n=(n.tmod m+m)+m*(n.tdiv m-1):=by rw [Int.mul_sub];omega
 rw [h5,Int.add_mul_emod_self_left]
 rw [←h5]
 exact Int.emod_eq_of_lt (by omega) (by omega)
theorem Ut {n m:Int} (hm:0<m) (h: ¬n.tmod m<0):n % m=n.tmod m:=by
 have h3:=Int.tmod_lt_of_pos n hm
 have h4:n=n.tmod m+m*n.tdiv m:=by have:=Int.mul_tdiv_add_tmod n m;omega
 rw [h4,Int.add_mul_emod_self_left,←h4]
 exact Int.emod_eq_of_lt (by omega) h3
theorem UK {n m:Int} (h1: -9223372036854775808≤n) (h2:n<9223372036854775808) (hm:0<m) (hm2:m<1000000):Ctr Tryz.prog Amb 52 [.one (.v (.int .i64 n)),.one (.v (.int .i64 m))] (.one (.v (.int .i64 (n % m)))):=by
 have hr:(IntKind.i64).wrap (n.tmod m+m)=n.tmod m+m:=by
  have h3:=Int.tmod_lt_of_pos n hm
  have h4: -m<n.tmod m:=Int.lt_tmod_of_pos n hm
  exact IntWalk.i64_in _ (by omega)
 have hs:=BW (k:= .i64) hr
 refine Aj Tryz.func52 rfl rfl rfl rfl rfl rfl ?_
 intro W0 base D μ0 hA hD
 repeat (first
  | refine Ag ?_|refine Ac ?_|refine Aa rfl ?_|refine Ab rfl ?_
  | (refine AQ (by kernel_rfl) ?_
     repeat (first
      | refine AK (hl:=?_)
      | refine As (hl:=?_)
      | refine BN (hc:=(XB (show m≠0 by omega))) (hl:=?_)
      | refine BN (hl:=?_))
     apply Ah.nil)
  | refine Ad ?_|refine Ae ?_)
 refine Wo rfl (fun h=>?_) (fun h=>?_)
 ·repeat (first
   | refine Ag ?_|refine Ac ?_|refine Aa rfl ?_|refine Ab rfl ?_
   | (refine AQ (by kernel_rfl) ?_
      repeat (first
       | refine AK (hl:=?_)
       | refine As (hl:=?_)
       | refine BN (hl:=?_))
      apply Ah.nil)
   | refine Ad ?_|refine Ae ?_)
  refine Ap (And.intro (Or.inr rfl) ?_)
  exact AA (hE:=(Ent.of_eq (by rw [Uu hm (of_decide_eq_true h)];rfl)))
 ·repeat (first
   | refine Ag ?_|refine Ac ?_|refine Aa rfl ?_|refine Ab rfl ?_
   | (refine AQ (by kernel_rfl) ?_
      repeat (first
       | refine AK (hl:=?_)
       | refine As (hl:=?_)
       | refine BN (hl:=?_))
      apply Ah.nil)
   | refine Ad ?_|refine Ae ?_)
  refine Ap (And.intro (Or.inr rfl) ?_)
  exact AA (hE:=(Ent.of_eq (by rw [Ut hm (of_decide_eq_false h)];rfl)))
theorem Mf (l:List Int):Ctr Tryz.prog Amb 11 [.one (.ints l)] (.one (.v (.bool (decide ((l.length:Int)≤500))))):=by
 refine Aj Tryz.func11 rfl rfl rfl rfl rfl rfl ?_
 intro W0 base D μ0 hA hD
 repeat (first
  | refine Ag ?_|refine Ac ?_|refine Aa rfl ?_|refine Ab rfl ?_
  | (refine AQ (by kernel_rfl) ?_
     repeat (first
      | refine AK (hl:=?_)
      | refine As (hl:=?_)
      | refine BN (hl:=?_)
      | refine B7 (hl:=?_)
      | refine B6 (hl:=?_)
      | refine B8 (hl:=?_))
     apply Ah.nil)
  | refine Ad ?_|refine Ae ?_)
 refine Ap (And.intro (Or.inr rfl) ?_)
 exact AA
theorem Wg {l:List Int} {n:Nat} {m:Int} (hb: ∀x∈l,-9223372036854775808≤x∧x<9223372036854775808) (hl:l.length≤1000000) (hn:n≤l.length) (hm:0<m) (hm2:m<1000000):
  BJ Tryz.prog Amb 80 [.one (.ptr 900 0),.one (.v (.int .i64 m))] [(900,D0 l n,D0 l (nxt l n m).2)] (.one (.v (.int .i64 (nxt l n m).1))):=by
 apply Aj Tryz.func80 rfl rfl rfl rfl rfl
 case hin=>simp [inA,inC]
 intro W0 base D μ0 hA hD
 unfold nxt
 cases hx:l[n]? with
 | none=>
   have hge:decide ((n:Int)≥(l.length:Int))=true:=decide_eq_true (by have:=List.getElem?_eq_none_iff.1 hx;omega)
   have hge':=D7 (k:= .i64) hge
   repeat (first
    | refine Ag ?_|refine Ac ?_|refine Aa rfl ?_|refine Ab rfl ?_
    | ((first|refine AQ (by kernel_rfl) ?_|refine BO (by kernel_rfl) (by kernel_rfl) (by kernel_rfl) ?_)
       repeat (first
        | refine AK (hl:=?_)
        | refine As (hl:=?_)
        | refine BB (hl:=?_)
        | refine AB (hl:=?_)
        | refine AO (hl:=?_)
        | refine BN (hl:=?_)
        | refine AT (hl:=?_)
        | refine Fy (hl:=?_)
        | refine D9 (hl:=?_)
        | refine B7 (hl:=?_)
        | refine B6 (hl:=?_)
        | refine B8 (hl:=?_))
       apply Ah.nil;try refine And.intro (by kernel_rfl) ?_)
    | refine Ad ?_|refine Ae ?_)
   refine Ap (And.intro (Or.inr rfl) ?_)
   exact JV
 | some x=>
   have hlt:=(List.getElem?_eq_some_iff.1 hx).1
   have hge:decide ((n:Int)≥(l.length:Int))=false:=decide_eq_false (by omega)
   have hge':=D7 (k:= .i64) hge
   have hup:(IntKind.i64).wrap ((n:Int)+1)=((n+1:Nat):Int):=IntWalk.i64_in _ (by omega)
   have hup':=BW (k:= .i64) hup
   have hdn:(IntKind.i64).wrap (((n+1:Nat):Int)-1)=(n:Int):=by rw [show ((n+1:Nat):Int)-1=n by omega];exact IntWalk.i64_in _ (by omega)
   have hdn':=Cl (k:= .i64) hdn
   have hxb:=hb x (List.mem_of_getElem? hx)
   have hix:l[((n:Nat):Int).toNat]?=some x:=by simpa using hx
   repeat (first
    | refine Ag ?_|refine Ac ?_|refine Aa rfl ?_|refine Ab rfl ?_
    | ((first|refine AQ (by kernel_rfl) ?_|refine BO (by kernel_rfl) (by kernel_rfl) (by kernel_rfl) ?_)
       repeat (first
        | refine AK (hl:=?_)
        | refine As (hl:=?_)
        | refine BB (hl:=?_)
        | refine AB (hl:=?_)
        | refine AO (hl:=?_)
        | refine BN (hl:=?_)
        | refine AT (hl:=?_)
        | refine Fy (hl:=?_)
        | refine D9 (hl:=?_)
        | refine B7 (hl:=?_)
        | refine B6 (hl:=?_)
        | refine H8 (hl:=?_)
        | refine B8 (hl:=?_)
        | refine Df hA (hc:=UK hxb.1 hxb.2 hm hm2) (hl:=?_)
        | (apply MC;(case hg=>first|exact trivial|exact rfl);(case hd=>exact rfl);(case hx=>exact rfl);(case hy=>exact rfl);(case hi=>omega);(case hc=>exact hix)))
       apply Ah.nil;try refine And.intro (by kernel_rfl) ?_)
    | refine Ad ?_|refine Ae ?_)
   refine Ap (And.intro (Or.inr rfl) ?_)
   exact JV
theorem J5 {l:List Int} {n k:Nat} {m:Int} (hb: ∀x∈l,-9223372036854775808≤x∧x<9223372036854775808) (hl:l.length≤1000000) (hn:n≤l.length) (hm:0<m) (hm2:m<1000000):
  BJ Tryz.prog Amb 80 [.one (.ptr k 0),.one (.v (.int .i64 m))] [(k,D0 l n,D0 l (nxt l n m).2)] (.one (.v (.int .i64 (nxt l n m).1))):=
 (Wg hb hl hn hm hm2).at1 k rfl rfl
theorem Sp {l:List Int} {n:Nat} (hb: ∀x∈l,-9223372036854775808≤x∧x<9223372036854775808) (hl:l.length≤1000000) (hn:n≤l.length):
  BJ Tryz.prog Amb 81 [.one (.ptr 900 0)] [(900,D0 l n,D0 l (GS l n).2)] (nm 2 (GS l n).1):=by
 obtain ⟨a1,a2,a3⟩:=D5 l n (m:=13) (by decide)
 have a3:=a3 hn
 obtain ⟨b1,b2,b3⟩:=D5 l (nxt l n 13).2 (m:=4) (by decide)
 have b3:=b3 a3
 obtain ⟨c1,c2,c3⟩:=D5 l (nxt l (nxt l n 13).2 4).2 (m:=4) (by decide)
 have hs:(IntKind.i64).wrap ((nxt l n 13).1-6)=(nxt l n 13).1-6:=IntWalk.i64_in _ (by omega)
 have hs':=Cl (k:= .i64) hs
 have hp:(IntKind.i64).wrap (1+(nxt l (nxt l (nxt l n 13).2 4).2 4).1)=1+(nxt l (nxt l (nxt l n 13).2 4).2 4).1:=IntWalk.i64_in _ (by omega)
 have hp':=BW (k:= .i64) hp
 have hint:(decide (-9223372036854775808≤(nxt l n 13).1-6)&&decide ((nxt l n 13).1-6<9223372036854775808))=true:=by
  rw [decide_eq_true (show-9223372036854775808≤(nxt l n 13).1-6 by omega),decide_eq_true (show (nxt l n 13).1-6<9223372036854775808 by omega)];rfl
 have hfr:(decide (-9223372036854775808≤(nxt l n 13).1-6)&&decide ((nxt l n 13).1-6<9223372036854775808)&&decide (1≤1+(nxt l (nxt l (nxt l n 13).2 4).2 4).1)&&decide (1+(nxt l (nxt l (nxt l n 13).2 4).2 4).1<9223372036854775808))=true:=by
  rw [hint,decide_eq_true (show 1≤1+(nxt l (nxt l (nxt l n 13).2 4).2 4).1 by omega),decide_eq_true (show 1+(nxt l (nxt l (nxt l n 13).2 4).2 4).1<9223372036854775808 by omega)];rfl
 have N1:=J5 (k:=900) (n:=n) (m:=13) hb hl hn (by decide) (by decide)
 have N2:=J5 (k:=900) (n:=(nxt l n 13).2) (m:=4) hb hl a3 (by decide) (by decide)
 have N3:=J5 (k:=900) (n:=(nxt l (nxt l n 13).2 4).2) (m:=4) hb hl b3 (by decide) (by decide)
 apply Aj Tryz.func81 rfl rfl rfl rfl rfl
 case hin=>simp [inA,inC]
 intro W0 base D μ0 hA hD
 unfold GS
 by_cases h3:(nxt l (nxt l n 13).2 4).1=3
 ·have he:=FS (k:= .i64) (decide_eq_true h3)
  simp only [h3,if_true]
  rw [h3] at N2 he
  repeat (first
   | refine Ag ?_|refine Ac ?_|refine Aa rfl ?_|refine Ab rfl ?_
   | (refine AQ (by kernel_rfl) ?_
      repeat (first
       | refine AK (hl:=?_)
       | refine As (hl:=?_)
       | refine AO (hl:=?_)
       | refine BP (hl:=?_)
       | refine BN (hl:=?_)
       | refine Cc (hl:=?_)
       | refine EI hA (hc:=N1) (hl:=?_)
       | refine EI hA (hc:=N2) (hl:=?_)
       | refine EI hA (hc:=N3) (hl:=?_)
       | refine Df hA (hc:=Pd hfr) (hl:=?_))
      apply Ah.nil)
   | refine Ad ?_|refine Ae ?_)
  refine Ap (And.intro (Or.inr rfl) ?_)
  exact JV
 ·have he:=FS (k:= .i64) (decide_eq_false h3)
  rw [if_neg h3]
  repeat (first
   | refine Ag ?_|refine Ac ?_|refine Aa rfl ?_|refine Ab rfl ?_
   | (refine AQ (by kernel_rfl) ?_
      repeat (first
       | refine AK (hl:=?_)
       | refine As (hl:=?_)
       | refine AO (hl:=?_)
       | refine BP (hl:=?_)
       | refine BN (hl:=?_)
       | refine Cc (hl:=?_)
       | refine EI hA (hc:=N1) (hl:=?_)
       | refine EI hA (hc:=N2) (hl:=?_)
       | refine Df hA (hc:=Ql hint) (hl:=?_))
      apply Ah.nil)
   | refine Ad ?_|refine Ae ?_)
  refine Ap (And.intro (Or.inr rfl) ?_)
  exact JV
theorem UJ {l:List Int} {n k:Nat} (hb: ∀x∈l,-9223372036854775808≤x∧x<9223372036854775808) (hl:l.length≤1000000) (hn:n≤l.length):
  BJ Tryz.prog Amb 81 [.one (.ptr k 0)] [(k,D0 l n,D0 l (GS l n).2)] (nm 2 (GS l n).1):=
 (Sp hb hl hn).at1 k rfl rfl
theorem UI (l:List Int):U7 Tryz.prog Amb 13 [.one (.ints l)] (D0 l 0):=by
 refine Sr 5 Tryz.func13 rfl rfl rfl rfl rfl ?_
 intro W0 base D μ0 hA hD
 repeat (first
  | refine Ag ?_|refine Ac ?_|refine Aa rfl ?_|refine Ab rfl ?_
  | (refine AQ (by kernel_rfl) ?_
     repeat (first
      | refine AK (hl:=?_)
      | refine As (hl:=?_)
      | refine Fb (hl:=?_)
      | refine BL (hl:=?_)
      | refine BM (hl:=?_))
     apply Ah.nil)
  | refine Ad ?_|refine Ae ?_)
 refine Ap (And.intro (Or.inr rfl) (And.intro AA (fun q hq=>?_)))
 obtain rfl:=List.mem_singleton.1 hq
 refine ⟨rfl,fun i c h=>?_⟩
 match i,h with
 | 0,h=>exact ⟨Af.of_eq (Option.some.inj h),by cases h;trivial⟩
 | 1,h=>exact ⟨Af.of_eq (Option.some.inj h),by cases h;exact GA rfl⟩
def RU (n d:Int):Rat:=((n % 41-20:Int):Rat)/((d % 8+1:Int):Rat)
theorem WD {n d:Int} (h1: -9223372036854775808≤n) (h2:n<9223372036854775808) (h3: -9223372036854775808≤d) (h4:d<9223372036854775808):
  Ctr Tryz.prog Amb 17 [.one (.v (.int .i64 n)),.one (.v (.int .i64 d))] (nm 2 (RU n d)):=by
 have hs:(IntKind.i64).wrap (n % 41-20)=n % 41-20:=IntWalk.i64_in _ (by omega)
 have hs':=Cl (k:= .i64) hs
 have hp:(IntKind.i64).wrap (d % 8+1)=d % 8+1:=IntWalk.i64_in _ (by omega)
 have hp':=BW (k:= .i64) hp
 have hs2:(IntKind.i64).wrap (n % 41)=n % 41:=IntWalk.i64_in _ (by omega)
 have hp2:(IntKind.i64).wrap (d % 8)=d % 8:=IntWalk.i64_in _ (by omega)
 have M1:=UK (n:=n) (m:=41) h1 h2 (by decide) (by decide)
 have M2:=UK (n:=d) (m:=8) h3 h4 (by decide) (by decide)
 have hfr:(decide (-9223372036854775808≤n % 41-20)&&decide (n % 41-20<9223372036854775808)&&decide (1≤d % 8+1)&&decide (d % 8+1<9223372036854775808))=true:=by
  rw [decide_eq_true (show-9223372036854775808≤n % 41-20 by omega),decide_eq_true (show n % 41-20<9223372036854775808 by omega),decide_eq_true (show 1≤d % 8+1 by omega),decide_eq_true (show d % 8+1<9223372036854775808 by omega)];rfl
 have R1:=Pd hfr
 unfold RU
 refine Aj Tryz.func17 rfl rfl rfl rfl rfl rfl ?_
 intro W0 base D μ0 hA hD
 repeat (first
  | refine Ag ?_|refine Ac ?_|refine Aa rfl ?_|refine Ab rfl ?_
  | (refine AQ (by kernel_rfl) ?_
     repeat (first
      | refine AK (hl:=?_)
      | refine AO (hl:=?_)
      | refine BP (hl:=?_)
      | refine BN (hl:=?_)
      | refine Df hA (hc:=M1) (hl:=?_)
      | refine Df hA (hc:=M2) (hl:=?_)
      | refine Df hA (hc:=R1) (hl:=?_))
     apply Ah.nil)
  | refine Ad ?_|refine Ae ?_)
 refine Ap (And.intro (Or.inr rfl) ?_)
 exact AA
end Go.Proofs.YtfineedhebhpaaaGreatDoor
