/-
  Several texts in one: Sn, So.
-/
import Derived.Test.YtnkobfcnflphkaaGreatDoorGk
import Derived.Test.YtnkobfcnflphkaaGreatDoorEw
namespace Go.Proofs.YtnkobfcnflphkaaGreatDoor
open Go.RowKit
set_option linter.unusedVariables false
set_option linter.unusedSimpArgs false
set_option maxRecDepth 20000
set_option maxHeartbeats 4000000
abbrev Eg (l:List Int) (n:Nat):List C:= [.ints l,.v (.int .i64 (n:Nat))]
def nxt (l:List Int) (n:Nat) (m:Int):Int×Nat:=match l[n]? with|some x=>(x % m,n+1)|none=>(0,n)
def GV (l:List Int) (n:Nat):Rat×Nat:=
 let a:=nxt l n 13
 let b:=nxt l a.2 4
 if b.1=3 then (let c:=nxt l b.2 4;(((a.1-6:Int):Rat)/((1+c.1:Int):Rat),c.2)) else (((a.1-6:Int):Rat),b.2)
theorem EK (l:List Int) (n:Nat) {m:Int} (hm:0<m):0≤(nxt l n m).1∧(nxt l n m).1<m∧(n≤l.length→(nxt l n m).2≤l.length):=by
 unfold nxt
 cases h:l[n]? with
 | none=>exact ⟨Int.le_refl _,hm,fun h=>h⟩
 | some x=>
   have:=(List.getElem?_eq_some_iff.1 h).1
   exact ⟨Int.emod_nonneg _ (by omega),Int.emod_lt_of_pos _ hm,fun _=>this⟩
theorem QT (l:List Int) (n:Nat) (h:n≤l.length):(GV l n).2≤l.length:=by
 unfold GV
 have h1:=(EK l n (m:=13) (by decide)).2.2 h
 have h2:=(EK l (nxt l n 13).2 (m:=4) (by decide)).2.2 h1
 have h3:=(EK l (nxt l (nxt l n 13).2 4).2 (m:=4) (by decide)).2.2 h2
 simp only
 split
 ·exact h3
 ·exact h2
theorem UZ {n m:Int} (hm:0<m) (h:n.tmod m<0):n % m=n.tmod m+m:=by
 have h3: -m<n.tmod m:=Int.lt_tmod_of_pos n hm
 have h4:n=m*n.tdiv m+n.tmod m:=(Int.mul_tdiv_add_tmod n m).symm
 have h5:n=(n.tmod m+m)+m*(n.tdiv m-1):=by rw [Int.mul_sub];omega
 rw [h5,Int.add_mul_emod_self_left]
 rw [←h5]
 exact Int.emod_eq_of_lt (by omega) (by omega)
theorem UY {n m:Int} (hm:0<m) (h: ¬n.tmod m<0):n % m=n.tmod m:=by
 have h3:=Int.tmod_lt_of_pos n hm
 have h4:n=n.tmod m+m*n.tdiv m:=by have:=Int.mul_tdiv_add_tmod n m;omega
 rw [h4,Int.add_mul_emod_self_left,←h4]
 exact Int.emod_eq_of_lt (by omega) h3
theorem YR {n m:Int} (h1: -9223372036854775808≤n) (h2:n<9223372036854775808) (hm:0<m) (hm2:m<1000000):Ctr Tryz.prog Amb 42 [.one (.v (.int .i64 n)),.one (.v (.int .i64 m))] (.one (.v (.int .i64 (n % m)))):=by
 have hr:(IntKind.i64).wrap (n.tmod m+m)=n.tmod m+m:=by
  have h3:=Int.tmod_lt_of_pos n hm
  have h4: -m<n.tmod m:=Int.lt_tmod_of_pos n hm
  exact IntWalk.i64_in _ (by omega)
 have hs:=AM (k:= .i64) hr
 refine Am Tryz.func42 rfl rfl rfl rfl rfl rfl ?_
 intro W0 base D μ0 hA hD
 repeat (first
  | refine Af ?_|refine Ac ?_|refine Aa rfl ?_|refine Ab rfl ?_
  | (refine AI (by kernel_rfl) ?_
     repeat (first
      | refine A0 (hl:=?_)
      | refine AC (hl:=?_)
      | refine B8 (hc:=(Vu (show m≠0 by omega))) (hl:=?_)
      | refine B8 (hl:=?_))
     apply Ai.nil)
  | refine Ad ?_|refine Ae ?_)
 refine W6 rfl (fun h=>?_) (fun h=>?_)
 ·repeat (first
   | refine Af ?_|refine Ac ?_|refine Aa rfl ?_|refine Ab rfl ?_
   | (refine AI (by kernel_rfl) ?_
      repeat (first
       | refine A0 (hl:=?_)
       | refine AC (hl:=?_)
       | refine B8 (hl:=?_))
      apply Ai.nil)
   | refine Ad ?_|refine Ae ?_)
  refine As (And.intro (Or.inr rfl) ?_)
  exact AY (hE:=(Ent.of_eq (by rw [UZ hm (of_decide_eq_true h)];rfl)))
 ·repeat (first
   | refine Af ?_|refine Ac ?_|refine Aa rfl ?_|refine Ab rfl ?_
   | (refine AI (by kernel_rfl) ?_
      repeat (first
       | refine A0 (hl:=?_)
       | refine AC (hl:=?_)
       | refine B8 (hl:=?_))
      apply Ai.nil)
   | refine Ad ?_|refine Ae ?_)
  refine As (And.intro (Or.inr rfl) ?_)
  exact AY (hE:=(Ent.of_eq (by rw [UY hm (of_decide_eq_false h)];rfl)))
theorem WV (l:List Int):Ctr Tryz.prog Amb 9 [.one (.ints l)] (.one (.v (.bool (decide ((l.length:Int)≤500))))):=by
 refine Am Tryz.func9 rfl rfl rfl rfl rfl rfl ?_
 intro W0 base D μ0 hA hD
 repeat (first
  | refine Af ?_|refine Ac ?_|refine Aa rfl ?_|refine Ab rfl ?_
  | (refine AI (by kernel_rfl) ?_
     repeat (first
      | refine A0 (hl:=?_)
      | refine AC (hl:=?_)
      | refine B8 (hl:=?_)
      | refine Cy (hl:=?_)
      | refine Cx (hl:=?_)
      | refine Cz (hl:=?_))
     apply Ai.nil)
  | refine Ad ?_|refine Ae ?_)
 refine As (And.intro (Or.inr rfl) ?_)
 exact AY
theorem WU {l:List Int} {n:Nat} {m:Int} (hb: ∀x∈l,-9223372036854775808≤x∧x<9223372036854775808) (hl:l.length≤1000000) (hn:n≤l.length) (hm:0<m) (hm2:m<1000000):
  BG Tryz.prog Amb 96 [.one (.ptr 900 0),.one (.v (.int .i64 m))] [(900,Eg l n,Eg l (nxt l n m).2)] (.one (.v (.int .i64 (nxt l n m).1))):=by
 apply Am Tryz.func96 rfl rfl rfl rfl rfl
 case hin=>simp [inA,inC]
 intro W0 base D μ0 hA hD
 unfold nxt
 cases hx:l[n]? with
 | none=>
   have hge:decide ((n:Int)≥(l.length:Int))=true:=decide_eq_true (by have:=List.getElem?_eq_none_iff.1 hx;omega)
   have hge':=OD (k:= .i64) hge
   repeat (first
    | refine Af ?_|refine Ac ?_|refine Aa rfl ?_|refine Ab rfl ?_
    | ((first|refine AI (by kernel_rfl) ?_|refine BN (by kernel_rfl) (by kernel_rfl) (by kernel_rfl) ?_)
       repeat (first
        | refine A0 (hl:=?_)
        | refine AC (hl:=?_)
        | refine BW (hl:=?_)
        | refine C9 (hl:=?_)
        | refine BP (hl:=?_)
        | refine B8 (hl:=?_)
        | refine AP (hl:=?_)
        | refine FC (hl:=?_)
        | refine Eh (hl:=?_)
        | refine Cy (hl:=?_)
        | refine Cx (hl:=?_)
        | refine Cz (hl:=?_))
       apply Ai.nil;try refine And.intro (by kernel_rfl) ?_)
    | refine Ad ?_|refine Ae ?_)
   refine As (And.intro (Or.inr rfl) ?_)
   exact JX
 | some x=>
   have hlt:=(List.getElem?_eq_some_iff.1 hx).1
   have hge:decide ((n:Int)≥(l.length:Int))=false:=decide_eq_false (by omega)
   have hge':=OD (k:= .i64) hge
   have hup:(IntKind.i64).wrap ((n:Int)+1)=((n+1:Nat):Int):=IntWalk.i64_in _ (by omega)
   have hup':=AM (k:= .i64) hup
   have hdn:(IntKind.i64).wrap (((n+1:Nat):Int)-1)=(n:Int):=by rw [show ((n+1:Nat):Int)-1=n by omega];exact IntWalk.i64_in _ (by omega)
   have hdn':=BK (k:= .i64) hdn
   have hxb:=hb x (List.mem_of_getElem? hx)
   have hix:l[((n:Nat):Int).toNat]?=some x:=by simpa using hx
   repeat (first
    | refine Af ?_|refine Ac ?_|refine Aa rfl ?_|refine Ab rfl ?_
    | ((first|refine AI (by kernel_rfl) ?_|refine BN (by kernel_rfl) (by kernel_rfl) (by kernel_rfl) ?_)
       repeat (first
        | refine A0 (hl:=?_)
        | refine AC (hl:=?_)
        | refine BW (hl:=?_)
        | refine C9 (hl:=?_)
        | refine BP (hl:=?_)
        | refine B8 (hl:=?_)
        | refine AP (hl:=?_)
        | refine FC (hl:=?_)
        | refine Eh (hl:=?_)
        | refine Cy (hl:=?_)
        | refine Cx (hl:=?_)
        | refine If (hl:=?_)
        | refine Cz (hl:=?_)
        | refine EF hA (hc:=YR hxb.1 hxb.2 hm hm2) (hl:=?_)
        | (apply MT;(case hg=>first|exact trivial|exact rfl);(case hd=>exact rfl);(case hx=>exact rfl);(case hy=>exact rfl);(case hi=>omega);(case hc=>exact hix)))
       apply Ai.nil;try refine And.intro (by kernel_rfl) ?_)
    | refine Ad ?_|refine Ae ?_)
   refine As (And.intro (Or.inr rfl) ?_)
   exact JX
theorem Mo {l:List Int} {n k:Nat} {m:Int} (hb: ∀x∈l,-9223372036854775808≤x∧x<9223372036854775808) (hl:l.length≤1000000) (hn:n≤l.length) (hm:0<m) (hm2:m<1000000):
  BG Tryz.prog Amb 96 [.one (.ptr k 0),.one (.v (.int .i64 m))] [(k,Eg l n,Eg l (nxt l n m).2)] (.one (.v (.int .i64 (nxt l n m).1))):=
 (WU hb hl hn hm hm2).at1 k rfl rfl
theorem SP {l:List Int} {n:Nat} (hb: ∀x∈l,-9223372036854775808≤x∧x<9223372036854775808) (hl:l.length≤1000000) (hn:n≤l.length):
  BG Tryz.prog Amb 69 [.one (.ptr 900 0)] [(900,Eg l n,Eg l (GV l n).2)] (nm 2 (GV l n).1):=by
 obtain ⟨a1,a2,a3⟩:=EK l n (m:=13) (by decide)
 have a3:=a3 hn
 obtain ⟨b1,b2,b3⟩:=EK l (nxt l n 13).2 (m:=4) (by decide)
 have b3:=b3 a3
 obtain ⟨c1,c2,c3⟩:=EK l (nxt l (nxt l n 13).2 4).2 (m:=4) (by decide)
 have hs:(IntKind.i64).wrap ((nxt l n 13).1-6)=(nxt l n 13).1-6:=IntWalk.i64_in _ (by omega)
 have hs':=BK (k:= .i64) hs
 have hp:(IntKind.i64).wrap (1+(nxt l (nxt l (nxt l n 13).2 4).2 4).1)=1+(nxt l (nxt l (nxt l n 13).2 4).2 4).1:=IntWalk.i64_in _ (by omega)
 have hp':=AM (k:= .i64) hp
 have hint:(decide (-9223372036854775808≤(nxt l n 13).1-6)&&decide ((nxt l n 13).1-6<9223372036854775808))=true:=by
  rw [decide_eq_true (show-9223372036854775808≤(nxt l n 13).1-6 by omega),decide_eq_true (show (nxt l n 13).1-6<9223372036854775808 by omega)];rfl
 have hfr:(decide (-9223372036854775808≤(nxt l n 13).1-6)&&decide ((nxt l n 13).1-6<9223372036854775808)&&decide (1≤1+(nxt l (nxt l (nxt l n 13).2 4).2 4).1)&&decide (1+(nxt l (nxt l (nxt l n 13).2 4).2 4).1<9223372036854775808))=true:=by
  rw [hint,decide_eq_true (show 1≤1+(nxt l (nxt l (nxt l n 13).2 4).2 4).1 by omega),decide_eq_true (show 1+(nxt l (nxt l (nxt l n 13).2 4).2 4).1<9223372036854775808 by omega)];rfl
 have N1:=Mo (k:=900) (n:=n) (m:=13) hb hl hn (by decide) (by decide)
 have N2:=Mo (k:=900) (n:=(nxt l n 13).2) (m:=4) hb hl a3 (by decide) (by decide)
 have N3:=Mo (k:=900) (n:=(nxt l (nxt l n 13).2 4).2) (m:=4) hb hl b3 (by decide) (by decide)
 apply Am Tryz.func69 rfl rfl rfl rfl rfl
 case hin=>simp [inA,inC]
 intro W0 base D μ0 hA hD
 unfold GV
 by_cases h3:(nxt l (nxt l n 13).2 4).1=3
 ·have he:=Di (k:= .i64) (decide_eq_true h3)
  simp only [h3,if_true]
  rw [h3] at N2 he
  repeat (first
   | refine Af ?_|refine Ac ?_|refine Aa rfl ?_|refine Ab rfl ?_
   | (refine AI (by kernel_rfl) ?_
      repeat (first
       | refine A0 (hl:=?_)
       | refine AC (hl:=?_)
       | refine BP (hl:=?_)
       | refine EW (hl:=?_)
       | refine B8 (hl:=?_)
       | refine CL (hl:=?_)
       | refine DD hA (hc:=N1) (hl:=?_)
       | refine DD hA (hc:=N2) (hl:=?_)
       | refine DD hA (hc:=N3) (hl:=?_)
       | refine EF hA (hc:=LU hfr) (hl:=?_))
      apply Ai.nil)
   | refine Ad ?_|refine Ae ?_)
  refine As (And.intro (Or.inr rfl) ?_)
  exact JX
 ·have he:=Di (k:= .i64) (decide_eq_false h3)
  rw [if_neg h3]
  repeat (first
   | refine Af ?_|refine Ac ?_|refine Aa rfl ?_|refine Ab rfl ?_
   | (refine AI (by kernel_rfl) ?_
      repeat (first
       | refine A0 (hl:=?_)
       | refine AC (hl:=?_)
       | refine BP (hl:=?_)
       | refine EW (hl:=?_)
       | refine B8 (hl:=?_)
       | refine CL (hl:=?_)
       | refine DD hA (hc:=N1) (hl:=?_)
       | refine DD hA (hc:=N2) (hl:=?_)
       | refine EF hA (hc:=QP hint) (hl:=?_))
      apply Ai.nil)
   | refine Ad ?_|refine Ae ?_)
  refine As (And.intro (Or.inr rfl) ?_)
  exact JX
theorem Vf {l:List Int} {n k:Nat} (hb: ∀x∈l,-9223372036854775808≤x∧x<9223372036854775808) (hl:l.length≤1000000) (hn:n≤l.length):
  BG Tryz.prog Amb 69 [.one (.ptr k 0)] [(k,Eg l n,Eg l (GV l n).2)] (nm 2 (GV l n).1):=
 (SP hb hl hn).at1 k rfl rfl
theorem Vd (l:List Int):VE Tryz.prog Amb 11 [.one (.ints l)] (Eg l 0):=by
 refine SR 5 Tryz.func11 rfl rfl rfl rfl rfl ?_
 intro W0 base D μ0 hA hD
 repeat (first
  | refine Af ?_|refine Ac ?_|refine Aa rfl ?_|refine Ab rfl ?_
  | (refine AI (by kernel_rfl) ?_
     repeat (first
      | refine A0 (hl:=?_)
      | refine AC (hl:=?_)
      | refine GF (hl:=?_)
      | refine Da (hl:=?_)
      | refine Db (hl:=?_))
     apply Ai.nil)
  | refine Ad ?_|refine Ae ?_)
 refine As (And.intro (Or.inr rfl) (And.intro AY (fun q hq=>?_)))
 obtain rfl:=List.mem_singleton.1 hq
 refine ⟨rfl,fun i c h=>?_⟩
 match i,h with
 | 0,h=>exact ⟨Ag.of_eq (Option.some.inj h),by cases h;trivial⟩
 | 1,h=>exact ⟨Ag.of_eq (Option.some.inj h),by cases h;exact Gz rfl⟩
end Go.Proofs.YtnkobfcnflphkaaGreatDoor
