/-
  Several texts in one: Sn, So.
-/
import Derived.Test.YtnkobfcnflphkaaGreatDoorGk
import Derived.Test.YtnkobfcnflphkaaGreatDoorEw
namespace Go.Proofs.YtnkobfcnflphkaaGreatDoor
open Go.RowKit
set_option linter.unusedVariables false
set_option linter.unusedSimpArgs false
set_option maxRecDepth 20000
set_option maxHeartbeats 4000000
abbrev Eb (l:List Int) (n:Nat):List C:= [.ints l,.v (.int .i64 (n:Nat))]
def nxt (l:List Int) (n:Nat) (m:Int):Int×Nat:=match l[n]? with|some x=>(x % m,n+1)|none=>(0,n)
def GP (l:List Int) (n:Nat):Rat×Nat:=
 let a:=nxt l n 13
 let b:=nxt l a.2 4
 if b.1=3 then (let c:=nxt l b.2 4;(((a.1-6:Int):Rat)/((1+c.1:Int):Rat),c.2)) else (((a.1-6:Int):Rat),b.2)
theorem EF (l:List Int) (n:Nat) {m:Int} (hm:0<m):0≤(nxt l n m).1∧(nxt l n m).1<m∧(n≤l.length→(nxt l n m).2≤l.length):=by
 unfold nxt
 cases h:l[n]? with
 | none=>exact ⟨Int.le_refl _,hm,fun h=>h⟩
 | some x=>
   have:=(List.getElem?_eq_some_iff.1 h).1
   exact ⟨Int.emod_nonneg _ (by omega),Int.emod_lt_of_pos _ hm,fun _=>this⟩
theorem QN (l:List Int) (n:Nat) (h:n≤l.length):(GP l n).2≤l.length:=by
 unfold GP
 have h1:=(EF l n (m:=13) (by decide)).2.2 h
 have h2:=(EF l (nxt l n 13).2 (m:=4) (by decide)).2.2 h1
 have h3:=(EF l (nxt l (nxt l n 13).2 4).2 (m:=4) (by decide)).2.2 h2
 simp only
 split
 ·exact h3
 ·exact h2
theorem UT {n m:Int} (hm:0<m) (h:n.tmod m<0):n % m=n.tmod m+m:=by
 have h3: -m<n.tmod m:=Int.lt_tmod_of_pos n hm
 have h4:n=m*n.tdiv m+n.tmod m:=(Int.mul_tdiv_add_tmod n m).symm
 have h5:n=(n.tmod m+m)+m*(n.tdiv m-1):=by rw [Int.mul_sub];omega
 rw [h5,Int.add_mul_emod_self_left]
 rw [←h5]
 exact Int.emod_eq_of_lt (by omega) (by omega)
theorem US {n m:Int} (hm:0<m) (h: ¬n.tmod m<0):n % m=n.tmod m:=by
 have h3:=Int.tmod_lt_of_pos n hm
 have h4:n=n.tmod m+m*n.tdiv m:=by have:=Int.mul_tdiv_add_tmod n m;omega
 rw [h4,Int.add_mul_emod_self_left,←h4]
 exact Int.emod_eq_of_lt (by omega) h3
theorem YL {n m:Int} (h1: -9223372036854775808≤n) (h2:n<9223372036854775808) (hm:0<m) (hm2:m<1000000):Ctr Tryz.prog Amb 42 [.one (.v (.int .i64 n)),.one (.v (.int .i64 m))] (.one (.v (.int .i64 (n % m)))):=by
 have hr:(IntKind.i64).wrap (n.tmod m+m)=n.tmod m+m:=by
  have h3:=Int.tmod_lt_of_pos n hm
  have h4: -m<n.tmod m:=Int.lt_tmod_of_pos n hm
  exact IntWalk.i64_in _ (by omega)
 have hs:=AL (k:= .i64) hr
 refine Am Tryz.func42 rfl rfl rfl rfl rfl rfl ?_
 intro W0 base D μ0 hA hD
 repeat (first
  | refine Af ?_|refine Ac ?_|refine Aa rfl ?_|refine Ab rfl ?_
  | (refine AI (by kernel_rfl) ?_
     repeat (first
      | refine AZ (hl:=?_)
      | refine AC (hl:=?_)
      | refine B5 (hc:=(Vo (show m≠0 by omega))) (hl:=?_)
      | refine B5 (hl:=?_))
     apply Ai.nil)
  | refine Ad ?_|refine Ae ?_)
 refine WY rfl (fun h=>?_) (fun h=>?_)
 ·repeat (first
   | refine Af ?_|refine Ac ?_|refine Aa rfl ?_|refine Ab rfl ?_
   | (refine AI (by kernel_rfl) ?_
      repeat (first
       | refine AZ (hl:=?_)
       | refine AC (hl:=?_)
       | refine B5 (hl:=?_))
      apply Ai.nil)
   | refine Ad ?_|refine Ae ?_)
  refine As (And.intro (Or.inr rfl) ?_)
  exact AX (hE:=(Ent.of_eq (by rw [UT hm (of_decide_eq_true h)];rfl)))
 ·repeat (first
   | refine Af ?_|refine Ac ?_|refine Aa rfl ?_|refine Ab rfl ?_
   | (refine AI (by kernel_rfl) ?_
      repeat (first
       | refine AZ (hl:=?_)
       | refine AC (hl:=?_)
       | refine B5 (hl:=?_))
      apply Ai.nil)
   | refine Ad ?_|refine Ae ?_)
  refine As (And.intro (Or.inr rfl) ?_)
  exact AX (hE:=(Ent.of_eq (by rw [US hm (of_decide_eq_false h)];rfl)))
theorem WQ (l:List Int):Ctr Tryz.prog Amb 9 [.one (.ints l)] (.one (.v (.bool (decide ((l.length:Int)≤500))))):=by
 refine Am Tryz.func9 rfl rfl rfl rfl rfl rfl ?_
 intro W0 base D μ0 hA hD
 repeat (first
  | refine Af ?_|refine Ac ?_|refine Aa rfl ?_|refine Ab rfl ?_
  | (refine AI (by kernel_rfl) ?_
     repeat (first
      | refine AZ (hl:=?_)
      | refine AC (hl:=?_)
      | refine B5 (hl:=?_)
      | refine Cv (hl:=?_)
      | refine Cu (hl:=?_)
      | refine Cw (hl:=?_))
     apply Ai.nil)
  | refine Ad ?_|refine Ae ?_)
 refine As (And.intro (Or.inr rfl) ?_)
 exact AX
theorem WP {l:List Int} {n:Nat} {m:Int} (hb: ∀x∈l,-9223372036854775808≤x∧x<9223372036854775808) (hl:l.length≤1000000) (hn:n≤l.length) (hm:0<m) (hm2:m<1000000):
  BF Tryz.prog Amb 96 [.one (.ptr 900 0),.one (.v (.int .i64 m))] [(900,Eb l n,Eb l (nxt l n m).2)] (.one (.v (.int .i64 (nxt l n m).1))):=by
 apply Am Tryz.func96 rfl rfl rfl rfl rfl
 case hin=>simp [inA,inC]
 intro W0 base D μ0 hA hD
 unfold nxt
 cases hx:l[n]? with
 | none=>
   have hge:decide ((n:Int)≥(l.length:Int))=true:=decide_eq_true (by have:=List.getElem?_eq_none_iff.1 hx;omega)
   have hge':=Ox (k:= .i64) hge
   repeat (first
    | refine Af ?_|refine Ac ?_|refine Aa rfl ?_|refine Ab rfl ?_
    | ((first|refine AI (by kernel_rfl) ?_|refine BL (by kernel_rfl) (by kernel_rfl) (by kernel_rfl) ?_)
       repeat (first
        | refine AZ (hl:=?_)
        | refine AC (hl:=?_)
        | refine BU (hl:=?_)
        | refine C6 (hl:=?_)
        | refine BN (hl:=?_)
        | refine B5 (hl:=?_)
        | refine AO (hl:=?_)
        | refine Fx (hl:=?_)
        | refine Ec (hl:=?_)
        | refine Cv (hl:=?_)
        | refine Cu (hl:=?_)
        | refine Cw (hl:=?_))
       apply Ai.nil;try refine And.intro (by kernel_rfl) ?_)
    | refine Ad ?_|refine Ae ?_)
   refine As (And.intro (Or.inr rfl) ?_)
   exact JR
 | some x=>
   have hlt:=(List.getElem?_eq_some_iff.1 hx).1
   have hge:decide ((n:Int)≥(l.length:Int))=false:=decide_eq_false (by omega)
   have hge':=Ox (k:= .i64) hge
   have hup:(IntKind.i64).wrap ((n:Int)+1)=((n+1:Nat):Int):=IntWalk.i64_in _ (by omega)
   have hup':=AL (k:= .i64) hup
   have hdn:(IntKind.i64).wrap (((n+1:Nat):Int)-1)=(n:Int):=by rw [show ((n+1:Nat):Int)-1=n by omega];exact IntWalk.i64_in _ (by omega)
   have hdn':=BI (k:= .i64) hdn
   have hxb:=hb x (List.mem_of_getElem? hx)
   have hix:l[((n:Nat):Int).toNat]?=some x:=by simpa using hx
   repeat (first
    | refine Af ?_|refine Ac ?_|refine Aa rfl ?_|refine Ab rfl ?_
    | ((first|refine AI (by kernel_rfl) ?_|refine BL (by kernel_rfl) (by kernel_rfl) (by kernel_rfl) ?_)
       repeat (first
        | refine AZ (hl:=?_)
        | refine AC (hl:=?_)
        | refine BU (hl:=?_)
        | refine C6 (hl:=?_)
        | refine BN (hl:=?_)
        | refine B5 (hl:=?_)
        | refine AO (hl:=?_)
        | refine Fx (hl:=?_)
        | refine Ec (hl:=?_)
        | refine Cv (hl:=?_)
        | refine Cu (hl:=?_)
        | refine H9 (hl:=?_)
        | refine Cw (hl:=?_)
        | refine EA hA (hc:=YL hxb.1 hxb.2 hm hm2) (hl:=?_)
        | (apply MJ;(case hg=>first|exact trivial|exact rfl);(case hd=>exact rfl);(case hx=>exact rfl);(case hy=>exact rfl);(case hi=>omega);(case hc=>exact hix)))
       apply Ai.nil;try refine And.intro (by kernel_rfl) ?_)
    | refine Ad ?_|refine Ae ?_)
   refine As (And.intro (Or.inr rfl) ?_)
   exact JR
theorem Mj {l:List Int} {n k:Nat} {m:Int} (hb: ∀x∈l,-9223372036854775808≤x∧x<9223372036854775808) (hl:l.length≤1000000) (hn:n≤l.length) (hm:0<m) (hm2:m<1000000):
  BF Tryz.prog Amb 96 [.one (.ptr k 0),.one (.v (.int .i64 m))] [(k,Eb l n,Eb l (nxt l n m).2)] (.one (.v (.int .i64 (nxt l n m).1))):=
 (WP hb hl hn hm hm2).at1 k rfl rfl
theorem SJ {l:List Int} {n:Nat} (hb: ∀x∈l,-9223372036854775808≤x∧x<9223372036854775808) (hl:l.length≤1000000) (hn:n≤l.length):
  BF Tryz.prog Amb 69 [.one (.ptr 900 0)] [(900,Eb l n,Eb l (GP l n).2)] (nm 2 (GP l n).1):=by
 obtain ⟨a1,a2,a3⟩:=EF l n (m:=13) (by decide)
 have a3:=a3 hn
 obtain ⟨b1,b2,b3⟩:=EF l (nxt l n 13).2 (m:=4) (by decide)
 have b3:=b3 a3
 obtain ⟨c1,c2,c3⟩:=EF l (nxt l (nxt l n 13).2 4).2 (m:=4) (by decide)
 have hs:(IntKind.i64).wrap ((nxt l n 13).1-6)=(nxt l n 13).1-6:=IntWalk.i64_in _ (by omega)
 have hs':=BI (k:= .i64) hs
 have hp:(IntKind.i64).wrap (1+(nxt l (nxt l (nxt l n 13).2 4).2 4).1)=1+(nxt l (nxt l (nxt l n 13).2 4).2 4).1:=IntWalk.i64_in _ (by omega)
 have hp':=AL (k:= .i64) hp
 have hint:(decide (-9223372036854775808≤(nxt l n 13).1-6)&&decide ((nxt l n 13).1-6<9223372036854775808))=true:=by
  rw [decide_eq_true (show-9223372036854775808≤(nxt l n 13).1-6 by omega),decide_eq_true (show (nxt l n 13).1-6<9223372036854775808 by omega)];rfl
 have hfr:(decide (-9223372036854775808≤(nxt l n 13).1-6)&&decide ((nxt l n 13).1-6<9223372036854775808)&&decide (1≤1+(nxt l (nxt l (nxt l n 13).2 4).2 4).1)&&decide (1+(nxt l (nxt l (nxt l n 13).2 4).2 4).1<9223372036854775808))=true:=by
  rw [hint,decide_eq_true (show 1≤1+(nxt l (nxt l (nxt l n 13).2 4).2 4).1 by omega),decide_eq_true (show 1+(nxt l (nxt l (nxt l n 13).2 4).2 4).1<9223372036854775808 by omega)];rfl
 have N1:=Mj (k:=900) (n:=n) (m:=13) hb hl hn (by decide) (by decide)
 have N2:=Mj (k:=900) (n:=(nxt l n 13).2) (m:=4) hb hl a3 (by decide) (by decide)
 have N3:=Mj (k:=900) (n:=(nxt l (nxt l n 13).2 4).2) (m:=4) hb hl b3 (by decide) (by decide)
 apply Am Tryz.func69 rfl rfl rfl rfl rfl
 case hin=>simp [inA,inC]
 intro W0 base D μ0 hA hD
 unfold GP
 by_cases h3:(nxt l (nxt l n 13).2 4).1=3
 ·have he:=De (k:= .i64) (decide_eq_true h3)
  simp only [h3,if_true]
  rw [h3] at N2 he
  repeat (first
   | refine Af ?_|refine Ac ?_|refine Aa rfl ?_|refine Ab rfl ?_
   | (refine AI (by kernel_rfl) ?_
      repeat (first
       | refine AZ (hl:=?_)
       | refine AC (hl:=?_)
       | refine BN (hl:=?_)
       | refine ER (hl:=?_)
       | refine B5 (hl:=?_)
       | refine CH (hl:=?_)
       | refine Dz hA (hc:=N1) (hl:=?_)
       | refine Dz hA (hc:=N2) (hl:=?_)
       | refine Dz hA (hc:=N3) (hl:=?_)
       | refine EA hA (hc:=LP hfr) (hl:=?_))
      apply Ai.nil)
   | refine Ad ?_|refine Ae ?_)
  refine As (And.intro (Or.inr rfl) ?_)
  exact JR
 ·have he:=De (k:= .i64) (decide_eq_false h3)
  rw [if_neg h3]
  repeat (first
   | refine Af ?_|refine Ac ?_|refine Aa rfl ?_|refine Ab rfl ?_
   | (refine AI (by kernel_rfl) ?_
      repeat (first
       | refine AZ (hl:=?_)
       | refine AC (hl:=?_)
       | refine BN (hl:=?_)
       | refine ER (hl:=?_)
       | refine B5 (hl:=?_)
       | refine CH (hl:=?_)
       | refine Dz hA (hc:=N1) (hl:=?_)
       | refine Dz hA (hc:=N2) (hl:=?_)
       | refine EA hA (hc:=QJ hint) (hl:=?_))
      apply Ai.nil)
   | refine Ad ?_|refine Ae ?_)
  refine As (And.intro (Or.inr rfl) ?_)
  exact JR
theorem U9 {l:List Int} {n k:Nat} (hb: ∀x∈l,-9223372036854775808≤x∧x<9223372036854775808) (hl:l.length≤1000000) (hn:n≤l.length):
  BF Tryz.prog Amb 69 [.one (.ptr k 0)] [(k,Eb l n,Eb l (GP l n).2)] (nm 2 (GP l n).1):=
 (SJ hb hl hn).at1 k rfl rfl
theorem U7 (l:List Int):Vy Tryz.prog Amb 11 [.one (.ints l)] (Eb l 0):=by
 refine SL 5 Tryz.func11 rfl rfl rfl rfl rfl ?_
 intro W0 base D μ0 hA hD
 repeat (first
  | refine Af ?_|refine Ac ?_|refine Aa rfl ?_|refine Ab rfl ?_
  | (refine AI (by kernel_rfl) ?_
     repeat (first
      | refine AZ (hl:=?_)
      | refine AC (hl:=?_)
      | refine Gz (hl:=?_)
      | refine C7 (hl:=?_)
      | refine C8 (hl:=?_))
     apply Ai.nil)
  | refine Ad ?_|refine Ae ?_)
 refine As (And.intro (Or.inr rfl) (And.intro AX (fun q hq=>?_)))
 obtain rfl:=List.mem_singleton.1 hq
 refine ⟨rfl,fun i c h=>?_⟩
 match i,h with
 | 0,h=>exact ⟨Ag.of_eq (Option.some.inj h),by cases h;trivial⟩
 | 1,h=>exact ⟨Ag.of_eq (Option.some.inj h),by cases h;exact Gt rfl⟩
end Go.Proofs.YtnkobfcnflphkaaGreatDoor
