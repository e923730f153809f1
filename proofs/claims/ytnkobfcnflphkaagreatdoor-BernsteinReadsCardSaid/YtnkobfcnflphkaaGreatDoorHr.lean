/-
  Several texts in one: Zac, Zad.
-/
import Derived.Test.YtnkobfcnflphkaaGreatDoorHt
import Derived.Test.YtnkobfcnflphkaaGreatDoorHp
import Derived.Test.YtnkobfcnflphkaaGreatDoorHv
import Derived.Test.YtnkobfcnflphkaaGreatDoorHz
import Derived.Test.YtnkobfcnflphkaaGreatDoorHb
import Derived.Test.YtnkobfcnflphkaaGreatDoorHq
import Derived.Test.YtnkobfcnflphkaaGreatDoorHy
namespace Go.Proofs.YtnkobfcnflphkaaGreatDoor
open Nat renaming le_refl→Zc
open List renaming getElem?_eq_getElem→Zd
open Go.RowKit
set_option linter.unusedVariables false
set_option linter.unusedSimpArgs false
set_option maxRecDepth 20000
set_option maxHeartbeats 4000000
theorem H7 {x:Rat} {l:List Rat} {s:Int} :Gw s (x::l)=(if A9 x≠0∧A9 x= -s then 1 else 0)+Gw (if A9 x=0 then s else A9 x) l:=by
 by_cases h:A9 x=0
 ·rw [Xu h,if_neg (fun hh=>hh.1 h),if_pos h,Nat.zero_add]
 ·rw [VA h,if_neg h]
  by_cases h2:A9 x= -s
  ·rw [if_pos h2,if_pos ⟨h,h2⟩]
  ·rw [if_neg h2,if_neg (fun hh=>h2 hh.2)]
theorem Ln: ∀(l:List Rat) (s:Int),Gw s l≤l.length
 | [],_=>Zc _
 | x::l,s=>by
   rw [H7,List.length_cons]
   have:=Ln l (if A9 x=0 then s else A9 x)
   split<;>omega
theorem Sm {s:Int} (h:S3 s):(IntKind.i64).wrap (0-s)= -s:=by
 rw [show (0:Int)-s= -s by omega]
 unfold S3 at h
 exact IntWalk.i64_in _ (by omega)
theorem LF {j:Nat} {l:List Rat} (hl:l.length≤1000000):Ctr Tryz.prog Amb 30 [.one (Ap j l)] (.one (.v (.int .i64 (Gw 0 l:Nat)))):=by
 have hvl:=Ln l 0
 obtain ⟨R,hR⟩: ∃R,R=Gw 0 l:=⟨_,rfl⟩
 rw [←hR] at hvl⊢
 refine Am Tryz.func30 rfl rfl rfl rfl rfl rfl ?_
 intro W0 base D μ0 hA hD
 repeat (first|refine Af ?_|refine Ac ?_|refine Aa rfl ?_|refine Ab rfl ?_|refine Ak ?_|refine Al ?_|refine Ad ?_|refine Ae ?_)
 refine AK (fun m σ=> ∃(i cnt:Nat) (s:Int),m=l.length-i∧i≤l.length∧S3 s∧cnt+Gw s (l.drop i)=R∧Wk ⟨W0,base,D,31,[],μ0⟩ σ [(3,At (cnt:Nat)),(4,At s),(8,.one (Ap j l)),(9,At (l.length:Nat)),(10,At (i:Nat))] []) (n:=l.length) ⟨0,0,0,by omega,by omega,.inr (.inl rfl),by rw [hR,Nat.zero_add];rfl,?_⟩ ?_
 ·exact AS
 intro m σ hI
 obtain ⟨i,cnt,s,hm,hi0,hs,hS,hw⟩:=hI
 refine A5 hw ?_
 clear hw
 by_cases hi:i<l.length
 ·obtain ⟨x,hx,hx'⟩:=FG hi
  have bi:=AJ (k:= .i64) (decide_eq_true (show (i:Int)<(l.length:Int) by omega))
  have hin:=AL (k:= .i64) (show (IntKind.i64).wrap ((i:Int)+1)=((i+1:Nat):Int) from IntWalk.i64_in _ (by omega))
  have hcn:=AL (k:= .i64) (show (IntKind.i64).wrap ((cnt:Int)+1)=((cnt+1:Nat):Int) from IntWalk.i64_in _ (by omega))
  have hng:=Sm hs
  rw [EZ hx',H7] at hS
  have S1:=Qe (j:=j) (x:=x)
  have hy:=Jm x
  generalize A9 x=y at*
  by_cases h0:y=0
  ·subst h0
   rw [if_neg (fun hh=>hh.1 rfl),if_pos rfl,Nat.zero_add] at hS
   have n1:=EM (k:= .i64) (decide_eq_false (show ¬(0:Int)≠0 by omega))
   by_cases h1:s=0
   ·subst h1
    have q1:=De (k:= .i64) (decide_eq_true (show (0:Int)= -0 by omega))
    repeat (first|refine Af ?_|refine Ac ?_|refine Aa rfl ?_|refine Ab rfl ?_|refine Ak ?_|refine Al ?_|refine Ad ?_|refine Ae ?_)
    refine ⟨m-1,by omega,i+1,cnt,0,by omega,by omega,hs,hS,?_⟩
    exact AS
   ·have q1:=De (k:= .i64) (decide_eq_false (show ¬(0:Int)= -s by omega))
    repeat (first|refine Af ?_|refine Ac ?_|refine Aa rfl ?_|refine Ab rfl ?_|refine Ak ?_|refine Al ?_|refine Ad ?_|refine Ae ?_)
    refine ⟨m-1,by omega,i+1,cnt,s,by omega,by omega,hs,hS,?_⟩
    exact AS
  ·have n1:=EM (k:= .i64) (decide_eq_true h0)
   rw [if_neg h0] at hS
   by_cases h1:y= -s
   ·have q1:=De (k:= .i64) (decide_eq_true h1)
    rw [if_pos ⟨h0,h1⟩] at hS
    repeat (first|refine Af ?_|refine Ac ?_|refine Aa rfl ?_|refine Ab rfl ?_|refine Ak ?_|refine Al ?_|refine Ad ?_|refine Ae ?_)
    refine ⟨m-1,by omega,i+1,cnt+1,y,by omega,by omega,hy,by omega,?_⟩
    exact AS
   ·have q1:=De (k:= .i64) (decide_eq_false h1)
    rw [if_neg (fun hh=>h1 hh.2),Nat.zero_add] at hS
    repeat (first|refine Af ?_|refine Ac ?_|refine Aa rfl ?_|refine Ab rfl ?_|refine Ak ?_|refine Al ?_|refine Ad ?_|refine Ae ?_)
    refine ⟨m-1,by omega,i+1,cnt,y,by omega,by omega,hy,hS,?_⟩
    exact AS
 ·have bi:=AJ (k:= .i64) (decide_eq_false (show ¬(i:Int)<(l.length:Int) by omega))
  rw [List.drop_eq_nil_of_le (by omega)] at hS
  replace hS:cnt=R:=hS
  subst hS
  repeat (first|refine Af ?_|refine Ac ?_|refine Aa rfl ?_|refine Ab rfl ?_|refine Ak ?_|refine Al ?_|refine Ad ?_|refine Ae ?_)
  refine As (And.intro (Or.inr rfl) ?_)
  exact AX
theorem Lv {j:Nat} {l:List Rat} (hl:l.length≤1000000):Ctr Tryz.prog Amb 31 [.one (Ap j l)] (.one (.v (.int .i64 (Gw 0 l:Nat)))):=by
 have hvl:=Ln l 0
 obtain ⟨R,hR⟩: ∃R,R=Gw 0 l:=⟨_,rfl⟩
 rw [←hR] at hvl⊢
 refine Am Tryz.func31 rfl rfl rfl rfl rfl rfl ?_
 intro W0 base D μ0 hA hD
 repeat (first|refine Af ?_|refine Ac ?_|refine Aa rfl ?_|refine Ab rfl ?_|refine Ak ?_|refine Al ?_|refine Ad ?_|refine Ae ?_)
 refine AK (fun m σ=> ∃(i cnt:Nat) (s:Int),m=l.length-i∧i≤l.length∧S3 s∧cnt+Gw s (l.drop i)=R∧Wk ⟨W0,base,D,31,[],μ0⟩ σ [(0,.one (Ap j l)),(3,At (cnt:Nat)),(4,At s),(5,At (i:Nat))] []) (n:=l.length) ⟨0,0,0,by omega,by omega,.inr (.inl rfl),by rw [hR,Nat.zero_add];rfl,?_⟩ ?_
 ·exact AS
 intro m σ hI
 obtain ⟨i,cnt,s,hm,hi0,hs,hS,hw⟩:=hI
 refine A5 hw ?_
 clear hw
 by_cases hi:i<l.length
 ·obtain ⟨x,hx,hx'⟩:=FG hi
  have bi:=AJ (k:= .i64) (decide_eq_true (show (i:Int)<(l.length:Int) by omega))
  have hin:=AL (k:= .i64) (show (IntKind.i64).wrap ((i:Int)+1)=((i+1:Nat):Int) from IntWalk.i64_in _ (by omega))
  have hcn:=AL (k:= .i64) (show (IntKind.i64).wrap ((cnt:Int)+1)=((cnt+1:Nat):Int) from IntWalk.i64_in _ (by omega))
  rw [EZ hx',H7] at hS
  have S1:=Pt (j:=j) (x:=x)
  have hy:=Jm x
  generalize A9 x=y at*
  by_cases h0:y=0
  ·have q0:=De (k:= .i64) (decide_eq_true h0)
   rw [if_neg (fun hh=>hh.1 h0),if_pos h0,Nat.zero_add] at hS
   repeat (first|refine Af ?_|refine Ac ?_|refine Aa rfl ?_|refine Ab rfl ?_|refine Ak ?_|refine Al ?_|refine Ad ?_|refine Ae ?_)
   refine ⟨m-1,by omega,i+1,cnt,s,by omega,by omega,hs,hS,?_⟩
   exact AS
  ·have q0:=De (k:= .i64) (decide_eq_false h0)
   rw [if_neg h0] at hS
   by_cases h1:s=0
   ·have n1:=EM (k:= .i64) (decide_eq_false (show ¬s≠0 by omega))
    rw [if_neg (fun hh=>h0 (by omega)),Nat.zero_add] at hS
    repeat (first|refine Af ?_|refine Ac ?_|refine Aa rfl ?_|refine Ab rfl ?_|refine Ak ?_|refine Al ?_|refine Ad ?_|refine Ae ?_)
    refine ⟨m-1,by omega,i+1,cnt,y,by omega,by omega,hy,hS,?_⟩
    exact AS
   ·have n1:=EM (k:= .i64) (decide_eq_true h1)
    unfold S3 at hs
    by_cases h2:y=s
    ·have n2:=EM (k:= .i64) (decide_eq_false (show ¬y≠s by omega))
     rw [if_neg (fun hh=>by omega),Nat.zero_add] at hS
     repeat (first|refine Af ?_|refine Ac ?_|refine Aa rfl ?_|refine Ab rfl ?_|refine Ak ?_|refine Al ?_|refine Ad ?_|refine Ae ?_)
     refine ⟨m-1,by omega,i+1,cnt,y,by omega,by omega,hy,hS,?_⟩
     exact AS
    ·have n2:=EM (k:= .i64) (decide_eq_true h2)
     rw [if_pos ⟨h0,by omega⟩] at hS
     repeat (first|refine Af ?_|refine Ac ?_|refine Aa rfl ?_|refine Ab rfl ?_|refine Ak ?_|refine Al ?_|refine Ad ?_|refine Ae ?_)
     refine ⟨m-1,by omega,i+1,cnt+1,y,by omega,by omega,hy,by omega,?_⟩
     exact AS
 ·have bi:=AJ (k:= .i64) (decide_eq_false (show ¬(i:Int)<(l.length:Int) by omega))
  rw [List.drop_eq_nil_of_le (by omega)] at hS
  replace hS:cnt=R:=hS
  subst hS
  repeat (first|refine Af ?_|refine Ac ?_|refine Aa rfl ?_|refine Ab rfl ?_|refine Ak ?_|refine Al ?_|refine Ad ?_|refine Ae ?_)
  refine As (And.intro (Or.inr rfl) ?_)
  exact AX
def nzB (x:Rat):Bool:=decide (A9 x≠0)
theorem V7 {j:Nat} {x:Rat} :Ctr Tryz.prog Amb 114 [nm j x] (.one (.v (.bool (nzB x)))):=by
 have V1:=Qe (j:=j) (x:=x)
 have n1:=EM (k:= .i64) (show decide (A9 x≠0)=nzB x from rfl)
 refine Am Tryz.func114 rfl rfl rfl rfl rfl rfl ?_
 intro W0 base D μ0 hA hD
 repeat (first|refine Af ?_|refine Ac ?_|refine Aa rfl ?_|refine Ab rfl ?_|refine Ak ?_|refine Al ?_|refine Ad ?_|refine Ae ?_)
 refine As (And.intro (Or.inr rfl) ?_)
 exact AX
theorem LE {j:Nat} {l:List Rat} {b:Bool} (h1:0<l.length) (h2:l.length≤41) (hb:l.any nzB=b):Ctr Tryz.prog Amb 40 [.one (Ap j l)] (.one (.v (.bool (!b)))):=by
 have P1:=Dd (j:=j) h1 h2
 have C1:=Iy (g:=114) (j:=j) (l:=l) (p:=nzB) (by omega) (fun x _=>V7)
 rw [hb] at C1
 refine Am Tryz.func40 rfl rfl rfl rfl rfl rfl ?_
 intro W0 base D μ0 hA hD
 repeat (first|refine Af ?_|refine Ac ?_|refine Aa rfl ?_|refine Ab rfl ?_|refine Ak ?_|refine Al ?_|refine Ad ?_|refine Ae ?_)
 refine As (And.intro (Or.inr rfl) ?_)
 exact AX
theorem Qx {j:Nat} {l:List Rat} {b:Bool} (hl:l.length≤1000000) (hb:l.any nzB=b):Ctr Tryz.prog Amb 41 [.one (Ap j l)] (.one (.v (.bool (!b)))):=by
 refine Am Tryz.func41 rfl rfl rfl rfl rfl rfl ?_
 intro W0 base D μ0 hA hD
 repeat (first|refine Af ?_|refine Ac ?_|refine Aa rfl ?_|refine Ab rfl ?_|refine Ak ?_|refine Al ?_|refine Ad ?_|refine Ae ?_)
 refine AK (fun m σ=> ∃(i:Nat),m=l.length-i∧i≤l.length∧(l.drop i).any nzB=b∧Wk ⟨W0,base,D,16,[],μ0⟩ σ [(0,.one (Ap j l)),(3,At (i:Nat))] []) (n:=l.length) ⟨0,by omega,by omega,hb,?_⟩ ?_
 ·exact AS
 intro m σ hI
 obtain ⟨i,hm,hi0,hS,hw⟩:=hI
 refine A5 hw ?_
 clear hw
 by_cases hi:i<l.length
 ·obtain ⟨x,hx,hx'⟩:=FG hi
  have bi:=AJ (k:= .i64) (decide_eq_true (show (i:Int)<(l.length:Int) by omega))
  have hin:=AL (k:= .i64) (show (IntKind.i64).wrap ((i:Int)+1)=((i+1:Nat):Int) from IntWalk.i64_in _ (by omega))
  have S1:=Pt (j:=j) (x:=x)
  rw [EZ hx',List.any_cons] at hS
  by_cases h0:A9 x≠0
  ·have n1:=EM (k:= .i64) (decide_eq_true h0)
   have h3:nzB x=true:=decide_eq_true h0
   rw [h3,Bool.true_or] at hS
   repeat (first|refine Af ?_|refine Ac ?_|refine Aa rfl ?_|refine Ab rfl ?_|refine Ak ?_|refine Al ?_|refine Ad ?_|refine Ae ?_)
   rw [←hS]
   refine As (And.intro (Or.inr rfl) ?_)
   exact AX
  ·have n1:=EM (k:= .i64) (decide_eq_false h0)
   have h3:nzB x=false:=decide_eq_false h0
   rw [h3,Bool.false_or] at hS
   repeat (first|refine Af ?_|refine Ac ?_|refine Aa rfl ?_|refine Ab rfl ?_|refine Ak ?_|refine Al ?_|refine Ad ?_|refine Ae ?_)
   refine ⟨m-1,by omega,i+1,by omega,by omega,hS,?_⟩
   exact AS
 ·have bi:=AJ (k:= .i64) (decide_eq_false (show ¬(i:Int)<(l.length:Int) by omega))
  rw [List.drop_eq_nil_of_le (by omega)] at hS
  replace hS:false=b:=hS
  subst hS
  repeat (first|refine Af ?_|refine Ac ?_|refine Aa rfl ?_|refine Ab rfl ?_|refine Ak ?_|refine Al ?_|refine Ad ?_|refine Ae ?_)
  refine As (And.intro (Or.inr rfl) ?_)
  exact AX
def O3 (p q:List Rat) (d e:Nat):Bool:=!((tab (max d e+1) (DZ (· - ·) (cf p) (cf q) d e)).any nzB)
theorem Wb {j d e:Nat} {p q:List Rat} (hp:p.length=d+1) (hq:q.length=e+1) (hd:d≤40) (he:e≤40) (hj:j≤10000) (hr: ∀r∈p,RSz j r) (hr2: ∀r∈q,RSz j r):
  Ctr Tryz.prog Amb 38 [.one (Ap j p),.one (Ap j q)] (.one (.v (.bool (O3 p q d e)))):=by
 have B1:=XR hp hq hd he hj hr hr2
 unfold Cs at B1
 unfold O3
 have hl:(tab (max d e+1) (DZ (· - ·) (cf p) (cf q) d e)).length=max d e+1:=Ef
 generalize (tab (max d e+1) (DZ (· - ·) (cf p) (cf q) d e))=L at*
 have Z1:=LE (j:=5000000+5000000+3) (l:=L) (by omega) (by omega) rfl
 refine Am Tryz.func38 rfl rfl rfl rfl rfl rfl ?_
 intro W0 base D μ0 hA hD
 repeat (first|refine Af ?_|refine Ac ?_|refine Aa rfl ?_|refine Ab rfl ?_|refine Ak ?_|refine Al ?_|refine Ad ?_|refine Ae ?_)
 refine As (And.intro (Or.inr rfl) ?_)
 exact AX
theorem VX {j d e J:Nat} {p q:List Rat} (hp:p.length=d+1) (hq:q.length=e+1) (hd:d≤40) (he:e≤40) (hr: ∀r∈p,RSz j r) (hr2: ∀r∈q,RSz j r) (hJ:J≤400000) (hj:20+42*(j+4)≤J):
  Ctr Tryz.prog Amb 39 [.one (Ap j p),.one (Ap j q)] (.one (.v (.bool (O3 p q d e)))):=by
 have B1:=XG (j:=j) (J:=J) hp hq hd he hr hr2 hJ hj
 unfold Cs at B1
 unfold O3
 have hl:(tab (max d e+1) (DZ (· - ·) (cf p) (cf q) d e)).length=max d e+1:=Ef
 generalize (tab (max d e+1) (DZ (· - ·) (cf p) (cf q) d e))=L at*
 have Z1:=Qx (j:=J+J+1) (l:=L) (by omega) rfl
 refine Am Tryz.func39 rfl rfl rfl rfl rfl rfl ?_
 intro W0 base D μ0 hA hD
 repeat (first|refine Af ?_|refine Ac ?_|refine Aa rfl ?_|refine Ab rfl ?_|refine Ak ?_|refine Al ?_|refine Ad ?_|refine Ae ?_)
 refine As (And.intro (Or.inr rfl) ?_)
 exact AX
def mnA:Rat→List Rat→Rat
 | m,[]=>m
 | m,x::l=>mnA (mn m x) l
def mxA:Rat→List Rat→Rat
 | m,[]=>m
 | m,x::l=>mxA (mx m x) l
theorem Wv {m x:Rat} :mn m x=if Cd x m<0 then x else m:=NS m x
theorem Wt {m x:Rat} :mx m x=if 0<Cd x m then x else m:=NT m x
theorem X6 {j:Nat} {m x:Rat} (h:RSz j m) (k:RSz j x):RSz j (mn m x):=by unfold mn;split<;>assumption
theorem X5 {j:Nat} {m x:Rat} (h:RSz j m) (k:RSz j x):RSz j (mx m x):=by unfold mx;split<;>assumption
theorem Ur: ∀ {l:List Rat} {m x:Rat},m≤x∨(∃y∈l,y≤x)→mnA m l≤x
 | [],m,x,h=>by
   rcases h with h|⟨y,hy,_⟩
   ·exact h
   ·cases hy
 | y::l,m,x,h=>by
   show mnA (mn m y) l≤x
   refine Ur ?_
   rcases NR m y with ⟨e,h1⟩|⟨e,h1⟩<;>rw [e]
   ·rcases h with h|⟨z,hz,hzx⟩
    ·exact .inl h
    ·rcases List.mem_cons.1 hz with rfl|hz
     ·exact .inl (Rat.le_trans h1 hzx)
     ·exact .inr ⟨z,hz,hzx⟩
   ·rcases h with h|⟨z,hz,hzx⟩
    ·exact .inl (Rat.le_trans h1 h)
    ·rcases List.mem_cons.1 hz with rfl|hz
     ·exact .inl hzx
     ·exact .inr ⟨z,hz,hzx⟩
theorem Ux: ∀ {l:List Rat} {m x:Rat},x≤m∨(∃y∈l,x≤y)→x≤mxA m l
 | [],m,x,h=>by
   rcases h with h|⟨y,hy,_⟩
   ·exact h
   ·cases hy
 | y::l,m,x,h=>by
   show x≤mxA (mx m y) l
   refine Ux ?_
   rcases NN m y with ⟨e,h1⟩|⟨e,h1⟩<;>rw [e]
   ·rcases h with h|⟨z,hz,hzx⟩
    ·exact .inl h
    ·rcases List.mem_cons.1 hz with rfl|hz
     ·exact .inl (Rat.le_trans hzx h1)
     ·exact .inr ⟨z,hz,hzx⟩
   ·rcases h with h|⟨z,hz,hzx⟩
    ·exact .inl (Rat.le_trans h h1)
    ·rcases List.mem_cons.1 hz with rfl|hz
     ·exact .inl hzx
     ·exact .inr ⟨z,hz,hzx⟩
theorem Uq {a b:Rat} (h:a≤b):mn a b=a:=by
 rcases NR a b with ⟨e,_⟩|⟨e,h2⟩
 ·exact e
 ·rw [e];grind
theorem Un {a b:Rat} (h:a≤b):mx a b=b:=by
 rcases NN a b with ⟨e,h2⟩|⟨e,_⟩
 ·rw [e];grind
 ·exact e
theorem XU {g:FuncId} [hG:Fun Tryz.prog g] {j:Nat} {x:Rat} {t:List Rat} (hl:t.length≤1000000) (hr: ∀r∈x::t,RSz j r) (H: ∀x y,Ctr Tryz.prog Amb g [nm j x,nm j y] (.one (.v (.int .i64 (Cd x y))))):
  Ctr Tryz.prog Amb 107 [.one (Ap j (x::t)),.one (.fn g [])] (nm j (mnA x t)):=by
 obtain ⟨l,hle⟩: ∃l,l=x::t:=⟨_,rfl⟩
 obtain ⟨R,hR⟩: ∃R,R=mnA x t:=⟨_,rfl⟩
 have hll:l.length=t.length+1:=by rw [hle];rfl
 have hd:mnA x (l.drop 1)=R:=by rw [hle,hR];rfl
 have hx0:l[((0:Nat):Int).toNat]?=some x:=by rw [hle];rfl
 have b0:=AJ (k:= .i64) (decide_eq_false (show ¬(l.length:Int)<1 by omega))
 rw [←hle] at hr⊢
 rw [←hR]
 have hxr:=hr x (by rw [hle];exact List.mem_cons_self)
 clear hle hR
 refine Am Tryz.func107 rfl rfl rfl rfl rfl rfl ?_
 intro W0 base D μ0 hA hD
 repeat (first|refine Af ?_|refine Ac ?_|refine Aa rfl ?_|refine Ab rfl ?_|refine Ak ?_|refine Al ?_|refine Ad ?_|refine Ae ?_)
 refine AK (fun c σ=> ∃(i:Nat) (m:Rat),c=l.length-i∧1≤i∧i≤l.length∧RSz j m∧mnA m (l.drop i)=R∧Wk ⟨W0,base,D,33,[],μ0⟩ σ [(0,.one (Ap j l)),(1,.one (.fn g [])),(4,.one (.ptr 4 0)),(5,.one (.ptr 5 0)),(6,At (i:Nat))] [(4,nmC j 0),(5,nmC j m)]) (n:=l.length-1) ⟨1,x,rfl,Zc _,by omega,hxr,hd,?_⟩ ?_
 ·exact AS
 clear hx0 hd hxr b0
 intro c σ hI
 obtain ⟨i,m,hc,hi1,hi0,hms,hS,hw⟩:=hI
 refine A5 hw ?_
 clear hw
 by_cases hi:i<l.length
 ·obtain ⟨y,hy,hy'⟩:=FG hi
  have bi:=AJ (k:= .i64) (decide_eq_true (show (i:Int)<(l.length:Int) by omega))
  have hin:=AL (k:= .i64) (show (IntKind.i64).wrap ((i:Int)+1)=((i+1:Nat):Int) from IntWalk.i64_in _ (by omega))
  have H1:=H y m
  have hyr:=hr y (List.mem_of_getElem? hy')
  rw [EZ hy'] at hS
  replace hS:mnA (mn m y) (l.drop (i+1))=R:=hS
  rw [Wv] at hS
  by_cases hlt:Cd y m<0
  ·have bl:=AJ (k:= .i64) (decide_eq_true hlt)
   rw [if_pos hlt] at hS
   repeat (first|refine Af ?_|refine Ac ?_|refine Aa rfl ?_|refine Ab rfl ?_|refine Ak ?_|refine Al ?_|refine Ad ?_|refine Ae ?_)
   refine ⟨c-1,by omega,i+1,y,by omega,by omega,by omega,hyr,hS,?_⟩
   exact AS
  ·have bl:=AJ (k:= .i64) (decide_eq_false hlt)
   rw [if_neg hlt] at hS
   repeat (first|refine Af ?_|refine Ac ?_|refine Aa rfl ?_|refine Ab rfl ?_|refine Ak ?_|refine Al ?_|refine Ad ?_|refine Ae ?_)
   refine ⟨c-1,by omega,i+1,m,by omega,by omega,by omega,hms,hS,?_⟩
   exact AS
 ·have bi:=AJ (k:= .i64) (decide_eq_false (show ¬(i:Int)<(l.length:Int) by omega))
  rw [List.drop_eq_nil_of_le (by omega)] at hS
  replace hS:m=R:=hS
  subst hS
  repeat (first|refine Af ?_|refine Ac ?_|refine Aa rfl ?_|refine Ab rfl ?_|refine Ak ?_|refine Al ?_|refine Ad ?_|refine Ae ?_)
  refine As (And.intro (Or.inr rfl) ?_)
  exact AX
theorem XV {g:FuncId} [hG:Fun Tryz.prog g] {j:Nat} {x:Rat} {t:List Rat} (hl:t.length≤1000000) (hr: ∀r∈x::t,RSz j r) (H: ∀x y,Ctr Tryz.prog Amb g [nm j x,nm j y] (.one (.v (.int .i64 (Cd x y))))):
  Ctr Tryz.prog Amb 108 [.one (Ap j (x::t)),.one (.fn g [])] (nm j (mxA x t)):=by
 obtain ⟨l,hle⟩: ∃l,l=x::t:=⟨_,rfl⟩
 obtain ⟨R,hR⟩: ∃R,R=mxA x t:=⟨_,rfl⟩
 have hll:l.length=t.length+1:=by rw [hle];rfl
 have hd:mxA x (l.drop 1)=R:=by rw [hle,hR];rfl
 have hx0:l[((0:Nat):Int).toNat]?=some x:=by rw [hle];rfl
 have b0:=AJ (k:= .i64) (decide_eq_false (show ¬(l.length:Int)<1 by omega))
 rw [←hle] at hr⊢
 rw [←hR]
 have hxr:=hr x (by rw [hle];exact List.mem_cons_self)
 clear hle hR
 refine Am Tryz.func108 rfl rfl rfl rfl rfl rfl ?_
 intro W0 base D μ0 hA hD
 repeat (first|refine Af ?_|refine Ac ?_|refine Aa rfl ?_|refine Ab rfl ?_|refine Ak ?_|refine Al ?_|refine Ad ?_|refine Ae ?_)
 refine AK (fun c σ=> ∃(i:Nat) (m:Rat),c=l.length-i∧1≤i∧i≤l.length∧RSz j m∧mxA m (l.drop i)=R∧Wk ⟨W0,base,D,33,[],μ0⟩ σ [(0,.one (Ap j l)),(1,.one (.fn g [])),(4,.one (.ptr 4 0)),(5,.one (.ptr 5 0)),(6,At (i:Nat))] [(4,nmC j 0),(5,nmC j m)]) (n:=l.length-1) ⟨1,x,rfl,Zc _,by omega,hxr,hd,?_⟩ ?_
 ·exact AS
 clear hx0 hd hxr b0
 intro c σ hI
 obtain ⟨i,m,hc,hi1,hi0,hms,hS,hw⟩:=hI
 refine A5 hw ?_
 clear hw
 by_cases hi:i<l.length
 ·obtain ⟨y,hy,hy'⟩:=FG hi
  have bi:=AJ (k:= .i64) (decide_eq_true (show (i:Int)<(l.length:Int) by omega))
  have hin:=AL (k:= .i64) (show (IntKind.i64).wrap ((i:Int)+1)=((i+1:Nat):Int) from IntWalk.i64_in _ (by omega))
  have H1:=H y m
  have hyr:=hr y (List.mem_of_getElem? hy')
  rw [EZ hy'] at hS
  replace hS:mxA (mx m y) (l.drop (i+1))=R:=hS
  rw [Wt] at hS
  by_cases hlt:0<Cd y m
  ·have bl:=DH (k:= .i64) (decide_eq_true (show Cd y m>0 from hlt))
   rw [if_pos hlt] at hS
   repeat (first|refine Af ?_|refine Ac ?_|refine Aa rfl ?_|refine Ab rfl ?_|refine Ak ?_|refine Al ?_|refine Ad ?_|refine Ae ?_)
   refine ⟨c-1,by omega,i+1,y,by omega,by omega,by omega,hyr,hS,?_⟩
   exact AS
  ·have bl:=DH (k:= .i64) (decide_eq_false (show ¬Cd y m>0 from hlt))
   rw [if_neg hlt] at hS
   repeat (first|refine Af ?_|refine Ac ?_|refine Aa rfl ?_|refine Ab rfl ?_|refine Ak ?_|refine Al ?_|refine Ad ?_|refine Ae ?_)
   refine ⟨c-1,by omega,i+1,m,by omega,by omega,by omega,hms,hS,?_⟩
   exact AS
 ·have bi:=AJ (k:= .i64) (decide_eq_false (show ¬(i:Int)<(l.length:Int) by omega))
  rw [List.drop_eq_nil_of_le (by omega)] at hS
  replace hS:m=R:=hS
  subst hS
  repeat (first|refine Af ?_|refine Ac ?_|refine Aa rfl ?_|refine Ab rfl ?_|refine Ak ?_|refine Al ?_|refine Ad ?_|refine Ae ?_)
  refine As (And.intro (Or.inr rfl) ?_)
  exact AX
theorem RT {j:Nat} {x:Rat} {t:List Rat} (hl:t.length≤100000) (hj:j≤1000000) (hr: ∀r∈x::t,RSz j r):
  Ctr Tryz.prog Amb 28 [.one (Ap j (x::t))] (sp (j+j+1) (mnA x t) (j+j+1) (mxA x t)):=by
 have M1:=XU (g:=71) (j:=j) (x:=x) (t:=t) (by omega) hr (fun x y=>Xm (by omega) (by omega))
 have M2:=XV (g:=71) (j:=j) (x:=x) (t:=t) (by omega) hr (fun x y=>Xm (by omega) (by omega))
 have hle:mnA x t≤mxA x t:=Rat.le_trans (Ur (.inl Rat.le_refl)) (Ux (.inl Rat.le_refl))
 have O1:=YY (j1:=j) (j2:=j) (a:=mnA x t) (b:=mxA x t) hj hj
 rw [Uq hle,Un hle] at O1
 have b0:=De (k:= .i64) (decide_eq_false (show ¬((x::t).length:Int)=0 by rw [List.length_cons];omega))
 generalize mnA x t=u at*
 generalize mxA x t=v at*
 generalize x::t=l at*
 refine Am Tryz.func28 rfl rfl rfl rfl rfl rfl ?_
 intro W0 base D μ0 hA hD
 repeat (first|refine Af ?_|refine Ac ?_|refine Aa rfl ?_|refine Ab rfl ?_|refine Ak ?_|refine Al ?_|refine Ad ?_|refine Ae ?_)
 refine As (And.intro (Or.inr rfl) ?_)
 exact AX
theorem RM {j:Nat} {x:Rat} {t:List Rat} (hl:t.length≤100000) (hj:j≤100000) (hr: ∀r∈x::t,RSz j r):
  Ctr Tryz.prog Amb 29 [.one (Ap j (x::t))] (sp j (mnA x t) j (mxA x t)):=by
 obtain ⟨l,hle⟩: ∃l,l=x::t:=⟨_,rfl⟩
 obtain ⟨U,hU⟩: ∃R,R=mnA x t:=⟨_,rfl⟩
 obtain ⟨V,hV⟩: ∃R,R=mxA x t:=⟨_,rfl⟩
 have hll:l.length=t.length+1:=by rw [hle];rfl
 have hd1:mnA x (l.drop 1)=U:=by rw [hle,hU];rfl
 have hd2:mxA x (l.drop 1)=V:=by rw [hle,hV];rfl
 have hx0:l[((0:Nat):Int).toNat]?=some x:=by rw [hle];rfl
 rw [←hle] at hr⊢
 rw [←hU,←hV]
 have hxr:=hr x (by rw [hle];exact List.mem_cons_self)
 have T0:=Qy (j1:=j) (a:=x) (by omega)
 clear hle hU hV
 refine Am Tryz.func29 rfl rfl rfl rfl rfl rfl ?_
 intro W0 base D μ0 hA hD
 repeat (first|refine Af ?_|refine Ac ?_|refine Aa rfl ?_|refine Ab rfl ?_|refine Ak ?_|refine Al ?_|refine Ad ?_|refine Ae ?_)
 refine AK (fun c σ=> ∃(i:Nat) (u v:Rat),c=l.length-i∧1≤i∧i≤l.length∧RSz j u∧RSz j v∧mnA u (l.drop i)=U∧mxA v (l.drop i)=V∧Wk ⟨W0,base,D,23,[],μ0⟩ σ [(0,.one (Ap j l)),(2,.one (.ptr 2 0)),(3,.one (.ptr 3 0)),(4,At (i:Nat))] [(2,nmC j 0++nmC j 0),(3,nmC j u++nmC j v)]) (n:=l.length-1) ⟨1,x,x,rfl,Zc _,by omega,hxr,hxr,hd1,hd2,?_⟩ ?_
 ·exact AS
 clear hx0 hd1 hd2 hxr T0
 intro c σ hI
 obtain ⟨i,u,v,hc,hi1,hi0,hus,hvs,hS1,hS2,hw⟩:=hI
 refine A5 hw ?_
 clear hw
 by_cases hi:i<l.length
 ·obtain ⟨y,hy,hy'⟩:=FG hi
  have bi:=AJ (k:= .i64) (decide_eq_true (show (i:Int)<(l.length:Int) by omega))
  have hin:=AL (k:= .i64) (show (IntKind.i64).wrap ((i:Int)+1)=((i+1:Nat):Int) from IntWalk.i64_in _ (by omega))
  have hyr:=hr y (List.mem_of_getElem? hy')
  rw [EZ hy'] at hS1 hS2
  replace hS1:mnA (mn u y) (l.drop (i+1))=U:=hS1
  replace hS2:mxA (mx v y) (l.drop (i+1))=V:=hS2
  have T1:=Qy (j1:=j) (a:=y) (by omega)
  have T2:=XJ (j1:=j) (j2:=j) (j3:=j) (j4:=j) (a:=u) (b:=v) (c:=y) (d:=y) (by omega) (by omega) (by omega) (by omega)
  have z1:=X6 hus hyr
  have z2:=X5 hvs hyr
  generalize mn u y=u' at*
  generalize mx v y=v' at*
  repeat (first|refine Af ?_|refine Ac ?_|refine Aa rfl ?_|refine Ab rfl ?_|refine Ak ?_|refine Al ?_|refine Ad ?_|refine Ae ?_)
  refine ⟨c-1,by omega,i+1,u',v',by omega,by omega,by omega,z1,z2,hS1,hS2,?_⟩
  exact AS
 ·have bi:=AJ (k:= .i64) (decide_eq_false (show ¬(i:Int)<(l.length:Int) by omega))
  rw [List.drop_eq_nil_of_le (by omega)] at hS1 hS2
  replace hS1:u=U:=hS1
  replace hS2:v=V:=hS2
  subst hS1 hS2
  repeat (first|refine Af ?_|refine Ac ?_|refine Aa rfl ?_|refine Ab rfl ?_|refine Ak ?_|refine Al ?_|refine Ad ?_|refine Ae ?_)
  refine As (And.intro (Or.inr rfl) ?_)
  exact AX
def trN (c:Nat→Rat):Nat→Nat
 | 0=>0
 | k+1=>if 0<k∧A9 (c k)=0 then trN c k else k+1
def trM (c:Nat→Rat):Nat→Nat
 | 0=>0
 | k+1=>if A9 (c k)=0 then trM c k else k+1
theorem Lt {c:Nat→Rat} : ∀ {k:Nat},0<k→0<trN c k∧trN c k≤k
 | k+1,_=>by
   unfold trN
   by_cases h:0<k∧A9 (c k)=0
   ·rw [if_pos h]
    have:=Lt (c:=c) h.1
    omega
   ·rw [if_neg h];omega
theorem Th {c:Nat→Rat} : ∀ {k:Nat},trM c k≤k
 | 0=>Zc _
 | k+1=>by
   unfold trM
   split
   ·have:=Th (c:=c) (k:=k);omega
   ·omega
theorem Qr {c:Nat→Rat} : ∀ {k:Nat},0<k→(trM c k=0∧trN c k=1∧c 0=0)∨(0<trM c k∧trM c k=trN c k)
 | 0,h=>by omega
 | 1,_=>by
   have e1:trN c 1=1:=if_neg (fun hh=>Nat.lt_irrefl 0 hh.1)
   by_cases h:A9 (c 0)=0
   ·exact .inl ⟨if_pos h,e1,RS.1 h⟩
   ·have e2:trM c 1=1:=if_neg h
    exact .inr ⟨by rw [e2];omega,by rw [e1,e2]⟩
 | k+2,_=>by
   unfold trM trN
   by_cases h:A9 (c (k+1))=0
   ·rw [if_pos h,if_pos ⟨by omega,h⟩];exact Qr (by omega)
   ·rw [if_neg h,if_neg (fun hh=>h hh.2)];exact .inr ⟨by omega,rfl⟩
theorem MW {j n J:Nat} {l:List Rat} (hl:l.length=n+1) (hr: ∀r∈l,RSz j r) (hn:n≤40) (hJ:2+(n+1)*j+j+(n+2)+2≤J): ∀r∈tab (n+1) (EP (cf l) n),RSz J r:=fun r hrr=>by
 obtain ⟨i,hi,he⟩:=List.getElem_of_mem hrr
 have h2:(tab (n+1) (EP (cf l) n))[i]?=some (EP (cf l) n i):=Dm (by simpa using hi)
 rw [Zd hi,he] at h2
 rw [Option.some.inj h2]
 have hi':i<n+1:=by simpa using hi
 unfold EP
 exact ((Fv (n:=n) (k:=i) (by omega)).mul (Q8 (J:=2+(n+1)*j+j+(n+2)) hl hr (Zc _) i 0 (by omega))).mono (by omega)
theorem FD {c d:Nat→Rat} {n i:Nat} (h: ∀k,k≤i→c k=d k):DC c n i=DC d n i:=by
 unfold DC
 exact Fz fun q hq=>by rw [h q (by omega)]
theorem Qw {l:List Rat} {k q:Nat} (h:q<k):cf (l.take k) q=cf l q:=by
 unfold cf
 rw [List.getD_eq_getElem?_getD,List.getD_eq_getElem?_getD,List.getElem?_take,if_pos h]
def RH (p:List Rat) (n:Nat):List Rat:=tab (trN (EP (cf p) n) (n+1)) (DC (EP (cf p) n) (trN (EP (cf p) n) (n+1)-1))
theorem Ya {j k:Nat} {C:List Rat} (hC:C.length≤41) (hk:0<k∧k≤C.length) (hr: ∀r∈C,RSz 9000 r):Ctr Tryz.prog Amb 25 [.one (Ap j ((C.take k).drop 0))] (.tup [.one (Ap 5000000 (tab k (DC (cf C) (k-1)))),At 0]):=by
 obtain ⟨n,rfl⟩: ∃n,k=n+1:=⟨k-1,by omega⟩
 rw [List.drop_zero,Nat.add_sub_cancel]
 have hs: ∀r∈C.take (n+1),RSz 9000 r:=fun r h=>hr r (List.mem_of_mem_take h)
 have h:=He (j:=9000) (n:=n) (p:=C.take (n+1)) (by rw [List.length_take];omega) (by omega) (by omega) hs
 have e:tab (n+1) (DC (cf (C.take (n+1))) n)=tab (n+1) (DC (cf C) n):=Ax fun i hi=>FD fun q hq=>Qw (by omega)
 rw [e] at h
 exact h.shortArg hs
theorem XQ {j n:Nat} {p:List Rat} (hp:p.length=n+1) (hn:n≤40) (hj:j≤100) (hr: ∀r∈p,RSz j r):
  Ctr Tryz.prog Amb 36 [.one (Ap j p)] (.one (Ap 5000000 (RH p n))):=by
 have hNA:(n+1)*j≤41*100:=Nat.mul_le_mul (by omega) hj
 have P1:=Jp hp hn (by omega) hr
 have hCr:=MW (J:=9000) hp hr hn (by omega)
 unfold Cs at P1
 unfold RH
 obtain ⟨c,hc⟩: ∃c:Nat→Rat,c=EP (cf p) n:=⟨_,rfl⟩
 rw [←hc] at P1 hCr⊢
 obtain ⟨C,hC⟩: ∃C,C=tab (n+1) c:=⟨_,rfl⟩
 rw [←hC] at P1 hCr
 have hCl:C.length=n+1:=by rw [hC];simp
 have hcc: ∀q,q<n+1→cf C q=c q:=fun q hq=>by rw [hC];exact Ff 0 hq
 have hCx: ∀q,q<n+1→C[((q:Nat):Int).toNat]?=some (c q):=fun q hq=>by rw [hC];exact A8 hq
 have F1: ∀k,0<k→k≤n+1→Ctr Tryz.prog Amb 25 [.one (Ap 5000000 ((C.take k).drop 0))] (.tup [.one (Ap 5000000 (tab k (DC c (k-1)))),At 0]):=fun k h1 h2=>by
  have h:=Ya (j:=5000000) (k:=k) (C:=C) (by omega) ⟨h1,by omega⟩ hCr
  have e:tab k (DC (cf C) (k-1))=tab k (DC c (k-1)):=Ax fun i hi=>FD fun q hq=>hcc q (by omega)
  rw [e] at h
  exact h
 have bd:=Lt (c:=c) (k:=n+1) (by omega)
 obtain ⟨R,hR⟩: ∃R,R=trN c (n+1):=⟨_,rfl⟩
 rw [←hR] at bd⊢
 clear hC hcc hCr hr hc
 refine Am Tryz.func36 rfl rfl rfl rfl rfl rfl ?_
 intro W0 base D μ0 hA hD
 repeat (first|refine Af ?_|refine Ac ?_|refine Aa rfl ?_|refine Ab rfl ?_|refine Ak ?_|refine Al ?_|refine Ad ?_|refine Ae ?_)
 refine AK (fun m σ=> ∃(k:Nat),m=k∧0<k∧k≤n+1∧trN c k=R∧Wk ⟨W0,base,D,32,[],μ0⟩ σ [(3,.one (Ap 5000000 C)),(4,At (k:Nat))] []) (n:=n+1) ⟨n+1,rfl,by omega,Zc _,hR.symm,?_⟩ ?_
 ·exact AS
 intro m σ hI
 obtain ⟨k,hm,hk0,hk1,hS,hw⟩:=hI
 refine A5 hw ?_
 clear hw
 obtain ⟨q,rfl⟩: ∃q,k=q+1:=⟨k-1,by omega⟩
 have hdn:=BI (k:= .i64) (show (IntKind.i64).wrap (((q+1:Nat):Int)-1)=(q:Int) by rw [show (((q+1:Nat):Int)-1)=(q:Int) by omega];exact IntWalk.i64_in _ (by omega))
 have hx:=hCx q (by omega)
 have S1:=Qe (j:=5000000) (x:=c q)
 by_cases h1:0<q
 ·have bg:=DH (k:= .i64) (decide_eq_true (show ((q+1:Nat):Int)>1 by omega))
  by_cases h2:A9 (c q)=0
  ·have q0:=De (k:= .i64) (decide_eq_true h2)
   have hS':trN c q=R:=by
    have:trN c (q+1)=trN c q:=if_pos ⟨h1,h2⟩
    rw [←this];exact hS
   repeat (first|refine Af ?_|refine Ac ?_|refine Aa rfl ?_|refine Ab rfl ?_|refine Ak ?_|refine Al ?_|refine Ad ?_|refine Ae ?_)
   refine ⟨q,by omega,q,rfl,h1,by omega,hS',?_⟩
   exact AS
  ·have q0:=De (k:= .i64) (decide_eq_false h2)
   have hS':q+1=R:=by
    have:trN c (q+1)=q+1:=if_neg (fun hh=>h2 hh.2)
    rw [←this];exact hS
   have F2:=F1 (q+1) (by omega) (by omega)
   have hle:q+1≤C.length:=by omega
   rw [←hS']
   repeat (first
    | refine Af ?_|refine Ac ?_|refine Aa rfl ?_|refine Ab rfl ?_
    | ((first|refine AI (by kernel_rfl) ?_|refine BL (by kernel_rfl) (by kernel_rfl) (by kernel_rfl) ?_)
       repeat (first
        | refine DM (hl:=?_)
        | refine AZ (hl:=?_)
        | refine AC (hl:=?_)
        | refine BU (hl:=?_)
        | refine Dc (hl:=?_)
        | refine B5 (hl:=?_)
        | refine AO (hl:=?_)
        | refine Da (hl:=?_)
        | refine Db (hl:=?_)
        | refine CH (hl:=?_)
        | refine Cv (hl:=?_)
        | refine Cu (hl:=?_)
        | refine Cw (hl:=?_)
        | refine Cj (hl:=?_)
        | refine B8 (hl:=?_)
        | refine G0 hx (by omega) (hl:=?_)
        | refine Ay hA (hc:=S1) (hl:=?_)
        | refine Ay hA (hc:=F2) (hl:=?_)
        | refine OQ (la:=C) (f:=nmD 5000000) (a:=0) (b:=q+1) (by omega) hle .none (.some rfl rfl) (hl:=?_))
       apply Ai.nil;try refine And.intro (by kernel_rfl) ?_)
    | refine Ad ?_|refine Ae ?_)
   refine As (And.intro (Or.inr rfl) ?_)
   exact AX
 ·have bg:=DH (k:= .i64) (decide_eq_false (show ¬((q+1:Nat):Int)>1 by omega))
  have hS':q+1=R:=by
   have:trN c (q+1)=q+1:=if_neg (fun hh=>h1 hh.1)
   rw [←this];exact hS
  have F2:=F1 (q+1) (by omega) (by omega)
  have hle:q+1≤C.length:=by omega
  rw [←hS']
  repeat (first
   | refine Af ?_|refine Ac ?_|refine Aa rfl ?_|refine Ab rfl ?_
   | ((first|refine AI (by kernel_rfl) ?_|refine BL (by kernel_rfl) (by kernel_rfl) (by kernel_rfl) ?_)
      repeat (first
       | refine DM (hl:=?_)
       | refine AZ (hl:=?_)
       | refine AC (hl:=?_)
       | refine BU (hl:=?_)
       | refine Dc (hl:=?_)
       | refine B5 (hl:=?_)
       | refine AO (hl:=?_)
       | refine Da (hl:=?_)
       | refine Db (hl:=?_)
       | refine CH (hl:=?_)
       | refine Cv (hl:=?_)
       | refine Cu (hl:=?_)
       | refine Cw (hl:=?_)
       | refine Cj (hl:=?_)
       | refine B8 (hl:=?_)
       | refine Ay hA (hc:=F2) (hl:=?_)
       | refine OQ (la:=C) (f:=nmD 5000000) (a:=0) (b:=q+1) (by omega) hle .none (.some rfl rfl) (hl:=?_))
      apply Ai.nil;try refine And.intro (by kernel_rfl) ?_)
   | refine Ad ?_|refine Ae ?_)
  refine As (And.intro (Or.inr rfl) ?_)
  exact AX
theorem XC {j k:Nat} {C:List Rat} (hC:C.length≤41) (hk:0<k∧k≤C.length) (hr: ∀r∈C,RSz 1000 r):Ctr Tryz.prog Amb 26 [.one (Ap j (C.take k))] (.tup [.one (Ap 90000 (tab k (DC (cf C) (k-1)))),At 0]):=by
 obtain ⟨n,rfl⟩: ∃n,k=n+1:=⟨k-1,by omega⟩
 rw [Nat.add_sub_cancel]
 have hs: ∀r∈C.take (n+1),RSz 1000 r:=fun r h=>hr r (List.mem_of_mem_take h)
 have h:=G9 (j:=1000) (n:=n) (p:=C.take (n+1)) (by rw [List.length_take];omega) (by omega) (by omega) hs
 have e:tab (n+1) (DC (cf (C.take (n+1))) n)=tab (n+1) (DC (cf C) n):=Ax fun i hi=>FD fun q hq=>Qw (by omega)
 rw [e] at h
 exact h.shortArg hs
theorem Tk {j n:Nat} {p:List Rat} (hp:p.length=n+1) (hn:n≤40) (hj:j≤1000) (hr: ∀r∈p,RSz j r):
  Ctr Tryz.prog Amb 110 [.one (Ap j p)] (.one (Ap 200000 ((tab (n+1) (EP (cf p) n)).take (trM (EP (cf p) n) (n+1))))):=by
 have P1:=Jg hp hn hj hr
 unfold Cs at P1
 obtain ⟨c,hc⟩: ∃c:Nat→Rat,c=EP (cf p) n:=⟨_,rfl⟩
 rw [←hc] at P1⊢
 obtain ⟨C,hC⟩: ∃C,C=tab (n+1) c:=⟨_,rfl⟩
 rw [←hC] at P1⊢
 have hCl:C.length=n+1:=by rw [hC];simp
 have hCx: ∀k q,k≤n+1→q<k→(C.take k)[((q:Nat):Int).toNat]?=some (c q):=fun k q h1 h2=>by rw [hC,Tj h1];exact A8 h2
 have hCk: ∀k,k≤n+1→(C.take k).length=k:=fun k h1=>by rw [List.length_take];omega
 have hCf:C.take (n+1)=C:=List.take_of_length_le (by omega)
 obtain ⟨R,hR⟩: ∃R,R=trM c (n+1):=⟨_,rfl⟩
 rw [←hR]
 clear hC hr hc
 refine Am Tryz.func110 rfl rfl rfl rfl rfl rfl ?_
 intro W0 base D μ0 hA hD
 repeat (first|refine Af ?_|refine Ac ?_|refine Aa rfl ?_|refine Ab rfl ?_|refine Ak ?_|refine Al ?_|refine Ad ?_|refine Ae ?_)
 refine AK (fun m σ=> ∃(k:Nat),m=k∧k≤n+1∧trM c k=R∧Wk ⟨W0,base,D,25,[],μ0⟩ σ [(3,.one (Ap 200000 (C.take k)))] []) (n:=n+1) ⟨n+1,rfl,Zc _,hR.symm,?_⟩ ?_
 ·rw [hCf]
  exact AS
 intro m σ hI
 obtain ⟨k,hm,hk1,hS,hw⟩:=hI
 refine A5 hw ?_
 clear hw
 have hlk:=hCk k hk1
 have hCk2: ∀q,q≤k→(C.take k).take q=C.take q:=fun q hq=>by rw [List.take_take,Nat.min_eq_left hq]
 have hxk:=hCx k
 obtain ⟨L,hL⟩: ∃L,L=C.take k:=⟨_,rfl⟩
 rw [←hL] at hlk hCk2 hxk
 cases k with
 | zero=>
   have bg:=DH (k:= .i64) (decide_eq_false (show ¬(L.length:Int)>0 by omega))
   have hS':0=R:=hS
   rw [←hS',←hL]
   repeat (first|refine Af ?_|refine Ac ?_|refine Aa rfl ?_|refine Ab rfl ?_|refine Ak ?_|refine Al ?_|refine Ad ?_|refine Ae ?_)
   refine As (And.intro (Or.inr rfl) ?_)
   exact AX
 | succ q=>
   have bg:=DH (k:= .i64) (decide_eq_true (show (L.length:Int)>0 by omega))
   have hdn:=BI (k:= .i64) (show (IntKind.i64).wrap ((L.length:Int)-1)=(q:Int) by rw [show ((L.length:Int)-1)=(q:Int) by omega];exact IntWalk.i64_in _ (by omega))
   have hx:=hxk q hk1 (by omega)
   have S1:=Pt (j:=200000) (x:=c q)
   by_cases h2:A9 (c q)=0
   ·have q0:=De (k:= .i64) (decide_eq_true h2)
    have hS':trM c q=R:=by
     have:trM c (q+1)=trM c q:=if_pos h2
     rw [←this];exact hS
    have hle:q≤L.length:=by omega
    have hq2:=hCk2 q (by omega)
    rw [←hL]
    repeat (first
     | refine Af ?_|refine Ac ?_|refine Aa rfl ?_|refine Ab rfl ?_
     | ((first|refine AI (by kernel_rfl) ?_|refine BL (by kernel_rfl) (by kernel_rfl) (by kernel_rfl) ?_)
        repeat (first
         | refine DM (hl:=?_)
         | refine AZ (hl:=?_)
         | refine AC (hl:=?_)
         | refine BU (hl:=?_)
         | refine B5 (hl:=?_)
         | refine AO (hl:=?_)
         | refine Da (hl:=?_)
         | refine Db (hl:=?_)
         | refine CH (hl:=?_)
         | refine Cv (hl:=?_)
         | refine Cu (hl:=?_)
         | refine Cw (hl:=?_)
         | refine Cj (hl:=?_)
         | refine B8 (hl:=?_)
         | refine G0 hx (by omega) (hl:=?_)
         | refine Ay hA (hc:=S1) (hl:=?_)
         | refine OQ (la:=L) (f:=nmD 200000) (a:=0) (b:=q) (by omega) hle .none (.some rfl rfl) (hl:=?_))
        apply Ai.nil;try refine And.intro (by kernel_rfl) ?_)
     | refine Ad ?_|refine Ae ?_)
    refine ⟨q,by omega,q,rfl,by omega,hS',?_⟩
    rw [List.drop_zero,hq2]
    exact AS
   ·have q0:=De (k:= .i64) (decide_eq_false h2)
    have hS':q+1=R:=by
     have:trM c (q+1)=q+1:=if_neg h2
     rw [←this];exact hS
    rw [←hS',←hL]
    repeat (first|refine Af ?_|refine Ac ?_|refine Aa rfl ?_|refine Ab rfl ?_|refine Ak ?_|refine Al ?_|refine Ad ?_|refine Ae ?_)
    refine As (And.intro (Or.inr rfl) ?_)
    exact AX
theorem XF {j n:Nat} {p:List Rat} (hp:p.length=n+1) (hn:n≤40) (hj:(n+1)*j+j+n+6≤1000) (hr: ∀r∈p,RSz j r):
  Ctr Tryz.prog Amb 37 [.one (Ap j p)] (.one (Ap 90000 (RH p n))):=by
 have P1:=Tk hp hn (by omega) hr
 have hCr:=MW (J:=1000) hp hr hn (by omega)
 unfold RH
 obtain ⟨c,hc⟩: ∃c:Nat→Rat,c=EP (cf p) n:=⟨_,rfl⟩
 rw [←hc] at P1 hCr⊢
 obtain ⟨C,hC⟩: ∃C,C=tab (n+1) c:=⟨_,rfl⟩
 rw [←hC] at P1 hCr
 have hCl:C.length=n+1:=by rw [hC];simp
 have hcc: ∀q,q<n+1→cf C q=c q:=fun q hq=>by rw [hC];exact Ff 0 hq
 have hle:=Th (c:=c) (k:=n+1)
 rcases Qr (c:=c) (k:=n+1) (by omega) with ⟨h1,h2,h3⟩|⟨h1,h2⟩
 ·rw [h1,List.take_zero] at P1
  rw [h2]
  have e:tab 1 (DC c (1-1))= [(0:Rat)]:=by
   show [DC c 0 0]=_
   unfold DC
   show [c 0/AF 0 0]=_
   rw [h3]
   have:(0:Rat)/AF 0 0=0:=by grind
   rw [this]
  rw [e]
  have b0:=De (k:= .i64) (decide_eq_true (show ((([]:List Rat).length:Nat):Int)=0 from rfl))
  refine Am Tryz.func37 rfl rfl rfl rfl rfl rfl ?_
  intro W0 base D μ0 hA hD
  repeat (first|refine Af ?_|refine Ac ?_|refine Aa rfl ?_|refine Ab rfl ?_|refine Ak ?_|refine Al ?_|refine Ad ?_|refine Ae ?_)
  refine A5 (ss:= [(2,.one (.gl 12 1 3))]) (bs:= [(12,An (nmD 90000) [(0:Rat)])]) ?_ ?_
  ·exact AS
  refine BG 12 hD (ss:= [(2,.one (Ap 90000 [0]))]) (bs:= []) ?_ ?_
  ·exact UM (List.forall_mem_cons.2 ⟨JN (f:=nmD 90000) (l:= [(0:Rat)]) inferInstance,Aq⟩) Aq rfl
  refine As (And.intro (Or.inr rfl) ?_)
  exact AX
 ·rw [←h2]
  have F1:=XC (j:=200000) (k:=trM c (n+1)) (C:=C) (by omega) ⟨h1,by omega⟩ hCr
  have e:tab (trM c (n+1)) (DC (cf C) (trM c (n+1)-1))=tab (trM c (n+1)) (DC c (trM c (n+1)-1)):=Ax fun i hi=>FD fun q hq=>hcc q (by omega)
  rw [e] at F1
  have hlk:(C.take (trM c (n+1))).length=trM c (n+1):=by rw [List.length_take];omega
  generalize trM c (n+1)=k at*
  generalize C.take k=L at*
  have b0:=De (k:= .i64) (decide_eq_false (show ¬(L.length:Int)=0 by omega))
  refine Am Tryz.func37 rfl rfl rfl rfl rfl rfl ?_
  intro W0 base D μ0 hA hD
  repeat (first|refine Af ?_|refine Ac ?_|refine Aa rfl ?_|refine Ab rfl ?_|refine Ak ?_|refine Al ?_|refine Ad ?_|refine Ae ?_)
  refine As (And.intro (Or.inr rfl) ?_)
  exact AX
end Go.Proofs.YtnkobfcnflphkaaGreatDoor
