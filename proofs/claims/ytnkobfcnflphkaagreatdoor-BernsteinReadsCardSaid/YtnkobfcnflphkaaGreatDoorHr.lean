/-
  Several texts in one: Zac, Zad.
-/
import Derived.Test.YtnkobfcnflphkaaGreatDoorHt
import Derived.Test.YtnkobfcnflphkaaGreatDoorHp
import Derived.Test.YtnkobfcnflphkaaGreatDoorHv
import Derived.Test.YtnkobfcnflphkaaGreatDoorHz
import Derived.Test.YtnkobfcnflphkaaGreatDoorHb
import Derived.Test.YtnkobfcnflphkaaGreatDoorHq
import Derived.Test.YtnkobfcnflphkaaGreatDoorHy
namespace Go.Proofs.YtnkobfcnflphkaaGreatDoor
open Nat renaming le_refl→Zj
open List renaming getElem?_eq_getElem→Zk
open Go.RowKit
set_option linter.unusedVariables false
set_option linter.unusedSimpArgs false
set_option maxRecDepth 20000
set_option maxHeartbeats 4000000
theorem Id {x:Rat} {l:List Rat} {s:Int} :GC s (x::l)=(if Bx x≠0∧Bx x= -s then 1 else 0)+GC (if Bx x=0 then s else Bx x) l:=by
 by_cases h:Bx x=0
 ·rw [Xz h,if_neg (fun hh=>hh.1 h),if_pos h,Nat.zero_add]
 ·rw [VF h,if_neg h]
  by_cases h2:Bx x= -s
  ·rw [if_pos h2,if_pos ⟨h,h2⟩]
  ·rw [if_neg h2,if_neg (fun hh=>h2 hh.2)]
theorem Ls: ∀(l:List Rat) (s:Int),GC s l≤l.length
 | [],_=>Zj _
 | x::l,s=>by
   rw [Id,List.length_cons]
   have:=Ls l (if Bx x=0 then s else Bx x)
   split<;>omega
theorem Ss {s:Int} (h:S3 s):(IntKind.i64).wrap (0-s)= -s:=by
 rw [show (0:Int)-s= -s by omega]
 unfold S3 at h
 exact IntWalk.i64_in _ (by omega)
theorem LK {j:Nat} {l:List Rat} (hl:l.length≤1000000):Ctr Tryz.prog Amb 30 [.one (Ap j l)] (.one (.v (.int .i64 (GC 0 l:Nat)))):=by
 have hvl:=Ls l 0
 obtain ⟨R,hR⟩: ∃R,R=GC 0 l:=⟨_,rfl⟩
 rw [←hR] at hvl⊢
 refine Am Tryz.func30 rfl rfl rfl rfl rfl rfl ?_
 intro W0 base D μ0 hA hD
 repeat (first|refine Af ?_|refine Ac ?_|refine Aa rfl ?_|refine Ab rfl ?_|refine Ak ?_|refine Al ?_|refine Ad ?_|refine Ae ?_)
 refine AK (fun m σ=> ∃(i cnt:Nat) (s:Int),m=l.length-i∧i≤l.length∧S3 s∧cnt+GC s (l.drop i)=R∧Wk ⟨W0,base,D,31,[],μ0⟩ σ [(3,At (cnt:Nat)),(4,At s),(8,.one (Ap j l)),(9,At (l.length:Nat)),(10,At (i:Nat))] []) (n:=l.length) ⟨0,0,0,by omega,by omega,.inr (.inl rfl),by rw [hR,Nat.zero_add];rfl,?_⟩ ?_
 ·exact AT
 intro m σ hI
 obtain ⟨i,cnt,s,hm,hi0,hs,hS,hw⟩:=hI
 refine A6 hw ?_
 clear hw
 by_cases hi:i<l.length
 ·obtain ⟨x,hx,hx'⟩:=FL hi
  have bi:=AJ (k:= .i64) (decide_eq_true (show (i:Int)<(l.length:Int) by omega))
  have hin:=AM (k:= .i64) (show (IntKind.i64).wrap ((i:Int)+1)=((i+1:Nat):Int) from IntWalk.i64_in _ (by omega))
  have hcn:=AM (k:= .i64) (show (IntKind.i64).wrap ((cnt:Int)+1)=((cnt+1:Nat):Int) from IntWalk.i64_in _ (by omega))
  have hng:=Ss hs
  rw [E6 hx',Id] at hS
  have S1:=Qj (j:=j) (x:=x)
  have hy:=Js x
  generalize Bx x=y at*
  by_cases h0:y=0
  ·subst h0
   rw [if_neg (fun hh=>hh.1 rfl),if_pos rfl,Nat.zero_add] at hS
   have n1:=ER (k:= .i64) (decide_eq_false (show ¬(0:Int)≠0 by omega))
   by_cases h1:s=0
   ·subst h1
    have q1:=Di (k:= .i64) (decide_eq_true (show (0:Int)= -0 by omega))
    repeat (first|refine Af ?_|refine Ac ?_|refine Aa rfl ?_|refine Ab rfl ?_|refine Ak ?_|refine Al ?_|refine Ad ?_|refine Ae ?_)
    refine ⟨m-1,by omega,i+1,cnt,0,by omega,by omega,hs,hS,?_⟩
    exact AT
   ·have q1:=Di (k:= .i64) (decide_eq_false (show ¬(0:Int)= -s by omega))
    repeat (first|refine Af ?_|refine Ac ?_|refine Aa rfl ?_|refine Ab rfl ?_|refine Ak ?_|refine Al ?_|refine Ad ?_|refine Ae ?_)
    refine ⟨m-1,by omega,i+1,cnt,s,by omega,by omega,hs,hS,?_⟩
    exact AT
  ·have n1:=ER (k:= .i64) (decide_eq_true h0)
   rw [if_neg h0] at hS
   by_cases h1:y= -s
   ·have q1:=Di (k:= .i64) (decide_eq_true h1)
    rw [if_pos ⟨h0,h1⟩] at hS
    repeat (first|refine Af ?_|refine Ac ?_|refine Aa rfl ?_|refine Ab rfl ?_|refine Ak ?_|refine Al ?_|refine Ad ?_|refine Ae ?_)
    refine ⟨m-1,by omega,i+1,cnt+1,y,by omega,by omega,hy,by omega,?_⟩
    exact AT
   ·have q1:=Di (k:= .i64) (decide_eq_false h1)
    rw [if_neg (fun hh=>h1 hh.2),Nat.zero_add] at hS
    repeat (first|refine Af ?_|refine Ac ?_|refine Aa rfl ?_|refine Ab rfl ?_|refine Ak ?_|refine Al ?_|refine Ad ?_|refine Ae ?_)
    refine ⟨m-1,by omega,i+1,cnt,y,by omega,by omega,hy,hS,?_⟩
    exact AT
 ·have bi:=AJ (k:= .i64) (decide_eq_false (show ¬(i:Int)<(l.length:Int) by omega))
  rw [List.drop_eq_nil_of_le (by omega)] at hS
  replace hS:cnt=R:=hS
  subst hS
  repeat (first|refine Af ?_|refine Ac ?_|refine Aa rfl ?_|refine Ab rfl ?_|refine Ak ?_|refine Al ?_|refine Ad ?_|refine Ae ?_)
  refine As (And.intro (Or.inr rfl) ?_)
  exact AY
theorem LA {j:Nat} {l:List Rat} (hl:l.length≤1000000):Ctr Tryz.prog Amb 31 [.one (Ap j l)] (.one (.v (.int .i64 (GC 0 l:Nat)))):=by
 have hvl:=Ls l 0
 obtain ⟨R,hR⟩: ∃R,R=GC 0 l:=⟨_,rfl⟩
 rw [←hR] at hvl⊢
 refine Am Tryz.func31 rfl rfl rfl rfl rfl rfl ?_
 intro W0 base D μ0 hA hD
 repeat (first|refine Af ?_|refine Ac ?_|refine Aa rfl ?_|refine Ab rfl ?_|refine Ak ?_|refine Al ?_|refine Ad ?_|refine Ae ?_)
 refine AK (fun m σ=> ∃(i cnt:Nat) (s:Int),m=l.length-i∧i≤l.length∧S3 s∧cnt+GC s (l.drop i)=R∧Wk ⟨W0,base,D,31,[],μ0⟩ σ [(0,.one (Ap j l)),(3,At (cnt:Nat)),(4,At s),(5,At (i:Nat))] []) (n:=l.length) ⟨0,0,0,by omega,by omega,.inr (.inl rfl),by rw [hR,Nat.zero_add];rfl,?_⟩ ?_
 ·exact AT
 intro m σ hI
 obtain ⟨i,cnt,s,hm,hi0,hs,hS,hw⟩:=hI
 refine A6 hw ?_
 clear hw
 by_cases hi:i<l.length
 ·obtain ⟨x,hx,hx'⟩:=FL hi
  have bi:=AJ (k:= .i64) (decide_eq_true (show (i:Int)<(l.length:Int) by omega))
  have hin:=AM (k:= .i64) (show (IntKind.i64).wrap ((i:Int)+1)=((i+1:Nat):Int) from IntWalk.i64_in _ (by omega))
  have hcn:=AM (k:= .i64) (show (IntKind.i64).wrap ((cnt:Int)+1)=((cnt+1:Nat):Int) from IntWalk.i64_in _ (by omega))
  rw [E6 hx',Id] at hS
  have S1:=Py (j:=j) (x:=x)
  have hy:=Js x
  generalize Bx x=y at*
  by_cases h0:y=0
  ·have q0:=Di (k:= .i64) (decide_eq_true h0)
   rw [if_neg (fun hh=>hh.1 h0),if_pos h0,Nat.zero_add] at hS
   repeat (first|refine Af ?_|refine Ac ?_|refine Aa rfl ?_|refine Ab rfl ?_|refine Ak ?_|refine Al ?_|refine Ad ?_|refine Ae ?_)
   refine ⟨m-1,by omega,i+1,cnt,s,by omega,by omega,hs,hS,?_⟩
   exact AT
  ·have q0:=Di (k:= .i64) (decide_eq_false h0)
   rw [if_neg h0] at hS
   by_cases h1:s=0
   ·have n1:=ER (k:= .i64) (decide_eq_false (show ¬s≠0 by omega))
    rw [if_neg (fun hh=>h0 (by omega)),Nat.zero_add] at hS
    repeat (first|refine Af ?_|refine Ac ?_|refine Aa rfl ?_|refine Ab rfl ?_|refine Ak ?_|refine Al ?_|refine Ad ?_|refine Ae ?_)
    refine ⟨m-1,by omega,i+1,cnt,y,by omega,by omega,hy,hS,?_⟩
    exact AT
   ·have n1:=ER (k:= .i64) (decide_eq_true h1)
    unfold S3 at hs
    by_cases h2:y=s
    ·have n2:=ER (k:= .i64) (decide_eq_false (show ¬y≠s by omega))
     rw [if_neg (fun hh=>by omega),Nat.zero_add] at hS
     repeat (first|refine Af ?_|refine Ac ?_|refine Aa rfl ?_|refine Ab rfl ?_|refine Ak ?_|refine Al ?_|refine Ad ?_|refine Ae ?_)
     refine ⟨m-1,by omega,i+1,cnt,y,by omega,by omega,hy,hS,?_⟩
     exact AT
    ·have n2:=ER (k:= .i64) (decide_eq_true h2)
     rw [if_pos ⟨h0,by omega⟩] at hS
     repeat (first|refine Af ?_|refine Ac ?_|refine Aa rfl ?_|refine Ab rfl ?_|refine Ak ?_|refine Al ?_|refine Ad ?_|refine Ae ?_)
     refine ⟨m-1,by omega,i+1,cnt+1,y,by omega,by omega,hy,by omega,?_⟩
     exact AT
 ·have bi:=AJ (k:= .i64) (decide_eq_false (show ¬(i:Int)<(l.length:Int) by omega))
  rw [List.drop_eq_nil_of_le (by omega)] at hS
  replace hS:cnt=R:=hS
  subst hS
  repeat (first|refine Af ?_|refine Ac ?_|refine Aa rfl ?_|refine Ab rfl ?_|refine Ak ?_|refine Al ?_|refine Ad ?_|refine Ae ?_)
  refine As (And.intro (Or.inr rfl) ?_)
  exact AY
def nzB (x:Rat):Bool:=decide (Bx x≠0)
theorem Wc {j:Nat} {x:Rat} :Ctr Tryz.prog Amb 114 [nm j x] (.one (.v (.bool (nzB x)))):=by
 have V1:=Qj (j:=j) (x:=x)
 have n1:=ER (k:= .i64) (show decide (Bx x≠0)=nzB x from rfl)
 refine Am Tryz.func114 rfl rfl rfl rfl rfl rfl ?_
 intro W0 base D μ0 hA hD
 repeat (first|refine Af ?_|refine Ac ?_|refine Aa rfl ?_|refine Ab rfl ?_|refine Ak ?_|refine Al ?_|refine Ad ?_|refine Ae ?_)
 refine As (And.intro (Or.inr rfl) ?_)
 exact AY
theorem LJ {j:Nat} {l:List Rat} {b:Bool} (h1:0<l.length) (h2:l.length≤41) (hb:l.any nzB=b):Ctr Tryz.prog Amb 40 [.one (Ap j l)] (.one (.v (.bool (!b)))):=by
 have P1:=Dh (j:=j) h1 h2
 have C1:=IF (g:=114) (j:=j) (l:=l) (p:=nzB) (by omega) (fun x _=>Wc)
 rw [hb] at C1
 refine Am Tryz.func40 rfl rfl rfl rfl rfl rfl ?_
 intro W0 base D μ0 hA hD
 repeat (first|refine Af ?_|refine Ac ?_|refine Aa rfl ?_|refine Ab rfl ?_|refine Ak ?_|refine Al ?_|refine Ad ?_|refine Ae ?_)
 refine As (And.intro (Or.inr rfl) ?_)
 exact AY
theorem QD {j:Nat} {l:List Rat} {b:Bool} (hl:l.length≤1000000) (hb:l.any nzB=b):Ctr Tryz.prog Amb 41 [.one (Ap j l)] (.one (.v (.bool (!b)))):=by
 refine Am Tryz.func41 rfl rfl rfl rfl rfl rfl ?_
 intro W0 base D μ0 hA hD
 repeat (first|refine Af ?_|refine Ac ?_|refine Aa rfl ?_|refine Ab rfl ?_|refine Ak ?_|refine Al ?_|refine Ad ?_|refine Ae ?_)
 refine AK (fun m σ=> ∃(i:Nat),m=l.length-i∧i≤l.length∧(l.drop i).any nzB=b∧Wk ⟨W0,base,D,16,[],μ0⟩ σ [(0,.one (Ap j l)),(3,At (i:Nat))] []) (n:=l.length) ⟨0,by omega,by omega,hb,?_⟩ ?_
 ·exact AT
 intro m σ hI
 obtain ⟨i,hm,hi0,hS,hw⟩:=hI
 refine A6 hw ?_
 clear hw
 by_cases hi:i<l.length
 ·obtain ⟨x,hx,hx'⟩:=FL hi
  have bi:=AJ (k:= .i64) (decide_eq_true (show (i:Int)<(l.length:Int) by omega))
  have hin:=AM (k:= .i64) (show (IntKind.i64).wrap ((i:Int)+1)=((i+1:Nat):Int) from IntWalk.i64_in _ (by omega))
  have S1:=Py (j:=j) (x:=x)
  rw [E6 hx',List.any_cons] at hS
  by_cases h0:Bx x≠0
  ·have n1:=ER (k:= .i64) (decide_eq_true h0)
   have h3:nzB x=true:=decide_eq_true h0
   rw [h3,Bool.true_or] at hS
   repeat (first|refine Af ?_|refine Ac ?_|refine Aa rfl ?_|refine Ab rfl ?_|refine Ak ?_|refine Al ?_|refine Ad ?_|refine Ae ?_)
   rw [←hS]
   refine As (And.intro (Or.inr rfl) ?_)
   exact AY
  ·have n1:=ER (k:= .i64) (decide_eq_false h0)
   have h3:nzB x=false:=decide_eq_false h0
   rw [h3,Bool.false_or] at hS
   repeat (first|refine Af ?_|refine Ac ?_|refine Aa rfl ?_|refine Ab rfl ?_|refine Ak ?_|refine Al ?_|refine Ad ?_|refine Ae ?_)
   refine ⟨m-1,by omega,i+1,by omega,by omega,hS,?_⟩
   exact AT
 ·have bi:=AJ (k:= .i64) (decide_eq_false (show ¬(i:Int)<(l.length:Int) by omega))
  rw [List.drop_eq_nil_of_le (by omega)] at hS
  replace hS:false=b:=hS
  subst hS
  repeat (first|refine Af ?_|refine Ac ?_|refine Aa rfl ?_|refine Ab rfl ?_|refine Ak ?_|refine Al ?_|refine Ad ?_|refine Ae ?_)
  refine As (And.intro (Or.inr rfl) ?_)
  exact AY
def Pb (p q:List Rat) (d e:Nat):Bool:=!((tab (max d e+1) (D7 (· - ·) (cf p) (cf q) d e)).any nzB)
theorem Wg {j d e:Nat} {p q:List Rat} (hp:p.length=d+1) (hq:q.length=e+1) (hd:d≤40) (he:e≤40) (hj:j≤10000) (hr: ∀r∈p,RSz j r) (hr2: ∀r∈q,RSz j r):
  Ctr Tryz.prog Amb 38 [.one (Ap j p),.one (Ap j q)] (.one (.v (.bool (Pb p q d e)))):=by
 have B1:=XW hp hq hd he hj hr hr2
 unfold Cv at B1
 unfold Pb
 have hl:(tab (max d e+1) (D7 (· - ·) (cf p) (cf q) d e)).length=max d e+1:=Ek
 generalize (tab (max d e+1) (D7 (· - ·) (cf p) (cf q) d e))=L at*
 have Z1:=LJ (j:=5000000+5000000+3) (l:=L) (by omega) (by omega) rfl
 refine Am Tryz.func38 rfl rfl rfl rfl rfl rfl ?_
 intro W0 base D μ0 hA hD
 repeat (first|refine Af ?_|refine Ac ?_|refine Aa rfl ?_|refine Ab rfl ?_|refine Ak ?_|refine Al ?_|refine Ad ?_|refine Ae ?_)
 refine As (And.intro (Or.inr rfl) ?_)
 exact AY
theorem V4 {j d e J:Nat} {p q:List Rat} (hp:p.length=d+1) (hq:q.length=e+1) (hd:d≤40) (he:e≤40) (hr: ∀r∈p,RSz j r) (hr2: ∀r∈q,RSz j r) (hJ:J≤400000) (hj:20+42*(j+4)≤J):
  Ctr Tryz.prog Amb 39 [.one (Ap j p),.one (Ap j q)] (.one (.v (.bool (Pb p q d e)))):=by
 have B1:=XL (j:=j) (J:=J) hp hq hd he hr hr2 hJ hj
 unfold Cv at B1
 unfold Pb
 have hl:(tab (max d e+1) (D7 (· - ·) (cf p) (cf q) d e)).length=max d e+1:=Ek
 generalize (tab (max d e+1) (D7 (· - ·) (cf p) (cf q) d e))=L at*
 have Z1:=QD (j:=J+J+1) (l:=L) (by omega) rfl
 refine Am Tryz.func39 rfl rfl rfl rfl rfl rfl ?_
 intro W0 base D μ0 hA hD
 repeat (first|refine Af ?_|refine Ac ?_|refine Aa rfl ?_|refine Ab rfl ?_|refine Ak ?_|refine Al ?_|refine Ad ?_|refine Ae ?_)
 refine As (And.intro (Or.inr rfl) ?_)
 exact AY
def mnA:Rat→List Rat→Rat
 | m,[]=>m
 | m,x::l=>mnA (mn m x) l
def mxA:Rat→List Rat→Rat
 | m,[]=>m
 | m,x::l=>mxA (mx m x) l
theorem WA {m x:Rat} :mn m x=if Cg x m<0 then x else m:=NY m x
theorem Wy {m x:Rat} :mx m x=if 0<Cg x m then x else m:=NZ m x
theorem Yb {j:Nat} {m x:Rat} (h:RSz j m) (k:RSz j x):RSz j (mn m x):=by unfold mn;split<;>assumption
theorem Ya {j:Nat} {m x:Rat} (h:RSz j m) (k:RSz j x):RSz j (mx m x):=by unfold mx;split<;>assumption
theorem Ux: ∀ {l:List Rat} {m x:Rat},m≤x∨(∃y∈l,y≤x)→mnA m l≤x
 | [],m,x,h=>by
   rcases h with h|⟨y,hy,_⟩
   ·exact h
   ·cases hy
 | y::l,m,x,h=>by
   show mnA (mn m y) l≤x
   refine Ux ?_
   rcases NX m y with ⟨e,h1⟩|⟨e,h1⟩<;>rw [e]
   ·rcases h with h|⟨z,hz,hzx⟩
    ·exact .inl h
    ·rcases List.mem_cons.1 hz with rfl|hz
     ·exact .inl (Rat.le_trans h1 hzx)
     ·exact .inr ⟨z,hz,hzx⟩
   ·rcases h with h|⟨z,hz,hzx⟩
    ·exact .inl (Rat.le_trans h1 h)
    ·rcases List.mem_cons.1 hz with rfl|hz
     ·exact .inl hzx
     ·exact .inr ⟨z,hz,hzx⟩
theorem UD: ∀ {l:List Rat} {m x:Rat},x≤m∨(∃y∈l,x≤y)→x≤mxA m l
 | [],m,x,h=>by
   rcases h with h|⟨y,hy,_⟩
   ·exact h
   ·cases hy
 | y::l,m,x,h=>by
   show x≤mxA (mx m y) l
   refine UD ?_
   rcases NT m y with ⟨e,h1⟩|⟨e,h1⟩<;>rw [e]
   ·rcases h with h|⟨z,hz,hzx⟩
    ·exact .inl h
    ·rcases List.mem_cons.1 hz with rfl|hz
     ·exact .inl (Rat.le_trans hzx h1)
     ·exact .inr ⟨z,hz,hzx⟩
   ·rcases h with h|⟨z,hz,hzx⟩
    ·exact .inl (Rat.le_trans h h1)
    ·rcases List.mem_cons.1 hz with rfl|hz
     ·exact .inl hzx
     ·exact .inr ⟨z,hz,hzx⟩
theorem Uw {a b:Rat} (h:a≤b):mn a b=a:=by
 rcases NX a b with ⟨e,_⟩|⟨e,h2⟩
 ·exact e
 ·rw [e];grind
theorem Ut {a b:Rat} (h:a≤b):mx a b=b:=by
 rcases NT a b with ⟨e,h2⟩|⟨e,_⟩
 ·rw [e];grind
 ·exact e
theorem XZ {g:FuncId} [hG:Fun Tryz.prog g] {j:Nat} {x:Rat} {t:List Rat} (hl:t.length≤1000000) (hr: ∀r∈x::t,RSz j r) (H: ∀x y,Ctr Tryz.prog Amb g [nm j x,nm j y] (.one (.v (.int .i64 (Cg x y))))):
  Ctr Tryz.prog Amb 107 [.one (Ap j (x::t)),.one (.fn g [])] (nm j (mnA x t)):=by
 obtain ⟨l,hle⟩: ∃l,l=x::t:=⟨_,rfl⟩
 obtain ⟨R,hR⟩: ∃R,R=mnA x t:=⟨_,rfl⟩
 have hll:l.length=t.length+1:=by rw [hle];rfl
 have hd:mnA x (l.drop 1)=R:=by rw [hle,hR];rfl
 have hx0:l[((0:Nat):Int).toNat]?=some x:=by rw [hle];rfl
 have b0:=AJ (k:= .i64) (decide_eq_false (show ¬(l.length:Int)<1 by omega))
 rw [←hle] at hr⊢
 rw [←hR]
 have hxr:=hr x (by rw [hle];exact List.mem_cons_self)
 clear hle hR
 refine Am Tryz.func107 rfl rfl rfl rfl rfl rfl ?_
 intro W0 base D μ0 hA hD
 repeat (first|refine Af ?_|refine Ac ?_|refine Aa rfl ?_|refine Ab rfl ?_|refine Ak ?_|refine Al ?_|refine Ad ?_|refine Ae ?_)
 refine AK (fun c σ=> ∃(i:Nat) (m:Rat),c=l.length-i∧1≤i∧i≤l.length∧RSz j m∧mnA m (l.drop i)=R∧Wk ⟨W0,base,D,33,[],μ0⟩ σ [(0,.one (Ap j l)),(1,.one (.fn g [])),(4,.one (.ptr 4 0)),(5,.one (.ptr 5 0)),(6,At (i:Nat))] [(4,nmC j 0),(5,nmC j m)]) (n:=l.length-1) ⟨1,x,rfl,Zj _,by omega,hxr,hd,?_⟩ ?_
 ·exact AT
 clear hx0 hd hxr b0
 intro c σ hI
 obtain ⟨i,m,hc,hi1,hi0,hms,hS,hw⟩:=hI
 refine A6 hw ?_
 clear hw
 by_cases hi:i<l.length
 ·obtain ⟨y,hy,hy'⟩:=FL hi
  have bi:=AJ (k:= .i64) (decide_eq_true (show (i:Int)<(l.length:Int) by omega))
  have hin:=AM (k:= .i64) (show (IntKind.i64).wrap ((i:Int)+1)=((i+1:Nat):Int) from IntWalk.i64_in _ (by omega))
  have H1:=H y m
  have hyr:=hr y (List.mem_of_getElem? hy')
  rw [E6 hy'] at hS
  replace hS:mnA (mn m y) (l.drop (i+1))=R:=hS
  rw [WA] at hS
  by_cases hlt:Cg y m<0
  ·have bl:=AJ (k:= .i64) (decide_eq_true hlt)
   rw [if_pos hlt] at hS
   repeat (first|refine Af ?_|refine Ac ?_|refine Aa rfl ?_|refine Ab rfl ?_|refine Ak ?_|refine Al ?_|refine Ad ?_|refine Ae ?_)
   refine ⟨c-1,by omega,i+1,y,by omega,by omega,by omega,hyr,hS,?_⟩
   exact AT
  ·have bl:=AJ (k:= .i64) (decide_eq_false hlt)
   rw [if_neg hlt] at hS
   repeat (first|refine Af ?_|refine Ac ?_|refine Aa rfl ?_|refine Ab rfl ?_|refine Ak ?_|refine Al ?_|refine Ad ?_|refine Ae ?_)
   refine ⟨c-1,by omega,i+1,m,by omega,by omega,by omega,hms,hS,?_⟩
   exact AT
 ·have bi:=AJ (k:= .i64) (decide_eq_false (show ¬(i:Int)<(l.length:Int) by omega))
  rw [List.drop_eq_nil_of_le (by omega)] at hS
  replace hS:m=R:=hS
  subst hS
  repeat (first|refine Af ?_|refine Ac ?_|refine Aa rfl ?_|refine Ab rfl ?_|refine Ak ?_|refine Al ?_|refine Ad ?_|refine Ae ?_)
  refine As (And.intro (Or.inr rfl) ?_)
  exact AY
theorem X4 {g:FuncId} [hG:Fun Tryz.prog g] {j:Nat} {x:Rat} {t:List Rat} (hl:t.length≤1000000) (hr: ∀r∈x::t,RSz j r) (H: ∀x y,Ctr Tryz.prog Amb g [nm j x,nm j y] (.one (.v (.int .i64 (Cg x y))))):
  Ctr Tryz.prog Amb 108 [.one (Ap j (x::t)),.one (.fn g [])] (nm j (mxA x t)):=by
 obtain ⟨l,hle⟩: ∃l,l=x::t:=⟨_,rfl⟩
 obtain ⟨R,hR⟩: ∃R,R=mxA x t:=⟨_,rfl⟩
 have hll:l.length=t.length+1:=by rw [hle];rfl
 have hd:mxA x (l.drop 1)=R:=by rw [hle,hR];rfl
 have hx0:l[((0:Nat):Int).toNat]?=some x:=by rw [hle];rfl
 have b0:=AJ (k:= .i64) (decide_eq_false (show ¬(l.length:Int)<1 by omega))
 rw [←hle] at hr⊢
 rw [←hR]
 have hxr:=hr x (by rw [hle];exact List.mem_cons_self)
 clear hle hR
 refine Am Tryz.func108 rfl rfl rfl rfl rfl rfl ?_
 intro W0 base D μ0 hA hD
 repeat (first|refine Af ?_|refine Ac ?_|refine Aa rfl ?_|refine Ab rfl ?_|refine Ak ?_|refine Al ?_|refine Ad ?_|refine Ae ?_)
 refine AK (fun c σ=> ∃(i:Nat) (m:Rat),c=l.length-i∧1≤i∧i≤l.length∧RSz j m∧mxA m (l.drop i)=R∧Wk ⟨W0,base,D,33,[],μ0⟩ σ [(0,.one (Ap j l)),(1,.one (.fn g [])),(4,.one (.ptr 4 0)),(5,.one (.ptr 5 0)),(6,At (i:Nat))] [(4,nmC j 0),(5,nmC j m)]) (n:=l.length-1) ⟨1,x,rfl,Zj _,by omega,hxr,hd,?_⟩ ?_
 ·exact AT
 clear hx0 hd hxr b0
 intro c σ hI
 obtain ⟨i,m,hc,hi1,hi0,hms,hS,hw⟩:=hI
 refine A6 hw ?_
 clear hw
 by_cases hi:i<l.length
 ·obtain ⟨y,hy,hy'⟩:=FL hi
  have bi:=AJ (k:= .i64) (decide_eq_true (show (i:Int)<(l.length:Int) by omega))
  have hin:=AM (k:= .i64) (show (IntKind.i64).wrap ((i:Int)+1)=((i+1:Nat):Int) from IntWalk.i64_in _ (by omega))
  have H1:=H y m
  have hyr:=hr y (List.mem_of_getElem? hy')
  rw [E6 hy'] at hS
  replace hS:mxA (mx m y) (l.drop (i+1))=R:=hS
  rw [Wy] at hS
  by_cases hlt:0<Cg y m
  ·have bl:=DL (k:= .i64) (decide_eq_true (show Cg y m>0 from hlt))
   rw [if_pos hlt] at hS
   repeat (first|refine Af ?_|refine Ac ?_|refine Aa rfl ?_|refine Ab rfl ?_|refine Ak ?_|refine Al ?_|refine Ad ?_|refine Ae ?_)
   refine ⟨c-1,by omega,i+1,y,by omega,by omega,by omega,hyr,hS,?_⟩
   exact AT
  ·have bl:=DL (k:= .i64) (decide_eq_false (show ¬Cg y m>0 from hlt))
   rw [if_neg hlt] at hS
   repeat (first|refine Af ?_|refine Ac ?_|refine Aa rfl ?_|refine Ab rfl ?_|refine Ak ?_|refine Al ?_|refine Ad ?_|refine Ae ?_)
   refine ⟨c-1,by omega,i+1,m,by omega,by omega,by omega,hms,hS,?_⟩
   exact AT
 ·have bi:=AJ (k:= .i64) (decide_eq_false (show ¬(i:Int)<(l.length:Int) by omega))
  rw [List.drop_eq_nil_of_le (by omega)] at hS
  replace hS:m=R:=hS
  subst hS
  repeat (first|refine Af ?_|refine Ac ?_|refine Aa rfl ?_|refine Ab rfl ?_|refine Ak ?_|refine Al ?_|refine Ad ?_|refine Ae ?_)
  refine As (And.intro (Or.inr rfl) ?_)
  exact AY
theorem RZ {j:Nat} {x:Rat} {t:List Rat} (hl:t.length≤100000) (hj:j≤1000000) (hr: ∀r∈x::t,RSz j r):
  Ctr Tryz.prog Amb 28 [.one (Ap j (x::t))] (sp (j+j+1) (mnA x t) (j+j+1) (mxA x t)):=by
 have M1:=XZ (g:=71) (j:=j) (x:=x) (t:=t) (by omega) hr (fun x y=>Xr (by omega) (by omega))
 have M2:=X4 (g:=71) (j:=j) (x:=x) (t:=t) (by omega) hr (fun x y=>Xr (by omega) (by omega))
 have hle:mnA x t≤mxA x t:=Rat.le_trans (Ux (.inl Rat.le_refl)) (UD (.inl Rat.le_refl))
 have O1:=Y5 (j1:=j) (j2:=j) (a:=mnA x t) (b:=mxA x t) hj hj
 rw [Uw hle,Ut hle] at O1
 have b0:=Di (k:= .i64) (decide_eq_false (show ¬((x::t).length:Int)=0 by rw [List.length_cons];omega))
 generalize mnA x t=u at*
 generalize mxA x t=v at*
 generalize x::t=l at*
 refine Am Tryz.func28 rfl rfl rfl rfl rfl rfl ?_
 intro W0 base D μ0 hA hD
 repeat (first|refine Af ?_|refine Ac ?_|refine Aa rfl ?_|refine Ab rfl ?_|refine Ak ?_|refine Al ?_|refine Ad ?_|refine Ae ?_)
 refine As (And.intro (Or.inr rfl) ?_)
 exact AY
theorem RS {j:Nat} {x:Rat} {t:List Rat} (hl:t.length≤100000) (hj:j≤100000) (hr: ∀r∈x::t,RSz j r):
  Ctr Tryz.prog Amb 29 [.one (Ap j (x::t))] (sp j (mnA x t) j (mxA x t)):=by
 obtain ⟨l,hle⟩: ∃l,l=x::t:=⟨_,rfl⟩
 obtain ⟨U,hU⟩: ∃R,R=mnA x t:=⟨_,rfl⟩
 obtain ⟨V,hV⟩: ∃R,R=mxA x t:=⟨_,rfl⟩
 have hll:l.length=t.length+1:=by rw [hle];rfl
 have hd1:mnA x (l.drop 1)=U:=by rw [hle,hU];rfl
 have hd2:mxA x (l.drop 1)=V:=by rw [hle,hV];rfl
 have hx0:l[((0:Nat):Int).toNat]?=some x:=by rw [hle];rfl
 rw [←hle] at hr⊢
 rw [←hU,←hV]
 have hxr:=hr x (by rw [hle];exact List.mem_cons_self)
 have T0:=QE (j1:=j) (a:=x) (by omega)
 clear hle hU hV
 refine Am Tryz.func29 rfl rfl rfl rfl rfl rfl ?_
 intro W0 base D μ0 hA hD
 repeat (first|refine Af ?_|refine Ac ?_|refine Aa rfl ?_|refine Ab rfl ?_|refine Ak ?_|refine Al ?_|refine Ad ?_|refine Ae ?_)
 refine AK (fun c σ=> ∃(i:Nat) (u v:Rat),c=l.length-i∧1≤i∧i≤l.length∧RSz j u∧RSz j v∧mnA u (l.drop i)=U∧mxA v (l.drop i)=V∧Wk ⟨W0,base,D,23,[],μ0⟩ σ [(0,.one (Ap j l)),(2,.one (.ptr 2 0)),(3,.one (.ptr 3 0)),(4,At (i:Nat))] [(2,nmC j 0++nmC j 0),(3,nmC j u++nmC j v)]) (n:=l.length-1) ⟨1,x,x,rfl,Zj _,by omega,hxr,hxr,hd1,hd2,?_⟩ ?_
 ·exact AT
 clear hx0 hd1 hd2 hxr T0
 intro c σ hI
 obtain ⟨i,u,v,hc,hi1,hi0,hus,hvs,hS1,hS2,hw⟩:=hI
 refine A6 hw ?_
 clear hw
 by_cases hi:i<l.length
 ·obtain ⟨y,hy,hy'⟩:=FL hi
  have bi:=AJ (k:= .i64) (decide_eq_true (show (i:Int)<(l.length:Int) by omega))
  have hin:=AM (k:= .i64) (show (IntKind.i64).wrap ((i:Int)+1)=((i+1:Nat):Int) from IntWalk.i64_in _ (by omega))
  have hyr:=hr y (List.mem_of_getElem? hy')
  rw [E6 hy'] at hS1 hS2
  replace hS1:mnA (mn u y) (l.drop (i+1))=U:=hS1
  replace hS2:mxA (mx v y) (l.drop (i+1))=V:=hS2
  have T1:=QE (j1:=j) (a:=y) (by omega)
  have T2:=XO (j1:=j) (j2:=j) (j3:=j) (j4:=j) (a:=u) (b:=v) (c:=y) (d:=y) (by omega) (by omega) (by omega) (by omega)
  have z1:=Yb hus hyr
  have z2:=Ya hvs hyr
  generalize mn u y=u' at*
  generalize mx v y=v' at*
  repeat (first|refine Af ?_|refine Ac ?_|refine Aa rfl ?_|refine Ab rfl ?_|refine Ak ?_|refine Al ?_|refine Ad ?_|refine Ae ?_)
  refine ⟨c-1,by omega,i+1,u',v',by omega,by omega,by omega,z1,z2,hS1,hS2,?_⟩
  exact AT
 ·have bi:=AJ (k:= .i64) (decide_eq_false (show ¬(i:Int)<(l.length:Int) by omega))
  rw [List.drop_eq_nil_of_le (by omega)] at hS1 hS2
  replace hS1:u=U:=hS1
  replace hS2:v=V:=hS2
  subst hS1 hS2
  repeat (first|refine Af ?_|refine Ac ?_|refine Aa rfl ?_|refine Ab rfl ?_|refine Ak ?_|refine Al ?_|refine Ad ?_|refine Ae ?_)
  refine As (And.intro (Or.inr rfl) ?_)
  exact AY
def trN (c:Nat→Rat):Nat→Nat
 | 0=>0
 | k+1=>if 0<k∧Bx (c k)=0 then trN c k else k+1
def trM (c:Nat→Rat):Nat→Nat
 | 0=>0
 | k+1=>if Bx (c k)=0 then trM c k else k+1
theorem Ly {c:Nat→Rat} : ∀ {k:Nat},0<k→0<trN c k∧trN c k≤k
 | k+1,_=>by
   unfold trN
   by_cases h:0<k∧Bx (c k)=0
   ·rw [if_pos h]
    have:=Ly (c:=c) h.1
    omega
   ·rw [if_neg h];omega
theorem To {c:Nat→Rat} : ∀ {k:Nat},trM c k≤k
 | 0=>Zj _
 | k+1=>by
   unfold trM
   split
   ·have:=To (c:=c) (k:=k);omega
   ·omega
theorem Qx {c:Nat→Rat} : ∀ {k:Nat},0<k→(trM c k=0∧trN c k=1∧c 0=0)∨(0<trM c k∧trM c k=trN c k)
 | 0,h=>by omega
 | 1,_=>by
   have e1:trN c 1=1:=if_neg (fun hh=>Nat.lt_irrefl 0 hh.1)
   by_cases h:Bx (c 0)=0
   ·exact .inl ⟨if_pos h,e1,RY.1 h⟩
   ·have e2:trM c 1=1:=if_neg h
    exact .inr ⟨by rw [e2];omega,by rw [e1,e2]⟩
 | k+2,_=>by
   unfold trM trN
   by_cases h:Bx (c (k+1))=0
   ·rw [if_pos h,if_pos ⟨by omega,h⟩];exact Qx (by omega)
   ·rw [if_neg h,if_neg (fun hh=>h hh.2)];exact .inr ⟨by omega,rfl⟩
theorem M8 {j n J:Nat} {l:List Rat} (hl:l.length=n+1) (hr: ∀r∈l,RSz j r) (hn:n≤40) (hJ:2+(n+1)*j+j+(n+2)+2≤J): ∀r∈tab (n+1) (EU (cf l) n),RSz J r:=fun r hrr=>by
 obtain ⟨i,hi,he⟩:=List.getElem_of_mem hrr
 have h2:(tab (n+1) (EU (cf l) n))[i]?=some (EU (cf l) n i):=Dr (by simpa using hi)
 rw [Zk hi,he] at h2
 rw [Option.some.inj h2]
 have hi':i<n+1:=by simpa using hi
 unfold EU
 exact ((FA (n:=n) (k:=i) (by omega)).mul (Rf (J:=2+(n+1)*j+j+(n+2)) hl hr (Zj _) i 0 (by omega))).mono (by omega)
theorem FI {c d:Nat→Rat} {n i:Nat} (h: ∀k,k≤i→c k=d k):DG c n i=DG d n i:=by
 unfold DG
 exact FE fun q hq=>by rw [h q (by omega)]
theorem QC {l:List Rat} {k q:Nat} (h:q<k):cf (l.take k) q=cf l q:=by
 unfold cf
 rw [List.getD_eq_getElem?_getD,List.getD_eq_getElem?_getD,List.getElem?_take,if_pos h]
def RN (p:List Rat) (n:Nat):List Rat:=tab (trN (EU (cf p) n) (n+1)) (DG (EU (cf p) n) (trN (EU (cf p) n) (n+1)-1))
theorem Yf {j k:Nat} {C:List Rat} (hC:C.length≤41) (hk:0<k∧k≤C.length) (hr: ∀r∈C,RSz 9000 r):Ctr Tryz.prog Amb 25 [.one (Ap j ((C.take k).drop 0))] (.tup [.one (Ap 5000000 (tab k (DG (cf C) (k-1)))),At 0]):=by
 obtain ⟨n,rfl⟩: ∃n,k=n+1:=⟨k-1,by omega⟩
 rw [List.drop_zero,Nat.add_sub_cancel]
 have hs: ∀r∈C.take (n+1),RSz 9000 r:=fun r h=>hr r (List.mem_of_mem_take h)
 have h:=Hk (j:=9000) (n:=n) (p:=C.take (n+1)) (by rw [List.length_take];omega) (by omega) (by omega) hs
 have e:tab (n+1) (DG (cf (C.take (n+1))) n)=tab (n+1) (DG (cf C) n):=Ax fun i hi=>FI fun q hq=>QC (by omega)
 rw [e] at h
 exact h.shortArg hs
theorem XV {j n:Nat} {p:List Rat} (hp:p.length=n+1) (hn:n≤40) (hj:j≤100) (hr: ∀r∈p,RSz j r):
  Ctr Tryz.prog Amb 36 [.one (Ap j p)] (.one (Ap 5000000 (RN p n))):=by
 have hNA:(n+1)*j≤41*100:=Nat.mul_le_mul (by omega) hj
 have P1:=Jv hp hn (by omega) hr
 have hCr:=M8 (J:=9000) hp hr hn (by omega)
 unfold Cv at P1
 unfold RN
 obtain ⟨c,hc⟩: ∃c:Nat→Rat,c=EU (cf p) n:=⟨_,rfl⟩
 rw [←hc] at P1 hCr⊢
 obtain ⟨C,hC⟩: ∃C,C=tab (n+1) c:=⟨_,rfl⟩
 rw [←hC] at P1 hCr
 have hCl:C.length=n+1:=by rw [hC];simp
 have hcc: ∀q,q<n+1→cf C q=c q:=fun q hq=>by rw [hC];exact Fl 0 hq
 have hCx: ∀q,q<n+1→C[((q:Nat):Int).toNat]?=some (c q):=fun q hq=>by rw [hC];exact A9 hq
 have F1: ∀k,0<k→k≤n+1→Ctr Tryz.prog Amb 25 [.one (Ap 5000000 ((C.take k).drop 0))] (.tup [.one (Ap 5000000 (tab k (DG c (k-1)))),At 0]):=fun k h1 h2=>by
  have h:=Yf (j:=5000000) (k:=k) (C:=C) (by omega) ⟨h1,by omega⟩ hCr
  have e:tab k (DG (cf C) (k-1))=tab k (DG c (k-1)):=Ax fun i hi=>FI fun q hq=>hcc q (by omega)
  rw [e] at h
  exact h
 have bd:=Ly (c:=c) (k:=n+1) (by omega)
 obtain ⟨R,hR⟩: ∃R,R=trN c (n+1):=⟨_,rfl⟩
 rw [←hR] at bd⊢
 clear hC hcc hCr hr hc
 refine Am Tryz.func36 rfl rfl rfl rfl rfl rfl ?_
 intro W0 base D μ0 hA hD
 repeat (first|refine Af ?_|refine Ac ?_|refine Aa rfl ?_|refine Ab rfl ?_|refine Ak ?_|refine Al ?_|refine Ad ?_|refine Ae ?_)
 refine AK (fun m σ=> ∃(k:Nat),m=k∧0<k∧k≤n+1∧trN c k=R∧Wk ⟨W0,base,D,32,[],μ0⟩ σ [(3,.one (Ap 5000000 C)),(4,At (k:Nat))] []) (n:=n+1) ⟨n+1,rfl,by omega,Zj _,hR.symm,?_⟩ ?_
 ·exact AT
 intro m σ hI
 obtain ⟨k,hm,hk0,hk1,hS,hw⟩:=hI
 refine A6 hw ?_
 clear hw
 obtain ⟨q,rfl⟩: ∃q,k=q+1:=⟨k-1,by omega⟩
 have hdn:=BK (k:= .i64) (show (IntKind.i64).wrap (((q+1:Nat):Int)-1)=(q:Int) by rw [show (((q+1:Nat):Int)-1)=(q:Int) by omega];exact IntWalk.i64_in _ (by omega))
 have hx:=hCx q (by omega)
 have S1:=Qj (j:=5000000) (x:=c q)
 by_cases h1:0<q
 ·have bg:=DL (k:= .i64) (decide_eq_true (show ((q+1:Nat):Int)>1 by omega))
  by_cases h2:Bx (c q)=0
  ·have q0:=Di (k:= .i64) (decide_eq_true h2)
   have hS':trN c q=R:=by
    have:trN c (q+1)=trN c q:=if_pos ⟨h1,h2⟩
    rw [←this];exact hS
   repeat (first|refine Af ?_|refine Ac ?_|refine Aa rfl ?_|refine Ab rfl ?_|refine Ak ?_|refine Al ?_|refine Ad ?_|refine Ae ?_)
   refine ⟨q,by omega,q,rfl,h1,by omega,hS',?_⟩
   exact AT
  ·have q0:=Di (k:= .i64) (decide_eq_false h2)
   have hS':q+1=R:=by
    have:trN c (q+1)=q+1:=if_neg (fun hh=>h2 hh.2)
    rw [←this];exact hS
   have F2:=F1 (q+1) (by omega) (by omega)
   have hle:q+1≤C.length:=by omega
   rw [←hS']
   repeat (first
    | refine Af ?_|refine Ac ?_|refine Aa rfl ?_|refine Ab rfl ?_
    | ((first|refine AI (by kernel_rfl) ?_|refine BN (by kernel_rfl) (by kernel_rfl) (by kernel_rfl) ?_)
       repeat (first
        | refine DR (hl:=?_)
        | refine A0 (hl:=?_)
        | refine AC (hl:=?_)
        | refine BW (hl:=?_)
        | refine Dg (hl:=?_)
        | refine B8 (hl:=?_)
        | refine AP (hl:=?_)
        | refine De (hl:=?_)
        | refine Df (hl:=?_)
        | refine CL (hl:=?_)
        | refine Cy (hl:=?_)
        | refine Cx (hl:=?_)
        | refine Cz (hl:=?_)
        | refine Cm (hl:=?_)
        | refine Cb (hl:=?_)
        | refine G8 hx (by omega) (hl:=?_)
        | refine Ay hA (hc:=S1) (hl:=?_)
        | refine Ay hA (hc:=F2) (hl:=?_)
        | refine OV (la:=C) (f:=nmD 5000000) (a:=0) (b:=q+1) (by omega) hle .none (.some rfl rfl) (hl:=?_))
       apply Ai.nil;try refine And.intro (by kernel_rfl) ?_)
    | refine Ad ?_|refine Ae ?_)
   refine As (And.intro (Or.inr rfl) ?_)
   exact AY
 ·have bg:=DL (k:= .i64) (decide_eq_false (show ¬((q+1:Nat):Int)>1 by omega))
  have hS':q+1=R:=by
   have:trN c (q+1)=q+1:=if_neg (fun hh=>h1 hh.1)
   rw [←this];exact hS
  have F2:=F1 (q+1) (by omega) (by omega)
  have hle:q+1≤C.length:=by omega
  rw [←hS']
  repeat (first
   | refine Af ?_|refine Ac ?_|refine Aa rfl ?_|refine Ab rfl ?_
   | ((first|refine AI (by kernel_rfl) ?_|refine BN (by kernel_rfl) (by kernel_rfl) (by kernel_rfl) ?_)
      repeat (first
       | refine DR (hl:=?_)
       | refine A0 (hl:=?_)
       | refine AC (hl:=?_)
       | refine BW (hl:=?_)
       | refine Dg (hl:=?_)
       | refine B8 (hl:=?_)
       | refine AP (hl:=?_)
       | refine De (hl:=?_)
       | refine Df (hl:=?_)
       | refine CL (hl:=?_)
       | refine Cy (hl:=?_)
       | refine Cx (hl:=?_)
       | refine Cz (hl:=?_)
       | refine Cm (hl:=?_)
       | refine Cb (hl:=?_)
       | refine Ay hA (hc:=F2) (hl:=?_)
       | refine OV (la:=C) (f:=nmD 5000000) (a:=0) (b:=q+1) (by omega) hle .none (.some rfl rfl) (hl:=?_))
      apply Ai.nil;try refine And.intro (by kernel_rfl) ?_)
   | refine Ad ?_|refine Ae ?_)
  refine As (And.intro (Or.inr rfl) ?_)
  exact AY
theorem XH {j k:Nat} {C:List Rat} (hC:C.length≤41) (hk:0<k∧k≤C.length) (hr: ∀r∈C,RSz 1000 r):Ctr Tryz.prog Amb 26 [.one (Ap j (C.take k))] (.tup [.one (Ap 90000 (tab k (DG (cf C) (k-1)))),At 0]):=by
 obtain ⟨n,rfl⟩: ∃n,k=n+1:=⟨k-1,by omega⟩
 rw [Nat.add_sub_cancel]
 have hs: ∀r∈C.take (n+1),RSz 1000 r:=fun r h=>hr r (List.mem_of_mem_take h)
 have h:=Hh (j:=1000) (n:=n) (p:=C.take (n+1)) (by rw [List.length_take];omega) (by omega) (by omega) hs
 have e:tab (n+1) (DG (cf (C.take (n+1))) n)=tab (n+1) (DG (cf C) n):=Ax fun i hi=>FI fun q hq=>QC (by omega)
 rw [e] at h
 exact h.shortArg hs
theorem Tr {j n:Nat} {p:List Rat} (hp:p.length=n+1) (hn:n≤40) (hj:j≤1000) (hr: ∀r∈p,RSz j r):
  Ctr Tryz.prog Amb 110 [.one (Ap j p)] (.one (Ap 200000 ((tab (n+1) (EU (cf p) n)).take (trM (EU (cf p) n) (n+1))))):=by
 have P1:=Jm hp hn hj hr
 unfold Cv at P1
 obtain ⟨c,hc⟩: ∃c:Nat→Rat,c=EU (cf p) n:=⟨_,rfl⟩
 rw [←hc] at P1⊢
 obtain ⟨C,hC⟩: ∃C,C=tab (n+1) c:=⟨_,rfl⟩
 rw [←hC] at P1⊢
 have hCl:C.length=n+1:=by rw [hC];simp
 have hCx: ∀k q,k≤n+1→q<k→(C.take k)[((q:Nat):Int).toNat]?=some (c q):=fun k q h1 h2=>by rw [hC,Tq h1];exact A9 h2
 have hCk: ∀k,k≤n+1→(C.take k).length=k:=fun k h1=>by rw [List.length_take];omega
 have hCf:C.take (n+1)=C:=List.take_of_length_le (by omega)
 obtain ⟨R,hR⟩: ∃R,R=trM c (n+1):=⟨_,rfl⟩
 rw [←hR]
 clear hC hr hc
 refine Am Tryz.func110 rfl rfl rfl rfl rfl rfl ?_
 intro W0 base D μ0 hA hD
 repeat (first|refine Af ?_|refine Ac ?_|refine Aa rfl ?_|refine Ab rfl ?_|refine Ak ?_|refine Al ?_|refine Ad ?_|refine Ae ?_)
 refine AK (fun m σ=> ∃(k:Nat),m=k∧k≤n+1∧trM c k=R∧Wk ⟨W0,base,D,25,[],μ0⟩ σ [(3,.one (Ap 200000 (C.take k)))] []) (n:=n+1) ⟨n+1,rfl,Zj _,hR.symm,?_⟩ ?_
 ·rw [hCf]
  exact AT
 intro m σ hI
 obtain ⟨k,hm,hk1,hS,hw⟩:=hI
 refine A6 hw ?_
 clear hw
 have hlk:=hCk k hk1
 have hCk2: ∀q,q≤k→(C.take k).take q=C.take q:=fun q hq=>by rw [List.take_take,Nat.min_eq_left hq]
 have hxk:=hCx k
 obtain ⟨L,hL⟩: ∃L,L=C.take k:=⟨_,rfl⟩
 rw [←hL] at hlk hCk2 hxk
 cases k with
 | zero=>
   have bg:=DL (k:= .i64) (decide_eq_false (show ¬(L.length:Int)>0 by omega))
   have hS':0=R:=hS
   rw [←hS',←hL]
   repeat (first|refine Af ?_|refine Ac ?_|refine Aa rfl ?_|refine Ab rfl ?_|refine Ak ?_|refine Al ?_|refine Ad ?_|refine Ae ?_)
   refine As (And.intro (Or.inr rfl) ?_)
   exact AY
 | succ q=>
   have bg:=DL (k:= .i64) (decide_eq_true (show (L.length:Int)>0 by omega))
   have hdn:=BK (k:= .i64) (show (IntKind.i64).wrap ((L.length:Int)-1)=(q:Int) by rw [show ((L.length:Int)-1)=(q:Int) by omega];exact IntWalk.i64_in _ (by omega))
   have hx:=hxk q hk1 (by omega)
   have S1:=Py (j:=200000) (x:=c q)
   by_cases h2:Bx (c q)=0
   ·have q0:=Di (k:= .i64) (decide_eq_true h2)
    have hS':trM c q=R:=by
     have:trM c (q+1)=trM c q:=if_pos h2
     rw [←this];exact hS
    have hle:q≤L.length:=by omega
    have hq2:=hCk2 q (by omega)
    rw [←hL]
    repeat (first
     | refine Af ?_|refine Ac ?_|refine Aa rfl ?_|refine Ab rfl ?_
     | ((first|refine AI (by kernel_rfl) ?_|refine BN (by kernel_rfl) (by kernel_rfl) (by kernel_rfl) ?_)
        repeat (first
         | refine DR (hl:=?_)
         | refine A0 (hl:=?_)
         | refine AC (hl:=?_)
         | refine BW (hl:=?_)
         | refine B8 (hl:=?_)
         | refine AP (hl:=?_)
         | refine De (hl:=?_)
         | refine Df (hl:=?_)
         | refine CL (hl:=?_)
         | refine Cy (hl:=?_)
         | refine Cx (hl:=?_)
         | refine Cz (hl:=?_)
         | refine Cm (hl:=?_)
         | refine Cb (hl:=?_)
         | refine G8 hx (by omega) (hl:=?_)
         | refine Ay hA (hc:=S1) (hl:=?_)
         | refine OV (la:=L) (f:=nmD 200000) (a:=0) (b:=q) (by omega) hle .none (.some rfl rfl) (hl:=?_))
        apply Ai.nil;try refine And.intro (by kernel_rfl) ?_)
     | refine Ad ?_|refine Ae ?_)
    refine ⟨q,by omega,q,rfl,by omega,hS',?_⟩
    rw [List.drop_zero,hq2]
    exact AT
   ·have q0:=Di (k:= .i64) (decide_eq_false h2)
    have hS':q+1=R:=by
     have:trM c (q+1)=q+1:=if_neg h2
     rw [←this];exact hS
    rw [←hS',←hL]
    repeat (first|refine Af ?_|refine Ac ?_|refine Aa rfl ?_|refine Ab rfl ?_|refine Ak ?_|refine Al ?_|refine Ad ?_|refine Ae ?_)
    refine As (And.intro (Or.inr rfl) ?_)
    exact AY
theorem XK {j n:Nat} {p:List Rat} (hp:p.length=n+1) (hn:n≤40) (hj:(n+1)*j+j+n+6≤1000) (hr: ∀r∈p,RSz j r):
  Ctr Tryz.prog Amb 37 [.one (Ap j p)] (.one (Ap 90000 (RN p n))):=by
 have P1:=Tr hp hn (by omega) hr
 have hCr:=M8 (J:=1000) hp hr hn (by omega)
 unfold RN
 obtain ⟨c,hc⟩: ∃c:Nat→Rat,c=EU (cf p) n:=⟨_,rfl⟩
 rw [←hc] at P1 hCr⊢
 obtain ⟨C,hC⟩: ∃C,C=tab (n+1) c:=⟨_,rfl⟩
 rw [←hC] at P1 hCr
 have hCl:C.length=n+1:=by rw [hC];simp
 have hcc: ∀q,q<n+1→cf C q=c q:=fun q hq=>by rw [hC];exact Fl 0 hq
 have hle:=To (c:=c) (k:=n+1)
 rcases Qx (c:=c) (k:=n+1) (by omega) with ⟨h1,h2,h3⟩|⟨h1,h2⟩
 ·rw [h1,List.take_zero] at P1
  rw [h2]
  have e:tab 1 (DG c (1-1))= [(0:Rat)]:=by
   show [DG c 0 0]=_
   unfold DG
   show [c 0/AF 0 0]=_
   rw [h3]
   have:(0:Rat)/AF 0 0=0:=by grind
   rw [this]
  rw [e]
  have b0:=Di (k:= .i64) (decide_eq_true (show ((([]:List Rat).length:Nat):Int)=0 from rfl))
  refine Am Tryz.func37 rfl rfl rfl rfl rfl rfl ?_
  intro W0 base D μ0 hA hD
  repeat (first|refine Af ?_|refine Ac ?_|refine Aa rfl ?_|refine Ab rfl ?_|refine Ak ?_|refine Al ?_|refine Ad ?_|refine Ae ?_)
  refine A6 (ss:= [(2,.one (.gl 12 1 3))]) (bs:= [(12,An (nmD 90000) [(0:Rat)])]) ?_ ?_
  ·exact AT
  refine BI 12 hD (ss:= [(2,.one (Ap 90000 [0]))]) (bs:= []) ?_ ?_
  ·exact US (List.forall_mem_cons.2 ⟨JT (f:=nmD 90000) (l:= [(0:Rat)]) inferInstance,Aq⟩) Aq rfl
  refine As (And.intro (Or.inr rfl) ?_)
  exact AY
 ·rw [←h2]
  have F1:=XH (j:=200000) (k:=trM c (n+1)) (C:=C) (by omega) ⟨h1,by omega⟩ hCr
  have e:tab (trM c (n+1)) (DG (cf C) (trM c (n+1)-1))=tab (trM c (n+1)) (DG c (trM c (n+1)-1)):=Ax fun i hi=>FI fun q hq=>hcc q (by omega)
  rw [e] at F1
  have hlk:(C.take (trM c (n+1))).length=trM c (n+1):=by rw [List.length_take];omega
  generalize trM c (n+1)=k at*
  generalize C.take k=L at*
  have b0:=Di (k:= .i64) (decide_eq_false (show ¬(L.length:Int)=0 by omega))
  refine Am Tryz.func37 rfl rfl rfl rfl rfl rfl ?_
  intro W0 base D μ0 hA hD
  repeat (first|refine Af ?_|refine Ac ?_|refine Aa rfl ?_|refine Ab rfl ?_|refine Ak ?_|refine Al ?_|refine Ad ?_|refine Ae ?_)
  refine As (And.intro (Or.inr rfl) ?_)
  exact AY
end Go.Proofs.YtnkobfcnflphkaaGreatDoor
