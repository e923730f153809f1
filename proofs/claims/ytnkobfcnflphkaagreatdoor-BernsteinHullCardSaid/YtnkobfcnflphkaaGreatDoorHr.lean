/-
  Several texts in one: Zac, Zad, Zaf.
-/
import Derived.Test.YtnkobfcnflphkaaGreatDoorHt
import Derived.Test.YtnkobfcnflphkaaGreatDoorHp
import Derived.Test.YtnkobfcnflphkaaGreatDoorHv
import Derived.Test.YtnkobfcnflphkaaGreatDoorHz
import Derived.Test.YtnkobfcnflphkaaGreatDoorHb
import Derived.Test.YtnkobfcnflphkaaGreatDoorHq
import Derived.Test.YtnkobfcnflphkaaGreatDoorHy
namespace Go.Proofs.YtnkobfcnflphkaaGreatDoor
open Go.RowKit
set_option linter.unusedVariables false
set_option linter.unusedSimpArgs false
set_option maxRecDepth 20000
set_option maxHeartbeats 4000000
theorem varR_step {x:Rat} {l:List Rat} {s:Int} :varR s (x::l)=(if sgnR x≠0∧sgnR x= -s then 1 else 0)+varR (if sgnR x=0 then s else sgnR x) l:=by
 by_cases h:sgnR x=0
 ·rw [varR_z h,if_neg (fun hh=>hh.1 h),if_pos h,Nat.zero_add]
 ·rw [varR_nz h,if_neg h]
  by_cases h2:sgnR x= -s
  ·rw [if_pos h2,if_pos ⟨h,h2⟩]
  ·rw [if_neg h2,if_neg (fun hh=>h2 hh.2)]
theorem varR_le: ∀(l:List Rat) (s:Int),varR s l≤l.length
 | [],_=>Nat.le_refl _
 | x::l,s=>by
   rw [varR_step,List.length_cons]
   have:=varR_le l (if sgnR x=0 then s else sgnR x)
   split<;>omega
theorem neg_wrapS {s:Int} (h:S3 s):(IntKind.i64).wrap (0-s)= -s:=by
 rw [show (0:Int)-s= -s by omega]
 unfold S3 at h
 exact IntWalk.i64_in _ (by omega)
theorem s_variations {j:Nat} {l:List Rat} (hl:l.length≤1000000):Ctr Tryz.prog Amb 30 [.one (rats j l)] (.one (.v (.int .i64 (varR 0 l:Nat)))):=by
 have hvl:=varR_le l 0
 obtain ⟨R,hR⟩: ∃R,R=varR 0 l:=⟨_,rfl⟩
 rw [←hR] at hvl⊢
 refine ctr_body Tryz.func30 rfl rfl rfl rfl rfl rfl ?_
 intro W0 base D μ0 hA hD
 repeat (first | refine aw_seq ?_ | refine aw_block ?_ | refine aw_condT rfl ?_ | refine aw_condF rfl ?_ | refine aw_pa ?_ | refine aw_da ?_ | refine aw_skip ?_ | refine aw_exit ?_)
 refine aw_loop (fun m σ=> ∃(i cnt:Nat) (s:Int),m=l.length-i∧i≤l.length∧S3 s∧cnt+varR s (l.drop i)=R∧Wk ⟨W0,base,D,31,[],μ0⟩ σ [(3,errV (cnt:Nat)),(4,errV s),(8,.one (rats j l)),(9,errV (l.length:Nat)),(10,errV (i:Nat))] []) (n:=l.length) ⟨0,0,0,by omega,by omega,.inr (.inl rfl),by rw [hR,Nat.zero_add];rfl,?_⟩ ?_
 ·exact wk_a
 intro m σ hI
 obtain ⟨i,cnt,s,hm,hi0,hs,hS,hw⟩:=hI
 refine aw_wk hw ?_
 clear hw
 by_cases hi:i<l.length
 ·obtain ⟨x,hx,hx'⟩:=get_at hi
  have bi:=binLt (k:= .i64) (decide_eq_true (show (i:Int)<(l.length:Int) by omega))
  have hin:=binAdd (k:= .i64) (show (IntKind.i64).wrap ((i:Int)+1)=((i+1:Nat):Int) from IntWalk.i64_in _ (by omega))
  have hcn:=binAdd (k:= .i64) (show (IntKind.i64).wrap ((cnt:Int)+1)=((cnt+1:Nat):Int) from IntWalk.i64_in _ (by omega))
  have hng:=neg_wrapS hs
  rw [drop_at hx',varR_step] at hS
  have S1:=c_sign (j:=j) (x:=x)
  have hy:=sgnR_three x
  generalize sgnR x=y at*
  by_cases h0:y=0
  ·subst h0
   rw [if_neg (fun hh=>hh.1 rfl),if_pos rfl,Nat.zero_add] at hS
   have n1:=binNe (k:= .i64) (decide_eq_false (show ¬(0:Int)≠0 by omega))
   by_cases h1:s=0
   ·subst h1
    have q1:=binEq (k:= .i64) (decide_eq_true (show (0:Int)= -0 by omega))
    repeat (first | refine aw_seq ?_ | refine aw_block ?_ | refine aw_condT rfl ?_ | refine aw_condF rfl ?_ | refine aw_pa ?_ | refine aw_da ?_ | refine aw_skip ?_ | refine aw_exit ?_)
    refine ⟨m-1,by omega,i+1,cnt,0,by omega,by omega,hs,hS,?_⟩
    exact wk_a
   ·have q1:=binEq (k:= .i64) (decide_eq_false (show ¬(0:Int)= -s by omega))
    repeat (first | refine aw_seq ?_ | refine aw_block ?_ | refine aw_condT rfl ?_ | refine aw_condF rfl ?_ | refine aw_pa ?_ | refine aw_da ?_ | refine aw_skip ?_ | refine aw_exit ?_)
    refine ⟨m-1,by omega,i+1,cnt,s,by omega,by omega,hs,hS,?_⟩
    exact wk_a
  ·have n1:=binNe (k:= .i64) (decide_eq_true h0)
   rw [if_neg h0] at hS
   by_cases h1:y= -s
   ·have q1:=binEq (k:= .i64) (decide_eq_true h1)
    rw [if_pos ⟨h0,h1⟩] at hS
    repeat (first | refine aw_seq ?_ | refine aw_block ?_ | refine aw_condT rfl ?_ | refine aw_condF rfl ?_ | refine aw_pa ?_ | refine aw_da ?_ | refine aw_skip ?_ | refine aw_exit ?_)
    refine ⟨m-1,by omega,i+1,cnt+1,y,by omega,by omega,hy,by omega,?_⟩
    exact wk_a
   ·have q1:=binEq (k:= .i64) (decide_eq_false h1)
    rw [if_neg (fun hh=>h1 hh.2),Nat.zero_add] at hS
    repeat (first | refine aw_seq ?_ | refine aw_block ?_ | refine aw_condT rfl ?_ | refine aw_condF rfl ?_ | refine aw_pa ?_ | refine aw_da ?_ | refine aw_skip ?_ | refine aw_exit ?_)
    refine ⟨m-1,by omega,i+1,cnt,y,by omega,by omega,hy,hS,?_⟩
    exact wk_a
 ·have bi:=binLt (k:= .i64) (decide_eq_false (show ¬(i:Int)<(l.length:Int) by omega))
  rw [List.drop_eq_nil_of_le (by omega)] at hS
  replace hS:cnt=R:=hS
  subst hS
  repeat (first | refine aw_seq ?_ | refine aw_block ?_ | refine aw_condT rfl ?_ | refine aw_condF rfl ?_ | refine aw_pa ?_ | refine aw_da ?_ | refine aw_skip ?_ | refine aw_exit ?_)
  refine aw_ret (And.intro (Or.inr rfl) ?_)
  exact f_one
def nzB (x:Rat):Bool:=decide (sgnR x≠0)
theorem s_zero1 {j:Nat} {x:Rat} :Ctr Tryz.prog Amb 114 [nm j x] (.one (.v (.bool (nzB x)))):=by
 have V1:=c_sign (j:=j) (x:=x)
 have n1:=binNe (k:= .i64) (show decide (sgnR x≠0)=nzB x from rfl)
 refine ctr_body Tryz.func114 rfl rfl rfl rfl rfl rfl ?_
 intro W0 base D μ0 hA hD
 repeat (first | refine aw_seq ?_ | refine aw_block ?_ | refine aw_condT rfl ?_ | refine aw_condF rfl ?_ | refine aw_pa ?_ | refine aw_da ?_ | refine aw_skip ?_ | refine aw_exit ?_)
 refine aw_ret (And.intro (Or.inr rfl) ?_)
 exact f_one
theorem s_zeroB {j:Nat} {l:List Rat} {b:Bool} (h1:0<l.length) (h2:l.length≤41) (hb:l.any nzB=b):Ctr Tryz.prog Amb 40 [.one (rats j l)] (.one (.v (.bool (!b)))):=by
 have P1:=s_permittedB (j:=j) h1 h2
 have C1:=s_containsF (g:=114) (j:=j) (l:=l) (p:=nzB) (by omega) (fun x _=>s_zero1)
 rw [hb] at C1
 refine ctr_body Tryz.func40 rfl rfl rfl rfl rfl rfl ?_
 intro W0 base D μ0 hA hD
 repeat (first | refine aw_seq ?_ | refine aw_block ?_ | refine aw_condT rfl ?_ | refine aw_condF rfl ?_ | refine aw_pa ?_ | refine aw_da ?_ | refine aw_skip ?_ | refine aw_exit ?_)
 refine aw_ret (And.intro (Or.inr rfl) ?_)
 exact f_one
def samB (p q:List Rat) (d e:Nat):Bool:=!((tab (max d e+1) (pairR (· - ·) (cf p) (cf q) d e)).any nzB)
theorem s_sameB {j d e:Nat} {p q:List Rat} (hp:p.length=d+1) (hq:q.length=e+1) (hd:d≤40) (he:e≤40) (hj:j≤10000) (hr: ∀r∈p,RSz j r) (hr2: ∀r∈q,RSz j r):
  Ctr Tryz.prog Amb 38 [.one (rats j p),.one (rats j q)] (.one (.v (.bool (samB p q d e)))):=by
 have B1:=s_subB hp hq hd he hj hr hr2
 unfold ratT at B1
 unfold samB
 have hl:(tab (max d e+1) (pairR (· - ·) (cf p) (cf q) d e)).length=max d e+1:=tab_len
 generalize (tab (max d e+1) (pairR (· - ·) (cf p) (cf q) d e))=L at*
 have Z1:=s_zeroB (j:=5000000+5000000+3) (l:=L) (by omega) (by omega) rfl
 refine ctr_body Tryz.func38 rfl rfl rfl rfl rfl rfl ?_
 intro W0 base D μ0 hA hD
 repeat (first | refine aw_seq ?_ | refine aw_block ?_ | refine aw_condT rfl ?_ | refine aw_condF rfl ?_ | refine aw_pa ?_ | refine aw_da ?_ | refine aw_skip ?_ | refine aw_exit ?_)
 refine aw_ret (And.intro (Or.inr rfl) ?_)
 exact f_one
def mnA:Rat→List Rat→Rat
 | m,[]=>m
 | m,x::l=>mnA (mn m x) l
def mxA:Rat→List Rat→Rat
 | m,[]=>m
 | m,x::l=>mxA (mx m x) l
theorem mn_prog {m x:Rat} :mn m x=if cmpR x m<0 then x else m:=min_same m x
theorem mx_prog {m x:Rat} :mx m x=if 0<cmpR x m then x else m:=max_same m x
theorem mnA_le: ∀ {l:List Rat} {m x:Rat},m≤x∨(∃y∈l,y≤x)→mnA m l≤x
 | [],m,x,h=>by
   rcases h with h | ⟨y,hy,_⟩
   ·exact h
   ·cases hy
 | y::l,m,x,h=>by
   show mnA (mn m y) l≤x
   refine mnA_le ?_
   rcases mn_cases m y with ⟨e,h1⟩ | ⟨e,h1⟩<;>rw [e]
   ·rcases h with h | ⟨z,hz,hzx⟩
    ·exact .inl h
    ·rcases List.mem_cons.1 hz with rfl | hz
     ·exact .inl (Rat.le_trans h1 hzx)
     ·exact .inr ⟨z,hz,hzx⟩
   ·rcases h with h | ⟨z,hz,hzx⟩
    ·exact .inl (Rat.le_trans h1 h)
    ·rcases List.mem_cons.1 hz with rfl | hz
     ·exact .inl hzx
     ·exact .inr ⟨z,hz,hzx⟩
theorem le_mxA: ∀ {l:List Rat} {m x:Rat},x≤m∨(∃y∈l,x≤y)→x≤mxA m l
 | [],m,x,h=>by
   rcases h with h | ⟨y,hy,_⟩
   ·exact h
   ·cases hy
 | y::l,m,x,h=>by
   show x≤mxA (mx m y) l
   refine le_mxA ?_
   rcases mx_cases m y with ⟨e,h1⟩ | ⟨e,h1⟩<;>rw [e]
   ·rcases h with h | ⟨z,hz,hzx⟩
    ·exact .inl h
    ·rcases List.mem_cons.1 hz with rfl | hz
     ·exact .inl (Rat.le_trans hzx h1)
     ·exact .inr ⟨z,hz,hzx⟩
   ·rcases h with h | ⟨z,hz,hzx⟩
    ·exact .inl (Rat.le_trans h h1)
    ·rcases List.mem_cons.1 hz with rfl | hz
     ·exact .inl hzx
     ·exact .inr ⟨z,hz,hzx⟩
theorem mnA_mem: ∀ {l:List Rat} {m:Rat},mnA m l∈m::l
 | [],m=>List.mem_cons_self
 | y::l,m=>by
   show mnA (mn m y) l∈_
   have:=mnA_mem (l:=l) (m:=mn m y)
   rcases List.mem_cons.1 this with h | h
   ·rw [h]
    rcases mn_cases m y with ⟨e,_⟩ | ⟨e,_⟩<;>rw [e]
    ·exact List.mem_cons_self
    ·exact List.mem_cons_of_mem _ List.mem_cons_self
   ·exact List.mem_cons_of_mem _ (List.mem_cons_of_mem _ h)
theorem mxA_mem: ∀ {l:List Rat} {m:Rat},mxA m l∈m::l
 | [],m=>List.mem_cons_self
 | y::l,m=>by
   show mxA (mx m y) l∈_
   have:=mxA_mem (l:=l) (m:=mx m y)
   rcases List.mem_cons.1 this with h | h
   ·rw [h]
    rcases mx_cases m y with ⟨e,_⟩ | ⟨e,_⟩<;>rw [e]
    ·exact List.mem_cons_self
    ·exact List.mem_cons_of_mem _ List.mem_cons_self
   ·exact List.mem_cons_of_mem _ (List.mem_cons_of_mem _ h)
theorem mn_of_le {a b:Rat} (h:a≤b):mn a b=a:=by
 rcases mn_cases a b with ⟨e,_⟩ | ⟨e,h2⟩
 ·exact e
 ·rw [e];grind
theorem mx_of_le {a b:Rat} (h:a≤b):mx a b=b:=by
 rcases mx_cases a b with ⟨e,h2⟩ | ⟨e,_⟩
 ·rw [e];grind
 ·exact e
theorem s_minF {g:FuncId} [hG:Fun Tryz.prog g] {j:Nat} {x:Rat} {t:List Rat} (hl:t.length≤1000000) (hr: ∀r∈x::t,RSz j r) (H: ∀x y,Ctr Tryz.prog Amb g [nm j x,nm j y] (.one (.v (.int .i64 (cmpR x y))))):
  Ctr Tryz.prog Amb 107 [.one (rats j (x::t)),.one (.fn g [])] (nm j (mnA x t)):=by
 obtain ⟨l,hle⟩: ∃l,l=x::t:=⟨_,rfl⟩
 obtain ⟨R,hR⟩: ∃R,R=mnA x t:=⟨_,rfl⟩
 have hll:l.length=t.length+1:=by rw [hle];rfl
 have hd:mnA x (l.drop 1)=R:=by rw [hle,hR];rfl
 have hx0:l[((0:Nat):Int).toNat]?=some x:=by rw [hle];rfl
 have b0:=binLt (k:= .i64) (decide_eq_false (show ¬(l.length:Int)<1 by omega))
 rw [←hle] at hr⊢
 rw [←hR]
 have hxr:=hr x (by rw [hle];exact List.mem_cons_self)
 clear hle hR
 refine ctr_body Tryz.func107 rfl rfl rfl rfl rfl rfl ?_
 intro W0 base D μ0 hA hD
 repeat (first | refine aw_seq ?_ | refine aw_block ?_ | refine aw_condT rfl ?_ | refine aw_condF rfl ?_ | refine aw_pa ?_ | refine aw_da ?_ | refine aw_skip ?_ | refine aw_exit ?_)
 refine aw_loop (fun c σ=> ∃(i:Nat) (m:Rat),c=l.length-i∧1≤i∧i≤l.length∧RSz j m∧mnA m (l.drop i)=R∧Wk ⟨W0,base,D,33,[],μ0⟩ σ [(0,.one (rats j l)),(1,.one (.fn g [])),(4,.one (.ptr 4 0)),(5,.one (.ptr 5 0)),(6,errV (i:Nat))] [(4,nmC j 0),(5,nmC j m)]) (n:=l.length-1) ⟨1,x,rfl,Nat.le_refl _,by omega,hxr,hd,?_⟩ ?_
 ·exact wk_a
 clear hx0 hd hxr b0
 intro c σ hI
 obtain ⟨i,m,hc,hi1,hi0,hms,hS,hw⟩:=hI
 refine aw_wk hw ?_
 clear hw
 by_cases hi:i<l.length
 ·obtain ⟨y,hy,hy'⟩:=get_at hi
  have bi:=binLt (k:= .i64) (decide_eq_true (show (i:Int)<(l.length:Int) by omega))
  have hin:=binAdd (k:= .i64) (show (IntKind.i64).wrap ((i:Int)+1)=((i+1:Nat):Int) from IntWalk.i64_in _ (by omega))
  have H1:=H y m
  have hyr:=hr y (List.mem_of_getElem? hy')
  rw [drop_at hy'] at hS
  replace hS:mnA (mn m y) (l.drop (i+1))=R:=hS
  rw [mn_prog] at hS
  by_cases hlt:cmpR y m<0
  ·have bl:=binLt (k:= .i64) (decide_eq_true hlt)
   rw [if_pos hlt] at hS
   repeat (first | refine aw_seq ?_ | refine aw_block ?_ | refine aw_condT rfl ?_ | refine aw_condF rfl ?_ | refine aw_pa ?_ | refine aw_da ?_ | refine aw_skip ?_ | refine aw_exit ?_)
   refine ⟨c-1,by omega,i+1,y,by omega,by omega,by omega,hyr,hS,?_⟩
   exact wk_a
  ·have bl:=binLt (k:= .i64) (decide_eq_false hlt)
   rw [if_neg hlt] at hS
   repeat (first | refine aw_seq ?_ | refine aw_block ?_ | refine aw_condT rfl ?_ | refine aw_condF rfl ?_ | refine aw_pa ?_ | refine aw_da ?_ | refine aw_skip ?_ | refine aw_exit ?_)
   refine ⟨c-1,by omega,i+1,m,by omega,by omega,by omega,hms,hS,?_⟩
   exact wk_a
 ·have bi:=binLt (k:= .i64) (decide_eq_false (show ¬(i:Int)<(l.length:Int) by omega))
  rw [List.drop_eq_nil_of_le (by omega)] at hS
  replace hS:m=R:=hS
  subst hS
  repeat (first | refine aw_seq ?_ | refine aw_block ?_ | refine aw_condT rfl ?_ | refine aw_condF rfl ?_ | refine aw_pa ?_ | refine aw_da ?_ | refine aw_skip ?_ | refine aw_exit ?_)
  refine aw_ret (And.intro (Or.inr rfl) ?_)
  exact f_one
theorem s_maxF {g:FuncId} [hG:Fun Tryz.prog g] {j:Nat} {x:Rat} {t:List Rat} (hl:t.length≤1000000) (hr: ∀r∈x::t,RSz j r) (H: ∀x y,Ctr Tryz.prog Amb g [nm j x,nm j y] (.one (.v (.int .i64 (cmpR x y))))):
  Ctr Tryz.prog Amb 108 [.one (rats j (x::t)),.one (.fn g [])] (nm j (mxA x t)):=by
 obtain ⟨l,hle⟩: ∃l,l=x::t:=⟨_,rfl⟩
 obtain ⟨R,hR⟩: ∃R,R=mxA x t:=⟨_,rfl⟩
 have hll:l.length=t.length+1:=by rw [hle];rfl
 have hd:mxA x (l.drop 1)=R:=by rw [hle,hR];rfl
 have hx0:l[((0:Nat):Int).toNat]?=some x:=by rw [hle];rfl
 have b0:=binLt (k:= .i64) (decide_eq_false (show ¬(l.length:Int)<1 by omega))
 rw [←hle] at hr⊢
 rw [←hR]
 have hxr:=hr x (by rw [hle];exact List.mem_cons_self)
 clear hle hR
 refine ctr_body Tryz.func108 rfl rfl rfl rfl rfl rfl ?_
 intro W0 base D μ0 hA hD
 repeat (first | refine aw_seq ?_ | refine aw_block ?_ | refine aw_condT rfl ?_ | refine aw_condF rfl ?_ | refine aw_pa ?_ | refine aw_da ?_ | refine aw_skip ?_ | refine aw_exit ?_)
 refine aw_loop (fun c σ=> ∃(i:Nat) (m:Rat),c=l.length-i∧1≤i∧i≤l.length∧RSz j m∧mxA m (l.drop i)=R∧Wk ⟨W0,base,D,33,[],μ0⟩ σ [(0,.one (rats j l)),(1,.one (.fn g [])),(4,.one (.ptr 4 0)),(5,.one (.ptr 5 0)),(6,errV (i:Nat))] [(4,nmC j 0),(5,nmC j m)]) (n:=l.length-1) ⟨1,x,rfl,Nat.le_refl _,by omega,hxr,hd,?_⟩ ?_
 ·exact wk_a
 clear hx0 hd hxr b0
 intro c σ hI
 obtain ⟨i,m,hc,hi1,hi0,hms,hS,hw⟩:=hI
 refine aw_wk hw ?_
 clear hw
 by_cases hi:i<l.length
 ·obtain ⟨y,hy,hy'⟩:=get_at hi
  have bi:=binLt (k:= .i64) (decide_eq_true (show (i:Int)<(l.length:Int) by omega))
  have hin:=binAdd (k:= .i64) (show (IntKind.i64).wrap ((i:Int)+1)=((i+1:Nat):Int) from IntWalk.i64_in _ (by omega))
  have H1:=H y m
  have hyr:=hr y (List.mem_of_getElem? hy')
  rw [drop_at hy'] at hS
  replace hS:mxA (mx m y) (l.drop (i+1))=R:=hS
  rw [mx_prog] at hS
  by_cases hlt:0<cmpR y m
  ·have bl:=binGt (k:= .i64) (decide_eq_true (show cmpR y m>0 from hlt))
   rw [if_pos hlt] at hS
   repeat (first | refine aw_seq ?_ | refine aw_block ?_ | refine aw_condT rfl ?_ | refine aw_condF rfl ?_ | refine aw_pa ?_ | refine aw_da ?_ | refine aw_skip ?_ | refine aw_exit ?_)
   refine ⟨c-1,by omega,i+1,y,by omega,by omega,by omega,hyr,hS,?_⟩
   exact wk_a
  ·have bl:=binGt (k:= .i64) (decide_eq_false (show ¬cmpR y m>0 from hlt))
   rw [if_neg hlt] at hS
   repeat (first | refine aw_seq ?_ | refine aw_block ?_ | refine aw_condT rfl ?_ | refine aw_condF rfl ?_ | refine aw_pa ?_ | refine aw_da ?_ | refine aw_skip ?_ | refine aw_exit ?_)
   refine ⟨c-1,by omega,i+1,m,by omega,by omega,by omega,hms,hS,?_⟩
   exact wk_a
 ·have bi:=binLt (k:= .i64) (decide_eq_false (show ¬(i:Int)<(l.length:Int) by omega))
  rw [List.drop_eq_nil_of_le (by omega)] at hS
  replace hS:m=R:=hS
  subst hS
  repeat (first | refine aw_seq ?_ | refine aw_block ?_ | refine aw_condT rfl ?_ | refine aw_condF rfl ?_ | refine aw_pa ?_ | refine aw_da ?_ | refine aw_skip ?_ | refine aw_exit ?_)
  refine aw_ret (And.intro (Or.inr rfl) ?_)
  exact f_one
theorem s_boundsB {j:Nat} {x:Rat} {t:List Rat} (hl:t.length≤100000) (hj:j≤1000000) (hr: ∀r∈x::t,RSz j r):
  Ctr Tryz.prog Amb 28 [.one (rats j (x::t))] (sp (j+j+1) (mnA x t) (j+j+1) (mxA x t)):=by
 have M1:=s_minF (g:=71) (j:=j) (x:=x) (t:=t) (by omega) hr (fun x y=>c_cmp (by omega) (by omega))
 have M2:=s_maxF (g:=71) (j:=j) (x:=x) (t:=t) (by omega) hr (fun x y=>c_cmp (by omega) (by omega))
 have hle:mnA x t≤mxA x t:=Rat.le_trans (mnA_le (.inl Rat.le_refl)) (le_mxA (.inl Rat.le_refl))
 have O1:=s_of (j1:=j) (j2:=j) (a:=mnA x t) (b:=mxA x t) hj hj
 rw [mn_of_le hle,mx_of_le hle] at O1
 have b0:=binEq (k:= .i64) (decide_eq_false (show ¬((x::t).length:Int)=0 by rw [List.length_cons];omega))
 generalize mnA x t=u at*
 generalize mxA x t=v at*
 generalize x::t=l at*
 refine ctr_body Tryz.func28 rfl rfl rfl rfl rfl rfl ?_
 intro W0 base D μ0 hA hD
 repeat (first | refine aw_seq ?_ | refine aw_block ?_ | refine aw_condT rfl ?_ | refine aw_condF rfl ?_ | refine aw_pa ?_ | refine aw_da ?_ | refine aw_skip ?_ | refine aw_exit ?_)
 refine aw_ret (And.intro (Or.inr rfl) ?_)
 exact f_one
end Go.Proofs.YtnkobfcnflphkaaGreatDoor
namespace Go.Proofs.YtnkobfcnflphkaaGreatDoor
open Go.RowKit
set_option linter.unusedVariables false
set_option linter.unusedSimpArgs false
set_option maxRecDepth 20000
set_option maxHeartbeats 4000000
end Go.Proofs.YtnkobfcnflphkaaGreatDoor
namespace Go.Proofs.YtnkobfcnflphkaaGreatDoor
open Go.RowKit
set_option linter.unusedVariables false
set_option linter.unusedSimpArgs false
set_option maxRecDepth 20000
set_option maxHeartbeats 4000000
theorem cf_tab {m q:Nat} {g:Nat→Rat} (h:q<m):cf (tab m g) q=g q:=tab_getD 0 h
theorem tab_all {m:Nat} {g:Nat→Rat} {p:Rat→Prop} (h: ∀i,i<m→p (g i)): ∀r∈tab m g,p r:=fun r hr=>by
 obtain ⟨i,hi,he⟩:=List.getElem_of_mem hr
 have hi':i<m:=by simpa using hi
 have h2:(tab m g)[i]?=some (g i):=tab_get hi'
 rw [List.getElem?_eq_getElem hi,he] at h2
 rw [Option.some.inj h2]
 exact h i hi'
theorem samB_true {p q:List Rat} {d e:Nat} (h: ∀i,i≤max d e→liftN (cf p) d (max d e-d) i=liftN (cf q) e (max d e-e) i):samB p q d e=true:=by
 unfold samB
 have:(tab (max d e+1) (pairR (· - ·) (cf p) (cf q) d e)).any nzB=false:=by
  rw [List.any_eq_false]
  intro r hr
  have h2:r=0:=tab_all (p:=fun r=>r=0) (fun i hi=>by
   show liftN (cf p) d (max d e-d) i-liftN (cf q) e (max d e-e) i=0
   rw [h i (by omega)];grind) r hr
  rw [h2]
  decide
 rw [this];rfl
end Go.Proofs.YtnkobfcnflphkaaGreatDoor
