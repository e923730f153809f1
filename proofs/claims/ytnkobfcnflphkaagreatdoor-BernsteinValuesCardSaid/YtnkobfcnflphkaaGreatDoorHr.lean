/-
  Several texts in one: Zac, Zad, Zaf.
-/
import Derived.Test.YtnkobfcnflphkaaGreatDoorHt
import Derived.Test.YtnkobfcnflphkaaGreatDoorHp
import Derived.Test.YtnkobfcnflphkaaGreatDoorHv
import Derived.Test.YtnkobfcnflphkaaGreatDoorHz
import Derived.Test.YtnkobfcnflphkaaGreatDoorHb
import Derived.Test.YtnkobfcnflphkaaGreatDoorHq
import Derived.Test.YtnkobfcnflphkaaGreatDoorHy
namespace Go.Proofs.YtnkobfcnflphkaaGreatDoor
open Go.RowKit
set_option linter.unusedVariables false
set_option linter.unusedSimpArgs false
set_option maxRecDepth 20000
set_option maxHeartbeats 4000000
def nzB (x:Rat):Bool:=decide (sgnR x≠0)
theorem s_zero1 {j:Nat} {x:Rat} :Ctr Tryz.prog Amb 114 [nm j x] (.one (.v (.bool (nzB x)))):=by
 have V1:=c_sign (j:=j) (x:=x)
 have n1:=binNe (k:= .i64) (show decide (sgnR x≠0)=nzB x from rfl)
 refine ctr_body Tryz.func114 rfl rfl rfl rfl rfl rfl ?_
 intro W0 base D μ0 hA hD
 repeat (first | refine aw_seq ?_ | refine aw_block ?_ | refine aw_condT rfl ?_ | refine aw_condF rfl ?_ | refine aw_pa ?_ | refine aw_da ?_ | refine aw_skip ?_ | refine aw_exit ?_)
 refine aw_ret (And.intro (Or.inr rfl) ?_)
 exact f_one
theorem s_zeroB {j:Nat} {l:List Rat} {b:Bool} (h1:0<l.length) (h2:l.length≤41) (hb:l.any nzB=b):Ctr Tryz.prog Amb 40 [.one (rats j l)] (.one (.v (.bool (!b)))):=by
 have P1:=s_permittedB (j:=j) h1 h2
 have C1:=s_containsF (g:=114) (j:=j) (l:=l) (p:=nzB) (by omega) (fun x _=>s_zero1)
 rw [hb] at C1
 refine ctr_body Tryz.func40 rfl rfl rfl rfl rfl rfl ?_
 intro W0 base D μ0 hA hD
 repeat (first | refine aw_seq ?_ | refine aw_block ?_ | refine aw_condT rfl ?_ | refine aw_condF rfl ?_ | refine aw_pa ?_ | refine aw_da ?_ | refine aw_skip ?_ | refine aw_exit ?_)
 refine aw_ret (And.intro (Or.inr rfl) ?_)
 exact f_one
def samB (p q:List Rat) (d e:Nat):Bool:=!((tab (max d e+1) (pairR (· - ·) (cf p) (cf q) d e)).any nzB)
theorem s_sameB {j d e:Nat} {p q:List Rat} (hp:p.length=d+1) (hq:q.length=e+1) (hd:d≤40) (he:e≤40) (hj:j≤10000) (hr: ∀r∈p,RSz j r) (hr2: ∀r∈q,RSz j r):
  Ctr Tryz.prog Amb 38 [.one (rats j p),.one (rats j q)] (.one (.v (.bool (samB p q d e)))):=by
 have B1:=s_subB hp hq hd he hj hr hr2
 unfold ratT at B1
 unfold samB
 have hl:(tab (max d e+1) (pairR (· - ·) (cf p) (cf q) d e)).length=max d e+1:=tab_len
 generalize (tab (max d e+1) (pairR (· - ·) (cf p) (cf q) d e))=L at*
 have Z1:=s_zeroB (j:=5000000+5000000+3) (l:=L) (by omega) (by omega) rfl
 refine ctr_body Tryz.func38 rfl rfl rfl rfl rfl rfl ?_
 intro W0 base D μ0 hA hD
 repeat (first | refine aw_seq ?_ | refine aw_block ?_ | refine aw_condT rfl ?_ | refine aw_condF rfl ?_ | refine aw_pa ?_ | refine aw_da ?_ | refine aw_skip ?_ | refine aw_exit ?_)
 refine aw_ret (And.intro (Or.inr rfl) ?_)
 exact f_one
end Go.Proofs.YtnkobfcnflphkaaGreatDoor
namespace Go.Proofs.YtnkobfcnflphkaaGreatDoor
open Go.RowKit
set_option linter.unusedVariables false
set_option linter.unusedSimpArgs false
set_option maxRecDepth 20000
set_option maxHeartbeats 4000000
theorem toPw_rsz {j n J:Nat} {l:List Rat} (hl:l.length=n+1) (hr: ∀r∈l,RSz j r) (hn:n≤40) (hJ:2+(n+1)*j+j+(n+2)+2≤J): ∀r∈tab (n+1) (toPw (cf l) n),RSz J r:=fun r hrr=>by
 obtain ⟨i,hi,he⟩:=List.getElem_of_mem hrr
 have h2:(tab (n+1) (toPw (cf l) n))[i]?=some (toPw (cf l) n i):=tab_get (by simpa using hi)
 rw [List.getElem?_eq_getElem hi,he] at h2
 rw [Option.some.inj h2]
 have hi':i<n+1:=by simpa using hi
 unfold toPw
 exact ((binQ_rsz (n:=n) (k:=i) (by omega)).mul (dif_rsz (J:=2+(n+1)*j+j+(n+2)) hl hr (Nat.le_refl _) i 0 (by omega))).mono (by omega)
end Go.Proofs.YtnkobfcnflphkaaGreatDoor
namespace Go.Proofs.YtnkobfcnflphkaaGreatDoor
open Go.RowKit
set_option linter.unusedVariables false
set_option linter.unusedSimpArgs false
set_option maxRecDepth 20000
set_option maxHeartbeats 4000000
theorem cf_tab {m q:Nat} {g:Nat→Rat} (h:q<m):cf (tab m g) q=g q:=tab_getD 0 h
theorem tab_all {m:Nat} {g:Nat→Rat} {p:Rat→Prop} (h: ∀i,i<m→p (g i)): ∀r∈tab m g,p r:=fun r hr=>by
 obtain ⟨i,hi,he⟩:=List.getElem_of_mem hr
 have hi':i<m:=by simpa using hi
 have h2:(tab m g)[i]?=some (g i):=tab_get hi'
 rw [List.getElem?_eq_getElem hi,he] at h2
 rw [Option.some.inj h2]
 exact h i hi'
theorem cf_rsz {j q:Nat} {l:List Rat} (hr: ∀r∈l,RSz j r) (h:q<l.length):RSz j (cf l q):=by
 refine hr _ ?_
 unfold cf
 rw [List.getD_eq_getElem?_getD,List.getElem?_eq_getElem h];exact List.getElem_mem h
theorem mulQ_congr {f g f' g':Nat→Rat} {m n k:Nat} (h1: ∀q,q≤m→f q=f' q) (h2: ∀q,q≤n→g q=g' q):mulQ f g m n k=mulQ f' g' m n k:=by
 unfold mulQ
 rw [convR_congr (a':=wgt m f') (b':=wgt n g') (fun q hq=>by unfold wgt;rw [h1 q (by omega)]) fun q hq=>by unfold wgt;rw [h2 q hq]]
theorem mulQ_left {f g:Nat→Rat} {n k:Nat} (h:k≤n):mulQ f g 0 n k=f 0*g k:=by
 unfold mulQ
 have e:convR (wgt 0 f) (wgt n g) n (0+1) k=f 0*(binQ n k*g k):=by
  show (0:Rat)+(if 0≤k∧k≤0+n then wgt 0 f 0*wgt n g (k-0) else 0)=_
  rw [if_pos ⟨Nat.zero_le _,by omega⟩,Nat.sub_zero]
  unfold wgt
  have:binQ 0 0=1:=rfl
  rw [this];grind
 rw [e,Nat.zero_add]
 have:=binQ_ne h
 generalize binQ n k=b at*
 grind
theorem mulQ_right {f g:Nat→Rat} {m k:Nat} (h:k≤m):mulQ f g m 0 k=f k*g 0:=by
 unfold mulQ
 have key: ∀i,convR (wgt m f) (wgt 0 g) 0 i k=if k<i then wgt m f k*wgt 0 g 0 else 0:=by
  intro i
  induction i with
  | zero=>rw [if_neg (Nat.not_lt_zero k)];rfl
  | succ i ih=>
    show convR (wgt m f) (wgt 0 g) 0 i k+(if i≤k∧k≤i+0 then wgt m f i*wgt 0 g (k-i) else 0)=_
    rw [ih]
    by_cases h1:k<i
    ·rw [if_pos h1,if_neg (by omega),if_pos (by omega)];grind
    ·rw [if_neg h1]
     by_cases h2:k=i
     ·subst h2
      rw [if_pos (by omega),if_pos (by omega),Nat.sub_self];grind
     ·rw [if_neg (by omega),if_neg (by omega)];grind
 rw [key,if_pos (by omega),Nat.add_zero]
 unfold wgt
 have h3:binQ 0 0=1:=rfl
 rw [h3]
 have:=binQ_ne h
 generalize binQ m k=b at*
 grind
theorem mulQ_rsz {j k m n i:Nat} {f g:Nat→Rat} (hf: ∀q,q≤m→RSz j (f q)) (hg: ∀q,q≤n→RSz k (g q)) (hm:m≤40) (hn:n≤40) (hmn:m+n≤41) (hi:i≤m+n):RSz ((m+1)*(j+k+5)+3) (mulQ f g m n i):=by
 unfold mulQ
 rw [convR_ind]
 have h1:RSz ((m+1)*(2+j+(2+k)+1)+1) (sumR (fun q=>if q≤i∧i≤q+n then wgt m f q*wgt n g (i-q) else 0) (m+1)):=sum_rsz fun q hq=>by
  by_cases h:q≤i∧i≤q+n
  ·rw [if_pos h]
   unfold wgt
   exact ((binQ_rsz (by omega)).mul (hf q (by omega))).mul ((binQ_rsz (by omega)).mul (hg (i-q) (by omega)))
  ·rw [if_neg h]
   exact (IZ.zero (b:=1)).rsz (Nat.le_refl 1) |>.mono (by omega)
 refine (rsz_div h1 (binQ_rsz (n:=m+n) (k:=i) (by omega)) (binQ_ne hi)).mono ?_
 rw [show 2+j+(2+k)+1=j+k+5 by omega]
 omega
theorem difL_len (f:Nat→Rat) (d:Nat):(difL f d).length=d-1+1:=by
 unfold difL
 by_cases h:d=0
 ·rw [if_pos h,h];rfl
 ·rw [if_neg h,tab_len];omega
theorem difL_cf {f:Nat→Rat} {d i:Nat} (h:i≤d):cf (difL f (d+1)) i=ntQ (d+1)*(f (i+1)-f i):=by
 unfold difL
 rw [if_neg (by omega),cf_tab (by omega)]
theorem difL_rsz {j d:Nat} {f:Nat→Rat} (hd:d≤1000) (hf: ∀q,q≤d→RSz j (f q)): ∀r∈difL f d,RSz (2+(j+j+1)) r:=by
 unfold difL
 by_cases h:d=0
 ·rw [if_pos h]
  intro r hr
  rw [List.mem_singleton.1 hr]
  exact (rsz_cast 0 (by decide) (by decide)).mono (by omega)
 ·rw [if_neg h]
  exact tab_all fun i hi=>(rsz_cast d (by omega) (by omega)).mul ((hf (i+1) (by omega)).sub (hf i (by omega)))
theorem pair_rsz {j k d e i:Nat} {p q:List Rat} (hp:p.length=d+1) (hq:q.length=e+1) (hd:d≤40) (he:e≤40) (hr: ∀r∈p,RSz j r) (hr2: ∀r∈q,RSz k r) (hi:i≤max d e):RSz (10+(d+1)*j+j+(10+(e+1)*k+k)+1) (pairR (· + ·) (cf p) (cf q) d e i):=
 (lift_rsz (e:=max d e-d) hp (by omega) hr i (by omega)).add (lift_rsz (e:=max d e-e) hq (by omega) hr2 i (by omega))
theorem low_congr {t:Rat} {f g:Nat→Rat} {n:Nat} (h: ∀i,i≤n→f i=g i):lowR t f n=lowR t g n:=by
 unfold lowR
 exact casR_congr fun j hj=>h j (by omega)
theorem low_add (t:Rat) (f g:Nat→Rat) (d e:Nat):lowR t (pairR (· + ·) f g d e) (max d e)=lowR t f d+lowR t g e:=by
 have h1:(1-t)+t=1:=by grind
 have h2: ∀i,pairR (· + ·) f g d e i=liftN f d (max d e-d) i+liftN g e (max d e-e) i:=fun i=>rfl
 unfold lowR
 rw [casR_congr (g:=fun i=>liftN f d (max d e-d) i+liftN g e (max d e-e) i) fun j _=>h2 j,casR_add]
 congr 1
 ·have:=cas_lift h1 f d (max d e-d)
  rw [show d+(max d e-d)=max d e by omega] at this
  exact this
 ·have:=cas_lift h1 g e (max d e-e)
  rw [show e+(max d e-e)=max d e by omega] at this
  exact this
theorem low_mul (t:Rat) (f g:Nat→Rat) (d e:Nat):lowR t (mulQ f g d e) (d+e)=lowR t f d*lowR t g e:=cas_mul f g
theorem part_first {p:List Rat} {d:Nat} {t u:Rat} (hp:p.length=d+1):bpR p d t u 0=lowR t (cf p) d:=by
 unfold bpR
 by_cases h:t=oneR
 ·rw [if_pos h,h]
  have z1: ∀(f:Nat→Rat) (k i:Nat),casR 0 (1-0) f k i=f i:=by
   intro f k
   induction k with
   | zero=>intro i;rfl
   | succ k ih=>
     intro i
     show (1-0)*casR 0 (1-0) f k i+0*casR 0 (1-0) f k (i+1)=f i
     rw [ih i,ih (i+1)];grind
  have z2: ∀(f:Nat→Rat) (k i:Nat),casR oneR (1-oneR) f k i=f (i+k):=by
   intro f k
   induction k with
   | zero=>intro i;rfl
   | succ k ih=>
     intro i
     show (1-oneR)*casR oneR (1-oneR) f k i+oneR*casR oneR (1-oneR) f k (i+1)=f (i+(k+1))
     rw [ih i,ih (i+1),show i+1+k=i+(k+1) by omega]
     have:oneR=1:=rfl
     rw [this];grind
  show casR 0 (1-0) (cf p.reverse) (d-0) 0=casR oneR (1-oneR) (cf p) d 0
  rw [z1,z2,Nat.zero_add]
  unfold cf
  rw [List.getD_eq_getElem?_getD,List.getD_eq_getElem?_getD,List.getElem?_reverse (by omega),hp]
  congr 2
 ·rw [if_neg h]
  show casR t (1-t) (cf p) (d-0) 0=_
  rw [Nat.sub_zero];rfl
theorem samB_true {p q:List Rat} {d e:Nat} (h: ∀i,i≤max d e→liftN (cf p) d (max d e-d) i=liftN (cf q) e (max d e-e) i):samB p q d e=true:=by
 unfold samB
 have:(tab (max d e+1) (pairR (· - ·) (cf p) (cf q) d e)).any nzB=false:=by
  rw [List.any_eq_false]
  intro r hr
  have h2:r=0:=tab_all (p:=fun r=>r=0) (fun i hi=>by
   show liftN (cf p) d (max d e-d) i-liftN (cf q) e (max d e-e) i=0
   rw [h i (by omega)];grind) r hr
  rw [h2]
  decide
 rw [this];rfl
theorem dif_prod {p q:List Rat} {d e:Nat} (hp:p.length=d+1) (hq:q.length=e+1):
  samB (difL (mulQ (cf p) (cf q) d e) (d+e)) (tab (max (d-1+e) (d+(e-1))+1) (pairR (· + ·) (cf (tab (d-1+e+1) (mulQ (cf (difL (cf p) d)) (cf q) (d-1) e))) (cf (tab (d+(e-1)+1) (mulQ (cf p) (cf (difL (cf q) e)) d (e-1)))) (d-1+e) (d+(e-1)))) (d+e-1) (max (d-1+e) (d+(e-1)))=true:=by
 obtain ⟨f,hf⟩: ∃f,f=cf p:=⟨_,rfl⟩
 obtain ⟨g,hg⟩: ∃g,g=cf q:=⟨_,rfl⟩
 rw [←hf,←hg]
 have zero1: ∀ {x:Rat} {i:Nat} (h:x=0),x*i=0:=fun h=>by rw [h];grind
 refine samB_true fun i hi=>?_
 cases d with
 | zero=>
   cases e with
   | zero=>
     have hi0:i=0:=by simp at hi;omega
     subst hi0
     have e1:cf (difL (mulQ f g 0 0) (0+0)) 0=0:=rfl
     have e2:cf (tab (0-1+0+1) (mulQ (cf (difL f 0)) g (0-1) 0)) 0=0:=by
      rw [cf_tab (by omega)]
      show mulQ (cf (difL f 0)) g 0 0 0=0
      rw [mulQ_left (Nat.le_refl _)]
      show (0:Rat)*g 0=0
      grind
     have e3:cf (tab (0+(0-1)+1) (mulQ f (cf (difL g 0)) 0 (0-1))) 0=0:=by
      rw [cf_tab (by omega)]
      show mulQ f (cf (difL g 0)) 0 0 0=0
      rw [mulQ_left (Nat.le_refl _)]
      show f 0*(0:Rat)=0
      grind
     show cf (difL (mulQ f g 0 0) (0+0)) 0=cf (tab 1 _) 0
     rw [cf_tab (by omega),e1]
     show (0:Rat)=cf (tab (0-1+0+1) (mulQ (cf (difL f 0)) g (0-1) 0)) 0+cf (tab (0+(0-1)+1) (mulQ f (cf (difL g 0)) 0 (0-1))) 0
     rw [e2,e3];grind
   | succ e=>
     simp only [Nat.zero_add,Nat.add_sub_cancel,Nat.zero_sub] at hi⊢
     have hm:max (e+1) e=e+1:=by omega
     rw [hm] at hi⊢
     have h1: ∀k,k≤e→cf (difL (mulQ f g 0 (e+1)) (e+1)) k=f 0*(ntQ (e+1)*(g (k+1)-g k)):=fun k hk=>by
      rw [difL_cf hk,mulQ_left (by omega),mulQ_left (by omega)];grind
     have h2: ∀k,k≤e→cf (tab (e+1) (mulQ f (cf (difL g (e+1))) 0 e)) k=f 0*(ntQ (e+1)*(g (k+1)-g k)):=fun k hk=>by
      rw [cf_tab (by omega),mulQ_left hk,difL_cf hk]
     have h3: ∀k,k≤e+1→cf (tab (e+1+1) (mulQ (cf (difL f 0)) g 0 (e+1))) k=0:=fun k hk=>by
      rw [cf_tab (by omega),mulQ_left hk]
      show (0:Rat)*g k=0
      grind
     rw [show max e (e+1)=e+1 by omega,show e+1-e=1 by omega,Nat.sub_self (e+1)]
     show liftN _ e 1 i=cf (tab (e+1+1) _) i
     rw [cf_tab (by omega)]
     unfold pairR
     rw [hm,show e+1-e=1 by omega,Nat.sub_self (e+1)]
     show liftN _ e 1 i=cf (tab (e+1+1) (mulQ (cf (difL f 0)) g 0 (e+1))) i+liftN _ e 1 i
     rw [h3 i (by omega),liftN_congr h1 1 i (by omega),liftN_congr h2 1 i (by omega)]
     grind
 | succ d=>
   cases e with
   | zero=>
     simp only [Nat.add_zero,Nat.add_sub_cancel,Nat.zero_sub] at hi⊢
     have hm:max d (d+1)=d+1:=by omega
     rw [hm] at hi⊢
     have h1: ∀k,k≤d→cf (difL (mulQ f g (d+1) 0) (d+1)) k=ntQ (d+1)*(f (k+1)-f k)*g 0:=fun k hk=>by
      rw [difL_cf hk,mulQ_right (by omega),mulQ_right (by omega)];grind
     have h2: ∀k,k≤d→cf (tab (d+1) (mulQ (cf (difL f (d+1))) g d 0)) k=ntQ (d+1)*(f (k+1)-f k)*g 0:=fun k hk=>by
      rw [cf_tab (by omega),mulQ_right hk,difL_cf hk]
     have h3: ∀k,k≤d+1→cf (tab (d+1+1) (mulQ f (cf (difL g 0)) (d+1) 0)) k=0:=fun k hk=>by
      rw [cf_tab (by omega),mulQ_right hk]
      show f k*(0:Rat)=0
      grind
     rw [show max d (d+1)=d+1 by omega,show d+1-d=1 by omega,Nat.sub_self (d+1)]
     show liftN _ d 1 i=cf (tab (d+1+1) _) i
     rw [cf_tab (by omega)]
     unfold pairR
     rw [hm,show d+1-d=1 by omega,Nat.sub_self (d+1)]
     show liftN _ d 1 i=liftN _ d 1 i+cf (tab (d+1+1) (mulQ f (cf (difL g 0)) (d+1) 0)) i
     rw [h3 i (by omega),liftN_congr h1 1 i (by omega),liftN_congr h2 1 i (by omega)]
     grind
   | succ e=>
     simp only [Nat.add_sub_cancel] at hi⊢
     have hm:max (d+(e+1)) (d+1+e)=d+e+1:=by omega
     have hn:d+1+(e+1)-1=d+e+1:=by omega
     have hk1:d+(e+1)=d+e+1:=by omega
     have hk2:d+1+e=d+e+1:=by omega
     rw [hm,hn] at hi⊢
     rw [Nat.max_self] at hi⊢
     rw [Nat.sub_self]
     show cf (difL (mulQ f g (d+1) (e+1)) (d+1+(e+1))) i=cf (tab _ _) i
     rw [cf_tab (by omega)]
     unfold pairR
     rw [hm,hk1,hk2,Nat.sub_self]
     show _=cf (tab _ _) i+cf (tab _ _) i
     rw [cf_tab (by omega),cf_tab (by omega)]
     rw [show difL (mulQ f g (d+1) (e+1)) (d+1+(e+1))=difL (mulQ f g (d+1) (e+1)) (d+1+e+1) from rfl,difL_cf (by omega)]
     rw [mulQ_congr (f':=fun i=>ntQ (d+1)*(f (i+1)-f i)) (g':=g) (fun q hq=>difL_cf hq) fun q _=>rfl,mulQ_congr (f:=f) (f':=f) (g':=fun i=>ntQ (e+1)*(g (i+1)-g i)) (fun q _=>rfl) fun q hq=>difL_cf hq]
     have:=dif_mul (f:=f) (g:=g) (m:=d) (n:=e) (i:=i) (by omega)
     exact this
end Go.Proofs.YtnkobfcnflphkaaGreatDoor
