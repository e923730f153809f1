/-
  Several texts in one: Ek.
-/
import Derived.Test.YtkmalkcgkcpcmaaGreatDoorGy
import Derived.Test.YtkmalkcgkcpcmaaGreatDoorBn
import Derived.Test.YtkmalkcgkcpcmaaGreatDoorBo
import Derived.Test.YtkmalkcgkcpcmaaGreatDoorBw
import Derived.Test.YtkmalkcgkcpcmaaGreatDoorBp
import Derived.Test.YtkmalkcgkcpcmaaGreatDoorBk
import Derived.Test.YtkmalkcgkcpcmaaGreatDoorBu
import Derived.Test.YtkmalkcgkcpcmaaGreatDoorBs
import Derived.Test.YtkmalkcgkcpcmaaGreatDoorBr
import Derived.Test.YtkmalkcgkcpcmaaGreatDoorBt
import Derived.Test.YtkmalkcgkcpcmaaGreatDoorRq5
import Derived.Test.YtkmalkcgkcpcmaaGreatDoorRq7
import Derived.Test.YtkmalkcgkcpcmaaGreatDoorBq
import Derived.Test.YtkmalkcgkcpcmaaGreatDoorGr
namespace Go.Proofs.YtkmalkcgkcpcmaaGreatDoor
open Go.RowKit
set_option linter.unusedVariables false
set_option linter.unusedSimpArgs false
abbrev nmC (j:Nat) (x:Rat):List C:= [.q x j 0,.q x j 1,.q x j 2]
abbrev nm (j:Nat) (x:Rat):AV:= .agg [.q x j 0,.q x j 1,.q x j 2]
theorem cv_nm {W0:World} {μ:Nat→Nat×Nat} {sz:Nat→Nat} {w:World} {v:Value} {j:Nat} {x:Rat} (h:cv W0 μ sz w v (nm j x)):RatV w v x∧RSz (j+1) x:=by
 obtain ⟨l,rfl,hl⟩:=h
 match l,hl with
 | [a,b,c],hl=>
   have h0:=hl.2 0 _ _ rfl rfl
   have h1:=hl.2 1 _ _ rfl rfl
   have h2:=hl.2 2 _ _ rfl rfl
   obtain ⟨e,_⟩:=h0
   subst e
   refine ⟨⟨b,c,rfl,h1.1,h2.1⟩,?_,?_⟩
   ·exact (show Sz j _ from h1.2).mono (by omega)
   ·have h3:Sz j (dnOf x):=h2.2
    unfold dnOf at h3
    by_cases hd:x.den=1
    ·rw [hd];exact length_toL_le _ _ (by
      have:(4294967296:Nat)^(j+1)≥4294967296^1:=Nat.pow_le_pow_right (by decide) (by omega)
      omega)
    ·rw [if_neg hd] at h3;exact h3.mono (by omega)
 | [],hl=>have:=hl.1;simp at this
 | [_],hl=>have:=hl.1;simp at this
 | [_,_],hl=>have:=hl.1;simp at this
 | _::_::_::_::_,hl=>have:=hl.1;simp at this
theorem nm_cv {W0:World} {μ:Nat→Nat×Nat} {sz:Nat→Nat} {w:World} {v:Value} {j:Nat} {x:Rat} (h:RatV w v x) (hs:RSz j x):cv W0 μ sz w v (nm j x):=by
 obtain ⟨num,den,rfl,h1,h2⟩:=h
 refine ⟨[.bool (decide (x.num<0)),num,den],rfl,rfl,fun i a c ha hc=>?_⟩
 match i with
 | 0=>simp at ha hc;subst ha;subst hc;exact ⟨rfl,Nat.zero_le _⟩
 | 1=>simp at ha hc;subst ha;subst hc;exact ⟨h1,hs.1⟩
 | 2=>
   simp at ha hc
   subst ha;subst hc
   refine ⟨h2,?_⟩
   unfold dnOf
   by_cases hd:x.den=1
   ·rw [if_pos hd];simp [toL]
   ·rw [if_neg hd];exact hs.2
 | i+3=>simp at ha
abbrev Amb:World→Prop:=Tz
theorem Tz.ext {w w':World} (h:Tz w) (k:Ext w w'):Tz w':=⟨fun j hj=>k.cell (h.t32 j hj),fun j hj=>k.cell (h.t64 j hj)⟩
instance:MonoA Amb:=⟨fun h k=>Tz.ext h k⟩
theorem two_args {W0:World} {μ:Nat→Nat×Nat} {sz:Nat→Nat} {w:World} {vs:List Value} {a b:AV} (h:All2 (cv W0 μ sz w) vs [a,b]): ∃u v,vs= [u,v]∧cv W0 μ sz w u a∧cv W0 μ sz w v b:=by
 match vs,h with
 | [u,v],h=>exact ⟨u,v,rfl,h.2 0 _ _ rfl rfl,h.2 1 _ _ rfl rfl⟩
 | [],h=>have:=h.1;simp at this
 | [_],h=>have:=h.1;simp at this
 | _::_::_::_,h=>have:=h.1;simp at this
theorem one_arg {W0:World} {μ:Nat→Nat×Nat} {sz:Nat→Nat} {w:World} {vs:List Value} {a:AV} (h:All2 (cv W0 μ sz w) vs [a]): ∃u,vs= [u]∧cv W0 μ sz w u a:=by
 match vs,h with
 | [u],h=>exact ⟨u,rfl,h.2 0 _ _ rfl rfl⟩
 | [],h=>have:=h.1;simp at this
 | _::_::_,h=>have:=h.1;simp at this
theorem ctr_2 {f:FuncId} {a b R:AV} (h: ∀W0 μ sz w u v,Tz w→cv W0 μ sz w u a→cv W0 μ sz w v b→Calls Tryz.prog f #[u,v] w fun e w'=> ∃r,e= .returned r∧Kp w w'∧cv W0 μ sz w' r R):Ctr Tryz.prog Amb f [a,b] R:=by
 intro W0 w μ sz vs hA hk _ _ hv
 obtain ⟨u,v,rfl,hu,hv⟩:=two_args hv
 exact (h W0 μ sz w u v (Tz.ext hA hk) hu hv).mono fun e w' ⟨r,h1,h2,h3⟩=>⟨r,W0,h1,.of_kp h2,.of_kp hk h2,h3,fun p hp=>by cases hp⟩
theorem ctr_1 {f:FuncId} {a R:AV} (h: ∀W0 μ sz w u,Tz w→cv W0 μ sz w u a→Calls Tryz.prog f #[u] w fun e w'=> ∃r,e= .returned r∧Kp w w'∧cv W0 μ sz w' r R):Ctr Tryz.prog Amb f [a] R:=by
 intro W0 w μ sz vs hA hk _ _ hv
 obtain ⟨u,rfl,hu⟩:=one_arg hv
 exact (h W0 μ sz w u (Tz.ext hA hk) hu).mono fun e w' ⟨r,h1,h2,h3⟩=>⟨r,W0,h1,.of_kp h2,.of_kp hk h2,h3,fun p hp=>by cases hp⟩
theorem ctr_qq {f:FuncId} {j k n:Nat} {x y z:Rat} (h: ∀w u v,Tz w→RatV w u x→RSz (j+1) x→RatV w v y→RSz (k+1) y→Calls Tryz.prog f #[u,v] w fun e w'=> ∃r,e= .returned r∧RatV w' r z∧Kp w w') (hz:RSz (j+1) x→RSz (k+1) y→RSz n z):Ctr Tryz.prog Amb f [nm j x,nm k y] (nm n z):=
 ctr_2 fun W0 μ sz w u v ht hu hv=>by
  obtain ⟨h1,h2⟩:=cv_nm hu
  obtain ⟨h3,h4⟩:=cv_nm hv
  exact (h w u v ht h1 h2 h3 h4).mono fun e w' ⟨r,k1,k2,k3⟩=>⟨r,k1,k3,nm_cv k2 (hz h2 h4)⟩
theorem ctr_qqv {f:FuncId} {j k:Nat} {x y:Rat} {v:Value} (h: ∀w u v',Tz w→RatV w u x→RSz (j+1) x→RatV w v' y→RSz (k+1) y→Calls Tryz.prog f #[u,v'] w fun e w'=>e= .returned v∧Kp w w'):Ctr Tryz.prog Amb f [nm j x,nm k y] (.one (.v v)):=
 ctr_2 fun W0 μ sz w u v' ht hu hv=>by
  obtain ⟨h1,h2⟩:=cv_nm hu
  obtain ⟨h3,h4⟩:=cv_nm hv
  exact (h w u v' ht h1 h2 h3 h4).mono fun e w' ⟨k1,k2⟩=>⟨v,k1,k2,rfl⟩
theorem ctr_qv {f:FuncId} {j:Nat} {x:Rat} {v:Value} (h: ∀w u,Tz w→RatV w u x→RSz (j+1) x→Calls Tryz.prog f #[u] w fun e w'=>e= .returned v∧Kp w w'):Ctr Tryz.prog Amb f [nm j x] (.one (.v v)):=
 ctr_1 fun W0 μ sz w u ht hu=>by
  obtain ⟨h1,h2⟩:=cv_nm hu
  exact (h w u ht h1 h2).mono fun e w' ⟨k1,k2⟩=>⟨v,k1,k2,rfl⟩
theorem ctr_vv {f:FuncId} {n:Nat} {a b:Value} {z:Rat} (h: ∀w,Tz w→Calls Tryz.prog f #[a,b] w fun e w'=> ∃r,e= .returned r∧RatV w' r z∧Kp w w') (hz:RSz n z):Ctr Tryz.prog Amb f [.one (.v a),.one (.v b)] (nm n z):=
 ctr_2 fun W0 μ sz w u v ht hu hv=>by
  cases hu
  cases hv
  exact (h w ht).mono fun e w' ⟨r,k1,k2,k3⟩=>⟨r,k1,k3,nm_cv k2 hz⟩
theorem ctr_v {f:FuncId} {n:Nat} {a:Value} {z:Rat} (h: ∀w,Tz w→Calls Tryz.prog f #[a] w fun e w'=> ∃r,e= .returned r∧RatV w' r z∧Kp w w') (hz:RSz n z):Ctr Tryz.prog Amb f [.one (.v a)] (nm n z):=
 ctr_1 fun W0 μ sz w u ht hu=>by
  cases hu
  exact (h w ht).mono fun e w' ⟨r,k1,k2,k3⟩=>⟨r,k1,k3,nm_cv k2 hz⟩
theorem rsz_cast (n:Int) (h1: -9223372036854775808≤n) (h2:n<9223372036854775808):RSz 2 (n:Rat):=by
 have e:(n:Rat)=mkRat n 1:=by rw [Rat.mkRat_one]
 rw [e]
 exact RSz.of_mkRat (length_toL_le _ _ (by omega)) (length_toL_le _ _ (by omega)) (by decide)
theorem rsz_rof {neg:Bool} {n d j:Nat} (h:Sz j n) (h2:Sz j d) (h0:d≠0):RSz j (ratOf neg n d):=by
 unfold ratOf
 exact RSz.of_mkRat (by unfold sg;split<;>simpa using h) h2 h0
def mn (x y:Rat):Rat:=if cmpR x y≤0 then x else y
def mx (x y:Rat):Rat:=if 0≤cmpR x y then x else y
section
variable {j k:Nat} {x y:Rat}
theorem c_add (hj:j≤100000000) (hk:k≤100000000):Ctr Tryz.prog Amb 69 [nm j x,nm k y] (nm (j+k+3) (x+y)):=
 ctr_qq (fun w u v ht hu hs hv hs2=>qadd_any hu hv hs hs2 (by omega) (by omega) ht) fun h h2=>(h.add h2).mono (by omega)
theorem c_mul (hj:j≤100000000) (hk:k≤100000000):Ctr Tryz.prog Amb 75 [nm j x,nm k y] (nm (j+k+2) (x*y)):=
 ctr_qq (fun w u v ht hu hs hv hs2=>qmul_any hu hv hs hs2 (by omega) (by omega) ht) fun h h2=>(h.mul h2).mono (by omega)
theorem c_cmp (hj:j≤100000000) (hk:k≤100000000):Ctr Tryz.prog Amb 55 [nm j x,nm k y] (.one (.v (.int .i64 (cmpR x y)))):=
 ctr_qqv fun w u v ht hu hs hv hs2=>qcmp_any hu hv hs hs2 (by omega) (by omega) ht
theorem c_same:Ctr Tryz.prog Amb 60 [nm j x,nm k y] (.one (.v (.bool (decide (x=y))))):=
 ctr_qqv fun w u v ht hu hs hv hs2=>rsame_any hu hv
theorem r_add (hj:j≤100000000) (hk:k≤100000000):Ctr Tryz.prog Amb 45 [nm j x,nm k y] (nm (j+k+3) (x+y)):=
 ctr_qq (fun w u v ht hu hs hv hs2=>rqadd_any hu hv hs hs2 (by omega) (by omega)) fun h h2=>(h.add h2).mono (by omega)
theorem r_cmp (hj:j≤100000000) (hk:k≤100000000):Ctr Tryz.prog Amb 33 [nm j x,nm k y] (.one (.v (.int .i64 (cmpR x y)))):=
 ctr_qqv fun w u v ht hu hs hv hs2=>rqcmp_any hu hv hs hs2 (by omega) (by omega)
theorem r_same:Ctr Tryz.prog Amb 34 [nm j x,nm k y] (.one (.v (.bool (decide (x=y))))):=
 ctr_qqv fun w u v ht hu hs hv hs2=>rqsame_any hu hv
theorem r_int {n:Int} (h:(decide (-9223372036854775808≤n)&&decide (n<9223372036854775808))=true):Ctr Tryz.prog Amb 19 [.one (.v (.int .i64 n))] (nm 2 (n:Rat)):=by
 simp only [Bool.and_eq_true,decide_eq_true_eq] at h
 exact ctr_v (fun w ht=>rqint_any n h.1 h.2) (rsz_cast n h.1 h.2)
theorem r_frac {n d:Int} (h:(decide (-9223372036854775808≤n)&&decide (n<9223372036854775808)&&decide (1≤d)&&decide (d<9223372036854775808))=true):Ctr Tryz.prog Amb 57 [.one (.v (.int .i64 n)),.one (.v (.int .i64 d))] (nm 2 ((n:Rat)/(d:Rat))):=by
 simp only [Bool.and_eq_true,decide_eq_true_eq] at h
 obtain ⟨⟨⟨h1,h2⟩,h3⟩,h4⟩:=h
 have e:ratOf (decide (n<0) !=decide (d<0)) n.natAbs d.natAbs=(n:Rat)/(d:Rat):=by
  rw [decide_eq_false (show ¬d<0 by omega),Bool.bne_false]
  unfold ratOf
  rw [sg_self,Rat.mkRat_eq_div]
  congr 1
  have:((d.natAbs:Nat):Int)=d:=by omega
  rw [←Rat.intCast_natCast,this]
 rw [←e]
 exact ctr_vv (fun w ht=>rqfrac_any n d h1 h2 (by omega) h4 (by omega)) (rsz_rof (length_toL_le _ _ (by omega)) (length_toL_le _ _ (by omega)) (by omega))
theorem r_text (hj:j≤100000):Ctr Tryz.prog Amb 49 [nm j x] (.one (.v (.string ⟨(textR x).toArray⟩))):=
 ctr_qv fun w u ht hu hs=>rqtext_any hu hs (by omega)
end
end Go.Proofs.YtkmalkcgkcpcmaaGreatDoor
