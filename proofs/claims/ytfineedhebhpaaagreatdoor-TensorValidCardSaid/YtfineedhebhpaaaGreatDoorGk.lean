/-
  Several texts in one: Ek.
-/
import Derived.Test.YtfineedhebhpaaaGreatDoorGy
import Derived.Test.YtfineedhebhpaaaGreatDoorBn
import Derived.Test.YtfineedhebhpaaaGreatDoorBo
import Derived.Test.YtfineedhebhpaaaGreatDoorBy
import Derived.Test.YtfineedhebhpaaaGreatDoorBc
import Derived.Test.YtfineedhebhpaaaGreatDoorBb
import Derived.Test.YtfineedhebhpaaaGreatDoorBm
import Derived.Test.YtfineedhebhpaaaGreatDoorBk
import Derived.Test.YtfineedhebhpaaaGreatDoorBp
import Derived.Test.YtfineedhebhpaaaGreatDoorBu
import Derived.Test.YtfineedhebhpaaaGreatDoorBs
import Derived.Test.YtfineedhebhpaaaGreatDoorBr
import Derived.Test.YtfineedhebhpaaaGreatDoorBt
import Derived.Test.YtfineedhebhpaaaGreatDoorRq5
import Derived.Test.YtfineedhebhpaaaGreatDoorRq7
import Derived.Test.YtfineedhebhpaaaGreatDoorBq
import Derived.Test.YtfineedhebhpaaaGreatDoorGr
namespace Go.Proofs.YtfineedhebhpaaaGreatDoor
open Go.RowKit
set_option linter.unusedVariables false
set_option linter.unusedSimpArgs false
abbrev nmC (j:Nat) (x:Rat):List C:= [.q x j 0,.q x j 1,.q x j 2]
abbrev nm (j:Nat) (x:Rat):AV:= .agg [.q x j 0,.q x j 1,.q x j 2]
theorem II {W0:World} {μ:Nat→Nat×Nat} {sz:Nat→Nat} {w:World} {v:Value} {j:Nat} {x:Rat} (h:cv W0 μ sz w v (nm j x)):Ax w v x∧RSz (j+1) x:=by
 obtain ⟨l,rfl,hl⟩:=h
 match l,hl with
 | [a,b,c],hl=>
   have h0:=hl.2 0 _ _ rfl rfl
   have h1:=hl.2 1 _ _ rfl rfl
   have h2:=hl.2 2 _ _ rfl rfl
   obtain ⟨e,_⟩:=h0
   subst e
   refine ⟨⟨b,c,rfl,h1.1,h2.1⟩,?_,?_⟩
   ·exact (show Sz j _ from h1.2).mono (by omega)
   ·have h3:Sz j (JW x):=h2.2
    unfold JW at h3
    by_cases hd:x.den=1
    ·rw [hd];exact Al _ _ (by
      have:(4294967296:Nat)^(j+1)≥4294967296^1:=Nat.pow_le_pow_right (by decide) (by omega)
      omega)
    ·rw [if_neg hd] at h3;exact h3.mono (by omega)
 | [],hl=>have:=hl.1;simp at this
 | [_],hl=>have:=hl.1;simp at this
 | [_,_],hl=>have:=hl.1;simp at this
 | _::_::_::_::_,hl=>have:=hl.1;simp at this
theorem ND {W0:World} {μ:Nat→Nat×Nat} {sz:Nat→Nat} {w:World} {v:Value} {j:Nat} {x:Rat} (h:Ax w v x) (hs:RSz j x):cv W0 μ sz w v (nm j x):=by
 obtain ⟨num,den,rfl,h1,h2⟩:=h
 refine ⟨[.bool (decide (x.num<0)),num,den],rfl,rfl,fun i a c ha hc=>?_⟩
 match i with
 | 0=>simp at ha hc;subst ha;subst hc;exact ⟨rfl,Nat.zero_le _⟩
 | 1=>simp at ha hc;subst ha;subst hc;exact ⟨h1,hs.1⟩
 | 2=>
   simp at ha hc
   subst ha;subst hc
   refine ⟨h2,?_⟩
   unfold JW
   by_cases hd:x.den=1
   ·rw [if_pos hd];simp [toL]
   ·rw [if_neg hd];exact hs.2
 | i+3=>simp at ha
abbrev Amb:World→Prop:=Tz
theorem Tz.ext {w w':World} (h:Tz w) (k:Ext w w'):Tz w':=⟨fun j hj=>k.cell (h.t32 j hj),fun j hj=>k.cell (h.t64 j hj)⟩
instance:MonoA Amb:=⟨fun h k=>Tz.ext h k⟩
theorem SQ {W0:World} {μ:Nat→Nat×Nat} {sz:Nat→Nat} {w:World} {vs:List Value} {a b:AV} (h:B5 (cv W0 μ sz w) vs [a,b]): ∃u v,vs= [u,v]∧cv W0 μ sz w u a∧cv W0 μ sz w v b:=by
 match vs,h with
 | [u,v],h=>exact ⟨u,v,rfl,h.2 0 _ _ rfl rfl,h.2 1 _ _ rfl rfl⟩
 | [],h=>have:=h.1;simp at this
 | [_],h=>have:=h.1;simp at this
 | _::_::_::_,h=>have:=h.1;simp at this
theorem VP {W0:World} {μ:Nat→Nat×Nat} {sz:Nat→Nat} {w:World} {vs:List Value} {a:AV} (h:B5 (cv W0 μ sz w) vs [a]): ∃u,vs= [u]∧cv W0 μ sz w u a:=by
 match vs,h with
 | [u],h=>exact ⟨u,rfl,h.2 0 _ _ rfl rfl⟩
 | [],h=>have:=h.1;simp at this
 | _::_::_,h=>have:=h.1;simp at this
theorem QK {f:FuncId} {a b R:AV} (h: ∀W0 μ sz w u v,Tz w→cv W0 μ sz w u a→cv W0 μ sz w v b→Calls Tryz.prog f #[u,v] w fun e w'=> ∃r,e= .returned r∧Kp w w'∧cv W0 μ sz w' r R):Ctr Tryz.prog Amb f [a,b] R:=by
 intro W0 w μ sz vs hA hk _ _ hv
 obtain ⟨u,v,rfl,hu,hv⟩:=SQ hv
 exact (h W0 μ sz w u v (Tz.ext hA hk) hu hv).mono fun e w' ⟨r,h1,h2,h3⟩=>⟨r,W0,h1,.of_kp h2,.of_kp hk h2,h3,fun p hp=>by cases hp⟩
theorem QL {f:FuncId} {a R:AV} (h: ∀W0 μ sz w u,Tz w→cv W0 μ sz w u a→Calls Tryz.prog f #[u] w fun e w'=> ∃r,e= .returned r∧Kp w w'∧cv W0 μ sz w' r R):Ctr Tryz.prog Amb f [a] R:=by
 intro W0 w μ sz vs hA hk _ _ hv
 obtain ⟨u,rfl,hu⟩:=VP hv
 exact (h W0 μ sz w u (Tz.ext hA hk) hu).mono fun e w' ⟨r,h1,h2,h3⟩=>⟨r,W0,h1,.of_kp h2,.of_kp hk h2,h3,fun p hp=>by cases hp⟩
theorem GX {f:FuncId} {j k n:Nat} {x y z:Rat} (h: ∀w u v,Tz w→Ax w u x→RSz (j+1) x→Ax w v y→RSz (k+1) y→Calls Tryz.prog f #[u,v] w fun e w'=> ∃r,e= .returned r∧Ax w' r z∧Kp w w') (hz:RSz (j+1) x→RSz (k+1) y→RSz n z):Ctr Tryz.prog Amb f [nm j x,nm k y] (nm n z):=
 QK fun W0 μ sz w u v ht hu hv=>by
  obtain ⟨h1,h2⟩:=II hu
  obtain ⟨h3,h4⟩:=II hv
  exact (h w u v ht h1 h2 h3 h4).mono fun e w' ⟨r,k1,k2,k3⟩=>⟨r,k1,k3,ND k2 (hz h2 h4)⟩
theorem Ya {f:FuncId} {j n:Nat} {x z:Rat} (h: ∀w u,Tz w→Ax w u x→RSz (j+1) x→Calls Tryz.prog f #[u] w fun e w'=> ∃r,e= .returned r∧Ax w' r z∧Kp w w') (hz:RSz (j+1) x→RSz n z):Ctr Tryz.prog Amb f [nm j x] (nm n z):=
 QL fun W0 μ sz w u ht hu=>by
  obtain ⟨h1,h2⟩:=II hu
  exact (h w u ht h1 h2).mono fun e w' ⟨r,k1,k2,k3⟩=>⟨r,k1,k3,ND k2 (hz h2)⟩
theorem QJ {f:FuncId} {j k:Nat} {x y:Rat} {v:Value} (h: ∀w u v',Tz w→Ax w u x→RSz (j+1) x→Ax w v' y→RSz (k+1) y→Calls Tryz.prog f #[u,v'] w fun e w'=>e= .returned v∧Kp w w'):Ctr Tryz.prog Amb f [nm j x,nm k y] (.one (.v v)):=
 QK fun W0 μ sz w u v' ht hu hv=>by
  obtain ⟨h1,h2⟩:=II hu
  obtain ⟨h3,h4⟩:=II hv
  exact (h w u v' ht h1 h2 h3 h4).mono fun e w' ⟨k1,k2⟩=>⟨v,k1,k2,rfl⟩
theorem PH {f:FuncId} {j:Nat} {x:Rat} {v:Value} (h: ∀w u,Tz w→Ax w u x→RSz (j+1) x→Calls Tryz.prog f #[u] w fun e w'=>e= .returned v∧Kp w w'):Ctr Tryz.prog Amb f [nm j x] (.one (.v v)):=
 QL fun W0 μ sz w u ht hu=>by
  obtain ⟨h1,h2⟩:=II hu
  exact (h w u ht h1 h2).mono fun e w' ⟨k1,k2⟩=>⟨v,k1,k2,rfl⟩
theorem Xw {f:FuncId} {n:Nat} {a b:Value} {z:Rat} (h: ∀w,Tz w→Calls Tryz.prog f #[a,b] w fun e w'=> ∃r,e= .returned r∧Ax w' r z∧Kp w w') (hz:RSz n z):Ctr Tryz.prog Amb f [.one (.v a),.one (.v b)] (nm n z):=
 QK fun W0 μ sz w u v ht hu hv=>by
  cases hu
  cases hv
  exact (h w ht).mono fun e w' ⟨r,k1,k2,k3⟩=>⟨r,k1,k3,ND k2 hz⟩
theorem WF {f:FuncId} {n:Nat} {a:Value} {z:Rat} (h: ∀w,Tz w→Calls Tryz.prog f #[a] w fun e w'=> ∃r,e= .returned r∧Ax w' r z∧Kp w w') (hz:RSz n z):Ctr Tryz.prog Amb f [.one (.v a)] (nm n z):=
 QL fun W0 μ sz w u ht hu=>by
  cases hu
  exact (h w ht).mono fun e w' ⟨r,k1,k2,k3⟩=>⟨r,k1,k3,ND k2 hz⟩
theorem Eo (n:Int) (h1: -9223372036854775808≤n) (h2:n<9223372036854775808):RSz 2 (n:Rat):=by
 have e:(n:Rat)=mkRat n 1:=by rw [Rat.mkRat_one]
 rw [e]
 exact RSz.of_mkRat (Al _ _ (by omega)) (Al _ _ (by omega)) (by decide)
theorem TB {k:Nat} {x:Rat} (h:RSz k x):RSz k x⁻¹:=by
 constructor
 ·rw [Rat.num_inv,Int.natAbs_mul]
  refine h.2.le ?_
  have h1:x.num.sign.natAbs≤1:=by
   rcases Int.lt_trichotomy x.num 0 with h|h|h
   ·rw [Int.sign_eq_neg_one_of_neg h];decide
   ·rw [h];decide
   ·rw [Int.sign_eq_one_of_pos h];decide
  have h2:((x.den:Int)).natAbs=x.den:=rfl
  rw [h2]
  calc x.num.sign.natAbs*x.den≤1*x.den:=Nat.mul_le_mul_right _ h1
   _=x.den:=Nat.one_mul _
 ·rw [Rat.den_inv]
  split
  ·exact h.2.le (Nat.one_le_iff_ne_zero.2 x.den_nz)
  ·exact h.1
theorem He {j k:Nat} {x y:Rat} (h:RSz j x) (h2:RSz k y) (h0:y≠0):RSz (j+k) (x/y):=by
 rw [Rat.div_def];exact h.mul (TB h2)
theorem VG {neg:Bool} {n d j:Nat} (h:Sz j n) (h2:Sz j d) (h0:d≠0):RSz j (AE neg n d):=by
 unfold AE
 exact RSz.of_mkRat (by unfold sg;split<;>simpa using h) h2 h0
def mn (x y:Rat):Rat:=if Yc x y≤0 then x else y
def mx (x y:Rat):Rat:=if 0≤Yc x y then x else y
section
variable {j k:Nat} {x y:Rat}
theorem Ye (hj:j≤100000000) (hk:k≤100000000):Ctr Tryz.prog Amb 144 [nm j x,nm k y] (nm (j+k+3) (x+y)):=
 GX (fun w u v ht hu hs hv hs2=>TN hu hv hs hs2 (by omega) (by omega) ht) fun h h2=>(h.add h2).mono (by omega)
theorem Li (hj:j≤100000000) (hk:k≤100000000):Ctr Tryz.prog Amb 146 [nm j x,nm k y] (nm (j+k+3) (x-y)):=
 GX (fun w u v ht hu hs hv hs2=>TL hu hv hs hs2 (by omega) (by omega) ht) fun h h2=>(h.sub h2).mono (by omega)
theorem GJ (hj:j≤100000000) (hk:k≤100000000):Ctr Tryz.prog Amb 105 [nm j x,nm k y] (nm (j+k+2) (x*y)):=
 GX (fun w u v ht hu hs hv hs2=>TM hu hv hs hs2 (by omega) (by omega) ht) fun h h2=>(h.mul h2).mono (by omega)
theorem Xz:Ctr Tryz.prog Amb 135 [nm j x,nm k y] (.one (.v (.bool (decide (x=y))))):=
 QJ fun w u v ht hu hs hv hs2=>RE hu hv
theorem Wj (hj:j≤16):Ctr Tryz.prog Amb 162 [nm j x] (.one (.v (.bool true))):=
 PH fun w u ht hu hs=>Pe hu (hs.mono (by omega)) ht
theorem US {n:Int} (h:(decide (-9223372036854775808≤n)&&decide (n<9223372036854775808))=true):Ctr Tryz.prog Amb 168 [.one (.v (.int .i64 n))] (nm 2 (n:Rat)):=by
 simp only [Bool.and_eq_true,decide_eq_true_eq] at h
 exact WF (fun w ht=>Nr n h.1 h.2 ht) (Eo n h.1 h.2)
theorem Yd (hj:j≤100000000) (hk:k≤100000000) (h0:y≠0):Ctr Tryz.prog Amb 148 [nm j x,nm k y] (.tup [nm (j+k+2) (x/y),.one (.v (.int .i64 0))]):=
 QK fun W0 μ sz w u v ht hu hv=>by
  obtain ⟨h1,h2⟩:=II hu
  obtain ⟨h3,h4⟩:=II hv
  refine (TJ h1 h3 h2 h4 (by omega) (by omega) h0 ht).mono ?_
  rintro e w' ⟨r,rfl,k2,k3⟩
  refine ⟨_,rfl,k3,[r,.int .i64 0],rfl,rfl,fun i a b ha hb=>?_⟩
  match i with
  | 0=>simp at ha hb;subst ha;subst hb;exact ND k2 ((He h2 h4 h0).mono (by omega))
  | 1=>simp at ha hb;subst ha;subst hb;rfl
  | i+2=>simp at ha
theorem XR (hj:j≤100000000) (hk:k≤100000000):Ctr Tryz.prog Amb 114 [nm j x,nm k y] (nm (j+k+3) (x+y)):=
 GX (fun w u v ht hu hs hv hs2=>KF hu hv hs hs2 (by omega) (by omega)) fun h h2=>(h.add h2).mono (by omega)
theorem Qk (hj:j≤100000000) (hk:k≤100000000):Ctr Tryz.prog Amb 129 [nm j x,nm k y] (nm (j+k+3) (x-y)):=
 GX (fun w u v ht hu hs hv hs2=>RF hu hv hs hs2 (by omega) (by omega)) fun h h2=>(h.sub h2).mono (by omega)
theorem XQ (hj:j≤100000000) (hk:k≤100000000):Ctr Tryz.prog Amb 54 [nm j x,nm k y] (nm (j+k+2) (x*y)):=
 GX (fun w u v ht hu hs hv hs2=>RH hu hv hs hs2 (by omega) (by omega)) fun h h2=>(h.mul h2).mono (by omega)
theorem LN:Ctr Tryz.prog Amb 18 [nm j x,nm k y] (.one (.v (.bool (decide (x=y))))):=
 QJ fun w u v ht hu hs hv hs2=>OR hu hv
theorem Ql {n:Int} (h:(decide (-9223372036854775808≤n)&&decide (n<9223372036854775808))=true):Ctr Tryz.prog Amb 59 [.one (.v (.int .i64 n))] (nm 2 (n:Rat)):=by
 simp only [Bool.and_eq_true,decide_eq_true_eq] at h
 exact WF (fun w ht=>RI n h.1 h.2) (Eo n h.1 h.2)
theorem Pd {n d:Int} (h:(decide (-9223372036854775808≤n)&&decide (n<9223372036854775808)&&decide (1≤d)&&decide (d<9223372036854775808))=true):Ctr Tryz.prog Amb 78 [.one (.v (.int .i64 n)),.one (.v (.int .i64 d))] (nm 2 ((n:Rat)/(d:Rat))):=by
 simp only [Bool.and_eq_true,decide_eq_true_eq] at h
 obtain ⟨⟨⟨h1,h2⟩,h3⟩,h4⟩:=h
 have e:AE (decide (n<0) !=decide (d<0)) n.natAbs d.natAbs=(n:Rat)/(d:Rat):=by
  rw [decide_eq_false (show ¬d<0 by omega),Bool.bne_false]
  unfold AE
  rw [IW,Rat.mkRat_eq_div]
  congr 1
  have:((d.natAbs:Nat):Int)=d:=by omega
  rw [←Rat.intCast_natCast,this]
 rw [←e]
 exact Xw (fun w ht=>OV n d h1 h2 (by omega) h4 (by omega)) (VG (Al _ _ (by omega)) (Al _ _ (by omega)) (by omega))
theorem Xh (hj:j≤100000000) (hk:k≤100000000) (h0:y≠0):Ctr Tryz.prog Amb 111 [nm j x,nm k y] (nm (j+k+2) (x/y)):=
 GX (fun w u v ht hu hs hv hs2=>OT hu hv hs hs2 (by omega) (by omega) h0) fun h h2=>(He h h2 h0).mono (by omega)
theorem Xg (hj:j≤100000):Ctr Tryz.prog Amb 79 [nm j x] (.one (.v (.string ⟨(P7 x).toArray⟩))):=
 PH fun w u ht hu hs=>OQ hu hs (by omega)
end
end Go.Proofs.YtfineedhebhpaaaGreatDoor
