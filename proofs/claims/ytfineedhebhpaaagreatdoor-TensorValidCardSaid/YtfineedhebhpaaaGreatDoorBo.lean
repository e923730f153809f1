/-
  Several texts in one: Qu, Q3, Qz, Q7.
-/
import Derived.Test.YtfineedhebhpaaaGreatDoorBy
import Derived.Test.YtfineedhebhpaaaGreatDoorBm
import Derived.Test.YtfineedhebhpaaaGreatDoorBl
import Derived.Test.YtfineedhebhpaaaGreatDoorBk
import Derived.Test.YtfineedhebhpaaaGreatDoorBn
import Derived.Test.YtfineedhebhpaaaGreatDoorBc
namespace Go.Proofs.YtfineedhebhpaaaGreatDoor
open Lib renaming hid→Yt
set_option maxHeartbeats 16000000
open Go.RowKit
set_option maxRecDepth 20000 in
theorem NI {w:World} {neg:Bool} {u num den:Value} {x:Rat} {n d:Nat} (hu:Ax w u x) (hn:M w num n) (hd:M w den d) (hd0:d≠0) (hc:Nat.gcd n d=1) {j k:Nat} (hs:RSz j x) (h1:Sz k n) (h2:Sz k d) (hj:j≤1073741824) (hk:k≤1073741824) (hT:Tz w):
  Calls Tryz.prog 179 #[.bool neg,u,num,den] w fun e w'=> ∃r,e= .returned r∧Ax w' r (AE neg (x.num.natAbs*n) (x.den*d))∧Kp w w':=by
 obtain ⟨a1,l1,c1,a2,l2,c2,rfl,m1,m2⟩:=hu.parts
 have HT:=Yt (One.new w (.bool (decide (x.num<0))) (.slice a1 l1 c1) (.slice a2 l2 c2))
 have g1:Nat.gcd x.num.natAbs d≠0:=Nat.ne_of_gt (Nat.gcd_pos_of_pos_right _ (Nat.pos_of_ne_zero hd0))
 have g2:Nat.gcd n x.den≠0:=Nat.ne_of_gt (Nat.gcd_pos_of_pos_right _ (Nat.pos_of_ne_zero x.den_nz))
 have hden:x.den/Nat.gcd n x.den*(d/Nat.gcd x.num.natAbs d)≠0:=Nat.mul_ne_zero (Nat.ne_of_gt (Nat.div_pos (Nat.le_of_dvd (Nat.pos_of_ne_zero x.den_nz) (Nat.gcd_dvd_right _ _)) (Nat.pos_of_ne_zero g2))) (Nat.ne_of_gt (Nat.div_pos (Nat.le_of_dvd (Nat.pos_of_ne_zero hd0) (Nat.gcd_dvd_right _ _)) (Nat.pos_of_ne_zero g1)))
 have hcop:=LW (na:=x.num.natAbs) (nb:=n) x.reduced hc x.den_nz hd0
 have hlow:=TV neg (na:=x.num.natAbs) (nb:=n) x.den_nz hd0
 have SGA:Sz j (x.num.natAbs/Nat.gcd x.num.natAbs d):=hs.1.le (Nat.div_le_self _ _)
 have SGN:Sz k (n/Nat.gcd n x.den):=h1.le (Nat.div_le_self _ _)
 have SGB:Sz j (x.den/Nat.gcd n x.den):=hs.2.le (Nat.div_le_self _ _)
 have SGD:Sz k (d/Nat.gcd x.num.natAbs d):=h2.le (Nat.div_le_self _ _)
 have CSA:=Yt (fun w' (a:M w' (.slice a1 l1 c1) x.num.natAbs) (b:M w' (.slice a2 l2 c2) (AX x))=>EK (s:=decide (x.num<0)) a b)
 have CSB:=Yt (fun w' (a:M w' num n) (b:M w' den d)=>EK (s:=false) a b)
 have CDA:=Yt (fun w' (a:M w' (.slice a1 l1 c1) x.num.natAbs) (b:M w' (.slice a2 l2 c2) (AX x))=>JZ (s:=decide (x.num<0)) a b)
 have CG1:=Yt (fun w' v1 v2 (a:M w' v1 x.num.natAbs) (b:M w' v2 d) (t:Tz w')=>EA a b (by have:=hs.1;unfold Sz at this;omega) (by unfold Sz at h2;omega) t)
 have CG2:=Yt (fun w' v1 v2 (a:M w' v1 n) (b:M w' v2 x.den) (t:Tz w')=>EA a b (by unfold Sz at h1;omega) (by have:=hs.2;unfold Sz at this;omega) t)
 have CW1:=Yt (fun w' v1 v2 (a:M w' v1 x.num.natAbs) (b:M w' v2 (Nat.gcd x.num.natAbs d)) (t:Tz w')=>CE a b (by have:=hs.1;unfold Sz at this;omega) g1 t)
 have CW2:=Yt (fun w' v1 v2 (a:M w' v1 n) (b:M w' v2 (Nat.gcd n x.den)) (t:Tz w')=>CE a b (by unfold Sz at h1;omega) g2 t)
 have CW3:=Yt (fun w' v1 v2 (a:M w' v1 x.den) (b:M w' v2 (Nat.gcd n x.den)) (t:Tz w')=>CE a b (by have:=hs.2;unfold Sz at this;omega) g2 t)
 have CW4:=Yt (fun w' v1 v2 (a:M w' v1 d) (b:M w' v2 (Nat.gcd x.num.natAbs d)) (t:Tz w')=>CE a b (by unfold Sz at h2;omega) g1 t)
 have CT1:=Yt (fun w' v1 v2 (a:M w' v1 (x.num.natAbs/Nat.gcd x.num.natAbs d)) (b:M w' v2 (n/Nat.gcd n x.den))=>Ff a b SGA SGN (by omega) (by omega))
 have CT2:=Yt (fun w' v1 v2 (a:M w' v1 (x.den/Nat.gcd n x.den)) (b:M w' v2 (d/Nat.gcd x.num.natAbs d))=>Ff a b SGB SGD (by omega) (by omega))
 have SP1:Sz (j+k) _:=SGA.mul SGN
 have SP2:Sz (j+k) _:=SGB.mul SGD
 have COW:=Yt (fun w' v1 v2 (a:M w' v1 (x.num.natAbs/Nat.gcd x.num.natAbs d*(n/Nat.gcd n x.den))) (b:M w' v2 (x.den/Nat.gcd n x.den*(d/Nat.gcd x.num.natAbs d)))=>Gx (neg:=neg) a b hden hcop (by unfold Sz at SP1;omega) (by unfold Sz at SP2;omega))
 rw [hlow] at COW
 have CTS:=Yt (fun w'=>Km (decide (x.num<0)) false x.num.natAbs x.den n d (w:=w'))
 have CRA:=Yt (fun k l hk hl h0 w' (t:Tz w')=>LM neg k l hk hl h0 w' t)
 unfold Cx at CSA CSB CTS CRA
 have HM1:=Yt m1
 have HM2:=Yt m2
 have HMN:=Yt hn
 have HMD:=Yt hd
 have HTZ:=Yt hT
 have HD0:=Yt hd0
 have HDB:(if d=0 then 1 else d)=d:=if_neg hd0
 have HXD:=Yt (Eu x)
 have HLD0:=Yt (Nat.mul_ne_zero x.den_nz hd0)
 obtain ⟨p,hp⟩: ∃p,p=decide (x.num<0):=⟨_,rfl⟩
 rw [←hp] at HT CSA CDA CTS⊢
 rw [HDB] at CSB
 rw [HXD.out] at CSA
 have HDL:=Yt HDB
 obtain ⟨no,nl,nc,rfl⟩:=BQ hn
 obtain ⟨eo,el,ec,rfl⟩:=BQ hd
 obtain ⟨N,hN⟩: ∃N,N=x.num.natAbs:=⟨_,rfl⟩
 obtain ⟨D,hD⟩: ∃D,D=x.den:=⟨_,rfl⟩
 rw [←hN] at HM1 CSA CDA CG1 CW1 CT1 CT2 CW4 COW CTS⊢
 rw [←hD] at CSA CDA CG2 CW2 CW3 CT1 CT2 COW CTS HLD0⊢
 clear SGA SGN SGB SGD g1 g2 hden hcop hlow h1 h2 hs hd0 hc hp hj hk hu SP1 SP2 HDB m1 m2 hn hd hT hN hD
 go_enter Tryz.func179,Tryz.ntmps179
 have KN:=HT.out.k
 have M1_1:=Yt (HM1.out.kp KN)
 have M2_1:=Yt (HM2.out.kp KN)
 have MN_1:=Yt (HMN.out.kp KN)
 have MD_1:=Yt (HMD.out.kp KN)
 have Z_1:=Yt (HTZ.out.kp KN)
 clear KN
 obtain ⟨g0,g1,g2,_⟩:=HT.out.ra.cells
 go_wp2_with (go_at_call 222;(with_reducible refine (CSA.out _ M1_1.out M2_1.out).mono ?_);rintro e w2 ⟨sx,nx,dx,okx,rfl,hnx,hdx,hokx,k2⟩;refine Hid.out ?_)
 refine Yt ?_
 have T_2:=Yt (HT.out.kp k2)
 have M1_2:=Yt (M1_1.out.kp k2)
 have M2_2:=Yt (M2_1.out.kp k2)
 have MN_2:=Yt (MN_1.out.kp k2)
 have MD_2:=Yt (MD_1.out.kp k2)
 have Z_2:=Yt (Z_1.out.kp k2)
 clear HT M1_1 M2_1 MN_1 MD_1 Z_1
 clear k2
 have HX:=Yt hokx
 clear hokx
 go_upto_if 23 with fail
 go_cut [0] (fun negv wc=>negv= .bool neg∧One w wc (.bool p) (.slice a1 l1 c1) (.slice a2 l2 c2))
 case first=>
  cases okx
  ·go_wp2_with fail
   go_meet
   exact ⟨rfl,T_2.out.kp (by repeat first|exact Below.refl _ _|apply Kp.on|apply Kp.up)⟩
  ·obtain ⟨e1,e2,e3⟩:=HX.out rfl
   obtain rfl:=e1.symm
   obtain rfl:=e2.symm
   obtain rfl:=e3.symm
   clear HX
   have XB_2:=Yt (Shb.new w2 (.bool p) (.int .u64 (N:Int)) (.int .u64 (D:Int)))
   have T_3:=Yt (T_2.out.kp (Kp.alloc _ (Obj.cells #[Value.bool p,Value.int IntKind.u64 (N:Int),Value.int IntKind.u64 (D:Int)] 170)))
   have M1_3:=Yt (M1_2.out.kp (Kp.alloc _ (Obj.cells #[Value.bool p,Value.int IntKind.u64 (N:Int),Value.int IntKind.u64 (D:Int)] 170)))
   have M2_3:=Yt (M2_2.out.kp (Kp.alloc _ (Obj.cells #[Value.bool p,Value.int IntKind.u64 (N:Int),Value.int IntKind.u64 (D:Int)] 170)))
   have MN_3:=Yt (MN_2.out.kp (Kp.alloc _ (Obj.cells #[Value.bool p,Value.int IntKind.u64 (N:Int),Value.int IntKind.u64 (D:Int)] 170)))
   have MD_3:=Yt (MD_2.out.kp (Kp.alloc _ (Obj.cells #[Value.bool p,Value.int IntKind.u64 (N:Int),Value.int IntKind.u64 (D:Int)] 170)))
   have Z_3:=Yt (Z_2.out.kp (Kp.alloc _ (Obj.cells #[Value.bool p,Value.int IntKind.u64 (N:Int),Value.int IntKind.u64 (D:Int)] 170)))
   clear T_2 M1_2 M2_2 MN_2 MD_2 Z_2
   go_wp2_with (go_at_call 222;(with_reducible refine (CSB.out _ MN_3.out MD_3.out).mono ?_);rintro e w4 ⟨sy,ny,dy,oky,rfl,hny,hdy,hoky,k4⟩;refine Hid.out ?_)
   refine Yt ?_
   have T_4:=Yt (T_3.out.kp k4)
   have M1_4:=Yt (M1_3.out.kp k4)
   have M2_4:=Yt (M2_3.out.kp k4)
   have MN_4:=Yt (MN_3.out.kp k4)
   have MD_4:=Yt (MD_3.out.kp k4)
   have Z_4:=Yt (Z_3.out.kp k4)
   have XB_4:=Yt (XB_2.out.kp k4)
   clear T_3 M1_3 M2_3 MN_3 MD_3 Z_3 XB_2
   clear k4
   have HY:=Yt hoky
   clear hoky
   cases oky
   ·go_wp2_with fail
    go_meet
    exact ⟨rfl,T_4.out.kp (by repeat first|exact Below.refl _ _|apply Kp.on|apply Kp.up)⟩
   ·obtain ⟨e1,e2,e3⟩:=HY.out rfl
    obtain rfl:=e1.symm
    obtain rfl:=e2.symm
    obtain rfl:=e3.symm
    clear HY
    have T_5:=Yt (T_4.out.kp (Kp.alloc _ (Obj.cells #[Value.bool false,Value.int IntKind.u64 (n:Int),Value.int IntKind.u64 (d:Int)] 170)))
    have M1_5:=Yt (M1_4.out.kp (Kp.alloc _ (Obj.cells #[Value.bool false,Value.int IntKind.u64 (n:Int),Value.int IntKind.u64 (d:Int)] 170)))
    have M2_5:=Yt (M2_4.out.kp (Kp.alloc _ (Obj.cells #[Value.bool false,Value.int IntKind.u64 (n:Int),Value.int IntKind.u64 (d:Int)] 170)))
    have MN_5:=Yt (MN_4.out.kp (Kp.alloc _ (Obj.cells #[Value.bool false,Value.int IntKind.u64 (n:Int),Value.int IntKind.u64 (d:Int)] 170)))
    have MD_5:=Yt (MD_4.out.kp (Kp.alloc _ (Obj.cells #[Value.bool false,Value.int IntKind.u64 (n:Int),Value.int IntKind.u64 (d:Int)] 170)))
    have Z_5:=Yt (Z_4.out.kp (Kp.alloc _ (Obj.cells #[Value.bool false,Value.int IntKind.u64 (n:Int),Value.int IntKind.u64 (d:Int)] 170)))
    have XB_5:=Yt (XB_4.out.kp (Kp.alloc _ (Obj.cells #[Value.bool false,Value.int IntKind.u64 (n:Int),Value.int IntKind.u64 (d:Int)] 170)))
    clear T_4 M1_4 M2_4 MN_4 MD_4 Z_4 XB_4
    obtain ⟨x0,x1,x2,_⟩:=XB_5.out.cells
    go_wp2_with (go_at_call 223;(with_reducible refine (CTS.out _ hnx hdx hny hdy).mono ?_);rintro e w6 ⟨kz,lz,okz,rfl,hkz,hlz,hokz,k6⟩;refine Hid.out ?_)
    refine Yt ?_
    have T_6:=Yt (T_5.out.kp k6)
    have M1_6:=Yt (M1_5.out.kp k6)
    have M2_6:=Yt (M2_5.out.kp k6)
    have MN_6:=Yt (MN_5.out.kp k6)
    have MD_6:=Yt (MD_5.out.kp k6)
    have Z_6:=Yt (Z_5.out.kp k6)
    have XB_6:=Yt (XB_5.out.kp k6)
    clear T_5 M1_5 M2_5 MN_5 MD_5 Z_5 XB_5
    clear k6
    have HZZ:=Yt hokz
    clear hokz
    cases okz
    ·go_wp2_with fail
     go_meet
     exact ⟨rfl,T_6.out.kp (by repeat first|exact Below.refl _ _|apply Kp.on|apply Kp.up)⟩
    ·have HE:=Yt (HZZ.out rfl)
     clear HZZ
     have hl0:lz≠0:=by rw [HE.out.2];exact HLD0.out
     have CR:=Yt (CRA.out kz lz hkz hlz hl0)
     clear hl0
     have T_7:=Yt (T_6.out.kp (Kp.alloc _ (Obj.cells #[Value.bool neg,Value.int IntKind.u64 (kz:Int),Value.int IntKind.u64 (lz:Int)] 170)))
     have M1_7:=Yt (M1_6.out.kp (Kp.alloc _ (Obj.cells #[Value.bool neg,Value.int IntKind.u64 (kz:Int),Value.int IntKind.u64 (lz:Int)] 170)))
     have M2_7:=Yt (M2_6.out.kp (Kp.alloc _ (Obj.cells #[Value.bool neg,Value.int IntKind.u64 (kz:Int),Value.int IntKind.u64 (lz:Int)] 170)))
     have MN_7:=Yt (MN_6.out.kp (Kp.alloc _ (Obj.cells #[Value.bool neg,Value.int IntKind.u64 (kz:Int),Value.int IntKind.u64 (lz:Int)] 170)))
     have MD_7:=Yt (MD_6.out.kp (Kp.alloc _ (Obj.cells #[Value.bool neg,Value.int IntKind.u64 (kz:Int),Value.int IntKind.u64 (lz:Int)] 170)))
     have Z_7:=Yt (Z_6.out.kp (Kp.alloc _ (Obj.cells #[Value.bool neg,Value.int IntKind.u64 (kz:Int),Value.int IntKind.u64 (lz:Int)] 170)))
     have XB_7:=Yt (XB_6.out.kp (Kp.alloc _ (Obj.cells #[Value.bool neg,Value.int IntKind.u64 (kz:Int),Value.int IntKind.u64 (lz:Int)] 170)))
     clear T_6 M1_6 M2_6 MN_6 MD_6 Z_6 XB_6
     go_wp2_with (go_at_call 209;(with_reducible refine (CR.out _ Z_7.out).mono ?_);rintro e w8 ⟨vr,rfl,hvr,k8⟩;refine Hid.out ?_)
     refine Yt ?_
     have T_8:=Yt (T_7.out.kp k8)
     have M1_8:=Yt (M1_7.out.kp k8)
     have M2_8:=Yt (M2_7.out.kp k8)
     have MN_8:=Yt (MN_7.out.kp k8)
     have MD_8:=Yt (MD_7.out.kp k8)
     have Z_8:=Yt (Z_7.out.kp k8)
     have XB_8:=Yt (XB_7.out.kp k8)
     clear T_7 M1_7 M2_7 MN_7 MD_7 Z_7 XB_7
     clear k8
     obtain ⟨sgn,q1,r1,s1,q2,r2,s2,rfl⟩:=hvr.lit
     obtain ⟨⟨e0,e1,e2,f0,f1,f2⟩,HPP,HV,HKF⟩:=Bz T_8.out.rr T_8.out.k (Below.refl _ _) hvr (by omega)
     clear hvr
     obtain ⟨k0,k1,k2⟩:=HPP.out
     go_wp2
     exact bodyPost_ret (v:= .agg #[.bool sgn,.slice q1 r1 s1,.slice q2 r2 s2]) (by simp [results,Tryz.results179,go_sem,k0,k1,k2]) rfl ⟨_,rfl,by have h:=HV.out;rw [HE.out.1,HE.out.2] at h;exact h,HKF.out⟩
 case rest=>
  obtain ⟨rfl,HC⟩:=hcut
  have T_c:=Yt HC
  clear HC
  have M1_c:=Yt (HM1.out.kp T_c.out.k)
  have M2_c:=Yt (HM2.out.kp T_c.out.k)
  have MN_c:=Yt (HMN.out.kp T_c.out.k)
  have MD_c:=Yt (HMD.out.kp T_c.out.k)
  have Z_c:=Yt (HTZ.out.kp T_c.out.k)
  obtain ⟨g0,g1,g2,_⟩:=T_c.out.ra.cells
  go_wp2_with (go_at_call 180;(with_reducible refine (CDA.out _ M1_c.out M2_c.out).mono ?_);rintro e w101 ⟨va,rfl,mA,k101⟩;refine Hid.out ?_)
  refine Yt ?_
  have T_101:=Yt (T_c.out.kp k101)
  have M1_101:=Yt (M1_c.out.kp k101)
  have M2_101:=Yt (M2_c.out.kp k101)
  have MN_101:=Yt (MN_c.out.kp k101)
  have MD_101:=Yt (MD_c.out.kp k101)
  have Z_101:=Yt (Z_c.out.kp k101)
  clear T_c M1_c M2_c MN_c MD_c Z_c
  have A_101:=Yt mA
  clear mA k101
  obtain ⟨g0,g1,g2,_⟩:=T_101.out.ra.cells
  go_wp2_with (go_at_call 214;(with_reducible refine (CG1.out _ _ _ M1_101.out MD_101.out Z_101.out).mono ?_);rintro e w102 ⟨vf,rfl,mF,k102⟩;refine Hid.out ?_)
  refine Yt ?_
  have T_102:=Yt (T_101.out.kp k102)
  have M1_102:=Yt (M1_101.out.kp k102)
  have M2_102:=Yt (M2_101.out.kp k102)
  have MN_102:=Yt (MN_101.out.kp k102)
  have MD_102:=Yt (MD_101.out.kp k102)
  have Z_102:=Yt (Z_101.out.kp k102)
  have A_102:=Yt (A_101.out.kp k102)
  clear T_101 M1_101 M2_101 MN_101 MD_101 Z_101 A_101
  have F_102:=Yt mF
  clear mF k102
  obtain ⟨g0,g1,g2,_⟩:=T_102.out.ra.cells
  go_wp2_with (go_at_call 214;(with_reducible refine (CG2.out _ _ _ MN_102.out A_102.out Z_102.out).mono ?_);rintro e w103 ⟨vg,rfl,mG,k103⟩;refine Hid.out ?_)
  refine Yt ?_
  have T_103:=Yt (T_102.out.kp k103)
  have M1_103:=Yt (M1_102.out.kp k103)
  have M2_103:=Yt (M2_102.out.kp k103)
  have MN_103:=Yt (MN_102.out.kp k103)
  have MD_103:=Yt (MD_102.out.kp k103)
  have Z_103:=Yt (Z_102.out.kp k103)
  have A_103:=Yt (A_102.out.kp k103)
  have F_103:=Yt (F_102.out.kp k103)
  clear T_102 M1_102 M2_102 MN_102 MD_102 Z_102 A_102 F_102
  have G_103:=Yt mG
  clear mG k103
  obtain ⟨g0,g1,g2,_⟩:=T_103.out.ra.cells
  go_wp2_with (go_at_call 226;(with_reducible refine (CW1.out _ _ _ M1_103.out F_103.out Z_103.out).mono ?_);rintro e w104 ⟨v1,rfl,n1,k104⟩;refine Hid.out ?_)
  refine Yt ?_
  have T_104:=Yt (T_103.out.kp k104)
  have M1_104:=Yt (M1_103.out.kp k104)
  have M2_104:=Yt (M2_103.out.kp k104)
  have MN_104:=Yt (MN_103.out.kp k104)
  have MD_104:=Yt (MD_103.out.kp k104)
  have Z_104:=Yt (Z_103.out.kp k104)
  have A_104:=Yt (A_103.out.kp k104)
  have F_104:=Yt (F_103.out.kp k104)
  have G_104:=Yt (G_103.out.kp k104)
  clear T_103 M1_103 M2_103 MN_103 MD_103 Z_103 A_103 F_103 G_103
  have N1_104:=Yt n1
  clear n1 k104
  obtain ⟨g0,g1,g2,_⟩:=T_104.out.ra.cells
  go_wp2_with (go_at_call 226;(with_reducible refine (CW2.out _ _ _ MN_104.out G_104.out Z_104.out).mono ?_);rintro e w105 ⟨v2,rfl,n2,k105⟩;refine Hid.out ?_)
  refine Yt ?_
  have T_105:=Yt (T_104.out.kp k105)
  have M1_105:=Yt (M1_104.out.kp k105)
  have M2_105:=Yt (M2_104.out.kp k105)
  have MN_105:=Yt (MN_104.out.kp k105)
  have MD_105:=Yt (MD_104.out.kp k105)
  have Z_105:=Yt (Z_104.out.kp k105)
  have A_105:=Yt (A_104.out.kp k105)
  have F_105:=Yt (F_104.out.kp k105)
  have G_105:=Yt (G_104.out.kp k105)
  have N1_105:=Yt (N1_104.out.kp k105)
  clear T_104 M1_104 M2_104 MN_104 MD_104 Z_104 A_104 F_104 G_104 N1_104
  have N2_105:=Yt n2
  clear n2 k105
  obtain ⟨g0,g1,g2,_⟩:=T_105.out.ra.cells
  go_wp2_with (go_at_call 225;(with_reducible refine (CT1.out _ _ _ N1_105.out N2_105.out).mono ?_);rintro e w106 ⟨v3,rfl,n3,k106⟩;refine Hid.out ?_)
  refine Yt ?_
  have T_106:=Yt (T_105.out.kp k106)
  have M1_106:=Yt (M1_105.out.kp k106)
  have M2_106:=Yt (M2_105.out.kp k106)
  have MN_106:=Yt (MN_105.out.kp k106)
  have MD_106:=Yt (MD_105.out.kp k106)
  have Z_106:=Yt (Z_105.out.kp k106)
  have A_106:=Yt (A_105.out.kp k106)
  have F_106:=Yt (F_105.out.kp k106)
  have G_106:=Yt (G_105.out.kp k106)
  have N1_106:=Yt (N1_105.out.kp k106)
  have N2_106:=Yt (N2_105.out.kp k106)
  clear T_105 M1_105 M2_105 MN_105 MD_105 Z_105 A_105 F_105 G_105 N1_105 N2_105
  have N3_106:=Yt n3
  clear n3 k106
  obtain ⟨g0,g1,g2,_⟩:=T_106.out.ra.cells
  go_wp2_with (go_at_call 226;(with_reducible refine (CW3.out _ _ _ A_106.out G_106.out Z_106.out).mono ?_);rintro e w107 ⟨v4,rfl,n4,k107⟩;refine Hid.out ?_)
  refine Yt ?_
  have T_107:=Yt (T_106.out.kp k107)
  have M1_107:=Yt (M1_106.out.kp k107)
  have M2_107:=Yt (M2_106.out.kp k107)
  have MN_107:=Yt (MN_106.out.kp k107)
  have MD_107:=Yt (MD_106.out.kp k107)
  have Z_107:=Yt (Z_106.out.kp k107)
  have A_107:=Yt (A_106.out.kp k107)
  have F_107:=Yt (F_106.out.kp k107)
  have G_107:=Yt (G_106.out.kp k107)
  have N1_107:=Yt (N1_106.out.kp k107)
  have N2_107:=Yt (N2_106.out.kp k107)
  have N3_107:=Yt (N3_106.out.kp k107)
  clear T_106 M1_106 M2_106 MN_106 MD_106 Z_106 A_106 F_106 G_106 N1_106 N2_106 N3_106
  have N4_107:=Yt n4
  clear n4 k107
  obtain ⟨g0,g1,g2,_⟩:=T_107.out.ra.cells
  go_wp2_with (go_at_call 226;(with_reducible refine (CW4.out _ _ _ MD_107.out F_107.out Z_107.out).mono ?_);rintro e w108 ⟨v5,rfl,n5,k108⟩;refine Hid.out ?_)
  refine Yt ?_
  have T_108:=Yt (T_107.out.kp k108)
  have M1_108:=Yt (M1_107.out.kp k108)
  have M2_108:=Yt (M2_107.out.kp k108)
  have MN_108:=Yt (MN_107.out.kp k108)
  have MD_108:=Yt (MD_107.out.kp k108)
  have Z_108:=Yt (Z_107.out.kp k108)
  have A_108:=Yt (A_107.out.kp k108)
  have F_108:=Yt (F_107.out.kp k108)
  have G_108:=Yt (G_107.out.kp k108)
  have N1_108:=Yt (N1_107.out.kp k108)
  have N2_108:=Yt (N2_107.out.kp k108)
  have N3_108:=Yt (N3_107.out.kp k108)
  have N4_108:=Yt (N4_107.out.kp k108)
  clear T_107 M1_107 M2_107 MN_107 MD_107 Z_107 A_107 F_107 G_107 N1_107 N2_107 N3_107 N4_107
  have N5_108:=Yt n5
  clear n5 k108
  obtain ⟨g0,g1,g2,_⟩:=T_108.out.ra.cells
  go_wp2_with (go_at_call 225;(with_reducible refine (CT2.out _ _ _ N4_108.out N5_108.out).mono ?_);rintro e w109 ⟨v6,rfl,n6,k109⟩;refine Hid.out ?_)
  refine Yt ?_
  have T_109:=Yt (T_108.out.kp k109)
  have M1_109:=Yt (M1_108.out.kp k109)
  have M2_109:=Yt (M2_108.out.kp k109)
  have MN_109:=Yt (MN_108.out.kp k109)
  have MD_109:=Yt (MD_108.out.kp k109)
  have Z_109:=Yt (Z_108.out.kp k109)
  have A_109:=Yt (A_108.out.kp k109)
  have F_109:=Yt (F_108.out.kp k109)
  have G_109:=Yt (G_108.out.kp k109)
  have N1_109:=Yt (N1_108.out.kp k109)
  have N2_109:=Yt (N2_108.out.kp k109)
  have N3_109:=Yt (N3_108.out.kp k109)
  have N4_109:=Yt (N4_108.out.kp k109)
  have N5_109:=Yt (N5_108.out.kp k109)
  clear T_108 M1_108 M2_108 MN_108 MD_108 Z_108 A_108 F_108 G_108 N1_108 N2_108 N3_108 N4_108 N5_108
  have N6_109:=Yt n6
  clear n6 k109
  obtain ⟨g0,g1,g2,_⟩:=T_109.out.ra.cells
  go_wp2_with (go_at_call 224;(with_reducible refine (COW.out _ _ _ N3_109.out N6_109.out).mono ?_);rintro e w110 ⟨vr,rfl,hvr,k110⟩;refine Hid.out ?_)
  refine Yt ?_
  have T_110:=Yt (T_109.out.kp k110)
  have M1_110:=Yt (M1_109.out.kp k110)
  have M2_110:=Yt (M2_109.out.kp k110)
  have MN_110:=Yt (MN_109.out.kp k110)
  have MD_110:=Yt (MD_109.out.kp k110)
  have Z_110:=Yt (Z_109.out.kp k110)
  have A_110:=Yt (A_109.out.kp k110)
  have F_110:=Yt (F_109.out.kp k110)
  have G_110:=Yt (G_109.out.kp k110)
  have N1_110:=Yt (N1_109.out.kp k110)
  have N2_110:=Yt (N2_109.out.kp k110)
  have N3_110:=Yt (N3_109.out.kp k110)
  have N4_110:=Yt (N4_109.out.kp k110)
  have N5_110:=Yt (N5_109.out.kp k110)
  have N6_110:=Yt (N6_109.out.kp k110)
  clear T_109 M1_109 M2_109 MN_109 MD_109 Z_109 A_109 F_109 G_109 N1_109 N2_109 N3_109 N4_109 N5_109 N6_109
  clear k110
  obtain ⟨sgn,q1,r1,s1,q2,r2,s2,rfl⟩:=hvr.lit
  obtain ⟨⟨e0,e1,e2,f0,f1,f2⟩,HPP,HV,HKF⟩:=Bz T_110.out.rr T_110.out.k (Below.refl _ _) hvr (by omega)
  clear hvr
  obtain ⟨k0,k1,k2⟩:=HPP.out
  go_wp2
  exact bodyPost_ret (v:= .agg #[.bool sgn,.slice q1 r1 s1,.slice q2 r2 s2]) (by simp [results,Tryz.results179,go_sem,k0,k1,k2]) rfl ⟨_,rfl,HV.out,HKF.out⟩
theorem TM {w:World} {u:Value} {x:Rat} (hu:Ax w u x) {v:Value} {y:Rat} (hv:Ax w v y) {j k:Nat} (hs:RSz j x) (ht:RSz k y) (hj:j≤500000000) (hk:k≤500000000) (hT:Tz w):
  Calls Tryz.prog 105 #[u,v] w fun e w'=> ∃r,e= .returned r∧Ax w' r (x*y)∧Kp w w':=by
 have hres:AE (decide (x.num<0) !=decide (y.num<0)) (x.num.natAbs*y.num.natAbs) (x.den*y.den)=x*y:=by rw [←Fl,Bx,Bx]
 rw [←hres]
 clear hres
 obtain ⟨a1,l1,c1,a2,l2,c2,rfl,m1,m2⟩:=hu.parts
 obtain ⟨a3,l3,c3,a4,l4,c4,rfl,m3,m4⟩:=hv.parts
 have HT:=Yt (Two.new w (.bool (decide (x.num<0))) (.slice a1 l1 c1) (.slice a2 l2 c2) (.bool (decide (y.num<0))) (.slice a3 l3 c3) (.slice a4 l4 c4))
 have HU:=Yt hu
 have Hm1:=Yt m1
 have Hm2:=Yt m2
 have HV:=Yt hv
 have Hm3:=Yt m3
 have Hm4:=Yt m4
 have HZ:=Yt hT
 have CD:=Yt (fun w' a b (ha:M w' a y.num.natAbs) (hb:M w' b (AX y))=>JZ (s:=decide (y.num<0)) ha hb)
 have CM:=Yt (fun w' s a vn vd (ha:Ax w' a x) (hn:M w' vn (y.num.natAbs)) (hd:M w' vd (y.den)) (t:Tz w')=>NI (neg:=s) ha hn hd y.den_nz y.reduced hs ht.1 ht.2 (by omega) (by omega) t)
 obtain ⟨p,hp⟩: ∃b,b=decide (x.num<0):=⟨_,rfl⟩
 try rw [←hp] at HT
 try rw [←hp] at HU
 try rw [←hp] at Hm1
 try rw [←hp] at Hm2
 try rw [←hp] at HV
 try rw [←hp] at Hm3
 try rw [←hp] at Hm4
 try rw [←hp] at CD
 try rw [←hp] at CM
 try rw [←hp]
 have HPp:=Yt hp
 obtain ⟨q,hq⟩: ∃b,b=decide (y.num<0):=⟨_,rfl⟩
 try rw [←hq] at HT
 try rw [←hq] at HU
 try rw [←hq] at Hm1
 try rw [←hq] at Hm2
 try rw [←hq] at HV
 try rw [←hq] at Hm3
 try rw [←hq] at Hm4
 try rw [←hq] at CD
 try rw [←hq] at CM
 try rw [←hq]
 have HPq:=Yt hq
 clear hu m1 m2 hp hv m3 m4 hq hT
 go_enter Tryz.func105,Tryz.ntmps105
 have KN:=HT.out.k
 have U_e:=Yt (HU.out.kp KN)
 have m1_e:=Yt (Hm1.out.kp KN)
 have m2_e:=Yt (Hm2.out.kp KN)
 have V_e:=Yt (HV.out.kp KN)
 have m3_e:=Yt (Hm3.out.kp KN)
 have m4_e:=Yt (Hm4.out.kp KN)
 have Z_e:=Yt (HZ.out.kp KN)
 clear KN
 obtain ⟨g0,g1,g2,_⟩:=HT.out.ra.cells
 obtain ⟨h0,h1,h2,_⟩:=HT.out.rb.cells
 have n1: ¬(w.heap.size+1+1=w.heap.size):=by omega
 have n2: ¬(w.heap.size=w.heap.size+1+1):=by omega
 go_wp2_with fail
 have T_2:=Yt (HT.out.kp (Below.refl _ _).drew)
 have U_2:=Yt (U_e.out.kp (Below.refl _ _).drew)
 have m1_2:=Yt (m1_e.out.kp (Below.refl _ _).drew)
 have m2_2:=Yt (m2_e.out.kp (Below.refl _ _).drew)
 have V_2:=Yt (V_e.out.kp (Below.refl _ _).drew)
 have m3_2:=Yt (m3_e.out.kp (Below.refl _ _).drew)
 have m4_2:=Yt (m4_e.out.kp (Below.refl _ _).drew)
 have Z_2:=Yt (Z_e.out.kp (Below.refl _ _).drew)
 clear HT U_e m1_e m2_e V_e m3_e m4_e Z_e
 go_region_held3 (fun w'=>w'.cell? ⟨w.heap.size,0,none⟩=some (.bool p)∧w'.cell? ⟨w.heap.size,1,none⟩=some (.slice a1 l1 c1)∧w'.cell? ⟨w.heap.size,2,none⟩=some (.slice a2 l2 c2)∧w'.cell? ⟨w.heap.size+1,0,none⟩=some (.bool q)∧w'.cell? ⟨w.heap.size+1,1,none⟩=some (.slice a3 l3 c3)∧w'.cell? ⟨w.heap.size+1,2,none⟩=some (.slice a4 l4 c4))
  (first|(refine ⟨?_,?_,?_,?_,?_,?_⟩<;>assumption)|go_keep)
  (first
   | (go_at_call 180;(with_reducible refine (CD.out _ _ _ m3_2.out m4_2.out).mono ?_);rintro e w3 ⟨vd,rfl,hvd,k3⟩;have T_3:=Yt (T_2.out.kp k3);have U_3:=Yt (U_2.out.kp k3);have m1_3:=Yt (m1_2.out.kp k3);have m2_3:=Yt (m2_2.out.kp k3);have V_3:=Yt (V_2.out.kp k3);have m3_3:=Yt (m3_2.out.kp k3);have m4_3:=Yt (m4_2.out.kp k3);have Z_3:=Yt (Z_2.out.kp k3);clear T_2 U_2 m1_2 m2_2 V_2 m3_2 m4_2 Z_2;have D_3:=Yt hvd;clear hvd k3;obtain ⟨g0,g1,g2,_⟩:=T_3.out.ra.cells;obtain ⟨h0,h1,h2,_⟩:=T_3.out.rb.cells)
   | (go_at_call 179;(with_reducible refine (CM.out _ _ _ _ _ U_3.out m3_3.out D_3.out Z_3.out).mono ?_);rintro e w4 ⟨vr,rfl,hvr,k4⟩;have T_4:=Yt (T_3.out.kp k4);have U_4:=Yt (U_3.out.kp k4);have m1_4:=Yt (m1_3.out.kp k4);have m2_4:=Yt (m2_3.out.kp k4);have V_4:=Yt (V_3.out.kp k4);have m3_4:=Yt (m3_3.out.kp k4);have m4_4:=Yt (m4_3.out.kp k4);have Z_4:=Yt (Z_3.out.kp k4);have D_4:=Yt (D_3.out.kp k4);clear T_3 U_3 m1_3 m2_3 V_3 m3_3 m4_3 Z_3 D_3;obtain ⟨sgn,q1,r1,s1,q2,r2,s2,rfl⟩:=hvr.lit;obtain ⟨⟨e0,e1,e2,f0,f1,f2⟩,HPP,HV,HKF⟩:=Bz T_4.out.rr T_4.out.k (Below.refl _ _) hvr (by omega);clear hvr;clear k4;obtain ⟨g0,g1,g2,_⟩:=T_4.out.ra.cells;obtain ⟨h0,h1,h2,_⟩:=T_4.out.rb.cells))
 obtain ⟨k0,k1,k2⟩:=HPP.out
 go_wp2
 exact bodyPost_ret (v:= .agg #[.bool sgn,.slice q1 r1 s1,.slice q2 r2 s2]) (by simp [results,Tryz.results105,go_sem,k0,k1,k2]) rfl ⟨_,rfl,HV.out,HKF.out⟩
set_option maxRecDepth 20000 in
theorem TJ {w:World} {u:Value} {x:Rat} (hu:Ax w u x) {v:Value} {y:Rat} (hv:Ax w v y) {j k:Nat} (hs:RSz j x) (ht:RSz k y) (hj:j≤500000000) (hk:k≤500000000) (h0:y≠0) (hT:Tz w):
  Calls Tryz.prog 148 #[u,v] w fun e w'=> ∃r,e= .returned (.tuple #[r,.int .i64 0])∧Ax w' r (x/y)∧Kp w w':=by
 have hy0:y.num.natAbs≠0:=fun e=>h0 (Rat.num_eq_zero.1 (Int.natAbs_eq_zero.1 e))
 have hres:AE (decide (x.num<0) !=decide (y.num<0)) (x.num.natAbs*y.den) (x.den*y.num.natAbs)=x/y:=by
  rw [←Fl,Bx,←KK _ hy0 y.den_nz,Bx,Rat.div_def]
 rw [←hres]
 clear hres
 have hcop:Nat.gcd y.den y.num.natAbs=1:=by rw [Nat.gcd_comm];exact y.reduced
 have hsg:(Rr y==0)=false:=beq_eq_false_iff_ne.2 (fun e=>h0 (Vv.1 e))
 have HSG:=Yt hsg
 obtain ⟨a1,l1,c1,a2,l2,c2,rfl,m1,m2⟩:=hu.parts
 obtain ⟨a3,l3,c3,a4,l4,c4,rfl,m3,m4⟩:=hv.parts
 have HT:=Yt (Two.new w (.bool (decide (x.num<0))) (.slice a1 l1 c1) (.slice a2 l2 c2) (.bool (decide (y.num<0))) (.slice a3 l3 c3) (.slice a4 l4 c4))
 have HU:=Yt hu
 have Hm1:=Yt m1
 have Hm2:=Yt m2
 have HV:=Yt hv
 have Hm3:=Yt m3
 have Hm4:=Yt m4
 have HZ:=Yt hT
 have CS:=Yt (fun w' b (hb:Ax w' b y)=>Td hb)
 have CD:=Yt (fun w' a b (ha:M w' a y.num.natAbs) (hb:M w' b (AX y))=>JZ (s:=decide (y.num<0)) ha hb)
 have CM:=Yt (fun w' s a vn vd (ha:Ax w' a x) (hn:M w' vn (y.den)) (hd:M w' vd (y.num.natAbs)) (t:Tz w')=>NI (neg:=s) ha hn hd hy0 hcop hs ht.2 ht.1 (by omega) (by omega) t)
 obtain ⟨p,hp⟩: ∃b,b=decide (x.num<0):=⟨_,rfl⟩
 try rw [←hp] at HT
 try rw [←hp] at HU
 try rw [←hp] at Hm1
 try rw [←hp] at Hm2
 try rw [←hp] at HV
 try rw [←hp] at Hm3
 try rw [←hp] at Hm4
 try rw [←hp] at CS
 try rw [←hp] at CD
 try rw [←hp] at CM
 try rw [←hp]
 have HPp:=Yt hp
 obtain ⟨q,hq⟩: ∃b,b=decide (y.num<0):=⟨_,rfl⟩
 try rw [←hq] at HT
 try rw [←hq] at HU
 try rw [←hq] at Hm1
 try rw [←hq] at Hm2
 try rw [←hq] at HV
 try rw [←hq] at Hm3
 try rw [←hq] at Hm4
 try rw [←hq] at CS
 try rw [←hq] at CD
 try rw [←hq] at CM
 try rw [←hq]
 have HPq:=Yt hq
 clear hu m1 m2 hp hv m3 m4 hq hT
 obtain ⟨sg,hsg2⟩: ∃s,s=Rr y:=⟨_,rfl⟩
 rw [←hsg2] at CS HSG
 have hsb:=HSG.out
 clear hsg2 hsg hcop hy0 h0 HSG
 go_enter Tryz.func148,Tryz.ntmps148
 have KN:=HT.out.k
 have U_e:=Yt (HU.out.kp KN)
 have m1_e:=Yt (Hm1.out.kp KN)
 have m2_e:=Yt (Hm2.out.kp KN)
 have V_e:=Yt (HV.out.kp KN)
 have m3_e:=Yt (Hm3.out.kp KN)
 have m4_e:=Yt (Hm4.out.kp KN)
 have Z_e:=Yt (HZ.out.kp KN)
 clear KN
 obtain ⟨g0,g1,g2,_⟩:=HT.out.ra.cells
 obtain ⟨h0,h1,h2,_⟩:=HT.out.rb.cells
 go_wp2_with (go_at_call 177;(with_reducible refine (CS.out _ _ V_e.out).mono ?_);rintro e w2 ⟨rfl,k2⟩;refine Hid.out ?_)
 refine Yt ?_
 have T_2:=Yt (HT.out.kp k2)
 have U_2:=Yt (U_e.out.kp k2)
 have m1_2:=Yt (m1_e.out.kp k2)
 have m2_2:=Yt (m2_e.out.kp k2)
 have V_2:=Yt (V_e.out.kp k2)
 have m3_2:=Yt (m3_e.out.kp k2)
 have m4_2:=Yt (m4_e.out.kp k2)
 have Z_2:=Yt (Z_e.out.kp k2)
 clear HT U_e m1_e m2_e V_e m3_e m4_e Z_e
 clear k2
 obtain ⟨g0,g1,g2,_⟩:=T_2.out.ra.cells
 obtain ⟨h0,h1,h2,_⟩:=T_2.out.rb.cells
 have n1: ¬(w.heap.size+1+1=w.heap.size):=by omega
 have n2: ¬(w.heap.size=w.heap.size+1+1):=by omega
 go_wp2_with fail
 have T_3:=Yt (T_2.out.kp (Below.refl _ _).drew)
 have U_3:=Yt (U_2.out.kp (Below.refl _ _).drew)
 have m1_3:=Yt (m1_2.out.kp (Below.refl _ _).drew)
 have m2_3:=Yt (m2_2.out.kp (Below.refl _ _).drew)
 have V_3:=Yt (V_2.out.kp (Below.refl _ _).drew)
 have m3_3:=Yt (m3_2.out.kp (Below.refl _ _).drew)
 have m4_3:=Yt (m4_2.out.kp (Below.refl _ _).drew)
 have Z_3:=Yt (Z_2.out.kp (Below.refl _ _).drew)
 clear T_2 U_2 m1_2 m2_2 V_2 m3_2 m4_2 Z_2
 go_region_held3 (fun w'=>w'.cell? ⟨w.heap.size,0,none⟩=some (.bool p)∧w'.cell? ⟨w.heap.size,1,none⟩=some (.slice a1 l1 c1)∧w'.cell? ⟨w.heap.size,2,none⟩=some (.slice a2 l2 c2)∧w'.cell? ⟨w.heap.size+1,0,none⟩=some (.bool q)∧w'.cell? ⟨w.heap.size+1,1,none⟩=some (.slice a3 l3 c3)∧w'.cell? ⟨w.heap.size+1,2,none⟩=some (.slice a4 l4 c4))
  (first|(refine ⟨?_,?_,?_,?_,?_,?_⟩<;>assumption)|go_keep)
  (first
   | (go_at_call 180;(with_reducible refine (CD.out _ _ _ m3_3.out m4_3.out).mono ?_);rintro e w4 ⟨vd,rfl,hvd,k4⟩;have T_4:=Yt (T_3.out.kp k4);have U_4:=Yt (U_3.out.kp k4);have m1_4:=Yt (m1_3.out.kp k4);have m2_4:=Yt (m2_3.out.kp k4);have V_4:=Yt (V_3.out.kp k4);have m3_4:=Yt (m3_3.out.kp k4);have m4_4:=Yt (m4_3.out.kp k4);have Z_4:=Yt (Z_3.out.kp k4);clear T_3 U_3 m1_3 m2_3 V_3 m3_3 m4_3 Z_3;have D_4:=Yt hvd;clear hvd k4;obtain ⟨g0,g1,g2,_⟩:=T_4.out.ra.cells;obtain ⟨h0,h1,h2,_⟩:=T_4.out.rb.cells)
   | (go_at_call 179;(with_reducible refine (CM.out _ _ _ _ _ U_4.out D_4.out m3_4.out Z_4.out).mono ?_);rintro e w5 ⟨vr,rfl,hvr,k5⟩;have T_5:=Yt (T_4.out.kp k5);have U_5:=Yt (U_4.out.kp k5);have m1_5:=Yt (m1_4.out.kp k5);have m2_5:=Yt (m2_4.out.kp k5);have V_5:=Yt (V_4.out.kp k5);have m3_5:=Yt (m3_4.out.kp k5);have m4_5:=Yt (m4_4.out.kp k5);have Z_5:=Yt (Z_4.out.kp k5);have D_5:=Yt (D_4.out.kp k5);clear T_4 U_4 m1_4 m2_4 V_4 m3_4 m4_4 Z_4 D_4;obtain ⟨sgn,q1,r1,s1,q2,r2,s2,rfl⟩:=hvr.lit;obtain ⟨⟨e0,e1,e2,f0,f1,f2⟩,HPP,HV,HKF⟩:=Bz T_5.out.rr T_5.out.k (Below.refl _ _) hvr (by omega);clear hvr;clear k5;obtain ⟨g0,g1,g2,_⟩:=T_5.out.ra.cells;obtain ⟨h0,h1,h2,_⟩:=T_5.out.rb.cells))
 obtain ⟨k0,k1,k2⟩:=HPP.out
 go_wp2
 exact bodyPost_ret (v:= .tuple #[.agg #[.bool sgn,.slice q1 r1 s1,.slice q2 r2 s2],.int .i64 0]) (by simp [results,Tryz.results148,go_sem,k0,k1,k2]) rfl ⟨_,rfl,HV.out,HKF.out⟩
theorem No (n:Int) (h1: -9223372036854775808≤n) (h2:n<9223372036854775808) (w:World):
  Calls Tryz.prog 208 #[.int .i64 n] w fun e w'=>e= .returned (.int .u64 (n.natAbs:Nat))∧w=w':=by
 by_cases h:n<0
 ·have hb:decide (n<0)=true:=decide_eq_true h
  go_enter Tryz.func208,Tryz.ntmps208
  go_wp2
  go_ret
  refine ⟨?_,rfl⟩
  refine BS ?_
  rw [show-n=((n.natAbs:Nat):Int) by omega]
  exact T8 (by omega)
 ·have hb:decide (n<0)=false:=decide_eq_false h
  have hn:(n.natAbs:Int)=n:=Int.natAbs_of_nonneg (by omega)
  go_enter Tryz.func208,Tryz.ntmps208
  go_wp2
  go_ret
  refine ⟨?_,rfl⟩
  exact BS rfl
theorem Nr {w:World} (n:Int) (h1: -9223372036854775808≤n) (h2:n<9223372036854775808) (hT:Tz w):
  Calls Tryz.prog 168 #[.int .i64 n] w fun e w'=> ∃r,e= .returned r∧Ax w' r ((n:Rat))∧Kp w w':=by
 have HT:=Yt (Nul.new w)
 have CN:=Yt (fun w'=>No n h1 h2 w')
 have hn:AE (decide (n<0)) n.natAbs 1=(n:Rat):=by unfold AE;rw [IW,Rat.mkRat_one]
 rw [←hn]
 have CR:=Yt (fun w' (t:Tz w')=>LM (decide (n<0)) n.natAbs 1 (by omega) (by omega) (by omega) w' t)
 unfold Cx at CR
 have HZ:=Yt hT
 obtain ⟨p,hp⟩: ∃p,p=decide (n<0):=⟨_,rfl⟩
 have hp':=hp.symm
 rw [←hp] at CR⊢
 have HN:=Yt (show ((1:Nat):Int)=1 from rfl)
 rw [HN.out] at CR
 clear hp h1 h2 hn hT HN
 go_enter Tryz.func168,Tryz.ntmps168
 have KN:=HT.out.k
 have Z_e:=Yt (HZ.out.kp KN)
 clear KN
 go_wp2_with (go_at_call 208;(with_reducible refine (CN.out _).mono ?_);rintro e w2 ⟨rfl,rfl⟩;refine Hid.out ?_)
 refine Yt ?_
 go_wp2_with (go_at_call 209;(with_reducible refine (CR.out _ Z_e.out).mono ?_);rintro e w3 ⟨vr,rfl,hvr,k3⟩;refine Hid.out ?_)
 refine Yt ?_
 have T_3:=Yt (HT.out.kp k3)
 have Z_3:=Yt (Z_e.out.kp k3)
 clear HT Z_e
 clear k3
 obtain ⟨sgn,q1,r1,s1,q2,r2,s2,rfl⟩:=hvr.lit
 obtain ⟨⟨e0,e1,e2,f0,f1,f2⟩,HPP,HV,HKF⟩:=Bz T_3.out.rr T_3.out.k (Below.refl _ _) hvr (by omega)
 clear hvr
 obtain ⟨k0,k1,k2⟩:=HPP.out
 go_wp2
 exact bodyPost_ret (v:= .agg #[.bool sgn,.slice q1 r1 s1,.slice q2 r2 s2]) (by simp [results,Tryz.results168,go_sem,k0,k1,k2]) rfl ⟨_,rfl,HV.out,HKF.out⟩
end Go.Proofs.YtfineedhebhpaaaGreatDoor
