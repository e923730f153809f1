/-
  Several texts in one: Qu, Q3, Qz, Q7.
-/
import Derived.Test.YtfineedhebhpaaaGreatDoorBy
import Derived.Test.YtfineedhebhpaaaGreatDoorBm
import Derived.Test.YtfineedhebhpaaaGreatDoorBl
import Derived.Test.YtfineedhebhpaaaGreatDoorBk
import Derived.Test.YtfineedhebhpaaaGreatDoorBn
import Derived.Test.YtfineedhebhpaaaGreatDoorBc
namespace Go.Proofs.YtfineedhebhpaaaGreatDoor
open Lib renaming hid→Xu
set_option maxHeartbeats 16000000
open Go.RowKit
set_option maxRecDepth 20000 in
theorem MU {w:World} {neg:Bool} {u num den:Value} {x:Rat} {n d:Nat} (hu:Ax w u x) (hn:M w num n) (hd:M w den d) (hd0:d≠0) (hc:Nat.gcd n d=1) {j k:Nat} (hs:RSz j x) (h1:Sz k n) (h2:Sz k d) (hj:j≤1073741824) (hk:k≤1073741824) (hT:Tz w):
  Calls Tryz.prog 179 #[.bool neg,u,num,den] w fun e w'=> ∃r,e= .returned r∧Ax w' r (AH neg (x.num.natAbs*n) (x.den*d))∧Kp w w':=by
 obtain ⟨a1,l1,c1,a2,l2,c2,rfl,m1,m2⟩:=hu.parts
 have HT:=Xu (One.new w (.bool (decide (x.num<0))) (.slice a1 l1 c1) (.slice a2 l2 c2))
 have g1:Nat.gcd x.num.natAbs d≠0:=Nat.ne_of_gt (Nat.gcd_pos_of_pos_right _ (Nat.pos_of_ne_zero hd0))
 have g2:Nat.gcd n x.den≠0:=Nat.ne_of_gt (Nat.gcd_pos_of_pos_right _ (Nat.pos_of_ne_zero x.den_nz))
 have hden:x.den/Nat.gcd n x.den*(d/Nat.gcd x.num.natAbs d)≠0:=Nat.mul_ne_zero (Nat.ne_of_gt (Nat.div_pos (Nat.le_of_dvd (Nat.pos_of_ne_zero x.den_nz) (Nat.gcd_dvd_right _ _)) (Nat.pos_of_ne_zero g2))) (Nat.ne_of_gt (Nat.div_pos (Nat.le_of_dvd (Nat.pos_of_ne_zero hd0) (Nat.gcd_dvd_right _ _)) (Nat.pos_of_ne_zero g1)))
 have hcop:=Lr (na:=x.num.natAbs) (nb:=n) x.reduced hc x.den_nz hd0
 have hlow:=S7 neg (na:=x.num.natAbs) (nb:=n) x.den_nz hd0
 have SGA:Sz j (x.num.natAbs/Nat.gcd x.num.natAbs d):=hs.1.le (Nat.div_le_self _ _)
 have SGN:Sz k (n/Nat.gcd n x.den):=h1.le (Nat.div_le_self _ _)
 have SGB:Sz j (x.den/Nat.gcd n x.den):=hs.2.le (Nat.div_le_self _ _)
 have SGD:Sz k (d/Nat.gcd x.num.natAbs d):=h2.le (Nat.div_le_self _ _)
 have CSA:=Xu (fun w' (a:M w' (.slice a1 l1 c1) x.num.natAbs) (b:M w' (.slice a2 l2 c2) (A0 x))=>Dl (s:=decide (x.num<0)) a b)
 have CSB:=Xu (fun w' (a:M w' num n) (b:M w' den d)=>Dl (s:=false) a b)
 have CDA:=Xu (fun w' (a:M w' (.slice a1 l1 c1) x.num.natAbs) (b:M w' (.slice a2 l2 c2) (A0 x))=>Jt (s:=decide (x.num<0)) a b)
 have CG1:=Xu (fun w' v1 v2 (a:M w' v1 x.num.natAbs) (b:M w' v2 d) (t:Tz w')=>Fp a b (by have:=hs.1;unfold Sz at this;omega) (by unfold Sz at h2;omega) t)
 have CG2:=Xu (fun w' v1 v2 (a:M w' v1 n) (b:M w' v2 x.den) (t:Tz w')=>Fp a b (by unfold Sz at h1;omega) (by have:=hs.2;unfold Sz at this;omega) t)
 have CW1:=Xu (fun w' v1 v2 (a:M w' v1 x.num.natAbs) (b:M w' v2 (Nat.gcd x.num.natAbs d)) (t:Tz w')=>Cx a b (by have:=hs.1;unfold Sz at this;omega) g1 t)
 have CW2:=Xu (fun w' v1 v2 (a:M w' v1 n) (b:M w' v2 (Nat.gcd n x.den)) (t:Tz w')=>Cx a b (by unfold Sz at h1;omega) g2 t)
 have CW3:=Xu (fun w' v1 v2 (a:M w' v1 x.den) (b:M w' v2 (Nat.gcd n x.den)) (t:Tz w')=>Cx a b (by have:=hs.2;unfold Sz at this;omega) g2 t)
 have CW4:=Xu (fun w' v1 v2 (a:M w' v1 d) (b:M w' v2 (Nat.gcd x.num.natAbs d)) (t:Tz w')=>Cx a b (by unfold Sz at h2;omega) g1 t)
 have CT1:=Xu (fun w' v1 v2 (a:M w' v1 (x.num.natAbs/Nat.gcd x.num.natAbs d)) (b:M w' v2 (n/Nat.gcd n x.den))=>DC a b SGA SGN (by omega) (by omega))
 have CT2:=Xu (fun w' v1 v2 (a:M w' v1 (x.den/Nat.gcd n x.den)) (b:M w' v2 (d/Nat.gcd x.num.natAbs d))=>DC a b SGB SGD (by omega) (by omega))
 have SP1:Sz (j+k) _:=SGA.mul SGN
 have SP2:Sz (j+k) _:=SGB.mul SGD
 have COW:=Xu (fun w' v1 v2 (a:M w' v1 (x.num.natAbs/Nat.gcd x.num.natAbs d*(n/Nat.gcd n x.den))) (b:M w' v2 (x.den/Nat.gcd n x.den*(d/Nat.gcd x.num.natAbs d)))=>Hb (neg:=neg) a b hden hcop (by unfold Sz at SP1;omega) (by unfold Sz at SP2;omega))
 rw [hlow] at COW
 have CTS:=Xu (fun w'=>JN (decide (x.num<0)) false x.num.natAbs x.den n d (w:=w'))
 have CRA:=Xu (fun k l hk hl h0 w' (t:Tz w')=>Lh neg k l hk hl h0 w' t)
 unfold B8 at CSA CSB CTS CRA
 have HM1:=Xu m1
 have HM2:=Xu m2
 have HMN:=Xu hn
 have HMD:=Xu hd
 have HTZ:=Xu hT
 have HD0:=Xu hd0
 have HDB:(if d=0 then 1 else d)=d:=if_neg hd0
 have HXD:=Xu (Dy x)
 have HLD0:=Xu (Nat.mul_ne_zero x.den_nz hd0)
 obtain ⟨p,hp⟩: ∃p,p=decide (x.num<0):=⟨_,rfl⟩
 rw [←hp] at HT CSA CDA CTS⊢
 rw [HDB] at CSB
 rw [HXD.out] at CSA
 have HDL:=Xu HDB
 obtain ⟨no,nl,nc,rfl⟩:=Ck hn
 obtain ⟨eo,el,ec,rfl⟩:=Ck hd
 obtain ⟨N,hN⟩: ∃N,N=x.num.natAbs:=⟨_,rfl⟩
 obtain ⟨D,hD⟩: ∃D,D=x.den:=⟨_,rfl⟩
 rw [←hN] at HM1 CSA CDA CG1 CW1 CT1 CT2 CW4 COW CTS⊢
 rw [←hD] at CSA CDA CG2 CW2 CW3 CT1 CT2 COW CTS HLD0⊢
 clear SGA SGN SGB SGD g1 g2 hden hcop hlow h1 h2 hs hd0 hc hp hj hk hu SP1 SP2 HDB m1 m2 hn hd hT hN hD
 go_enter Tryz.func179,Tryz.ntmps179
 have KN:=HT.out.k
 have M1_1:=Xu (HM1.out.kp KN)
 have M2_1:=Xu (HM2.out.kp KN)
 have MN_1:=Xu (HMN.out.kp KN)
 have MD_1:=Xu (HMD.out.kp KN)
 have Z_1:=Xu (HTZ.out.kp KN)
 clear KN
 obtain ⟨g0,g1,g2,_⟩:=HT.out.ra.cells
 go_wp2_with (go_at_call 222;(with_reducible refine (CSA.out _ M1_1.out M2_1.out).mono ?_);rintro e w2 ⟨sx,nx,dx,okx,rfl,hnx,hdx,hokx,k2⟩;refine Hid.out ?_)
 refine Xu ?_
 have T_2:=Xu (HT.out.kp k2)
 have M1_2:=Xu (M1_1.out.kp k2)
 have M2_2:=Xu (M2_1.out.kp k2)
 have MN_2:=Xu (MN_1.out.kp k2)
 have MD_2:=Xu (MD_1.out.kp k2)
 have Z_2:=Xu (Z_1.out.kp k2)
 clear HT M1_1 M2_1 MN_1 MD_1 Z_1
 clear k2
 have HX:=Xu hokx
 clear hokx
 go_upto_if 23 with fail
 go_cut [0] (fun negv wc=>negv= .bool neg∧One w wc (.bool p) (.slice a1 l1 c1) (.slice a2 l2 c2))
 case first=>
  cases okx
  ·go_wp2_with fail
   go_meet
   exact ⟨rfl,T_2.out.kp (by repeat first|exact Below.refl _ _|apply Kp.on|apply Kp.up)⟩
  ·obtain ⟨e1,e2,e3⟩:=HX.out rfl
   obtain rfl:=e1.symm
   obtain rfl:=e2.symm
   obtain rfl:=e3.symm
   clear HX
   have XB_2:=Xu (Shb.new w2 (.bool p) (.int .u64 (N:Int)) (.int .u64 (D:Int)))
   have T_3:=Xu (T_2.out.kp (Kp.alloc _ (Obj.cells #[Value.bool p,Value.int IntKind.u64 (N:Int),Value.int IntKind.u64 (D:Int)] 170)))
   have M1_3:=Xu (M1_2.out.kp (Kp.alloc _ (Obj.cells #[Value.bool p,Value.int IntKind.u64 (N:Int),Value.int IntKind.u64 (D:Int)] 170)))
   have M2_3:=Xu (M2_2.out.kp (Kp.alloc _ (Obj.cells #[Value.bool p,Value.int IntKind.u64 (N:Int),Value.int IntKind.u64 (D:Int)] 170)))
   have MN_3:=Xu (MN_2.out.kp (Kp.alloc _ (Obj.cells #[Value.bool p,Value.int IntKind.u64 (N:Int),Value.int IntKind.u64 (D:Int)] 170)))
   have MD_3:=Xu (MD_2.out.kp (Kp.alloc _ (Obj.cells #[Value.bool p,Value.int IntKind.u64 (N:Int),Value.int IntKind.u64 (D:Int)] 170)))
   have Z_3:=Xu (Z_2.out.kp (Kp.alloc _ (Obj.cells #[Value.bool p,Value.int IntKind.u64 (N:Int),Value.int IntKind.u64 (D:Int)] 170)))
   clear T_2 M1_2 M2_2 MN_2 MD_2 Z_2
   go_wp2_with (go_at_call 222;(with_reducible refine (CSB.out _ MN_3.out MD_3.out).mono ?_);rintro e w4 ⟨sy,ny,dy,oky,rfl,hny,hdy,hoky,k4⟩;refine Hid.out ?_)
   refine Xu ?_
   have T_4:=Xu (T_3.out.kp k4)
   have M1_4:=Xu (M1_3.out.kp k4)
   have M2_4:=Xu (M2_3.out.kp k4)
   have MN_4:=Xu (MN_3.out.kp k4)
   have MD_4:=Xu (MD_3.out.kp k4)
   have Z_4:=Xu (Z_3.out.kp k4)
   have XB_4:=Xu (XB_2.out.kp k4)
   clear T_3 M1_3 M2_3 MN_3 MD_3 Z_3 XB_2
   clear k4
   have HY:=Xu hoky
   clear hoky
   cases oky
   ·go_wp2_with fail
    go_meet
    exact ⟨rfl,T_4.out.kp (by repeat first|exact Below.refl _ _|apply Kp.on|apply Kp.up)⟩
   ·obtain ⟨e1,e2,e3⟩:=HY.out rfl
    obtain rfl:=e1.symm
    obtain rfl:=e2.symm
    obtain rfl:=e3.symm
    clear HY
    have T_5:=Xu (T_4.out.kp (Kp.alloc _ (Obj.cells #[Value.bool false,Value.int IntKind.u64 (n:Int),Value.int IntKind.u64 (d:Int)] 170)))
    have M1_5:=Xu (M1_4.out.kp (Kp.alloc _ (Obj.cells #[Value.bool false,Value.int IntKind.u64 (n:Int),Value.int IntKind.u64 (d:Int)] 170)))
    have M2_5:=Xu (M2_4.out.kp (Kp.alloc _ (Obj.cells #[Value.bool false,Value.int IntKind.u64 (n:Int),Value.int IntKind.u64 (d:Int)] 170)))
    have MN_5:=Xu (MN_4.out.kp (Kp.alloc _ (Obj.cells #[Value.bool false,Value.int IntKind.u64 (n:Int),Value.int IntKind.u64 (d:Int)] 170)))
    have MD_5:=Xu (MD_4.out.kp (Kp.alloc _ (Obj.cells #[Value.bool false,Value.int IntKind.u64 (n:Int),Value.int IntKind.u64 (d:Int)] 170)))
    have Z_5:=Xu (Z_4.out.kp (Kp.alloc _ (Obj.cells #[Value.bool false,Value.int IntKind.u64 (n:Int),Value.int IntKind.u64 (d:Int)] 170)))
    have XB_5:=Xu (XB_4.out.kp (Kp.alloc _ (Obj.cells #[Value.bool false,Value.int IntKind.u64 (n:Int),Value.int IntKind.u64 (d:Int)] 170)))
    clear T_4 M1_4 M2_4 MN_4 MD_4 Z_4 XB_4
    obtain ⟨x0,x1,x2,_⟩:=XB_5.out.cells
    go_wp2_with (go_at_call 223;(with_reducible refine (CTS.out _ hnx hdx hny hdy).mono ?_);rintro e w6 ⟨kz,lz,okz,rfl,hkz,hlz,hokz,k6⟩;refine Hid.out ?_)
    refine Xu ?_
    have T_6:=Xu (T_5.out.kp k6)
    have M1_6:=Xu (M1_5.out.kp k6)
    have M2_6:=Xu (M2_5.out.kp k6)
    have MN_6:=Xu (MN_5.out.kp k6)
    have MD_6:=Xu (MD_5.out.kp k6)
    have Z_6:=Xu (Z_5.out.kp k6)
    have XB_6:=Xu (XB_5.out.kp k6)
    clear T_5 M1_5 M2_5 MN_5 MD_5 Z_5 XB_5
    clear k6
    have HZZ:=Xu hokz
    clear hokz
    cases okz
    ·go_wp2_with fail
     go_meet
     exact ⟨rfl,T_6.out.kp (by repeat first|exact Below.refl _ _|apply Kp.on|apply Kp.up)⟩
    ·have HE:=Xu (HZZ.out rfl)
     clear HZZ
     have hl0:lz≠0:=by rw [HE.out.2];exact HLD0.out
     have CR:=Xu (CRA.out kz lz hkz hlz hl0)
     clear hl0
     have T_7:=Xu (T_6.out.kp (Kp.alloc _ (Obj.cells #[Value.bool neg,Value.int IntKind.u64 (kz:Int),Value.int IntKind.u64 (lz:Int)] 170)))
     have M1_7:=Xu (M1_6.out.kp (Kp.alloc _ (Obj.cells #[Value.bool neg,Value.int IntKind.u64 (kz:Int),Value.int IntKind.u64 (lz:Int)] 170)))
     have M2_7:=Xu (M2_6.out.kp (Kp.alloc _ (Obj.cells #[Value.bool neg,Value.int IntKind.u64 (kz:Int),Value.int IntKind.u64 (lz:Int)] 170)))
     have MN_7:=Xu (MN_6.out.kp (Kp.alloc _ (Obj.cells #[Value.bool neg,Value.int IntKind.u64 (kz:Int),Value.int IntKind.u64 (lz:Int)] 170)))
     have MD_7:=Xu (MD_6.out.kp (Kp.alloc _ (Obj.cells #[Value.bool neg,Value.int IntKind.u64 (kz:Int),Value.int IntKind.u64 (lz:Int)] 170)))
     have Z_7:=Xu (Z_6.out.kp (Kp.alloc _ (Obj.cells #[Value.bool neg,Value.int IntKind.u64 (kz:Int),Value.int IntKind.u64 (lz:Int)] 170)))
     have XB_7:=Xu (XB_6.out.kp (Kp.alloc _ (Obj.cells #[Value.bool neg,Value.int IntKind.u64 (kz:Int),Value.int IntKind.u64 (lz:Int)] 170)))
     clear T_6 M1_6 M2_6 MN_6 MD_6 Z_6 XB_6
     go_wp2_with (go_at_call 209;(with_reducible refine (CR.out _ Z_7.out).mono ?_);rintro e w8 ⟨vr,rfl,hvr,k8⟩;refine Hid.out ?_)
     refine Xu ?_
     have T_8:=Xu (T_7.out.kp k8)
     have M1_8:=Xu (M1_7.out.kp k8)
     have M2_8:=Xu (M2_7.out.kp k8)
     have MN_8:=Xu (MN_7.out.kp k8)
     have MD_8:=Xu (MD_7.out.kp k8)
     have Z_8:=Xu (Z_7.out.kp k8)
     have XB_8:=Xu (XB_7.out.kp k8)
     clear T_7 M1_7 M2_7 MN_7 MD_7 Z_7 XB_7
     clear k8
     obtain ⟨sgn,q1,r1,s1,q2,r2,s2,rfl⟩:=hvr.lit
     obtain ⟨⟨e0,e1,e2,f0,f1,f2⟩,HPP,HV,HKF⟩:=BR T_8.out.rr T_8.out.k (Below.refl _ _) hvr (by omega)
     clear hvr
     obtain ⟨k0,k1,k2⟩:=HPP.out
     go_wp2
     exact bodyPost_ret (v:= .agg #[.bool sgn,.slice q1 r1 s1,.slice q2 r2 s2]) (by simp [results,Tryz.results179,go_sem,k0,k1,k2]) rfl ⟨_,rfl,by have h:=HV.out;rw [HE.out.1,HE.out.2] at h;exact h,HKF.out⟩
 case rest=>
  obtain ⟨rfl,HC⟩:=hcut
  have T_c:=Xu HC
  clear HC
  have M1_c:=Xu (HM1.out.kp T_c.out.k)
  have M2_c:=Xu (HM2.out.kp T_c.out.k)
  have MN_c:=Xu (HMN.out.kp T_c.out.k)
  have MD_c:=Xu (HMD.out.kp T_c.out.k)
  have Z_c:=Xu (HTZ.out.kp T_c.out.k)
  obtain ⟨g0,g1,g2,_⟩:=T_c.out.ra.cells
  go_wp2_with (go_at_call 180;(with_reducible refine (CDA.out _ M1_c.out M2_c.out).mono ?_);rintro e w101 ⟨va,rfl,mA,k101⟩;refine Hid.out ?_)
  refine Xu ?_
  have T_101:=Xu (T_c.out.kp k101)
  have M1_101:=Xu (M1_c.out.kp k101)
  have M2_101:=Xu (M2_c.out.kp k101)
  have MN_101:=Xu (MN_c.out.kp k101)
  have MD_101:=Xu (MD_c.out.kp k101)
  have Z_101:=Xu (Z_c.out.kp k101)
  clear T_c M1_c M2_c MN_c MD_c Z_c
  have A_101:=Xu mA
  clear mA k101
  obtain ⟨g0,g1,g2,_⟩:=T_101.out.ra.cells
  go_wp2_with (go_at_call 214;(with_reducible refine (CG1.out _ _ _ M1_101.out MD_101.out Z_101.out).mono ?_);rintro e w102 ⟨vf,rfl,mF,k102⟩;refine Hid.out ?_)
  refine Xu ?_
  have T_102:=Xu (T_101.out.kp k102)
  have M1_102:=Xu (M1_101.out.kp k102)
  have M2_102:=Xu (M2_101.out.kp k102)
  have MN_102:=Xu (MN_101.out.kp k102)
  have MD_102:=Xu (MD_101.out.kp k102)
  have Z_102:=Xu (Z_101.out.kp k102)
  have A_102:=Xu (A_101.out.kp k102)
  clear T_101 M1_101 M2_101 MN_101 MD_101 Z_101 A_101
  have F_102:=Xu mF
  clear mF k102
  obtain ⟨g0,g1,g2,_⟩:=T_102.out.ra.cells
  go_wp2_with (go_at_call 214;(with_reducible refine (CG2.out _ _ _ MN_102.out A_102.out Z_102.out).mono ?_);rintro e w103 ⟨vg,rfl,mG,k103⟩;refine Hid.out ?_)
  refine Xu ?_
  have T_103:=Xu (T_102.out.kp k103)
  have M1_103:=Xu (M1_102.out.kp k103)
  have M2_103:=Xu (M2_102.out.kp k103)
  have MN_103:=Xu (MN_102.out.kp k103)
  have MD_103:=Xu (MD_102.out.kp k103)
  have Z_103:=Xu (Z_102.out.kp k103)
  have A_103:=Xu (A_102.out.kp k103)
  have F_103:=Xu (F_102.out.kp k103)
  clear T_102 M1_102 M2_102 MN_102 MD_102 Z_102 A_102 F_102
  have G_103:=Xu mG
  clear mG k103
  obtain ⟨g0,g1,g2,_⟩:=T_103.out.ra.cells
  go_wp2_with (go_at_call 226;(with_reducible refine (CW1.out _ _ _ M1_103.out F_103.out Z_103.out).mono ?_);rintro e w104 ⟨v1,rfl,n1,k104⟩;refine Hid.out ?_)
  refine Xu ?_
  have T_104:=Xu (T_103.out.kp k104)
  have M1_104:=Xu (M1_103.out.kp k104)
  have M2_104:=Xu (M2_103.out.kp k104)
  have MN_104:=Xu (MN_103.out.kp k104)
  have MD_104:=Xu (MD_103.out.kp k104)
  have Z_104:=Xu (Z_103.out.kp k104)
  have A_104:=Xu (A_103.out.kp k104)
  have F_104:=Xu (F_103.out.kp k104)
  have G_104:=Xu (G_103.out.kp k104)
  clear T_103 M1_103 M2_103 MN_103 MD_103 Z_103 A_103 F_103 G_103
  have N1_104:=Xu n1
  clear n1 k104
  obtain ⟨g0,g1,g2,_⟩:=T_104.out.ra.cells
  go_wp2_with (go_at_call 226;(with_reducible refine (CW2.out _ _ _ MN_104.out G_104.out Z_104.out).mono ?_);rintro e w105 ⟨v2,rfl,n2,k105⟩;refine Hid.out ?_)
  refine Xu ?_
  have T_105:=Xu (T_104.out.kp k105)
  have M1_105:=Xu (M1_104.out.kp k105)
  have M2_105:=Xu (M2_104.out.kp k105)
  have MN_105:=Xu (MN_104.out.kp k105)
  have MD_105:=Xu (MD_104.out.kp k105)
  have Z_105:=Xu (Z_104.out.kp k105)
  have A_105:=Xu (A_104.out.kp k105)
  have F_105:=Xu (F_104.out.kp k105)
  have G_105:=Xu (G_104.out.kp k105)
  have N1_105:=Xu (N1_104.out.kp k105)
  clear T_104 M1_104 M2_104 MN_104 MD_104 Z_104 A_104 F_104 G_104 N1_104
  have N2_105:=Xu n2
  clear n2 k105
  obtain ⟨g0,g1,g2,_⟩:=T_105.out.ra.cells
  go_wp2_with (go_at_call 225;(with_reducible refine (CT1.out _ _ _ N1_105.out N2_105.out).mono ?_);rintro e w106 ⟨v3,rfl,n3,k106⟩;refine Hid.out ?_)
  refine Xu ?_
  have T_106:=Xu (T_105.out.kp k106)
  have M1_106:=Xu (M1_105.out.kp k106)
  have M2_106:=Xu (M2_105.out.kp k106)
  have MN_106:=Xu (MN_105.out.kp k106)
  have MD_106:=Xu (MD_105.out.kp k106)
  have Z_106:=Xu (Z_105.out.kp k106)
  have A_106:=Xu (A_105.out.kp k106)
  have F_106:=Xu (F_105.out.kp k106)
  have G_106:=Xu (G_105.out.kp k106)
  have N1_106:=Xu (N1_105.out.kp k106)
  have N2_106:=Xu (N2_105.out.kp k106)
  clear T_105 M1_105 M2_105 MN_105 MD_105 Z_105 A_105 F_105 G_105 N1_105 N2_105
  have N3_106:=Xu n3
  clear n3 k106
  obtain ⟨g0,g1,g2,_⟩:=T_106.out.ra.cells
  go_wp2_with (go_at_call 226;(with_reducible refine (CW3.out _ _ _ A_106.out G_106.out Z_106.out).mono ?_);rintro e w107 ⟨v4,rfl,n4,k107⟩;refine Hid.out ?_)
  refine Xu ?_
  have T_107:=Xu (T_106.out.kp k107)
  have M1_107:=Xu (M1_106.out.kp k107)
  have M2_107:=Xu (M2_106.out.kp k107)
  have MN_107:=Xu (MN_106.out.kp k107)
  have MD_107:=Xu (MD_106.out.kp k107)
  have Z_107:=Xu (Z_106.out.kp k107)
  have A_107:=Xu (A_106.out.kp k107)
  have F_107:=Xu (F_106.out.kp k107)
  have G_107:=Xu (G_106.out.kp k107)
  have N1_107:=Xu (N1_106.out.kp k107)
  have N2_107:=Xu (N2_106.out.kp k107)
  have N3_107:=Xu (N3_106.out.kp k107)
  clear T_106 M1_106 M2_106 MN_106 MD_106 Z_106 A_106 F_106 G_106 N1_106 N2_106 N3_106
  have N4_107:=Xu n4
  clear n4 k107
  obtain ⟨g0,g1,g2,_⟩:=T_107.out.ra.cells
  go_wp2_with (go_at_call 226;(with_reducible refine (CW4.out _ _ _ MD_107.out F_107.out Z_107.out).mono ?_);rintro e w108 ⟨v5,rfl,n5,k108⟩;refine Hid.out ?_)
  refine Xu ?_
  have T_108:=Xu (T_107.out.kp k108)
  have M1_108:=Xu (M1_107.out.kp k108)
  have M2_108:=Xu (M2_107.out.kp k108)
  have MN_108:=Xu (MN_107.out.kp k108)
  have MD_108:=Xu (MD_107.out.kp k108)
  have Z_108:=Xu (Z_107.out.kp k108)
  have A_108:=Xu (A_107.out.kp k108)
  have F_108:=Xu (F_107.out.kp k108)
  have G_108:=Xu (G_107.out.kp k108)
  have N1_108:=Xu (N1_107.out.kp k108)
  have N2_108:=Xu (N2_107.out.kp k108)
  have N3_108:=Xu (N3_107.out.kp k108)
  have N4_108:=Xu (N4_107.out.kp k108)
  clear T_107 M1_107 M2_107 MN_107 MD_107 Z_107 A_107 F_107 G_107 N1_107 N2_107 N3_107 N4_107
  have N5_108:=Xu n5
  clear n5 k108
  obtain ⟨g0,g1,g2,_⟩:=T_108.out.ra.cells
  go_wp2_with (go_at_call 225;(with_reducible refine (CT2.out _ _ _ N4_108.out N5_108.out).mono ?_);rintro e w109 ⟨v6,rfl,n6,k109⟩;refine Hid.out ?_)
  refine Xu ?_
  have T_109:=Xu (T_108.out.kp k109)
  have M1_109:=Xu (M1_108.out.kp k109)
  have M2_109:=Xu (M2_108.out.kp k109)
  have MN_109:=Xu (MN_108.out.kp k109)
  have MD_109:=Xu (MD_108.out.kp k109)
  have Z_109:=Xu (Z_108.out.kp k109)
  have A_109:=Xu (A_108.out.kp k109)
  have F_109:=Xu (F_108.out.kp k109)
  have G_109:=Xu (G_108.out.kp k109)
  have N1_109:=Xu (N1_108.out.kp k109)
  have N2_109:=Xu (N2_108.out.kp k109)
  have N3_109:=Xu (N3_108.out.kp k109)
  have N4_109:=Xu (N4_108.out.kp k109)
  have N5_109:=Xu (N5_108.out.kp k109)
  clear T_108 M1_108 M2_108 MN_108 MD_108 Z_108 A_108 F_108 G_108 N1_108 N2_108 N3_108 N4_108 N5_108
  have N6_109:=Xu n6
  clear n6 k109
  obtain ⟨g0,g1,g2,_⟩:=T_109.out.ra.cells
  go_wp2_with (go_at_call 224;(with_reducible refine (COW.out _ _ _ N3_109.out N6_109.out).mono ?_);rintro e w110 ⟨vr,rfl,hvr,k110⟩;refine Hid.out ?_)
  refine Xu ?_
  have T_110:=Xu (T_109.out.kp k110)
  have M1_110:=Xu (M1_109.out.kp k110)
  have M2_110:=Xu (M2_109.out.kp k110)
  have MN_110:=Xu (MN_109.out.kp k110)
  have MD_110:=Xu (MD_109.out.kp k110)
  have Z_110:=Xu (Z_109.out.kp k110)
  have A_110:=Xu (A_109.out.kp k110)
  have F_110:=Xu (F_109.out.kp k110)
  have G_110:=Xu (G_109.out.kp k110)
  have N1_110:=Xu (N1_109.out.kp k110)
  have N2_110:=Xu (N2_109.out.kp k110)
  have N3_110:=Xu (N3_109.out.kp k110)
  have N4_110:=Xu (N4_109.out.kp k110)
  have N5_110:=Xu (N5_109.out.kp k110)
  have N6_110:=Xu (N6_109.out.kp k110)
  clear T_109 M1_109 M2_109 MN_109 MD_109 Z_109 A_109 F_109 G_109 N1_109 N2_109 N3_109 N4_109 N5_109 N6_109
  clear k110
  obtain ⟨sgn,q1,r1,s1,q2,r2,s2,rfl⟩:=hvr.lit
  obtain ⟨⟨e0,e1,e2,f0,f1,f2⟩,HPP,HV,HKF⟩:=BR T_110.out.rr T_110.out.k (Below.refl _ _) hvr (by omega)
  clear hvr
  obtain ⟨k0,k1,k2⟩:=HPP.out
  go_wp2
  exact bodyPost_ret (v:= .agg #[.bool sgn,.slice q1 r1 s1,.slice q2 r2 s2]) (by simp [results,Tryz.results179,go_sem,k0,k1,k2]) rfl ⟨_,rfl,HV.out,HKF.out⟩
theorem SV {w:World} {u:Value} {x:Rat} (hu:Ax w u x) {v:Value} {y:Rat} (hv:Ax w v y) {j k:Nat} (hs:RSz j x) (ht:RSz k y) (hj:j≤500000000) (hk:k≤500000000) (hT:Tz w):
  Calls Tryz.prog 105 #[u,v] w fun e w'=> ∃r,e= .returned r∧Ax w' r (x*y)∧Kp w w':=by
 have hres:AH (decide (x.num<0) !=decide (y.num<0)) (x.num.natAbs*y.num.natAbs) (x.den*y.den)=x*y:=by rw [←F3,BJ,BJ]
 rw [←hres]
 clear hres
 obtain ⟨a1,l1,c1,a2,l2,c2,rfl,m1,m2⟩:=hu.parts
 obtain ⟨a3,l3,c3,a4,l4,c4,rfl,m3,m4⟩:=hv.parts
 have HT:=Xu (Two.new w (.bool (decide (x.num<0))) (.slice a1 l1 c1) (.slice a2 l2 c2) (.bool (decide (y.num<0))) (.slice a3 l3 c3) (.slice a4 l4 c4))
 have HU:=Xu hu
 have Hm1:=Xu m1
 have Hm2:=Xu m2
 have HV:=Xu hv
 have Hm3:=Xu m3
 have Hm4:=Xu m4
 have HZ:=Xu hT
 have CD:=Xu (fun w' a b (ha:M w' a y.num.natAbs) (hb:M w' b (A0 y))=>Jt (s:=decide (y.num<0)) ha hb)
 have CM:=Xu (fun w' s a vn vd (ha:Ax w' a x) (hn:M w' vn (y.num.natAbs)) (hd:M w' vd (y.den)) (t:Tz w')=>MU (neg:=s) ha hn hd y.den_nz y.reduced hs ht.1 ht.2 (by omega) (by omega) t)
 obtain ⟨p,hp⟩: ∃b,b=decide (x.num<0):=⟨_,rfl⟩
 try rw [←hp] at HT
 try rw [←hp] at HU
 try rw [←hp] at Hm1
 try rw [←hp] at Hm2
 try rw [←hp] at HV
 try rw [←hp] at Hm3
 try rw [←hp] at Hm4
 try rw [←hp] at CD
 try rw [←hp] at CM
 try rw [←hp]
 have HPp:=Xu hp
 obtain ⟨q,hq⟩: ∃b,b=decide (y.num<0):=⟨_,rfl⟩
 try rw [←hq] at HT
 try rw [←hq] at HU
 try rw [←hq] at Hm1
 try rw [←hq] at Hm2
 try rw [←hq] at HV
 try rw [←hq] at Hm3
 try rw [←hq] at Hm4
 try rw [←hq] at CD
 try rw [←hq] at CM
 try rw [←hq]
 have HPq:=Xu hq
 clear hu m1 m2 hp hv m3 m4 hq hT
 go_enter Tryz.func105,Tryz.ntmps105
 have KN:=HT.out.k
 have U_e:=Xu (HU.out.kp KN)
 have m1_e:=Xu (Hm1.out.kp KN)
 have m2_e:=Xu (Hm2.out.kp KN)
 have V_e:=Xu (HV.out.kp KN)
 have m3_e:=Xu (Hm3.out.kp KN)
 have m4_e:=Xu (Hm4.out.kp KN)
 have Z_e:=Xu (HZ.out.kp KN)
 clear KN
 obtain ⟨g0,g1,g2,_⟩:=HT.out.ra.cells
 obtain ⟨h0,h1,h2,_⟩:=HT.out.rb.cells
 have n1: ¬(w.heap.size+1+1=w.heap.size):=by omega
 have n2: ¬(w.heap.size=w.heap.size+1+1):=by omega
 go_wp2_with fail
 have T_2:=Xu (HT.out.kp (Below.refl _ _).drew)
 have U_2:=Xu (U_e.out.kp (Below.refl _ _).drew)
 have m1_2:=Xu (m1_e.out.kp (Below.refl _ _).drew)
 have m2_2:=Xu (m2_e.out.kp (Below.refl _ _).drew)
 have V_2:=Xu (V_e.out.kp (Below.refl _ _).drew)
 have m3_2:=Xu (m3_e.out.kp (Below.refl _ _).drew)
 have m4_2:=Xu (m4_e.out.kp (Below.refl _ _).drew)
 have Z_2:=Xu (Z_e.out.kp (Below.refl _ _).drew)
 clear HT U_e m1_e m2_e V_e m3_e m4_e Z_e
 go_region_held3 (fun w'=>w'.cell? ⟨w.heap.size,0,none⟩=some (.bool p)∧w'.cell? ⟨w.heap.size,1,none⟩=some (.slice a1 l1 c1)∧w'.cell? ⟨w.heap.size,2,none⟩=some (.slice a2 l2 c2)∧w'.cell? ⟨w.heap.size+1,0,none⟩=some (.bool q)∧w'.cell? ⟨w.heap.size+1,1,none⟩=some (.slice a3 l3 c3)∧w'.cell? ⟨w.heap.size+1,2,none⟩=some (.slice a4 l4 c4))
  (first|(refine ⟨?_,?_,?_,?_,?_,?_⟩<;>assumption)|go_keep)
  (first
   | (go_at_call 180;(with_reducible refine (CD.out _ _ _ m3_2.out m4_2.out).mono ?_);rintro e w3 ⟨vd,rfl,hvd,k3⟩;have T_3:=Xu (T_2.out.kp k3);have U_3:=Xu (U_2.out.kp k3);have m1_3:=Xu (m1_2.out.kp k3);have m2_3:=Xu (m2_2.out.kp k3);have V_3:=Xu (V_2.out.kp k3);have m3_3:=Xu (m3_2.out.kp k3);have m4_3:=Xu (m4_2.out.kp k3);have Z_3:=Xu (Z_2.out.kp k3);clear T_2 U_2 m1_2 m2_2 V_2 m3_2 m4_2 Z_2;have D_3:=Xu hvd;clear hvd k3;obtain ⟨g0,g1,g2,_⟩:=T_3.out.ra.cells;obtain ⟨h0,h1,h2,_⟩:=T_3.out.rb.cells)
   | (go_at_call 179;(with_reducible refine (CM.out _ _ _ _ _ U_3.out m3_3.out D_3.out Z_3.out).mono ?_);rintro e w4 ⟨vr,rfl,hvr,k4⟩;have T_4:=Xu (T_3.out.kp k4);have U_4:=Xu (U_3.out.kp k4);have m1_4:=Xu (m1_3.out.kp k4);have m2_4:=Xu (m2_3.out.kp k4);have V_4:=Xu (V_3.out.kp k4);have m3_4:=Xu (m3_3.out.kp k4);have m4_4:=Xu (m4_3.out.kp k4);have Z_4:=Xu (Z_3.out.kp k4);have D_4:=Xu (D_3.out.kp k4);clear T_3 U_3 m1_3 m2_3 V_3 m3_3 m4_3 Z_3 D_3;obtain ⟨sgn,q1,r1,s1,q2,r2,s2,rfl⟩:=hvr.lit;obtain ⟨⟨e0,e1,e2,f0,f1,f2⟩,HPP,HV,HKF⟩:=BR T_4.out.rr T_4.out.k (Below.refl _ _) hvr (by omega);clear hvr;clear k4;obtain ⟨g0,g1,g2,_⟩:=T_4.out.ra.cells;obtain ⟨h0,h1,h2,_⟩:=T_4.out.rb.cells))
 obtain ⟨k0,k1,k2⟩:=HPP.out
 go_wp2
 exact bodyPost_ret (v:= .agg #[.bool sgn,.slice q1 r1 s1,.slice q2 r2 s2]) (by simp [results,Tryz.results105,go_sem,k0,k1,k2]) rfl ⟨_,rfl,HV.out,HKF.out⟩
set_option maxRecDepth 20000 in
theorem SS {w:World} {u:Value} {x:Rat} (hu:Ax w u x) {v:Value} {y:Rat} (hv:Ax w v y) {j k:Nat} (hs:RSz j x) (ht:RSz k y) (hj:j≤500000000) (hk:k≤500000000) (h0:y≠0) (hT:Tz w):
  Calls Tryz.prog 148 #[u,v] w fun e w'=> ∃r,e= .returned (.tuple #[r,.int .i64 0])∧Ax w' r (x/y)∧Kp w w':=by
 have hy0:y.num.natAbs≠0:=fun e=>h0 (Rat.num_eq_zero.1 (Int.natAbs_eq_zero.1 e))
 have hres:AH (decide (x.num<0) !=decide (y.num<0)) (x.num.natAbs*y.den) (x.den*y.num.natAbs)=x/y:=by
  rw [←F3,BJ,←Rc _ hy0 y.den_nz,BJ,Rat.div_def]
 rw [←hres]
 clear hres
 have hcop:Nat.gcd y.den y.num.natAbs=1:=by rw [Nat.gcd_comm];exact y.reduced
 have hsg:(Co y==0)=false:=beq_eq_false_iff_ne.2 (fun e=>h0 (KR.1 e))
 have HSG:=Xu hsg
 obtain ⟨a1,l1,c1,a2,l2,c2,rfl,m1,m2⟩:=hu.parts
 obtain ⟨a3,l3,c3,a4,l4,c4,rfl,m3,m4⟩:=hv.parts
 have HT:=Xu (Two.new w (.bool (decide (x.num<0))) (.slice a1 l1 c1) (.slice a2 l2 c2) (.bool (decide (y.num<0))) (.slice a3 l3 c3) (.slice a4 l4 c4))
 have HU:=Xu hu
 have Hm1:=Xu m1
 have Hm2:=Xu m2
 have HV:=Xu hv
 have Hm3:=Xu m3
 have Hm4:=Xu m4
 have HZ:=Xu hT
 have CS:=Xu (fun w' b (hb:Ax w' b y)=>FE hb)
 have CD:=Xu (fun w' a b (ha:M w' a y.num.natAbs) (hb:M w' b (A0 y))=>Jt (s:=decide (y.num<0)) ha hb)
 have CM:=Xu (fun w' s a vn vd (ha:Ax w' a x) (hn:M w' vn (y.den)) (hd:M w' vd (y.num.natAbs)) (t:Tz w')=>MU (neg:=s) ha hn hd hy0 hcop hs ht.2 ht.1 (by omega) (by omega) t)
 obtain ⟨p,hp⟩: ∃b,b=decide (x.num<0):=⟨_,rfl⟩
 try rw [←hp] at HT
 try rw [←hp] at HU
 try rw [←hp] at Hm1
 try rw [←hp] at Hm2
 try rw [←hp] at HV
 try rw [←hp] at Hm3
 try rw [←hp] at Hm4
 try rw [←hp] at CS
 try rw [←hp] at CD
 try rw [←hp] at CM
 try rw [←hp]
 have HPp:=Xu hp
 obtain ⟨q,hq⟩: ∃b,b=decide (y.num<0):=⟨_,rfl⟩
 try rw [←hq] at HT
 try rw [←hq] at HU
 try rw [←hq] at Hm1
 try rw [←hq] at Hm2
 try rw [←hq] at HV
 try rw [←hq] at Hm3
 try rw [←hq] at Hm4
 try rw [←hq] at CS
 try rw [←hq] at CD
 try rw [←hq] at CM
 try rw [←hq]
 have HPq:=Xu hq
 clear hu m1 m2 hp hv m3 m4 hq hT
 obtain ⟨sg,hsg2⟩: ∃s,s=Co y:=⟨_,rfl⟩
 rw [←hsg2] at CS HSG
 have hsb:=HSG.out
 clear hsg2 hsg hcop hy0 h0 HSG
 go_enter Tryz.func148,Tryz.ntmps148
 have KN:=HT.out.k
 have U_e:=Xu (HU.out.kp KN)
 have m1_e:=Xu (Hm1.out.kp KN)
 have m2_e:=Xu (Hm2.out.kp KN)
 have V_e:=Xu (HV.out.kp KN)
 have m3_e:=Xu (Hm3.out.kp KN)
 have m4_e:=Xu (Hm4.out.kp KN)
 have Z_e:=Xu (HZ.out.kp KN)
 clear KN
 obtain ⟨g0,g1,g2,_⟩:=HT.out.ra.cells
 obtain ⟨h0,h1,h2,_⟩:=HT.out.rb.cells
 go_wp2_with (go_at_call 177;(with_reducible refine (CS.out _ _ V_e.out).mono ?_);rintro e w2 ⟨rfl,k2⟩;refine Hid.out ?_)
 refine Xu ?_
 have T_2:=Xu (HT.out.kp k2)
 have U_2:=Xu (U_e.out.kp k2)
 have m1_2:=Xu (m1_e.out.kp k2)
 have m2_2:=Xu (m2_e.out.kp k2)
 have V_2:=Xu (V_e.out.kp k2)
 have m3_2:=Xu (m3_e.out.kp k2)
 have m4_2:=Xu (m4_e.out.kp k2)
 have Z_2:=Xu (Z_e.out.kp k2)
 clear HT U_e m1_e m2_e V_e m3_e m4_e Z_e
 clear k2
 obtain ⟨g0,g1,g2,_⟩:=T_2.out.ra.cells
 obtain ⟨h0,h1,h2,_⟩:=T_2.out.rb.cells
 have n1: ¬(w.heap.size+1+1=w.heap.size):=by omega
 have n2: ¬(w.heap.size=w.heap.size+1+1):=by omega
 go_wp2_with fail
 have T_3:=Xu (T_2.out.kp (Below.refl _ _).drew)
 have U_3:=Xu (U_2.out.kp (Below.refl _ _).drew)
 have m1_3:=Xu (m1_2.out.kp (Below.refl _ _).drew)
 have m2_3:=Xu (m2_2.out.kp (Below.refl _ _).drew)
 have V_3:=Xu (V_2.out.kp (Below.refl _ _).drew)
 have m3_3:=Xu (m3_2.out.kp (Below.refl _ _).drew)
 have m4_3:=Xu (m4_2.out.kp (Below.refl _ _).drew)
 have Z_3:=Xu (Z_2.out.kp (Below.refl _ _).drew)
 clear T_2 U_2 m1_2 m2_2 V_2 m3_2 m4_2 Z_2
 go_region_held3 (fun w'=>w'.cell? ⟨w.heap.size,0,none⟩=some (.bool p)∧w'.cell? ⟨w.heap.size,1,none⟩=some (.slice a1 l1 c1)∧w'.cell? ⟨w.heap.size,2,none⟩=some (.slice a2 l2 c2)∧w'.cell? ⟨w.heap.size+1,0,none⟩=some (.bool q)∧w'.cell? ⟨w.heap.size+1,1,none⟩=some (.slice a3 l3 c3)∧w'.cell? ⟨w.heap.size+1,2,none⟩=some (.slice a4 l4 c4))
  (first|(refine ⟨?_,?_,?_,?_,?_,?_⟩<;>assumption)|go_keep)
  (first
   | (go_at_call 180;(with_reducible refine (CD.out _ _ _ m3_3.out m4_3.out).mono ?_);rintro e w4 ⟨vd,rfl,hvd,k4⟩;have T_4:=Xu (T_3.out.kp k4);have U_4:=Xu (U_3.out.kp k4);have m1_4:=Xu (m1_3.out.kp k4);have m2_4:=Xu (m2_3.out.kp k4);have V_4:=Xu (V_3.out.kp k4);have m3_4:=Xu (m3_3.out.kp k4);have m4_4:=Xu (m4_3.out.kp k4);have Z_4:=Xu (Z_3.out.kp k4);clear T_3 U_3 m1_3 m2_3 V_3 m3_3 m4_3 Z_3;have D_4:=Xu hvd;clear hvd k4;obtain ⟨g0,g1,g2,_⟩:=T_4.out.ra.cells;obtain ⟨h0,h1,h2,_⟩:=T_4.out.rb.cells)
   | (go_at_call 179;(with_reducible refine (CM.out _ _ _ _ _ U_4.out D_4.out m3_4.out Z_4.out).mono ?_);rintro e w5 ⟨vr,rfl,hvr,k5⟩;have T_5:=Xu (T_4.out.kp k5);have U_5:=Xu (U_4.out.kp k5);have m1_5:=Xu (m1_4.out.kp k5);have m2_5:=Xu (m2_4.out.kp k5);have V_5:=Xu (V_4.out.kp k5);have m3_5:=Xu (m3_4.out.kp k5);have m4_5:=Xu (m4_4.out.kp k5);have Z_5:=Xu (Z_4.out.kp k5);have D_5:=Xu (D_4.out.kp k5);clear T_4 U_4 m1_4 m2_4 V_4 m3_4 m4_4 Z_4 D_4;obtain ⟨sgn,q1,r1,s1,q2,r2,s2,rfl⟩:=hvr.lit;obtain ⟨⟨e0,e1,e2,f0,f1,f2⟩,HPP,HV,HKF⟩:=BR T_5.out.rr T_5.out.k (Below.refl _ _) hvr (by omega);clear hvr;clear k5;obtain ⟨g0,g1,g2,_⟩:=T_5.out.ra.cells;obtain ⟨h0,h1,h2,_⟩:=T_5.out.rb.cells))
 obtain ⟨k0,k1,k2⟩:=HPP.out
 go_wp2
 exact bodyPost_ret (v:= .tuple #[.agg #[.bool sgn,.slice q1 r1 s1,.slice q2 r2 s2],.int .i64 0]) (by simp [results,Tryz.results148,go_sem,k0,k1,k2]) rfl ⟨_,rfl,HV.out,HKF.out⟩
theorem Ht (n:Int) (h1: -9223372036854775808≤n) (h2:n<9223372036854775808) (w:World):
  Calls Tryz.prog 208 #[.int .i64 n] w fun e w'=>e= .returned (.int .u64 (n.natAbs:Nat))∧w=w':=by
 by_cases h:n<0
 ·have hb:decide (n<0)=true:=decide_eq_true h
  go_enter Tryz.func208,Tryz.ntmps208
  go_wp2
  go_ret
  refine ⟨?_,rfl⟩
  refine A8 ?_
  rw [show-n=((n.natAbs:Nat):Int) by omega]
  exact Te (by omega)
 ·have hb:decide (n<0)=false:=decide_eq_false h
  have hn:(n.natAbs:Int)=n:=Int.natAbs_of_nonneg (by omega)
  go_enter Tryz.func208,Tryz.ntmps208
  go_wp2
  go_ret
  refine ⟨?_,rfl⟩
  exact A8 rfl
set_option maxRecDepth 20000 in
theorem Th (n d:Int) (h1: -9223372036854775808≤n) (h2:n<9223372036854775808) (h3: -9223372036854775808≤d) (h4:d<9223372036854775808) (h0:d≠0) (w:World) (hT:Tz w):
  Calls Tryz.prog 151 #[.int .i64 n,.int .i64 d] w fun e w'=> ∃v,e= .returned (.tuple #[v,.int .i64 0])∧Ax w' v (AH (decide (n<0) !=decide (d<0)) n.natAbs d.natAbs)∧Kp w w':=by
 have HN:=Xu (fun w'=>Ht n h1 h2 w')
 have HD:=Xu (fun w'=>Ht d h3 h4 w')
 have HR:=Xu (fun s w' kk=>Lh s n.natAbs d.natAbs (by omega) (by omega) (by omega) w' (hT.kp kk))
 unfold B8 at HR
 have hz:(d==0)=false:=by simpa using h0
 have HRES:=Xu (Res.new w (Value.bool false) (Value.slice none 0 0) (Value.slice none 0 0))
 have HKW:Hid (∀o1,Kp w (w.alloc o1)):=Xu (fun o1=>Kp.alloc w o1)
 obtain ⟨N,hN⟩: ∃N,N=n.natAbs:=⟨_,rfl⟩
 obtain ⟨D,hD⟩: ∃N,N=d.natAbs:=⟨_,rfl⟩
 rw [←hN] at HN HR⊢
 rw [←hD] at HD HR⊢
 obtain ⟨p,hp⟩: ∃p,p=decide (n<0):=⟨_,rfl⟩
 obtain ⟨q,hq⟩: ∃p,p=decide (d<0):=⟨_,rfl⟩
 rw [←hp,←hq]
 have hp':=hp.symm
 have hq':=hq.symm
 clear hp hq hN hD hT h1 h2 h3 h4 h0
 go_enter Tryz.func151,Tryz.ntmps151
 go_wp2_with (first
  | (go_at_call 208;first|((with_reducible refine (HN.out _).mono ?_);rintro e w1 ⟨rfl,rfl⟩)|((with_reducible refine (HD.out _).mono ?_);rintro e w1 ⟨rfl,rfl⟩))
  | (go_at_call 209;(refine (HR.out _ _ (by repeat first|exact Below.refl _ _|apply Kp.on|apply Kp.up)).mono ?_);rintro e w4 ⟨vr,rfl,hvr,K4⟩;refine Hid.out ?_))
 refine Xu ?_
 obtain ⟨sgn,o1,l1,c1,o2,l2,c2,rfl⟩:=hvr.lit
 obtain ⟨⟨d0,d1,d2,f0,f1,f2⟩,HP,HV,HKF⟩:=BR HRES.out (HKW.out _) K4 hvr
 clear hvr K4
 go_wp2
 obtain ⟨k0,k1,k2⟩:=HP.out
 exact bodyPost_ret (v:= .tuple #[.agg #[.bool sgn,.slice o1 l1 c1,.slice o2 l2 c2],.int .i64 0]) (by simp [results,Tryz.results151,go_sem,k0,k1,k2]) rfl ⟨_,rfl,HV.out,HKF.out⟩
end Go.Proofs.YtfineedhebhpaaaGreatDoor
