/-
  Several texts in one: Qp, Qt, Q2.
-/
import Derived.Test.YtfineedhebhpaaaGreatDoorBl
import Derived.Test.YtfineedhebhpaaaGreatDoorBy
import Derived.Test.YtfineedhebhpaaaGreatDoorBm
import Derived.Shelf.Spec.BitsCarry
namespace Go.Proofs.YtfineedhebhpaaaGreatDoor
open Lib renaming hid→Yt
set_option maxHeartbeats 16000000
open Go.RowKit Go.Shelf
def XC:Go.Shelf.Ren:=⟨fun|25=>275|n=>n,fun|22=>160|n=>n,fun n=>n⟩
theorem Wr:Lays7.n25 Tryz.prog XC:= {
 mixed:=by kernel_rfl
 f25:=Tryz.func275.trans (congrArg some (by kernel_rfl))
 t22:=Tryz.underlying160
 a22:=Tryz.isAgg160
 z22:=Tryz.sizeOf160
 v22:=Tryz.zeroValue160
 i22:=by kernel_rfl }
theorem SC (x y:Nat) (w:World):
  (callFunc 275 #[.int .u64 (x:Nat),.int .u64 (y:Nat),.int .u64 0]).run Tryz.prog w=
   .ok (.value (.tuple #[.int .u64 (((x+y) % 18446744073709551616:Nat):Int),.int .u64 (((x+y)/18446744073709551616:Nat):Int)])) w:=
 Any7.bits_Add64 Wr x y 0 (by omega) w
structure Words (a b:Bool) (n d m e p q r:Nat) (p1 q1 r1:Bool):Prop where
 hp:p=n*e % 18446744073709551616
 hq:q=m*d % 18446744073709551616
 hr:r=d*e % 18446744073709551616
 p1:p1=decide (n*e<18446744073709551616)
 q1:q1=decide (m*d<18446744073709551616)
 r1:r1=decide (d*e<18446744073709551616)
set_option maxRecDepth 20000 in
theorem TW (a b:Bool) (n d m e:Nat) (hn:n<18446744073709551616) (hd:d<18446744073709551616) (hm:m<18446744073709551616) (he:e<18446744073709551616) (w:World):
  Calls Tryz.prog 251 #[Cx a n d,Cx b m e] w fun ex w'=> ∃(neg:Bool) (k l:Nat) (ok:Bool),ex= .returned (.tuple #[Cx neg k l,.bool ok])∧k<18446744073709551616∧l<18446744073709551616∧(ok=true→l=d*e∧sg neg k=sg a (n*e)+sg b (m*d))∧Kp w w':=by
 have HM1:=Yt (DC n e hn he)
 have HM2:=Yt (DC m d hm hd)
 have HM3:=Yt (DC d e hd he)
 unfold Cx
 obtain ⟨p,hp⟩: ∃z,z=n*e % 18446744073709551616:=⟨_,rfl⟩
 obtain ⟨q,hq⟩: ∃z,z=m*d % 18446744073709551616:=⟨_,rfl⟩
 obtain ⟨r,hr⟩: ∃z,z=d*e % 18446744073709551616:=⟨_,rfl⟩
 obtain ⟨p1,hp1⟩: ∃z,z=decide (n*e<18446744073709551616):=⟨_,rfl⟩
 obtain ⟨q1,hq1⟩: ∃z,z=decide (m*d<18446744073709551616):=⟨_,rfl⟩
 obtain ⟨r1,hr1⟩: ∃z,z=decide (d*e<18446744073709551616):=⟨_,rfl⟩
 rw [←hp,←hp1] at HM1
 rw [←hq,←hq1] at HM2
 rw [←hr,←hr1] at HM3
 have HW:=Yt (Words.mk (a:=a) (b:=b) hp hq hr hp1 hq1 hr1)
 have hpl:p<18446744073709551616:=by rw [hp];exact Nat.mod_lt _ (by omega)
 have hql:q<18446744073709551616:=by rw [hq];exact Nat.mod_lt _ (by omega)
 have hrl:r<18446744073709551616:=by rw [hr];exact Nat.mod_lt _ (by omega)
 have HPL:=Yt hpl
 have HQL:=Yt hql
 have HRL:=Yt hrl
 have KA: ∀o1 o2 o3:Obj,Kp w (((w.alloc o1).alloc o2).alloc o3):=fun o1 o2 o3=>((Kp.alloc w o1).tr (Kp.alloc _ o2)).tr (Kp.alloc _ o3)
 have HKA:=Yt KA
 clear KA hp hq hr hp1 hq1 hr1
 cases p1
 ·go_enter Tryz.func251,Tryz.ntmps251
  go_wp2_with (go_at_call 260;first|((with_reducible refine (HM1.out _).mono ?_);rintro e w1 ⟨rfl,rfl⟩)|((with_reducible refine (HM2.out _).mono ?_);rintro e w1 ⟨rfl,rfl⟩)|((with_reducible refine (HM3.out _).mono ?_);rintro e w1 ⟨rfl,rfl⟩))
  go_wp2
  exact bodyPost_ret (v:= .tuple #[.agg #[.bool false,.int .u64 0,.int .u64 0],.bool false]) (by simp [results,Tryz.results251,go_sem]) rfl ⟨false,0,0,false,rfl,by omega,by omega,fun h=>(by cases h),HKA.out _ _ _⟩
 ·cases q1
  ·go_enter Tryz.func251,Tryz.ntmps251
   go_wp2_with (go_at_call 260;first|((with_reducible refine (HM1.out _).mono ?_);rintro e w1 ⟨rfl,rfl⟩)|((with_reducible refine (HM2.out _).mono ?_);rintro e w1 ⟨rfl,rfl⟩)|((with_reducible refine (HM3.out _).mono ?_);rintro e w1 ⟨rfl,rfl⟩))
   go_wp2
   exact bodyPost_ret (v:= .tuple #[.agg #[.bool false,.int .u64 0,.int .u64 0],.bool false]) (by simp [results,Tryz.results251,go_sem]) rfl ⟨false,0,0,false,rfl,by omega,by omega,fun h=>(by cases h),HKA.out _ _ _⟩
  ·cases r1
   ·go_enter Tryz.func251,Tryz.ntmps251
    go_wp2_with (go_at_call 260;first|((with_reducible refine (HM1.out _).mono ?_);rintro e w1 ⟨rfl,rfl⟩)|((with_reducible refine (HM2.out _).mono ?_);rintro e w1 ⟨rfl,rfl⟩)|((with_reducible refine (HM3.out _).mono ?_);rintro e w1 ⟨rfl,rfl⟩))
    go_wp2
    exact bodyPost_ret (v:= .tuple #[.agg #[.bool false,.int .u64 0,.int .u64 0],.bool false]) (by simp [results,Tryz.results251,go_sem]) rfl ⟨false,0,0,false,rfl,by omega,by omega,fun h=>(by cases h),HKA.out _ _ _⟩
   ·have e1:=of_decide_eq_true HW.out.p1.symm
    have e2:=of_decide_eq_true HW.out.q1.symm
    have e3:=of_decide_eq_true HW.out.r1.symm
    have hpe:p=n*e:=by rw [HW.out.hp,Nat.mod_eq_of_lt e1]
    have hqe:q=m*d:=by rw [HW.out.hq,Nat.mod_eq_of_lt e2]
    have hre:r=d*e:=by rw [HW.out.hr,Nat.mod_eq_of_lt e3]
    rw [←hpe,←hqe,←hre]
    clear e1 e2 e3 hpe hqe hre HW
    by_cases hab:a=b
    ·subst hab
     have hrun:=SC p q
     obtain ⟨s,hs⟩: ∃z,z=(p+q) % 18446744073709551616:=⟨_,rfl⟩
     obtain ⟨c,hc⟩: ∃z,z=(p+q)/18446744073709551616:=⟨_,rfl⟩
     rw [←hs,←hc] at hrun
     have hok:((c:Int)==0)=true→s=p+q∧s<18446744073709551616:=by
      intro h
      have:=beq_iff_eq.1 h
      omega
     have HOK:=Yt hok
     have HSL:=Yt (show s<18446744073709551616 by omega)
     clear hs hc hok
     go_enter Tryz.func251,Tryz.ntmps251
     go_wp2_with (go_at_call 260;first|((with_reducible refine (HM1.out _).mono ?_);rintro e w1 ⟨rfl,rfl⟩)|((with_reducible refine (HM2.out _).mono ?_);rintro e w1 ⟨rfl,rfl⟩)|((with_reducible refine (HM3.out _).mono ?_);rintro e w1 ⟨rfl,rfl⟩))
     go_wp2
     refine bodyPost_ret (v:= .tuple #[.agg #[.bool a,.int .u64 (s:Nat),.int .u64 (r:Nat)],.bool ((c:Int)==0)]) (by simp [results,Tryz.results251,go_sem]) rfl ⟨a,s,r,_,rfl,HSL.out,HRL.out,fun h=>⟨rfl,?_⟩,HKA.out _ _ _⟩
     rw [(HOK.out h).1,OH]
    ·obtain rfl:b=!a:=by cases a<;>cases b<;>simp_all
     have hab1:(a==!a)=false:=by cases a<;>rfl
     have hab2:(a=!a)=False:=by cases a<;>simp
     by_cases hlt:p<q
     ·have hw:IntKind.u64.wrap ((q:Int)-(p:Int))=((q-p:Nat):Int):=by rw [IntWalk.u64_in _ (by omega)];omega
      have HLT:=Yt (show q-p<18446744073709551616 by omega)
      have HSG:=Yt (show sg (!a) (q-p)=sg a p+sg (!a) q by rw [Int.add_comm,←Jm (!a) (Nat.le_of_lt hlt),Bool.not_not])
      clear hab
      go_enter Tryz.func251,Tryz.ntmps251
      go_wp2_with (go_at_call 260;first|((with_reducible refine (HM1.out _).mono ?_);rintro e w1 ⟨rfl,rfl⟩)|((with_reducible refine (HM2.out _).mono ?_);rintro e w1 ⟨rfl,rfl⟩)|((with_reducible refine (HM3.out _).mono ?_);rintro e w1 ⟨rfl,rfl⟩))
      go_wp2
      exact bodyPost_ret (v:= .tuple #[.agg #[.bool (!a),.int .u64 ((q-p:Nat):Int),.int .u64 (r:Nat)],.bool true]) (by simp [results,Tryz.results251,go_sem]) rfl ⟨!a,q-p,r,true,rfl,HLT.out,HRL.out,fun _=>⟨rfl,HSG.out⟩,HKA.out _ _ _⟩
     ·have hw:IntKind.u64.wrap ((p:Int)-(q:Int))=((p-q:Nat):Int):=by rw [IntWalk.u64_in _ (by omega)];omega
      have HLT:=Yt (show p-q<18446744073709551616 by omega)
      have HSG:=Yt (show sg a (p-q)=sg a p+sg (!a) q by rw [Jm a (by omega)])
      clear hab
      go_enter Tryz.func251,Tryz.ntmps251
      go_wp2_with (go_at_call 260;first|((with_reducible refine (HM1.out _).mono ?_);rintro e w1 ⟨rfl,rfl⟩)|((with_reducible refine (HM2.out _).mono ?_);rintro e w1 ⟨rfl,rfl⟩)|((with_reducible refine (HM3.out _).mono ?_);rintro e w1 ⟨rfl,rfl⟩))
      go_wp2
      exact bodyPost_ret (v:= .tuple #[.agg #[.bool a,.int .u64 ((p-q:Nat):Int),.int .u64 (r:Nat)],.bool true]) (by simp [results,Tryz.results251,go_sem]) rfl ⟨a,p-q,r,true,rfl,HLT.out,HRL.out,fun _=>⟨rfl,HSG.out⟩,HKA.out _ _ _⟩
end Go.Proofs.YtfineedhebhpaaaGreatDoor
namespace Go.Proofs.YtfineedhebhpaaaGreatDoor
open Lib renaming hid→Yt
open Nat renaming le_refl→Yu
set_option maxHeartbeats 16000000
open Go.RowKit
set_option maxRecDepth 20000 in
theorem Qc {w:World} {neg:Bool} {u v:Value} {x y:Rat} (hu:Ax w u x) (hv:Ax w v y) {j k:Nat} (hs:RSz j x) (ht:RSz k y) (hj:j≤1073741824) (hk:k≤1073741824) (hT:Tz w):
  Calls Tryz.prog 207 #[u,v,.bool neg] w fun e w'=> ∃r,e= .returned r∧Ax w' r (x+AE neg y.num.natAbs y.den)∧Kp w w':=by
 obtain ⟨a1,l1,c1,a2,l2,c2,rfl,m1,m2⟩:=hu.parts
 obtain ⟨a3,l3,c3,a4,l4,c4,rfl,m3,m4⟩:=hv.parts
 have HT:=Yt (Two.new w (.bool (decide (x.num<0))) (.slice a1 l1 c1) (.slice a2 l2 c2) (.bool (decide (y.num<0))) (.slice a3 l3 c3) (.slice a4 l4 c4))
 obtain ⟨g,hg⟩: ∃g,g=Nat.gcd x.den y.den:=⟨_,rfl⟩
 have g0:g≠0:=by rw [hg];exact Nat.ne_of_gt (Nat.gcd_pos_of_pos_right _ (Nat.pos_of_ne_zero y.den_nz))
 have SPA:Sz j (x.den/g):=hs.2.le (Nat.div_le_self _ _)
 have SPB:Sz k (y.den/g):=ht.2.le (Nat.div_le_self _ _)
 have SGG:Sz j g:=hs.2.le (by rw [hg];exact Nat.le_of_dvd (Nat.pos_of_ne_zero x.den_nz) (Nat.gcd_dvd_left _ _))
 have CSA:=Yt (fun w' (a:M w' (.slice a1 l1 c1) x.num.natAbs) (b:M w' (.slice a2 l2 c2) (AX x))=>EK (s:=decide (x.num<0)) a b)
 have CSB:=Yt (fun w' (a:M w' (.slice a3 l3 c3) y.num.natAbs) (b:M w' (.slice a4 l4 c4) (AX y))=>EK (s:=decide (y.num<0)) a b)
 have CDA:=Yt (fun w' (a:M w' (.slice a1 l1 c1) x.num.natAbs) (b:M w' (.slice a2 l2 c2) (AX x))=>JZ (s:=decide (x.num<0)) a b)
 have CDB:=Yt (fun w' (a:M w' (.slice a3 l3 c3) y.num.natAbs) (b:M w' (.slice a4 l4 c4) (AX y))=>JZ (s:=decide (y.num<0)) a b)
 have CGC:=Yt (fun w' v1 v2 (a:M w' v1 x.den) (b:M w' v2 y.den) (t:Tz w')=>EA a b (by have:=hs.2;unfold Sz at this;omega) (by have:=ht.2;unfold Sz at this;omega) t)
 rw [←hg] at CGC
 have CWA:=Yt (fun w' v1 v2 (a:M w' v1 x.den) (b:M w' v2 g) (t:Tz w')=>CE a b (by have:=hs.2;unfold Sz at this;omega) g0 t)
 have CWB:=Yt (fun w' v1 v2 (a:M w' v1 y.den) (b:M w' v2 g) (t:Tz w')=>CE a b (by have:=ht.2;unfold Sz at this;omega) g0 t)
 have CTA:=Yt (fun w' v1 v2 (a:M w' v1 x.num.natAbs) (b:M w' v2 (y.den/g))=>Ff a b hs.1 SPB (by omega) (by omega))
 have CTB:=Yt (fun w' v1 v2 (a:M w' v1 y.num.natAbs) (b:M w' v2 (x.den/g))=>Ff a b ht.1 SPA (by omega) (by omega))
 have SN1:Sz (j+k) _:=hs.1.mul SPB
 have SN2:Sz (k+j) _:=ht.1.mul SPA
 have CSN:=Yt (fun w' v1 v2 (a:M w' v1 (x.num.natAbs*(y.den/g))) (b:M w' v2 (y.num.natAbs*(x.den/g)))=>MT (s:=decide (x.num<0)) (t:=neg) a b SN1 SN2 (by omega) (by omega))
 have HSZ:=Yt (fun (s:Bool) (z:Nat) (h:sg s z=sg (decide (x.num<0)) (x.num.natAbs*(y.den/g))+sg neg (y.num.natAbs*(x.den/g)))=>(show Sz (j+k+1) z from by
  have hz:z≤x.num.natAbs*(y.den/g)+y.num.natAbs*(x.den/g):=by
   have e:=congrArg Int.natAbs h
   rw [Dt] at e
   rw [e]
   refine Nat.le_trans (Int.natAbs_add_le _ _) ?_
   rw [Dt,Dt]
   exact Yu _
  rw [Nat.add_comm k j] at SN2
  exact (SN1.plus SN2).le hz))
 have CG2:=Yt (fun w' v1 v2 (z:Nat) (sz:Sz (j+k+1) z) (a:M w' v1 z) (b:M w' v2 g) (t:Tz w')=>EA a b (by unfold Sz at sz;omega) (by unfold Sz at SGG;omega) t)
 have CW1:=Yt (fun w' v1 v2 (z:Nat) (sz:Sz (j+k+1) z) (a:M w' v1 z) (b:M w' v2 (Nat.gcd z g)) (t:Tz w')=>CE a b (by unfold Sz at sz;omega) (Nat.ne_of_gt (Nat.gcd_pos_of_pos_right _ (Nat.pos_of_ne_zero g0))) t)
 have CW2:=Yt (fun w' v1 v2 (z:Nat) (a:M w' v1 y.den) (b:M w' v2 (Nat.gcd z g)) (t:Tz w')=>CE a b (by have:=ht.2;unfold Sz at this;omega) (Nat.ne_of_gt (Nat.gcd_pos_of_pos_right _ (Nat.pos_of_ne_zero g0))) t)
 have CTC:=Yt (fun w' v1 v2 (z:Nat) (a:M w' v1 (x.den/g)) (b:M w' v2 (y.den/Nat.gcd z g))=>Ff a b SPA (ht.2.le (Nat.div_le_self _ _)) (by omega) (by omega))
 have COW:=Yt (fun w' v1 v2 (s:Bool) (z:Nat) (h:sg s z=sg (decide (x.num<0)) (x.num.natAbs*(y.den/g))+sg neg (y.num.natAbs*(x.den/g))) (a:M w' v1 (z/Nat.gcd z g)) (b:M w' v2 (x.den/g*(y.den/Nat.gcd z g)))=>
  (show Calls Tryz.prog 224 #[.bool s,v1,v2] w' fun e w2=> ∃r,e= .returned r∧Ax w2 r (x+AE neg y.num.natAbs y.den)∧Kp w' w2 from by
   obtain ⟨p1,p2,p3⟩:=S7 x.reduced y.reduced x.den_nz y.den_nz hg rfl h
   rw [Bx] at p3
   have sz:=HSZ.out s z h
   have:=Gx (neg:=s) a b p2 p1 (Nat.le_trans (AM _ _ (Nat.div_le_self _ _)) (by unfold Sz at sz;omega)) (by have:=SPA.mul (ht.2.le (Nat.div_le_self y.den (Nat.gcd z g)));unfold Sz at this;omega)
   rw [p3] at this
   exact this))
 have CPL:=Yt (fun n d m e hn hd hm he w'=>TW (decide (x.num<0)) neg n d m e hn hd hm he (w:=w'))
 have CRA:=Yt (fun s k l hk hl h0 w' (t:Tz w')=>LM s k l hk hl h0 w' t)
 have HSW:=Yt (fun (s:Bool) (k l:Nat) (hl:l=x.den*y.den) (hk:sg s k=sg (decide (x.num<0)) (x.num.natAbs*y.den)+sg neg (y.num.natAbs*x.den))=>(Rk x.den_nz y.den_nz hl hk).trans (by rw [Bx]))
 unfold Cx at CSA CSB CPL CRA
 have HM1:=Yt m1
 have HM2:=Yt m2
 have HM3:=Yt m3
 have HM4:=Yt m4
 have HTZ:=Yt hT
 have HXD:=Yt (Eu x)
 have HYD:=Yt (Eu y)
 have HLD0:=Yt (Nat.mul_ne_zero x.den_nz y.den_nz)
 obtain ⟨p,hp⟩: ∃p,p=decide (x.num<0):=⟨_,rfl⟩
 obtain ⟨q,hq⟩: ∃q,q=decide (y.num<0):=⟨_,rfl⟩
 rw [←hp] at HT CSA CDA CSN HSZ COW CPL HSW⊢
 rw [←hq] at HT CSB CDB⊢
 rw [HXD.out] at CSA
 rw [HYD.out] at CSB
 obtain ⟨N,hN⟩: ∃N,N=x.num.natAbs:=⟨_,rfl⟩
 obtain ⟨D,hD⟩: ∃D,D=x.den:=⟨_,rfl⟩
 obtain ⟨N2,hN2⟩: ∃N,N=y.num.natAbs:=⟨_,rfl⟩
 obtain ⟨D2,hD2⟩: ∃D,D=y.den:=⟨_,rfl⟩
 obtain ⟨S,hS⟩: ∃S,S=x+AE neg y.num.natAbs y.den:=⟨_,rfl⟩
 rw [←hS] at COW HSW⊢
 rw [←hN] at HM1 CSA CDA CTA CSN HSZ COW HSW
 rw [←hN2] at HM3 CSB CDB CTB CSN HSZ COW HSW
 rw [←hD] at CSA CDA CGC CWA CTB CSN HSZ CTC COW HLD0 HSW
 rw [←hD2] at CSB CDB CGC CWB CTA CSN HSZ CW2 CTC COW HLD0 HSW
 clear SPA SPB SGG SN1 SN2 g0 hg hs ht hp hq hj hk hu hv m1 m2 m3 m4 hT hN hD hN2 hD2 hS
 go_enter Tryz.func207,Tryz.ntmps207
 have KN:=HT.out.k
 have M1_1:=Yt (HM1.out.kp KN)
 have M2_1:=Yt (HM2.out.kp KN)
 have M3_1:=Yt (HM3.out.kp KN)
 have M4_1:=Yt (HM4.out.kp KN)
 have Z_1:=Yt (HTZ.out.kp KN)
 clear KN
 obtain ⟨g0,g1,g2,_⟩:=HT.out.ra.cells
 obtain ⟨h0,h1,h2,_⟩:=HT.out.rb.cells
 go_wp2_with (go_at_call 222;(with_reducible refine (CSA.out _ M1_1.out M2_1.out).mono ?_);rintro e w2 ⟨sx,nx,dx,okx,rfl,hnx,hdx,hokx,k2⟩;refine Hid.out ?_)
 refine Yt ?_
 have T_2:=Yt (HT.out.kp k2)
 have M1_2:=Yt (M1_1.out.kp k2)
 have M2_2:=Yt (M2_1.out.kp k2)
 have M3_2:=Yt (M3_1.out.kp k2)
 have M4_2:=Yt (M4_1.out.kp k2)
 have Z_2:=Yt (Z_1.out.kp k2)
 clear HT M1_1 M2_1 M3_1 M4_1 Z_1
 clear k2
 obtain ⟨g0,g1,g2,_⟩:=T_2.out.ra.cells
 obtain ⟨h0,h1,h2,_⟩:=T_2.out.rb.cells
 have HX:=Yt hokx
 clear hokx
 go_upto_if 25 with fail
 go_cut [2] (fun negv wc=>negv= .bool neg∧Two w wc (.bool p) (.slice a1 l1 c1) (.slice a2 l2 c2) (.bool q) (.slice a3 l3 c3) (.slice a4 l4 c4))
 case first=>
  cases okx
  ·go_wp2_with fail
   go_meet
   exact ⟨rfl,T_2.out.kp (by repeat first|exact Below.refl _ _|apply Kp.on|apply Kp.up)⟩
  ·obtain ⟨e1,e2,e3⟩:=HX.out rfl
   obtain rfl:=e1.symm
   obtain rfl:=e2.symm
   obtain rfl:=e3.symm
   clear HX
   have XB_2:=Yt (Shb.new w2 (.bool p) (.int .u64 (N:Int)) (.int .u64 (D:Int)))
   have T_3:=Yt (T_2.out.kp (Kp.alloc _ (Obj.cells #[Value.bool p,Value.int IntKind.u64 (N:Int),Value.int IntKind.u64 (D:Int)] 170)))
   have M1_3:=Yt (M1_2.out.kp (Kp.alloc _ (Obj.cells #[Value.bool p,Value.int IntKind.u64 (N:Int),Value.int IntKind.u64 (D:Int)] 170)))
   have M2_3:=Yt (M2_2.out.kp (Kp.alloc _ (Obj.cells #[Value.bool p,Value.int IntKind.u64 (N:Int),Value.int IntKind.u64 (D:Int)] 170)))
   have M3_3:=Yt (M3_2.out.kp (Kp.alloc _ (Obj.cells #[Value.bool p,Value.int IntKind.u64 (N:Int),Value.int IntKind.u64 (D:Int)] 170)))
   have M4_3:=Yt (M4_2.out.kp (Kp.alloc _ (Obj.cells #[Value.bool p,Value.int IntKind.u64 (N:Int),Value.int IntKind.u64 (D:Int)] 170)))
   have Z_3:=Yt (Z_2.out.kp (Kp.alloc _ (Obj.cells #[Value.bool p,Value.int IntKind.u64 (N:Int),Value.int IntKind.u64 (D:Int)] 170)))
   clear T_2 M1_2 M2_2 M3_2 M4_2 Z_2
   obtain ⟨g0,g1,g2,_⟩:=T_3.out.ra.cells
   obtain ⟨h0,h1,h2,_⟩:=T_3.out.rb.cells
   go_wp2_with (go_at_call 222;(with_reducible refine (CSB.out _ M3_3.out M4_3.out).mono ?_);rintro e w4 ⟨sy,ny,dy,oky,rfl,hny,hdy,hoky,k4⟩;refine Hid.out ?_)
   refine Yt ?_
   have T_4:=Yt (T_3.out.kp k4)
   have M1_4:=Yt (M1_3.out.kp k4)
   have M2_4:=Yt (M2_3.out.kp k4)
   have M3_4:=Yt (M3_3.out.kp k4)
   have M4_4:=Yt (M4_3.out.kp k4)
   have Z_4:=Yt (Z_3.out.kp k4)
   have XB_4:=Yt (XB_2.out.kp k4)
   clear T_3 M1_3 M2_3 M3_3 M4_3 Z_3 XB_2
   clear k4
   have HY:=Yt hoky
   clear hoky
   cases oky
   ·go_wp2_with fail
    go_meet
    exact ⟨rfl,T_4.out.kp (by repeat first|exact Below.refl _ _|apply Kp.on|apply Kp.up)⟩
   ·obtain ⟨e1,e2,e3⟩:=HY.out rfl
    obtain rfl:=e1.symm
    obtain rfl:=e2.symm
    obtain rfl:=e3.symm
    clear HY
    have T_5:=Yt (T_4.out.kp (Kp.alloc _ (Obj.cells #[Value.bool neg,Value.int IntKind.u64 (N2:Int),Value.int IntKind.u64 (D2:Int)] 170)))
    have M1_5:=Yt (M1_4.out.kp (Kp.alloc _ (Obj.cells #[Value.bool neg,Value.int IntKind.u64 (N2:Int),Value.int IntKind.u64 (D2:Int)] 170)))
    have M2_5:=Yt (M2_4.out.kp (Kp.alloc _ (Obj.cells #[Value.bool neg,Value.int IntKind.u64 (N2:Int),Value.int IntKind.u64 (D2:Int)] 170)))
    have M3_5:=Yt (M3_4.out.kp (Kp.alloc _ (Obj.cells #[Value.bool neg,Value.int IntKind.u64 (N2:Int),Value.int IntKind.u64 (D2:Int)] 170)))
    have M4_5:=Yt (M4_4.out.kp (Kp.alloc _ (Obj.cells #[Value.bool neg,Value.int IntKind.u64 (N2:Int),Value.int IntKind.u64 (D2:Int)] 170)))
    have Z_5:=Yt (Z_4.out.kp (Kp.alloc _ (Obj.cells #[Value.bool neg,Value.int IntKind.u64 (N2:Int),Value.int IntKind.u64 (D2:Int)] 170)))
    have XB_5:=Yt (XB_4.out.kp (Kp.alloc _ (Obj.cells #[Value.bool neg,Value.int IntKind.u64 (N2:Int),Value.int IntKind.u64 (D2:Int)] 170)))
    clear T_4 M1_4 M2_4 M3_4 M4_4 Z_4 XB_4
    obtain ⟨x0,x1,x2,_⟩:=XB_5.out.cells
    go_wp2_with (go_at_call 251;(with_reducible refine (CPL.out _ _ _ _ hnx hdx hny hdy _).mono ?_);rintro e w6 ⟨sz,kz,lz,okz,rfl,hkz,hlz,hokz,k6⟩;refine Hid.out ?_)
    refine Yt ?_
    have T_6:=Yt (T_5.out.kp k6)
    have M1_6:=Yt (M1_5.out.kp k6)
    have M2_6:=Yt (M2_5.out.kp k6)
    have M3_6:=Yt (M3_5.out.kp k6)
    have M4_6:=Yt (M4_5.out.kp k6)
    have Z_6:=Yt (Z_5.out.kp k6)
    have XB_6:=Yt (XB_5.out.kp k6)
    clear T_5 M1_5 M2_5 M3_5 M4_5 Z_5 XB_5
    clear k6
    have HZZ:=Yt hokz
    clear hokz
    cases okz
    ·go_wp2_with fail
     go_meet
     exact ⟨rfl,T_6.out.kp (by repeat first|exact Below.refl _ _|apply Kp.on|apply Kp.up)⟩
    ·have HE:=Yt (HZZ.out rfl)
     clear HZZ
     have hl0:lz≠0:=by rw [HE.out.1];exact HLD0.out
     have CR:=Yt (CRA.out sz kz lz hkz hlz hl0)
     clear hl0
     have T_7:=Yt (T_6.out.kp (Kp.alloc _ (Obj.cells #[Value.bool sz,Value.int IntKind.u64 (kz:Int),Value.int IntKind.u64 (lz:Int)] 170)))
     have M1_7:=Yt (M1_6.out.kp (Kp.alloc _ (Obj.cells #[Value.bool sz,Value.int IntKind.u64 (kz:Int),Value.int IntKind.u64 (lz:Int)] 170)))
     have M2_7:=Yt (M2_6.out.kp (Kp.alloc _ (Obj.cells #[Value.bool sz,Value.int IntKind.u64 (kz:Int),Value.int IntKind.u64 (lz:Int)] 170)))
     have M3_7:=Yt (M3_6.out.kp (Kp.alloc _ (Obj.cells #[Value.bool sz,Value.int IntKind.u64 (kz:Int),Value.int IntKind.u64 (lz:Int)] 170)))
     have M4_7:=Yt (M4_6.out.kp (Kp.alloc _ (Obj.cells #[Value.bool sz,Value.int IntKind.u64 (kz:Int),Value.int IntKind.u64 (lz:Int)] 170)))
     have Z_7:=Yt (Z_6.out.kp (Kp.alloc _ (Obj.cells #[Value.bool sz,Value.int IntKind.u64 (kz:Int),Value.int IntKind.u64 (lz:Int)] 170)))
     have XB_7:=Yt (XB_6.out.kp (Kp.alloc _ (Obj.cells #[Value.bool sz,Value.int IntKind.u64 (kz:Int),Value.int IntKind.u64 (lz:Int)] 170)))
     clear T_6 M1_6 M2_6 M3_6 M4_6 Z_6 XB_6
     go_wp2_with (go_at_call 209;(with_reducible refine (CR.out _ Z_7.out).mono ?_);rintro e w8 ⟨vr,rfl,hvr,k8⟩;refine Hid.out ?_)
     refine Yt ?_
     have T_8:=Yt (T_7.out.kp k8)
     have M1_8:=Yt (M1_7.out.kp k8)
     have M2_8:=Yt (M2_7.out.kp k8)
     have M3_8:=Yt (M3_7.out.kp k8)
     have M4_8:=Yt (M4_7.out.kp k8)
     have Z_8:=Yt (Z_7.out.kp k8)
     have XB_8:=Yt (XB_7.out.kp k8)
     clear T_7 M1_7 M2_7 M3_7 M4_7 Z_7 XB_7
     clear k8
     obtain ⟨sgn,q1,r1,s1,q2,r2,s2,rfl⟩:=hvr.lit
     obtain ⟨⟨e0,e1,e2,f0,f1,f2⟩,HPP,HV,HKF⟩:=Bz T_8.out.rr T_8.out.k (Below.refl _ _) hvr (by omega)
     clear hvr
     obtain ⟨k0,k1,k2⟩:=HPP.out
     go_wp2
     exact bodyPost_ret (v:= .agg #[.bool sgn,.slice q1 r1 s1,.slice q2 r2 s2]) (by simp [results,Tryz.results207,go_sem,k0,k1,k2]) rfl ⟨_,rfl,by have h:=HV.out;rw [HSW.out _ _ _ HE.out.1 HE.out.2] at h;exact h,HKF.out⟩
 case rest=>
  obtain ⟨rfl,HC⟩:=hcut
  have T_c:=Yt HC
  clear HC
  have M1_c:=Yt (HM1.out.kp T_c.out.k)
  have M2_c:=Yt (HM2.out.kp T_c.out.k)
  have M3_c:=Yt (HM3.out.kp T_c.out.k)
  have M4_c:=Yt (HM4.out.kp T_c.out.k)
  have Z_c:=Yt (HTZ.out.kp T_c.out.k)
  obtain ⟨g0,g1,g2,_⟩:=T_c.out.ra.cells
  obtain ⟨h0,h1,h2,_⟩:=T_c.out.rb.cells
  go_upto_region 9 with fail
  have T_101:=Yt (T_c.out.kp (Below.refl _ _).drew)
  have M1_101:=Yt (M1_c.out.kp (Below.refl _ _).drew)
  have M2_101:=Yt (M2_c.out.kp (Below.refl _ _).drew)
  have M3_101:=Yt (M3_c.out.kp (Below.refl _ _).drew)
  have M4_101:=Yt (M4_c.out.kp (Below.refl _ _).drew)
  have Z_101:=Yt (Z_c.out.kp (Below.refl _ _).drew)
  clear T_c M1_c M2_c M3_c M4_c Z_c
  go_region_held3 (fun w'=>w'.cell? ⟨w.heap.size,0,none⟩=some (.bool p)∧w'.cell? ⟨w.heap.size,1,none⟩=some (.slice a1 l1 c1)∧w'.cell? ⟨w.heap.size,2,none⟩=some (.slice a2 l2 c2)∧w'.cell? ⟨w.heap.size+1,0,none⟩=some (.bool q)∧w'.cell? ⟨w.heap.size+1,1,none⟩=some (.slice a3 l3 c3)∧w'.cell? ⟨w.heap.size+1,2,none⟩=some (.slice a4 l4 c4))
   (first|(refine ⟨?_,?_,?_,?_,?_,?_⟩<;>assumption)|go_keep)
   (first
    | (go_at_call 180;(with_reducible refine (CDA.out _ M1_101.out M2_101.out).mono ?_);rintro e w102 ⟨va,rfl,mA,k102⟩;have T_102:=Yt (T_101.out.kp k102);have M1_102:=Yt (M1_101.out.kp k102);have M2_102:=Yt (M2_101.out.kp k102);have M3_102:=Yt (M3_101.out.kp k102);have M4_102:=Yt (M4_101.out.kp k102);have Z_102:=Yt (Z_101.out.kp k102);clear T_101 M1_101 M2_101 M3_101 M4_101 Z_101;have A_102:=Yt mA;clear mA k102;obtain ⟨g0,g1,g2,_⟩:=T_102.out.ra.cells;obtain ⟨h0,h1,h2,_⟩:=T_102.out.rb.cells)
    | (go_at_call 180;(with_reducible refine (CDB.out _ M3_102.out M4_102.out).mono ?_);rintro e w103 ⟨vb,rfl,mB,k103⟩;have T_103:=Yt (T_102.out.kp k103);have M1_103:=Yt (M1_102.out.kp k103);have M2_103:=Yt (M2_102.out.kp k103);have M3_103:=Yt (M3_102.out.kp k103);have M4_103:=Yt (M4_102.out.kp k103);have Z_103:=Yt (Z_102.out.kp k103);have A_103:=Yt (A_102.out.kp k103);clear T_102 M1_102 M2_102 M3_102 M4_102 Z_102 A_102;have B_103:=Yt mB;clear mB k103;obtain ⟨g0,g1,g2,_⟩:=T_103.out.ra.cells;obtain ⟨h0,h1,h2,_⟩:=T_103.out.rb.cells))
  go_wp2_with (go_at_call 214;(with_reducible refine (CGC.out _ _ _ A_103.out B_103.out Z_103.out).mono ?_);rintro e w104 ⟨vg,rfl,mG,k104⟩;refine Hid.out ?_)
  refine Yt ?_
  have T_104:=Yt (T_103.out.kp k104)
  have M1_104:=Yt (M1_103.out.kp k104)
  have M2_104:=Yt (M2_103.out.kp k104)
  have M3_104:=Yt (M3_103.out.kp k104)
  have M4_104:=Yt (M4_103.out.kp k104)
  have Z_104:=Yt (Z_103.out.kp k104)
  have A_104:=Yt (A_103.out.kp k104)
  have B_104:=Yt (B_103.out.kp k104)
  clear T_103 M1_103 M2_103 M3_103 M4_103 Z_103 A_103 B_103
  have G_104:=Yt mG
  clear mG k104
  obtain ⟨g0,g1,g2,_⟩:=T_104.out.ra.cells
  obtain ⟨h0,h1,h2,_⟩:=T_104.out.rb.cells
  go_wp2_with (go_at_call 226;(with_reducible refine (CWA.out _ _ _ A_104.out G_104.out Z_104.out).mono ?_);rintro e w105 ⟨v1,rfl,n1,k105⟩;refine Hid.out ?_)
  refine Yt ?_
  have T_105:=Yt (T_104.out.kp k105)
  have M1_105:=Yt (M1_104.out.kp k105)
  have M2_105:=Yt (M2_104.out.kp k105)
  have M3_105:=Yt (M3_104.out.kp k105)
  have M4_105:=Yt (M4_104.out.kp k105)
  have Z_105:=Yt (Z_104.out.kp k105)
  have A_105:=Yt (A_104.out.kp k105)
  have B_105:=Yt (B_104.out.kp k105)
  have G_105:=Yt (G_104.out.kp k105)
  clear T_104 M1_104 M2_104 M3_104 M4_104 Z_104 A_104 B_104 G_104
  have N1_105:=Yt n1
  clear n1 k105
  obtain ⟨g0,g1,g2,_⟩:=T_105.out.ra.cells
  obtain ⟨h0,h1,h2,_⟩:=T_105.out.rb.cells
  go_wp2_with (go_at_call 226;(with_reducible refine (CWB.out _ _ _ B_105.out G_105.out Z_105.out).mono ?_);rintro e w106 ⟨v2,rfl,n2,k106⟩;refine Hid.out ?_)
  refine Yt ?_
  have T_106:=Yt (T_105.out.kp k106)
  have M1_106:=Yt (M1_105.out.kp k106)
  have M2_106:=Yt (M2_105.out.kp k106)
  have M3_106:=Yt (M3_105.out.kp k106)
  have M4_106:=Yt (M4_105.out.kp k106)
  have Z_106:=Yt (Z_105.out.kp k106)
  have A_106:=Yt (A_105.out.kp k106)
  have B_106:=Yt (B_105.out.kp k106)
  have G_106:=Yt (G_105.out.kp k106)
  have N1_106:=Yt (N1_105.out.kp k106)
  clear T_105 M1_105 M2_105 M3_105 M4_105 Z_105 A_105 B_105 G_105 N1_105
  have N2_106:=Yt n2
  clear n2 k106
  obtain ⟨g0,g1,g2,_⟩:=T_106.out.ra.cells
  obtain ⟨h0,h1,h2,_⟩:=T_106.out.rb.cells
  go_upto_region 12 with fail
  have T_107:=Yt (T_106.out.kp (Below.refl _ _).drew)
  have M1_107:=Yt (M1_106.out.kp (Below.refl _ _).drew)
  have M2_107:=Yt (M2_106.out.kp (Below.refl _ _).drew)
  have M3_107:=Yt (M3_106.out.kp (Below.refl _ _).drew)
  have M4_107:=Yt (M4_106.out.kp (Below.refl _ _).drew)
  have Z_107:=Yt (Z_106.out.kp (Below.refl _ _).drew)
  have A_107:=Yt (A_106.out.kp (Below.refl _ _).drew)
  have B_107:=Yt (B_106.out.kp (Below.refl _ _).drew)
  have G_107:=Yt (G_106.out.kp (Below.refl _ _).drew)
  have N1_107:=Yt (N1_106.out.kp (Below.refl _ _).drew)
  have N2_107:=Yt (N2_106.out.kp (Below.refl _ _).drew)
  clear T_106 M1_106 M2_106 M3_106 M4_106 Z_106 A_106 B_106 G_106 N1_106 N2_106
  go_region_held3 (fun w'=>w'.cell? ⟨w.heap.size,0,none⟩=some (.bool p)∧w'.cell? ⟨w.heap.size,1,none⟩=some (.slice a1 l1 c1)∧w'.cell? ⟨w.heap.size,2,none⟩=some (.slice a2 l2 c2)∧w'.cell? ⟨w.heap.size+1,0,none⟩=some (.bool q)∧w'.cell? ⟨w.heap.size+1,1,none⟩=some (.slice a3 l3 c3)∧w'.cell? ⟨w.heap.size+1,2,none⟩=some (.slice a4 l4 c4))
   (first|(refine ⟨?_,?_,?_,?_,?_,?_⟩<;>assumption)|go_keep)
   (first
    | (go_at_call 225;(with_reducible refine (CTA.out _ _ _ M1_107.out N2_107.out).mono ?_);rintro e w108 ⟨v3,rfl,n3,k108⟩;have T_108:=Yt (T_107.out.kp k108);have M1_108:=Yt (M1_107.out.kp k108);have M2_108:=Yt (M2_107.out.kp k108);have M3_108:=Yt (M3_107.out.kp k108);have M4_108:=Yt (M4_107.out.kp k108);have Z_108:=Yt (Z_107.out.kp k108);have A_108:=Yt (A_107.out.kp k108);have B_108:=Yt (B_107.out.kp k108);have G_108:=Yt (G_107.out.kp k108);have N1_108:=Yt (N1_107.out.kp k108);have N2_108:=Yt (N2_107.out.kp k108);clear T_107 M1_107 M2_107 M3_107 M4_107 Z_107 A_107 B_107 G_107 N1_107 N2_107;have N3_108:=Yt n3;clear n3 k108;obtain ⟨g0,g1,g2,_⟩:=T_108.out.ra.cells;obtain ⟨h0,h1,h2,_⟩:=T_108.out.rb.cells)
    | (go_at_call 225;(with_reducible refine (CTB.out _ _ _ M3_108.out N1_108.out).mono ?_);rintro e w109 ⟨v4,rfl,n4,k109⟩;have T_109:=Yt (T_108.out.kp k109);have M1_109:=Yt (M1_108.out.kp k109);have M2_109:=Yt (M2_108.out.kp k109);have M3_109:=Yt (M3_108.out.kp k109);have M4_109:=Yt (M4_108.out.kp k109);have Z_109:=Yt (Z_108.out.kp k109);have A_109:=Yt (A_108.out.kp k109);have B_109:=Yt (B_108.out.kp k109);have G_109:=Yt (G_108.out.kp k109);have N1_109:=Yt (N1_108.out.kp k109);have N2_109:=Yt (N2_108.out.kp k109);have N3_109:=Yt (N3_108.out.kp k109);clear T_108 M1_108 M2_108 M3_108 M4_108 Z_108 A_108 B_108 G_108 N1_108 N2_108 N3_108;have N4_109:=Yt n4;clear n4 k109;obtain ⟨g0,g1,g2,_⟩:=T_109.out.ra.cells;obtain ⟨h0,h1,h2,_⟩:=T_109.out.rb.cells)
    | (go_at_call 252;(with_reducible refine (CSN.out _ _ _ N3_109.out N4_109.out).mono ?_);rintro e w110 ⟨sz,vz,z,rfl,mZ,hsz,k110⟩;have T_110:=Yt (T_109.out.kp k110);have M1_110:=Yt (M1_109.out.kp k110);have M2_110:=Yt (M2_109.out.kp k110);have M3_110:=Yt (M3_109.out.kp k110);have M4_110:=Yt (M4_109.out.kp k110);have Z_110:=Yt (Z_109.out.kp k110);have A_110:=Yt (A_109.out.kp k110);have B_110:=Yt (B_109.out.kp k110);have G_110:=Yt (G_109.out.kp k110);have N1_110:=Yt (N1_109.out.kp k110);have N2_110:=Yt (N2_109.out.kp k110);have N3_110:=Yt (N3_109.out.kp k110);have N4_110:=Yt (N4_109.out.kp k110);clear T_109 M1_109 M2_109 M3_109 M4_109 Z_109 A_109 B_109 G_109 N1_109 N2_109 N3_109 N4_109;have ZZ_110:=Yt mZ;have HZE:=Yt hsz;clear hsz;clear mZ k110;obtain ⟨g0,g1,g2,_⟩:=T_110.out.ra.cells;obtain ⟨h0,h1,h2,_⟩:=T_110.out.rb.cells))
  have HZS:=Yt (HSZ.out _ _ HZE.out)
  go_wp2_with (go_at_call 214;(with_reducible refine (CG2.out _ _ _ _ HZS.out ZZ_110.out G_110.out Z_110.out).mono ?_);rintro e w111 ⟨vr2,rfl,mR,k111⟩;refine Hid.out ?_)
  refine Yt ?_
  have T_111:=Yt (T_110.out.kp k111)
  have M1_111:=Yt (M1_110.out.kp k111)
  have M2_111:=Yt (M2_110.out.kp k111)
  have M3_111:=Yt (M3_110.out.kp k111)
  have M4_111:=Yt (M4_110.out.kp k111)
  have Z_111:=Yt (Z_110.out.kp k111)
  have A_111:=Yt (A_110.out.kp k111)
  have B_111:=Yt (B_110.out.kp k111)
  have G_111:=Yt (G_110.out.kp k111)
  have N1_111:=Yt (N1_110.out.kp k111)
  have N2_111:=Yt (N2_110.out.kp k111)
  have N3_111:=Yt (N3_110.out.kp k111)
  have N4_111:=Yt (N4_110.out.kp k111)
  have ZZ_111:=Yt (ZZ_110.out.kp k111)
  clear T_110 M1_110 M2_110 M3_110 M4_110 Z_110 A_110 B_110 G_110 N1_110 N2_110 N3_110 N4_110 ZZ_110
  have RR_111:=Yt mR
  clear mR k111
  obtain ⟨g0,g1,g2,_⟩:=T_111.out.ra.cells
  obtain ⟨h0,h1,h2,_⟩:=T_111.out.rb.cells
  go_wp2_with (go_at_call 226;(with_reducible refine (CW1.out _ _ _ _ HZS.out ZZ_111.out RR_111.out Z_111.out).mono ?_);rintro e w112 ⟨v5,rfl,n5,k112⟩;refine Hid.out ?_)
  refine Yt ?_
  have T_112:=Yt (T_111.out.kp k112)
  have M1_112:=Yt (M1_111.out.kp k112)
  have M2_112:=Yt (M2_111.out.kp k112)
  have M3_112:=Yt (M3_111.out.kp k112)
  have M4_112:=Yt (M4_111.out.kp k112)
  have Z_112:=Yt (Z_111.out.kp k112)
  have A_112:=Yt (A_111.out.kp k112)
  have B_112:=Yt (B_111.out.kp k112)
  have G_112:=Yt (G_111.out.kp k112)
  have N1_112:=Yt (N1_111.out.kp k112)
  have N2_112:=Yt (N2_111.out.kp k112)
  have N3_112:=Yt (N3_111.out.kp k112)
  have N4_112:=Yt (N4_111.out.kp k112)
  have ZZ_112:=Yt (ZZ_111.out.kp k112)
  have RR_112:=Yt (RR_111.out.kp k112)
  clear T_111 M1_111 M2_111 M3_111 M4_111 Z_111 A_111 B_111 G_111 N1_111 N2_111 N3_111 N4_111 ZZ_111 RR_111
  have N5_112:=Yt n5
  clear n5 k112
  obtain ⟨g0,g1,g2,_⟩:=T_112.out.ra.cells
  obtain ⟨h0,h1,h2,_⟩:=T_112.out.rb.cells
  go_wp2_with (go_at_call 226;(with_reducible refine (CW2.out _ _ _ _ B_112.out RR_112.out Z_112.out).mono ?_);rintro e w113 ⟨v6,rfl,n6,k113⟩;refine Hid.out ?_)
  refine Yt ?_
  have T_113:=Yt (T_112.out.kp k113)
  have M1_113:=Yt (M1_112.out.kp k113)
  have M2_113:=Yt (M2_112.out.kp k113)
  have M3_113:=Yt (M3_112.out.kp k113)
  have M4_113:=Yt (M4_112.out.kp k113)
  have Z_113:=Yt (Z_112.out.kp k113)
  have A_113:=Yt (A_112.out.kp k113)
  have B_113:=Yt (B_112.out.kp k113)
  have G_113:=Yt (G_112.out.kp k113)
  have N1_113:=Yt (N1_112.out.kp k113)
  have N2_113:=Yt (N2_112.out.kp k113)
  have N3_113:=Yt (N3_112.out.kp k113)
  have N4_113:=Yt (N4_112.out.kp k113)
  have ZZ_113:=Yt (ZZ_112.out.kp k113)
  have RR_113:=Yt (RR_112.out.kp k113)
  have N5_113:=Yt (N5_112.out.kp k113)
  clear T_112 M1_112 M2_112 M3_112 M4_112 Z_112 A_112 B_112 G_112 N1_112 N2_112 N3_112 N4_112 ZZ_112 RR_112 N5_112
  have N6_113:=Yt n6
  clear n6 k113
  obtain ⟨g0,g1,g2,_⟩:=T_113.out.ra.cells
  obtain ⟨h0,h1,h2,_⟩:=T_113.out.rb.cells
  go_wp2_with (go_at_call 225;(with_reducible refine (CTC.out _ _ _ _ N1_113.out N6_113.out).mono ?_);rintro e w114 ⟨v7,rfl,n7,k114⟩;refine Hid.out ?_)
  refine Yt ?_
  have T_114:=Yt (T_113.out.kp k114)
  have M1_114:=Yt (M1_113.out.kp k114)
  have M2_114:=Yt (M2_113.out.kp k114)
  have M3_114:=Yt (M3_113.out.kp k114)
  have M4_114:=Yt (M4_113.out.kp k114)
  have Z_114:=Yt (Z_113.out.kp k114)
  have A_114:=Yt (A_113.out.kp k114)
  have B_114:=Yt (B_113.out.kp k114)
  have G_114:=Yt (G_113.out.kp k114)
  have N1_114:=Yt (N1_113.out.kp k114)
  have N2_114:=Yt (N2_113.out.kp k114)
  have N3_114:=Yt (N3_113.out.kp k114)
  have N4_114:=Yt (N4_113.out.kp k114)
  have ZZ_114:=Yt (ZZ_113.out.kp k114)
  have RR_114:=Yt (RR_113.out.kp k114)
  have N5_114:=Yt (N5_113.out.kp k114)
  have N6_114:=Yt (N6_113.out.kp k114)
  clear T_113 M1_113 M2_113 M3_113 M4_113 Z_113 A_113 B_113 G_113 N1_113 N2_113 N3_113 N4_113 ZZ_113 RR_113 N5_113 N6_113
  have N7_114:=Yt n7
  clear n7 k114
  obtain ⟨g0,g1,g2,_⟩:=T_114.out.ra.cells
  obtain ⟨h0,h1,h2,_⟩:=T_114.out.rb.cells
  go_wp2_with (go_at_call 224;(with_reducible refine (COW.out _ _ _ _ _ HZE.out N5_114.out N7_114.out).mono ?_);rintro e w115 ⟨vr,rfl,hvr,k115⟩;refine Hid.out ?_)
  refine Yt ?_
  have T_115:=Yt (T_114.out.kp k115)
  have M1_115:=Yt (M1_114.out.kp k115)
  have M2_115:=Yt (M2_114.out.kp k115)
  have M3_115:=Yt (M3_114.out.kp k115)
  have M4_115:=Yt (M4_114.out.kp k115)
  have Z_115:=Yt (Z_114.out.kp k115)
  have A_115:=Yt (A_114.out.kp k115)
  have B_115:=Yt (B_114.out.kp k115)
  have G_115:=Yt (G_114.out.kp k115)
  have N1_115:=Yt (N1_114.out.kp k115)
  have N2_115:=Yt (N2_114.out.kp k115)
  have N3_115:=Yt (N3_114.out.kp k115)
  have N4_115:=Yt (N4_114.out.kp k115)
  have ZZ_115:=Yt (ZZ_114.out.kp k115)
  have RR_115:=Yt (RR_114.out.kp k115)
  have N5_115:=Yt (N5_114.out.kp k115)
  have N6_115:=Yt (N6_114.out.kp k115)
  have N7_115:=Yt (N7_114.out.kp k115)
  clear T_114 M1_114 M2_114 M3_114 M4_114 Z_114 A_114 B_114 G_114 N1_114 N2_114 N3_114 N4_114 ZZ_114 RR_114 N5_114 N6_114 N7_114
  clear k115
  obtain ⟨sgn,q1,r1,s1,q2,r2,s2,rfl⟩:=hvr.lit
  obtain ⟨⟨e0,e1,e2,f0,f1,f2⟩,HPP,HV,HKF⟩:=Bz T_115.out.rr T_115.out.k (Below.refl _ _) hvr (by omega)
  clear hvr
  obtain ⟨k0,k1,k2⟩:=HPP.out
  go_wp2
  exact bodyPost_ret (v:= .agg #[.bool sgn,.slice q1 r1 s1,.slice q2 r2 s2]) (by simp [results,Tryz.results207,go_sem,k0,k1,k2]) rfl ⟨_,rfl,HV.out,HKF.out⟩
theorem TN {w:World} {u:Value} {x:Rat} (hu:Ax w u x) {v:Value} {y:Rat} (hv:Ax w v y) {j k:Nat} (hs:RSz j x) (ht:RSz k y) (hj:j≤500000000) (hk:k≤500000000) (hT:Tz w):
  Calls Tryz.prog 144 #[u,v] w fun e w'=> ∃r,e= .returned r∧Ax w' r (x+y)∧Kp w w':=by
 obtain ⟨a1,l1,c1,a2,l2,c2,rfl,m1,m2⟩:=hu.parts
 obtain ⟨a3,l3,c3,a4,l4,c4,rfl,m3,m4⟩:=hv.parts
 have HT:=Yt (Two.new w (.bool (decide (x.num<0))) (.slice a1 l1 c1) (.slice a2 l2 c2) (.bool (decide (y.num<0))) (.slice a3 l3 c3) (.slice a4 l4 c4))
 have HU:=Yt hu
 have HV:=Yt hv
 have HZ:=Yt hT
 have CS:=Yt (fun w' a b (ha:Ax w' a x) (hb:Ax w' b y) (t:Tz w')=>by have h:=Qc (neg:=decide (y.num<0)) ha hb hs ht (by omega) (by omega) t;rw [Bx] at h;exact h)
 obtain ⟨p,hp⟩: ∃b,b=decide (x.num<0):=⟨_,rfl⟩
 try rw [←hp] at HT
 try rw [←hp] at HU
 try rw [←hp] at HV
 try rw [←hp] at CS
 try rw [←hp]
 have HPp:=Yt hp
 obtain ⟨q,hq⟩: ∃b,b=decide (y.num<0):=⟨_,rfl⟩
 try rw [←hq] at HT
 try rw [←hq] at HU
 try rw [←hq] at HV
 try rw [←hq] at CS
 try rw [←hq]
 have HPq:=Yt hq
 clear hu m1 m2 hp hv m3 m4 hq hT
 go_enter Tryz.func144,Tryz.ntmps144
 have KN:=HT.out.k
 have U_e:=Yt (HU.out.kp KN)
 have V_e:=Yt (HV.out.kp KN)
 have Z_e:=Yt (HZ.out.kp KN)
 clear KN
 obtain ⟨g0,g1,g2,_⟩:=HT.out.ra.cells
 obtain ⟨h0,h1,h2,_⟩:=HT.out.rb.cells
 go_wp2_with (go_at_call 207;(with_reducible refine (CS.out _ _ _ U_e.out V_e.out Z_e.out).mono ?_);rintro e w2 ⟨vr,rfl,hvr,k2⟩;refine Hid.out ?_)
 refine Yt ?_
 have T_2:=Yt (HT.out.kp k2)
 have U_2:=Yt (U_e.out.kp k2)
 have V_2:=Yt (V_e.out.kp k2)
 have Z_2:=Yt (Z_e.out.kp k2)
 clear HT U_e V_e Z_e
 clear k2
 obtain ⟨sgn,q1,r1,s1,q2,r2,s2,rfl⟩:=hvr.lit
 obtain ⟨⟨e0,e1,e2,f0,f1,f2⟩,HPP,HV,HKF⟩:=Bz T_2.out.rr T_2.out.k (Below.refl _ _) hvr (by omega)
 clear hvr
 obtain ⟨k0,k1,k2⟩:=HPP.out
 go_wp2
 exact bodyPost_ret (v:= .agg #[.bool sgn,.slice q1 r1 s1,.slice q2 r2 s2]) (by simp [results,Tryz.results144,go_sem,k0,k1,k2]) rfl ⟨_,rfl,HV.out,HKF.out⟩
set_option maxRecDepth 20000 in
theorem TL {w:World} {u:Value} {x:Rat} (hu:Ax w u x) {v:Value} {y:Rat} (hv:Ax w v y) {j k:Nat} (hs:RSz j x) (ht:RSz k y) (hj:j≤500000000) (hk:k≤500000000) (hT:Tz w):
  Calls Tryz.prog 146 #[u,v] w fun e w'=> ∃r,e= .returned r∧Ax w' r (x-y)∧Kp w w':=by
 obtain ⟨a1,l1,c1,a2,l2,c2,rfl,m1,m2⟩:=hu.parts
 obtain ⟨a3,l3,c3,a4,l4,c4,rfl,m3,m4⟩:=hv.parts
 have HT:=Yt (Two.new w (.bool (decide (x.num<0))) (.slice a1 l1 c1) (.slice a2 l2 c2) (.bool (decide (y.num<0))) (.slice a3 l3 c3) (.slice a4 l4 c4))
 have HU:=Yt hu
 have HV:=Yt hv
 have HZ:=Yt hT
 have CS:=Yt (fun w' a b (ha:Ax w' a x) (hb:Ax w' b y) (t:Tz w')=>by have h:=Qc (neg:=!decide (y.num<0)) ha hb hs ht (by omega) (by omega) t;rw [RT,Bx,←Rat.sub_eq_add_neg] at h;exact h)
 obtain ⟨p,hp⟩: ∃b,b=decide (x.num<0):=⟨_,rfl⟩
 try rw [←hp] at HT
 try rw [←hp] at HU
 try rw [←hp] at HV
 try rw [←hp] at CS
 try rw [←hp]
 have HPp:=Yt hp
 obtain ⟨q,hq⟩: ∃b,b=decide (y.num<0):=⟨_,rfl⟩
 try rw [←hq] at HT
 try rw [←hq] at HU
 try rw [←hq] at HV
 try rw [←hq] at CS
 try rw [←hq]
 have HPq:=Yt hq
 clear hu m1 m2 hp hv m3 m4 hq hT
 go_enter Tryz.func146,Tryz.ntmps146
 have KN:=HT.out.k
 have U_e:=Yt (HU.out.kp KN)
 have V_e:=Yt (HV.out.kp KN)
 have Z_e:=Yt (HZ.out.kp KN)
 clear KN
 obtain ⟨g0,g1,g2,_⟩:=HT.out.ra.cells
 obtain ⟨h0,h1,h2,_⟩:=HT.out.rb.cells
 go_wp2_with (go_at_call 207;(with_reducible refine (CS.out _ _ _ U_e.out V_e.out Z_e.out).mono ?_);rintro e w2 ⟨vr,rfl,hvr,k2⟩;refine Hid.out ?_)
 refine Yt ?_
 have T_2:=Yt (HT.out.kp k2)
 have U_2:=Yt (U_e.out.kp k2)
 have V_2:=Yt (V_e.out.kp k2)
 have Z_2:=Yt (Z_e.out.kp k2)
 clear HT U_e V_e Z_e
 clear k2
 obtain ⟨sgn,q1,r1,s1,q2,r2,s2,rfl⟩:=hvr.lit
 obtain ⟨⟨e0,e1,e2,f0,f1,f2⟩,HPP,HV,HKF⟩:=Bz T_2.out.rr T_2.out.k (Below.refl _ _) hvr (by omega)
 clear hvr
 obtain ⟨k0,k1,k2⟩:=HPP.out
 go_wp2
 exact bodyPost_ret (v:= .agg #[.bool sgn,.slice q1 r1 s1,.slice q2 r2 s2]) (by simp [results,Tryz.results146,go_sem,k0,k1,k2]) rfl ⟨_,rfl,HV.out,HKF.out⟩
set_option maxRecDepth 20000 in
theorem TO {w:World} {u:Value} {x:Rat} (hu:Ax w u x) {j:Nat} (hs:RSz j x) (hj:j≤500000000):
  Calls Tryz.prog 256 #[u] w fun e w'=> ∃r,e= .returned r∧Ax w' r (AE false x.num.natAbs x.den)∧Kp w w':=by
 obtain ⟨a1,l1,c1,a2,l2,c2,rfl,m1,m2⟩:=hu.parts
 have HT:=Yt (One.new w (.bool (decide (x.num<0))) (.slice a1 l1 c1) (.slice a2 l2 c2))
 have HU:=Yt hu
 have CS:=Yt (fun w' a (ha:Ax w' a x)=>Lm (neg:=false) ha hs (by omega))
 obtain ⟨p,hp⟩: ∃b,b=decide (x.num<0):=⟨_,rfl⟩
 try rw [←hp] at HT
 try rw [←hp] at HU
 try rw [←hp] at CS
 try rw [←hp]
 have HPp:=Yt hp
 clear hu m1 m2 hp
 go_enter Tryz.func256,Tryz.ntmps256
 have KN:=HT.out.k
 have U_e:=Yt (HU.out.kp KN)
 clear KN
 obtain ⟨g0,g1,g2,_⟩:=HT.out.ra.cells
 go_wp2_with (go_at_call 263;(with_reducible refine (CS.out _ _ U_e.out).mono ?_);rintro e w2 ⟨vr,rfl,hvr,k2⟩;refine Hid.out ?_)
 refine Yt ?_
 have T_2:=Yt (HT.out.kp k2)
 have U_2:=Yt (U_e.out.kp k2)
 clear HT U_e
 clear k2
 obtain ⟨sgn,q1,r1,s1,q2,r2,s2,rfl⟩:=hvr.lit
 obtain ⟨⟨e0,e1,e2,f0,f1,f2⟩,HPP,HV,HKF⟩:=Bz T_2.out.rr T_2.out.k (Below.refl _ _) hvr (by omega)
 clear hvr
 obtain ⟨k0,k1,k2⟩:=HPP.out
 go_wp2
 exact bodyPost_ret (v:= .agg #[.bool sgn,.slice q1 r1 s1,.slice q2 r2 s2]) (by simp [results,Tryz.results256,go_sem,k0,k1,k2]) rfl ⟨_,rfl,HV.out,HKF.out⟩
end Go.Proofs.YtfineedhebhpaaaGreatDoor
