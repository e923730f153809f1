/-
  Several texts in one: QuotL, Q8.
-/
import Derived.Test.YtgdlialkjiblpaaGreatDoorBf
import Derived.Test.YtgdlialkjiblpaaGreatDoorBy
import Derived.Test.YtgdlialkjiblpaaGreatDoorBc
namespace Go.Proofs.YtgdlialkjiblpaaGreatDoor
open Go.RowKit
theorem div_m {w:World} {a b:Value} {m n:Nat} (ha:M w a m) (hb:M w b n) {k:Nat} (hs:Sz k m) (hk:k≤549755813888) (hn:n≠0) (hT:Tz w):
  Calls Tryz.prog 191 #[a,b] w fun e w'=> ∃q r,e= .returned (.tuple #[q,r,.int .i64 0])∧M w' q (m/n)∧M w' r (m % n)∧Kp w w':=by
 refine (div_any ha hb hs hk hn hT).mono ?_
 rintro e w' ⟨q,r,he,hq,hr,k⟩
 exact ⟨q,r,he,hq,hr.m,k⟩
end Go.Proofs.YtgdlialkjiblpaaGreatDoor
namespace Go.Proofs.YtgdlialkjiblpaaGreatDoor
open Go.RowKit
def scaleQ (k:Int):Nat:=(min (max k 0) 4096).toNat
theorem scaleQ_le (k:Int):scaleQ k≤4096:=by unfold scaleQ;omega
theorem szq_pow2 {n k:Nat} (h:n<32*k):Sz k (2^n):=by
 refine length_toL_le _ k ?_
 have h32:(4294967296:Nat)^k=2^(32*k):=by rw [Nat.pow_mul]
 rw [h32]
 exact Nat.pow_lt_pow_right (by decide) h
theorem szq_pow {n:Nat} (h:n≤4096):Sz 129 (2^n):=szq_pow2 (by omega)
theorem of_m (n:Nat) (w:World) (hn:n<18446744073709551616):
  Calls Tryz.prog 198 #[.int .u64 n] w fun e w'=> ∃v',e= .returned v'∧M w' v' n∧Kp w w':=of_any n w hn
theorem roundQ_zero {away:Bool} {x:Rat} {K:Nat} (h:away=false∨x.num.natAbs*2^K % x.den=0):roundQ away x K=x.num.natAbs*2^K/x.den:=by
 unfold roundQ
 rw [if_neg (by rintro ⟨h1,h2⟩;rcases h with h | h; · rw [h] at h1;cases h1
                ·exact h2 h),Nat.add_zero]
theorem roundQ_one {x:Rat} {K:Nat} (h:x.num.natAbs*2^K % x.den≠0):roundQ true x K=x.num.natAbs*2^K/x.den+1:=by
 unfold roundQ
 rw [if_pos ⟨rfl,h⟩]
theorem m_len_zero' {w:World} {o:Option Addr} {l c n:Nat} (h:M w (.slice o l c) n):l=0↔n=0:=by
 obtain ⟨o',c',e,_⟩:=h
 have:=(by simpa using e:o=o'∧l=(toL n).length∧c=c')
 rw [this.2.1,List.length_eq_zero_iff,toL_nil_iff]
set_option maxRecDepth 20000 in
set_option maxHeartbeats 4000000 in
theorem round_int {w:World} {u:Value} {x:Rat} (hu:RatV w u x) (k:Int) (away:Bool) {j:Nat} (hs:RSz j x) (hj:j≤200000000) (h1:x.den=1):
  Calls Tryz.prog 168 #[u,.int .i64 k,.bool away] w fun e w'=> ∃r,e= .returned r∧RatV w' r (x)∧Kp w w':=by
 obtain ⟨a1,l1,c1,a2,l2,c2,rfl,m1,m2⟩:=hu.parts
 have HT:=Lib.hid (One.new w (.bool (decide (x.num<0))) (.slice a1 l1 c1) (.slice a2 l2 c2))
 have HU:=Lib.hid hu
 have Hm1:=Lib.hid m1
 have Hm2:=Lib.hid m2
 have CW:=Lib.hid (fun w' a (ha:RatV w' a x)=>by have h:=withSign_any (neg:=decide (x.num<0)) ha hs (by omega);rw [ratOf_back] at h;exact h)
 obtain ⟨p,hp⟩: ∃b,b=decide (x.num<0):=⟨_,rfl⟩
 try rw [←hp] at HT
 try rw [←hp] at HU
 try rw [←hp] at Hm1
 try rw [←hp] at Hm2
 try rw [←hp] at CW
 try rw [←hp]
 have HPp:=Lib.hid hp
 clear hu m1 m2 hp
 obtain rfl:=(m_len_zero' Hm2.out).2 (by unfold denOf;rw [if_pos h1])
 clear hs hj h1
 go_enter Tryz.func168,Tryz.ntmps168
 have KN:=HT.out.k
 have U_e:=Lib.hid (HU.out.kp KN)
 have m1_e:=Lib.hid (Hm1.out.kp KN)
 have m2_e:=Lib.hid (Hm2.out.kp KN)
 clear KN
 obtain ⟨g0,g1,g2,_⟩:=HT.out.ra.cells
 go_wp2_with (go_at_call 133;(with_reducible refine (CW.out _ _ U_e.out).mono ?_);rintro e w2 ⟨vr,rfl,hvr,k2⟩;refine Hid.out ?_)
 refine Lib.hid ?_
 have T_2:=Lib.hid (HT.out.kp k2)
 have U_2:=Lib.hid (U_e.out.kp k2)
 have m1_2:=Lib.hid (m1_e.out.kp k2)
 have m2_2:=Lib.hid (m2_e.out.kp k2)
 clear HT U_e m1_e m2_e
 clear k2
 obtain ⟨sgn,q1,r1,s1,q2,r2,s2,rfl⟩:=hvr.lit
 obtain ⟨⟨e0,e1,e2,f0,f1,f2⟩,HPP,HV,HKF⟩:=rat_ends T_2.out.rr T_2.out.k (Below.refl _ _) hvr (by omega)
 clear hvr
 obtain ⟨k0,k1,k2⟩:=HPP.out
 go_wp2
 exact bodyPost_ret (v:= .agg #[.bool sgn,.slice q1 r1 s1,.slice q2 r2 s2]) (by simp [results,Tryz.results168,go_sem,k0,k1,k2]) rfl ⟨_,rfl,HV.out,HKF.out⟩
set_option maxRecDepth 20000 in
set_option maxHeartbeats 4000000 in
theorem round_frac {w:World} {u:Value} {x:Rat} (hu:RatV w u x) (k:Int) (away:Bool) {j:Nat} (hs:RSz j x) (hj:j≤200000000) (h1:x.den≠1) (hT:Tz w):
  Calls Tryz.prog 168 #[u,.int .i64 k,.bool away] w fun e w'=> ∃r,e= .returned r∧RatV w' r (ratOf (decide (x.num<0)) (roundQ away x (scaleQ k)) (2^scaleQ k))∧Kp w w':=by
 obtain ⟨K,hK⟩: ∃K,K=scaleQ k:=⟨_,rfl⟩
 rw [←hK]
 have hK4:K≤4096:=by rw [hK];exact scaleQ_le k
 have e1:max 0 (min 4096 k)=(K:Int):=by rw [hK];unfold scaleQ;omega
 have e2:max (min 4096 k) 0=(K:Int):=by rw [←e1];omega
 have e3:max (min k 4096) 0=(K:Int):=by rw [←e1];omega
 have e4:max 0 (min k 4096)=(K:Int):=by rw [←e1];omega
 have hdn:denOf x=x.den:=by unfold denOf;rw [if_neg h1]
 have SN:Sz (j+129) (x.num.natAbs*2^K):=hs.1.mul (szq_pow hK4)
 have SQ:Sz (j+129) (x.num.natAbs*2^K/x.den):=SN.le (Nat.div_le_self _ _)
 have S1:Sz 1 1:=length_toL_le 1 1 (by decide)
 have S2:Sz 129 (2^K):=szq_pow hK4
 have hp:2^K≠0:=Nat.ne_of_gt (Nat.pow_pos (by decide))
 obtain ⟨a1,l1,c1,a2,l2,c2,rfl,m1,m2⟩:=hu.parts
 have HT:=Lib.hid (One.new w (.bool (decide (x.num<0))) (.slice a1 l1 c1) (.slice a2 l2 c2))
 have HU:=Lib.hid hu
 have Hm1:=Lib.hid m1
 have Hm2:=Lib.hid m2
 have HZ:=Lib.hid hT
 have CS1:=Lib.hid (fun w' v (a:M w' v x.num.natAbs)=>shift_up a hs.1 (by omega) K (by omega))
 have CD:=Lib.hid (fun w' va vb (a:M w' va (x.num.natAbs*2^K)) (b:M w' vb (denOf x)) (t:Tz w')=>by rw [hdn] at b;exact div_m a b SN (by omega) x.den_nz t)
 have COF:=Lib.hid (fun w'=>of_m 1 w' (by omega))
 have CA:=Lib.hid (fun w' va vb (a:M w' va (x.num.natAbs*2^K/x.den)) (b:M w' vb 1)=>add_m a b SQ S1 (by omega) (by omega))
 have CS2:=Lib.hid (fun w' v (a:M w' v 1)=>by have h:=shift_up a S1 (by omega) K (by omega);rw [Nat.one_mul] at h;exact h)
 have CL:=Lib.hid (fun w' s va vb (q:Nat) (sq:Sz (j+129+1+1) q) (a:M w' va q) (b:M w' vb (2^K)) (t:Tz w')=>lowest_any (neg:=s) a b hp (by unfold Sz at sq;omega) (by unfold Sz at S2;omega) t)
 have SQ0:=Lib.hid (SQ.mono (show j+129≤j+129+1+1 by omega))
 have SQ1:=Lib.hid (SQ.add S1)
 obtain ⟨p,hp⟩: ∃b,b=decide (x.num<0):=⟨_,rfl⟩
 try rw [←hp] at HT
 try rw [←hp] at HU
 try rw [←hp] at Hm1
 try rw [←hp] at Hm2
 try rw [←hp] at CS1
 try rw [←hp] at CD
 try rw [←hp] at COF
 try rw [←hp] at CA
 try rw [←hp] at CS2
 try rw [←hp] at CL
 try rw [←hp]
 have HPp:=Lib.hid hp
 clear hu m1 m2 hp hT
 have hl2:0<l2:=by have:=m_len_zero' Hm2.out;rw [hdn] at this;have:=x.den_nz;omega
 have hl2z:((l2:Int)==0)=false:=beq_eq_false_iff_ne.2 (by omega)
 rw [show ((1:Nat):Int)=1 from rfl] at COF
 obtain ⟨RR,hRR⟩: ∃r,r=roundQ away x K:=⟨_,rfl⟩
 have HR0:=Lib.hid (fun h:away=false∨x.num.natAbs*2^K % x.den=0=>(show RR=x.num.natAbs*2^K/x.den from by rw [hRR];exact roundQ_zero h))
 have HR1:=Lib.hid (fun (h1:away=true) (h:x.num.natAbs*2^K % x.den≠0)=>(show RR=x.num.natAbs*2^K/x.den+1 from by rw [hRR,h1];exact roundQ_one h))
 rw [←hRR]
 obtain ⟨rm,hrm⟩: ∃r,r=x.num.natAbs*2^K % x.den:=⟨_,rfl⟩
 rw [←hrm] at CD HR0 HR1
 obtain ⟨P,hP⟩: ∃P,P=2^K:=⟨_,rfl⟩
 rw [←hP] at CS1 CD CA CS2 CL HR0 HR1 SQ0 SQ1⊢
 clear hRR hrm hP SN SQ S1 S2 hp hdn hs hj h1 hK
 go_enter Tryz.func168,Tryz.ntmps168
 have KN:=HT.out.k
 have U_e:=Lib.hid (HU.out.kp KN)
 have m1_e:=Lib.hid (Hm1.out.kp KN)
 have m2_e:=Lib.hid (Hm2.out.kp KN)
 have Z_e:=Lib.hid (HZ.out.kp KN)
 clear KN
 obtain ⟨g0,g1,g2,_⟩:=HT.out.ra.cells
 go_wp2_with (go_at_call 197;(with_reducible refine (CS1.out _ _ m1_e.out).mono ?_);rintro e w2 ⟨v1,rfl,n1,k2⟩;refine Hid.out ?_)
 refine Lib.hid ?_
 have T_2:=Lib.hid (HT.out.kp k2)
 have U_2:=Lib.hid (U_e.out.kp k2)
 have m1_2:=Lib.hid (m1_e.out.kp k2)
 have m2_2:=Lib.hid (m2_e.out.kp k2)
 have Z_2:=Lib.hid (Z_e.out.kp k2)
 clear HT U_e m1_e m2_e Z_e
 have N1_2:=Lib.hid n1
 clear n1 k2
 obtain ⟨g0,g1,g2,_⟩:=T_2.out.ra.cells
 go_wp2_with (go_at_call 191;(with_reducible refine (CD.out _ _ _ N1_2.out m2_2.out Z_2.out).mono ?_);rintro e w3 ⟨vq,vr,rfl,nq,nr,k3⟩;refine Hid.out ?_)
 refine Lib.hid ?_
 have T_3:=Lib.hid (T_2.out.kp k3)
 have U_3:=Lib.hid (U_2.out.kp k3)
 have m1_3:=Lib.hid (m1_2.out.kp k3)
 have m2_3:=Lib.hid (m2_2.out.kp k3)
 have Z_3:=Lib.hid (Z_2.out.kp k3)
 have N1_3:=Lib.hid (N1_2.out.kp k3)
 clear T_2 U_2 m1_2 m2_2 Z_2 N1_2
 have NQ_3:=Lib.hid nq
 have NR_3:=Lib.hid nr
 clear nq nr k3
 obtain ⟨g0,g1,g2,_⟩:=T_3.out.ra.cells
 obtain ⟨o8,l8,c8,rfl⟩:=m_slice NR_3.out
 have hl8:=m_len_zero' NR_3.out
 clear hK4 e1 e2 e3 e4
 go_upto_region 6 with fail
 obtain ⟨t0,ht0⟩: ∃t,t=(away&&decide (0<l8)):=⟨_,rfl⟩
 have HT0:=Lib.hid ht0
 have HL8:=Lib.hid hl8
 clear ht0 hl8
 go_cut [45] (fun t wc=>t= .bool t0∧w3=wc)
 case first=>
  cases away
  ·obtain rfl:t0=false:=HT0.out
   go_wp2_with fail
   go_meet
   exact ⟨rfl,rfl⟩
  ·by_cases hl9:0<l8
   ·obtain rfl:t0=true:=by rw [HT0.out,decide_eq_true hl9];rfl
    go_wp2_with fail
    go_meet
    exact ⟨rfl,rfl⟩
   ·obtain rfl:t0=false:=by rw [HT0.out,decide_eq_false hl9];rfl
    obtain rfl:l8=0:=by omega
    go_wp2_with fail
    go_meet
    exact ⟨rfl,rfl⟩
 case rest=>
 obtain ⟨rfl,rfl⟩:=hcut
 cases t0
 ·have HE:=Lib.hid (HR0.out (by
   have h:=HT0.out
   cases away
   ·exact Or.inl rfl
   ·right
    have h2: ¬0<l8:=by
     intro e
     rw [decide_eq_true e] at h
     cases h
    exact HL8.out.1 (by omega)))
  clear HT0 HL8 HR0 HR1
  go_wp2_with (go_at_call 198;(with_reducible refine (COF.out _).mono ?_);rintro e w4 ⟨vo2,rfl,no2,k4⟩;refine Hid.out ?_)
  refine Lib.hid ?_
  have T_4:=Lib.hid (T_3.out.kp k4)
  have U_4:=Lib.hid (U_3.out.kp k4)
  have m1_4:=Lib.hid (m1_3.out.kp k4)
  have m2_4:=Lib.hid (m2_3.out.kp k4)
  have Z_4:=Lib.hid (Z_3.out.kp k4)
  have N1_4:=Lib.hid (N1_3.out.kp k4)
  have NQ_4:=Lib.hid (NQ_3.out.kp k4)
  have NR_4:=Lib.hid (NR_3.out.kp k4)
  clear T_3 U_3 m1_3 m2_3 Z_3 N1_3 NQ_3 NR_3
  have NO2_4:=Lib.hid no2
  clear no2 k4
  obtain ⟨g0,g1,g2,_⟩:=T_4.out.ra.cells
  go_wp2_with (go_at_call 197;(with_reducible refine (CS2.out _ _ NO2_4.out).mono ?_);rintro e w5 ⟨vp,rfl,np,k5⟩;refine Hid.out ?_)
  refine Lib.hid ?_
  have T_5:=Lib.hid (T_4.out.kp k5)
  have U_5:=Lib.hid (U_4.out.kp k5)
  have m1_5:=Lib.hid (m1_4.out.kp k5)
  have m2_5:=Lib.hid (m2_4.out.kp k5)
  have Z_5:=Lib.hid (Z_4.out.kp k5)
  have N1_5:=Lib.hid (N1_4.out.kp k5)
  have NQ_5:=Lib.hid (NQ_4.out.kp k5)
  have NR_5:=Lib.hid (NR_4.out.kp k5)
  have NO2_5:=Lib.hid (NO2_4.out.kp k5)
  clear T_4 U_4 m1_4 m2_4 Z_4 N1_4 NQ_4 NR_4 NO2_4
  have NP_5:=Lib.hid np
  clear np k5
  obtain ⟨g0,g1,g2,_⟩:=T_5.out.ra.cells
  go_wp2_with (go_at_call 199;(with_reducible refine (CL.out _ _ _ _ _ SQ0.out NQ_5.out NP_5.out Z_5.out).mono ?_);rintro e w6 ⟨vr,rfl,hvr,k6⟩;refine Hid.out ?_)
  refine Lib.hid ?_
  have T_6:=Lib.hid (T_5.out.kp k6)
  have U_6:=Lib.hid (U_5.out.kp k6)
  have m1_6:=Lib.hid (m1_5.out.kp k6)
  have m2_6:=Lib.hid (m2_5.out.kp k6)
  have Z_6:=Lib.hid (Z_5.out.kp k6)
  have N1_6:=Lib.hid (N1_5.out.kp k6)
  have NQ_6:=Lib.hid (NQ_5.out.kp k6)
  have NR_6:=Lib.hid (NR_5.out.kp k6)
  have NO2_6:=Lib.hid (NO2_5.out.kp k6)
  have NP_6:=Lib.hid (NP_5.out.kp k6)
  clear T_5 U_5 m1_5 m2_5 Z_5 N1_5 NQ_5 NR_5 NO2_5 NP_5
  clear k6
  obtain ⟨sgn,q1,r1,s1,q2,r2,s2,rfl⟩:=hvr.lit
  obtain ⟨⟨e0,e1,e2,f0,f1,f2⟩,HPP,HV,HKF⟩:=rat_ends T_6.out.rr T_6.out.k (Below.refl _ _) hvr (by omega)
  clear hvr
  obtain ⟨k0,k1,k2⟩:=HPP.out
  go_wp2
  exact bodyPost_ret (v:= .agg #[.bool sgn,.slice q1 r1 s1,.slice q2 r2 s2]) (by simp [results,Tryz.results168,go_sem,k0,k1,k2]) rfl ⟨_,rfl,by rw [HE.out];exact HV.out,HKF.out⟩
 ·have HE:=Lib.hid (HR1.out (by
   have h:=HT0.out
   cases away
   ·cases h
   ·rfl) (by
   have h:=HT0.out
   intro e
   rw [HL8.out.2 e] at h
   cases away<;>cases h))
  clear HT0 HL8 HR0 HR1
  go_wp2_with (go_at_call 198;(with_reducible refine (COF.out _).mono ?_);rintro e w4 ⟨vo,rfl,no,k4⟩;refine Hid.out ?_)
  refine Lib.hid ?_
  have T_4:=Lib.hid (T_3.out.kp k4)
  have U_4:=Lib.hid (U_3.out.kp k4)
  have m1_4:=Lib.hid (m1_3.out.kp k4)
  have m2_4:=Lib.hid (m2_3.out.kp k4)
  have Z_4:=Lib.hid (Z_3.out.kp k4)
  have N1_4:=Lib.hid (N1_3.out.kp k4)
  have NQ_4:=Lib.hid (NQ_3.out.kp k4)
  have NR_4:=Lib.hid (NR_3.out.kp k4)
  clear T_3 U_3 m1_3 m2_3 Z_3 N1_3 NQ_3 NR_3
  have NO_4:=Lib.hid no
  clear no k4
  obtain ⟨g0,g1,g2,_⟩:=T_4.out.ra.cells
  go_wp2_with (go_at_call 193;(with_reducible refine (CA.out _ _ _ NQ_4.out NO_4.out).mono ?_);rintro e w5 ⟨vs,rfl,ns,k5⟩;refine Hid.out ?_)
  refine Lib.hid ?_
  have T_5:=Lib.hid (T_4.out.kp k5)
  have U_5:=Lib.hid (U_4.out.kp k5)
  have m1_5:=Lib.hid (m1_4.out.kp k5)
  have m2_5:=Lib.hid (m2_4.out.kp k5)
  have Z_5:=Lib.hid (Z_4.out.kp k5)
  have N1_5:=Lib.hid (N1_4.out.kp k5)
  have NQ_5:=Lib.hid (NQ_4.out.kp k5)
  have NR_5:=Lib.hid (NR_4.out.kp k5)
  have NO_5:=Lib.hid (NO_4.out.kp k5)
  clear T_4 U_4 m1_4 m2_4 Z_4 N1_4 NQ_4 NR_4 NO_4
  have NS_5:=Lib.hid ns
  clear ns k5
  obtain ⟨g0,g1,g2,_⟩:=T_5.out.ra.cells
  go_wp2_with (go_at_call 198;(with_reducible refine (COF.out _).mono ?_);rintro e w6 ⟨vo2,rfl,no2,k6⟩;refine Hid.out ?_)
  refine Lib.hid ?_
  have T_6:=Lib.hid (T_5.out.kp k6)
  have U_6:=Lib.hid (U_5.out.kp k6)
  have m1_6:=Lib.hid (m1_5.out.kp k6)
  have m2_6:=Lib.hid (m2_5.out.kp k6)
  have Z_6:=Lib.hid (Z_5.out.kp k6)
  have N1_6:=Lib.hid (N1_5.out.kp k6)
  have NQ_6:=Lib.hid (NQ_5.out.kp k6)
  have NR_6:=Lib.hid (NR_5.out.kp k6)
  have NO_6:=Lib.hid (NO_5.out.kp k6)
  have NS_6:=Lib.hid (NS_5.out.kp k6)
  clear T_5 U_5 m1_5 m2_5 Z_5 N1_5 NQ_5 NR_5 NO_5 NS_5
  have NO2_6:=Lib.hid no2
  clear no2 k6
  obtain ⟨g0,g1,g2,_⟩:=T_6.out.ra.cells
  go_wp2_with (go_at_call 197;(with_reducible refine (CS2.out _ _ NO2_6.out).mono ?_);rintro e w7 ⟨vp,rfl,np,k7⟩;refine Hid.out ?_)
  refine Lib.hid ?_
  have T_7:=Lib.hid (T_6.out.kp k7)
  have U_7:=Lib.hid (U_6.out.kp k7)
  have m1_7:=Lib.hid (m1_6.out.kp k7)
  have m2_7:=Lib.hid (m2_6.out.kp k7)
  have Z_7:=Lib.hid (Z_6.out.kp k7)
  have N1_7:=Lib.hid (N1_6.out.kp k7)
  have NQ_7:=Lib.hid (NQ_6.out.kp k7)
  have NR_7:=Lib.hid (NR_6.out.kp k7)
  have NO_7:=Lib.hid (NO_6.out.kp k7)
  have NS_7:=Lib.hid (NS_6.out.kp k7)
  have NO2_7:=Lib.hid (NO2_6.out.kp k7)
  clear T_6 U_6 m1_6 m2_6 Z_6 N1_6 NQ_6 NR_6 NO_6 NS_6 NO2_6
  have NP_7:=Lib.hid np
  clear np k7
  obtain ⟨g0,g1,g2,_⟩:=T_7.out.ra.cells
  go_wp2_with (go_at_call 199;(with_reducible refine (CL.out _ _ _ _ _ SQ1.out NS_7.out NP_7.out Z_7.out).mono ?_);rintro e w8 ⟨vr,rfl,hvr,k8⟩;refine Hid.out ?_)
  refine Lib.hid ?_
  have T_8:=Lib.hid (T_7.out.kp k8)
  have U_8:=Lib.hid (U_7.out.kp k8)
  have m1_8:=Lib.hid (m1_7.out.kp k8)
  have m2_8:=Lib.hid (m2_7.out.kp k8)
  have Z_8:=Lib.hid (Z_7.out.kp k8)
  have N1_8:=Lib.hid (N1_7.out.kp k8)
  have NQ_8:=Lib.hid (NQ_7.out.kp k8)
  have NR_8:=Lib.hid (NR_7.out.kp k8)
  have NO_8:=Lib.hid (NO_7.out.kp k8)
  have NS_8:=Lib.hid (NS_7.out.kp k8)
  have NO2_8:=Lib.hid (NO2_7.out.kp k8)
  have NP_8:=Lib.hid (NP_7.out.kp k8)
  clear T_7 U_7 m1_7 m2_7 Z_7 N1_7 NQ_7 NR_7 NO_7 NS_7 NO2_7 NP_7
  clear k8
  obtain ⟨sgn,q1,r1,s1,q2,r2,s2,rfl⟩:=hvr.lit
  obtain ⟨⟨e0,e1,e2,f0,f1,f2⟩,HPP,HV,HKF⟩:=rat_ends T_8.out.rr T_8.out.k (Below.refl _ _) hvr (by omega)
  clear hvr
  obtain ⟨k0,k1,k2⟩:=HPP.out
  go_wp2
  exact bodyPost_ret (v:= .agg #[.bool sgn,.slice q1 r1 s1,.slice q2 r2 s2]) (by simp [results,Tryz.results168,go_sem,k0,k1,k2]) rfl ⟨_,rfl,by rw [HE.out];exact HV.out,HKF.out⟩
set_option maxRecDepth 20000 in
set_option maxHeartbeats 4000000 in
theorem qdown_any {w:World} {u:Value} {x:Rat} (hu:RatV w u x) (k:Int) {j:Nat} (hs:RSz j x) (hj:j≤200000000) (hT:Tz w):
  Calls Tryz.prog 136 #[u,.int .i64 k] w fun e w'=> ∃r,e= .returned r∧RatV w' r (downR x (scaleQ k))∧Kp w w':=by
 obtain ⟨a1,l1,c1,a2,l2,c2,rfl,m1,m2⟩:=hu.parts
 have HT:=Lib.hid (One.new w (.bool (decide (x.num<0))) (.slice a1 l1 c1) (.slice a2 l2 c2))
 have HU:=Lib.hid hu
 have HZ:=Lib.hid hT
 have CR:=Lib.hid (fun w' a (ha:RatV w' a x) (t:Tz w')=>(show Calls Tryz.prog 168 #[a,.int .i64 k,.bool (decide (x.num<0))] w' fun e w2=> ∃r,e= .returned r∧RatV w2 r (downR x (scaleQ k))∧Kp w' w2 from by
  by_cases h1:x.den=1
  ·rw [downR_int h1];exact round_int ha k _ hs hj h1
  ·rw [←round_down];exact round_frac ha k _ hs hj h1 t))
 obtain ⟨p,hp⟩: ∃b,b=decide (x.num<0):=⟨_,rfl⟩
 try rw [←hp] at HT
 try rw [←hp] at HU
 try rw [←hp] at CR
 try rw [←hp]
 have HPp:=Lib.hid hp
 clear hu m1 m2 hp hT
 clear hs hj
 go_enter Tryz.func136,Tryz.ntmps136
 have KN:=HT.out.k
 have U_e:=Lib.hid (HU.out.kp KN)
 have Z_e:=Lib.hid (HZ.out.kp KN)
 clear KN
 obtain ⟨g0,g1,g2,_⟩:=HT.out.ra.cells
 go_wp2_with (go_at_call 168;(with_reducible refine (CR.out _ _ U_e.out Z_e.out).mono ?_);rintro e w2 ⟨vr,rfl,hvr,k2⟩;refine Hid.out ?_)
 refine Lib.hid ?_
 have T_2:=Lib.hid (HT.out.kp k2)
 have U_2:=Lib.hid (U_e.out.kp k2)
 have Z_2:=Lib.hid (Z_e.out.kp k2)
 clear HT U_e Z_e
 clear k2
 obtain ⟨sgn,q1,r1,s1,q2,r2,s2,rfl⟩:=hvr.lit
 obtain ⟨⟨e0,e1,e2,f0,f1,f2⟩,HPP,HV,HKF⟩:=rat_ends T_2.out.rr T_2.out.k (Below.refl _ _) hvr (by omega)
 clear hvr
 obtain ⟨k0,k1,k2⟩:=HPP.out
 go_wp2
 exact bodyPost_ret (v:= .agg #[.bool sgn,.slice q1 r1 s1,.slice q2 r2 s2]) (by simp [results,Tryz.results136,go_sem,k0,k1,k2]) rfl ⟨_,rfl,HV.out,HKF.out⟩
end Go.Proofs.YtgdlialkjiblpaaGreatDoor
