/-
  Several texts in one: Rq9, Rqa, Qva, Rva, Vv.
-/
import Derived.Test.YtemmbphdcgdboaaGreatDoorBr
import Derived.Test.YtemmbphdcgdboaaGreatDoorBg
import Derived.Test.YtemmbphdcgdboaaGreatDoorBs
import Derived.Test.YtemmbphdcgdboaaGreatDoorBk
import Derived.Test.YtemmbphdcgdboaaGreatDoorBv
namespace Go.Proofs.YtemmbphdcgdboaaGreatDoor
open Go.RowKit
theorem floor_parts (x:Rat):ratOf (decide (x.num<0)) (x.num.natAbs/x.den+(if decide (x.num<0)=true∧x.num.natAbs % x.den≠0 then 1 else 0)) 1=(x.floor:Rat):=by
 have h:=round_down x 0
 unfold roundQ downR downN at h
 simp only [Nat.pow_zero,Nat.mul_one,Int.natCast_one,Int.mul_one] at h
 rw [h,Rat.mkRat_one,Rat.floor_def]
def scaleK (k:Int):Nat:=(min (max k 0) 4096).toNat
theorem scaleK_le (k:Int):scaleK k≤4096:=by unfold scaleK;omega
theorem sz_pow2 {n k:Nat} (h:n<32*k):Sz k (2^n):=by
 refine length_toL_le _ k ?_
 have h32:(4294967296:Nat)^k=2^(32*k):=by rw [Nat.pow_mul]
 rw [h32]
 exact Nat.pow_lt_pow_right (by decide) h
theorem sz_pow {n:Nat} (h:n≤4096):Sz 129 (2^n):=sz_pow2 (by omega)
theorem natCast_ratOf (n:Nat):ratOf false n 1=(n:Rat):=by
 unfold ratOf sg
 rw [if_neg (by decide),Rat.mkRat_one]
 rfl
theorem rsz_floor {k:Nat} {x:Rat} (h:RSz k x):RSz (k+1) (x.floor:Rat):=by
 rw [←floor_parts x]
 refine RSz.of_mkRat ?_ (Nat.le_trans (length_toL_le 1 1 (by decide)) (by omega)) (by decide)
 rw [sg_natAbs]
 have h1:Sz k (x.num.natAbs/x.den):=h.1.le (Nat.div_le_self _ _)
 by_cases hk:k=0
 ·subst hk
  have h2:=h.1
  have h0:x.num.natAbs=0:=by
   unfold Sz at h2
   exact (toL_nil_iff _).1 (List.length_eq_zero_iff.1 (by omega))
  rw [h0]
  simp only [Nat.zero_div,Nat.zero_mod]
  exact length_toL_le _ 1 (by simp)
 ·have h2:Sz k 1:=Nat.le_trans (length_toL_le 1 1 (by decide)) (by omega)
  refine (h1.plus h2).le ?_
  split<;>omega
set_option maxRecDepth 20000 in
set_option maxHeartbeats 4000000 in
theorem rqfloor_any {w:World} {u:Value} {x:Rat} (hu:RatV w u x) {j:Nat} (hs:RSz j x) (hj:j≤500000000):
  Calls Tryz.prog 119 #[u] w fun e w'=> ∃r,e= .returned r∧RatV w' r ((x.floor:Rat))∧Kp w w':=by
 rw [←floor_parts x]
 have S1:Sz 1 1:=length_toL_le 1 1 (by decide)
 have SQ:Sz j (x.num.natAbs/x.den):=hs.1.le (Nat.div_le_self _ _)
 obtain ⟨a1,l1,c1,a2,l2,c2,rfl,m1,m2⟩:=hu.parts
 have HT:=Lib.hid (One.new w (.bool (decide (x.num<0))) (.slice a1 l1 c1) (.slice a2 l2 c2))
 have HU:=Lib.hid hu
 have Hm1:=Lib.hid m1
 have Hm2:=Lib.hid m2
 have CDA:=Lib.hid (fun w' (a:M w' (.slice a1 l1 c1) x.num.natAbs) (b:M w' (.slice a2 l2 c2) (denOf x))=>rden_m (s:=decide (x.num<0)) a b)
 have CD:=Lib.hid (fun w' va vb (a:M w' va x.num.natAbs) (b:M w' vb x.den)=>rdiv_any a b (by have:=hs.1;unfold Sz at this;omega) x.den_nz)
 have CA:=Lib.hid (fun w' va vb (a:M w' va (x.num.natAbs/x.den)) (b:M w' vb 1)=>radd_any a b SQ S1 (by omega) (by omega))
 have CR1:=Lib.hid (fun w' s va vb (a:M w' va (x.num.natAbs/x.den+1)) (b:M w' vb 1)=>reduce_m (neg:=s) a b (SQ.add S1) S1 (by omega) (by omega) (by decide))
 have CR0:=Lib.hid (fun w' s va vb (a:M w' va (x.num.natAbs/x.den)) (b:M w' vb 1)=>reduce_m (neg:=s) a b SQ S1 (by omega) (by omega) (by decide))
 obtain ⟨p,hp⟩: ∃b,b=decide (x.num<0):=⟨_,rfl⟩
 try rw [←hp] at HT
 try rw [←hp] at HU
 try rw [←hp] at Hm1
 try rw [←hp] at Hm2
 try rw [←hp] at CDA
 try rw [←hp] at CD
 try rw [←hp] at CA
 try rw [←hp] at CR1
 try rw [←hp] at CR0
 try rw [←hp]
 have HPp:=Lib.hid hp
 clear hu m1 m2 hp
 obtain ⟨rr,hrr⟩: ∃r,r=x.num.natAbs % x.den:=⟨_,rfl⟩
 rw [←hrr] at CD⊢
 clear hrr SQ S1 hs hj
 cases p
 ·rw [if_neg (by simp),Nat.add_zero]
  go_enter Tryz.func119,Tryz.ntmps119
  have KN:=HT.out.k
  have U_e:=Lib.hid (HU.out.kp KN)
  have m1_e:=Lib.hid (Hm1.out.kp KN)
  have m2_e:=Lib.hid (Hm2.out.kp KN)
  clear KN
  obtain ⟨g0,g1,g2,_⟩:=HT.out.ra.cells
  go_upto_region 1 with fail
  have T_2:=Lib.hid (HT.out.kp (Below.refl _ _).drew)
  have U_2:=Lib.hid (U_e.out.kp (Below.refl _ _).drew)
  have m1_2:=Lib.hid (m1_e.out.kp (Below.refl _ _).drew)
  have m2_2:=Lib.hid (m2_e.out.kp (Below.refl _ _).drew)
  clear HT U_e m1_e m2_e
  go_region_held3 (fun w'=>w'.cell? ⟨w.heap.size,0,none⟩=some (.bool false)∧w'.cell? ⟨w.heap.size,1,none⟩=some (.slice a1 l1 c1)∧w'.cell? ⟨w.heap.size,2,none⟩=some (.slice a2 l2 c2))
   (first | (refine ⟨?_,?_,?_⟩<;>assumption) | go_keep)
   (first
    | (go_at_call 99;(with_reducible refine (CDA.out _ m1_2.out m2_2.out).mono ?_);rintro e w3 ⟨vA,rfl,hA,k3⟩;have T_3:=Lib.hid (T_2.out.kp k3);have U_3:=Lib.hid (U_2.out.kp k3);have m1_3:=Lib.hid (m1_2.out.kp k3);have m2_3:=Lib.hid (m2_2.out.kp k3);clear T_2 U_2 m1_2 m2_2;have A_3:=Lib.hid hA;clear hA k3;obtain ⟨g0,g1,g2,_⟩:=T_3.out.ra.cells)
    | (go_at_call 129;(with_reducible refine (CD.out _ _ _ m1_3.out A_3.out).mono ?_);rintro e w4 ⟨vq,vr9,rfl,hq9,hr9,k4⟩;have T_4:=Lib.hid (T_3.out.kp k4);have U_4:=Lib.hid (U_3.out.kp k4);have m1_4:=Lib.hid (m1_3.out.kp k4);have m2_4:=Lib.hid (m2_3.out.kp k4);have A_4:=Lib.hid (A_3.out.kp k4);clear T_3 U_3 m1_3 m2_3 A_3;have QQ_4:=Lib.hid hq9;have RR_4:=Lib.hid hr9;clear hq9 hr9 k4;obtain ⟨g0,g1,g2,_⟩:=T_4.out.ra.cells))
  obtain ⟨o8,l8,c8,rfl⟩:=m_slice RR_4.out
  have hl8:=m_len_zero RR_4.out
  clear hl8
  have M2:=Lib.hid (m_one_q _ _ 0 1 (cell_of_row _ _ 0 _ _ _ (heap_alloc_new w4 (Obj.cells #[Value.int IntKind.u32 1] 104))) (Nat.le_refl _) (by decide))
  have T_5:=Lib.hid (T_4.out.kp (Kp.alloc _ (Obj.cells #[Value.int IntKind.u32 1] 104)))
  have U_5:=Lib.hid (U_4.out.kp (Kp.alloc _ (Obj.cells #[Value.int IntKind.u32 1] 104)))
  have m1_5:=Lib.hid (m1_4.out.kp (Kp.alloc _ (Obj.cells #[Value.int IntKind.u32 1] 104)))
  have m2_5:=Lib.hid (m2_4.out.kp (Kp.alloc _ (Obj.cells #[Value.int IntKind.u32 1] 104)))
  have A_5:=Lib.hid (A_4.out.kp (Kp.alloc _ (Obj.cells #[Value.int IntKind.u32 1] 104)))
  have QQ_5:=Lib.hid (QQ_4.out.kp (Kp.alloc _ (Obj.cells #[Value.int IntKind.u32 1] 104)))
  have RR_5:=Lib.hid (RR_4.out.kp (Kp.alloc _ (Obj.cells #[Value.int IntKind.u32 1] 104)))
  clear T_4 U_4 m1_4 m2_4 A_4 QQ_4 RR_4
  obtain ⟨g0,g1,g2,_⟩:=T_5.out.ra.cells
  go_wp2_with (go_at_call 100;(with_reducible refine (CR0.out _ _ _ _ QQ_5.out M2.out).mono ?_);rintro e w6 ⟨vr,rfl,hvr,k6⟩;refine Hid.out ?_)
  refine Lib.hid ?_
  have T_6:=Lib.hid (T_5.out.kp k6)
  have U_6:=Lib.hid (U_5.out.kp k6)
  have m1_6:=Lib.hid (m1_5.out.kp k6)
  have m2_6:=Lib.hid (m2_5.out.kp k6)
  have A_6:=Lib.hid (A_5.out.kp k6)
  have QQ_6:=Lib.hid (QQ_5.out.kp k6)
  have RR_6:=Lib.hid (RR_5.out.kp k6)
  clear T_5 U_5 m1_5 m2_5 A_5 QQ_5 RR_5
  clear k6
  obtain ⟨sgn,q1,r1,s1,q2,r2,s2,rfl⟩:=hvr.lit
  obtain ⟨⟨e0,e1,e2,f0,f1,f2⟩,HPP,HV,HKF⟩:=rat_ends T_6.out.rr T_6.out.k (Below.refl _ _) hvr (by omega)
  clear hvr
  obtain ⟨k0,k1,k2⟩:=HPP.out
  go_wp2
  exact bodyPost_ret (v:= .agg #[.bool sgn,.slice q1 r1 s1,.slice q2 r2 s2]) (by simp [results,Tryz.results119,go_sem,k0,k1,k2]) rfl ⟨_,rfl,HV.out,HKF.out⟩
 ·by_cases hr0:rr=0
  ·rw [if_neg (by simp [hr0]),Nat.add_zero]
   go_enter Tryz.func119,Tryz.ntmps119
   have KN:=HT.out.k
   have U_e:=Lib.hid (HU.out.kp KN)
   have m1_e:=Lib.hid (Hm1.out.kp KN)
   have m2_e:=Lib.hid (Hm2.out.kp KN)
   clear KN
   obtain ⟨g0,g1,g2,_⟩:=HT.out.ra.cells
   go_upto_region 1 with fail
   have T_2:=Lib.hid (HT.out.kp (Below.refl _ _).drew)
   have U_2:=Lib.hid (U_e.out.kp (Below.refl _ _).drew)
   have m1_2:=Lib.hid (m1_e.out.kp (Below.refl _ _).drew)
   have m2_2:=Lib.hid (m2_e.out.kp (Below.refl _ _).drew)
   clear HT U_e m1_e m2_e
   go_region_held3 (fun w'=>w'.cell? ⟨w.heap.size,0,none⟩=some (.bool true)∧w'.cell? ⟨w.heap.size,1,none⟩=some (.slice a1 l1 c1)∧w'.cell? ⟨w.heap.size,2,none⟩=some (.slice a2 l2 c2))
    (first | (refine ⟨?_,?_,?_⟩<;>assumption) | go_keep)
    (first
     | (go_at_call 99;(with_reducible refine (CDA.out _ m1_2.out m2_2.out).mono ?_);rintro e w3 ⟨vA,rfl,hA,k3⟩;have T_3:=Lib.hid (T_2.out.kp k3);have U_3:=Lib.hid (U_2.out.kp k3);have m1_3:=Lib.hid (m1_2.out.kp k3);have m2_3:=Lib.hid (m2_2.out.kp k3);clear T_2 U_2 m1_2 m2_2;have A_3:=Lib.hid hA;clear hA k3;obtain ⟨g0,g1,g2,_⟩:=T_3.out.ra.cells)
     | (go_at_call 129;(with_reducible refine (CD.out _ _ _ m1_3.out A_3.out).mono ?_);rintro e w4 ⟨vq,vr9,rfl,hq9,hr9,k4⟩;have T_4:=Lib.hid (T_3.out.kp k4);have U_4:=Lib.hid (U_3.out.kp k4);have m1_4:=Lib.hid (m1_3.out.kp k4);have m2_4:=Lib.hid (m2_3.out.kp k4);have A_4:=Lib.hid (A_3.out.kp k4);clear T_3 U_3 m1_3 m2_3 A_3;have QQ_4:=Lib.hid hq9;have RR_4:=Lib.hid hr9;clear hq9 hr9 k4;obtain ⟨g0,g1,g2,_⟩:=T_4.out.ra.cells))
   obtain ⟨o8,l8,c8,rfl⟩:=m_slice RR_4.out
   have hl8:=m_len_zero RR_4.out
   obtain rfl:=hl8.2 hr0
   clear hl8 hr0
   have M2:=Lib.hid (m_one_q _ _ 0 1 (cell_of_row _ _ 0 _ _ _ (heap_alloc_new w4 (Obj.cells #[Value.int IntKind.u32 1] 104))) (Nat.le_refl _) (by decide))
   have T_5:=Lib.hid (T_4.out.kp (Kp.alloc _ (Obj.cells #[Value.int IntKind.u32 1] 104)))
   have U_5:=Lib.hid (U_4.out.kp (Kp.alloc _ (Obj.cells #[Value.int IntKind.u32 1] 104)))
   have m1_5:=Lib.hid (m1_4.out.kp (Kp.alloc _ (Obj.cells #[Value.int IntKind.u32 1] 104)))
   have m2_5:=Lib.hid (m2_4.out.kp (Kp.alloc _ (Obj.cells #[Value.int IntKind.u32 1] 104)))
   have A_5:=Lib.hid (A_4.out.kp (Kp.alloc _ (Obj.cells #[Value.int IntKind.u32 1] 104)))
   have QQ_5:=Lib.hid (QQ_4.out.kp (Kp.alloc _ (Obj.cells #[Value.int IntKind.u32 1] 104)))
   have RR_5:=Lib.hid (RR_4.out.kp (Kp.alloc _ (Obj.cells #[Value.int IntKind.u32 1] 104)))
   clear T_4 U_4 m1_4 m2_4 A_4 QQ_4 RR_4
   obtain ⟨g0,g1,g2,_⟩:=T_5.out.ra.cells
   go_wp2_with (go_at_call 100;(with_reducible refine (CR0.out _ _ _ _ QQ_5.out M2.out).mono ?_);rintro e w6 ⟨vr,rfl,hvr,k6⟩;refine Hid.out ?_)
   refine Lib.hid ?_
   have T_6:=Lib.hid (T_5.out.kp k6)
   have U_6:=Lib.hid (U_5.out.kp k6)
   have m1_6:=Lib.hid (m1_5.out.kp k6)
   have m2_6:=Lib.hid (m2_5.out.kp k6)
   have A_6:=Lib.hid (A_5.out.kp k6)
   have QQ_6:=Lib.hid (QQ_5.out.kp k6)
   have RR_6:=Lib.hid (RR_5.out.kp k6)
   clear T_5 U_5 m1_5 m2_5 A_5 QQ_5 RR_5
   clear k6
   obtain ⟨sgn,q1,r1,s1,q2,r2,s2,rfl⟩:=hvr.lit
   obtain ⟨⟨e0,e1,e2,f0,f1,f2⟩,HPP,HV,HKF⟩:=rat_ends T_6.out.rr T_6.out.k (Below.refl _ _) hvr (by omega)
   clear hvr
   obtain ⟨k0,k1,k2⟩:=HPP.out
   go_wp2
   exact bodyPost_ret (v:= .agg #[.bool sgn,.slice q1 r1 s1,.slice q2 r2 s2]) (by simp [results,Tryz.results119,go_sem,k0,k1,k2]) rfl ⟨_,rfl,HV.out,HKF.out⟩
  ·rw [if_pos ⟨rfl,hr0⟩]
   go_enter Tryz.func119,Tryz.ntmps119
   have KN:=HT.out.k
   have U_e:=Lib.hid (HU.out.kp KN)
   have m1_e:=Lib.hid (Hm1.out.kp KN)
   have m2_e:=Lib.hid (Hm2.out.kp KN)
   clear KN
   obtain ⟨g0,g1,g2,_⟩:=HT.out.ra.cells
   go_upto_region 1 with fail
   have T_2:=Lib.hid (HT.out.kp (Below.refl _ _).drew)
   have U_2:=Lib.hid (U_e.out.kp (Below.refl _ _).drew)
   have m1_2:=Lib.hid (m1_e.out.kp (Below.refl _ _).drew)
   have m2_2:=Lib.hid (m2_e.out.kp (Below.refl _ _).drew)
   clear HT U_e m1_e m2_e
   go_region_held3 (fun w'=>w'.cell? ⟨w.heap.size,0,none⟩=some (.bool true)∧w'.cell? ⟨w.heap.size,1,none⟩=some (.slice a1 l1 c1)∧w'.cell? ⟨w.heap.size,2,none⟩=some (.slice a2 l2 c2))
    (first | (refine ⟨?_,?_,?_⟩<;>assumption) | go_keep)
    (first
     | (go_at_call 99;(with_reducible refine (CDA.out _ m1_2.out m2_2.out).mono ?_);rintro e w3 ⟨vA,rfl,hA,k3⟩;have T_3:=Lib.hid (T_2.out.kp k3);have U_3:=Lib.hid (U_2.out.kp k3);have m1_3:=Lib.hid (m1_2.out.kp k3);have m2_3:=Lib.hid (m2_2.out.kp k3);clear T_2 U_2 m1_2 m2_2;have A_3:=Lib.hid hA;clear hA k3;obtain ⟨g0,g1,g2,_⟩:=T_3.out.ra.cells)
     | (go_at_call 129;(with_reducible refine (CD.out _ _ _ m1_3.out A_3.out).mono ?_);rintro e w4 ⟨vq,vr9,rfl,hq9,hr9,k4⟩;have T_4:=Lib.hid (T_3.out.kp k4);have U_4:=Lib.hid (U_3.out.kp k4);have m1_4:=Lib.hid (m1_3.out.kp k4);have m2_4:=Lib.hid (m2_3.out.kp k4);have A_4:=Lib.hid (A_3.out.kp k4);clear T_3 U_3 m1_3 m2_3 A_3;have QQ_4:=Lib.hid hq9;have RR_4:=Lib.hid hr9;clear hq9 hr9 k4;obtain ⟨g0,g1,g2,_⟩:=T_4.out.ra.cells))
   obtain ⟨o8,l8,c8,rfl⟩:=m_slice RR_4.out
   have hl8:=m_len_zero RR_4.out
   have hl80:0<l8:=by omega
   clear hl8 hr0
   have M1:=Lib.hid (m_one_q _ _ 0 1 (cell_of_row _ _ 0 _ _ _ (heap_alloc_new w4 (Obj.cells #[Value.int IntKind.u32 1] 104))) (Nat.le_refl _) (by decide))
   have T_5:=Lib.hid (T_4.out.kp (Kp.alloc _ (Obj.cells #[Value.int IntKind.u32 1] 104)))
   have U_5:=Lib.hid (U_4.out.kp (Kp.alloc _ (Obj.cells #[Value.int IntKind.u32 1] 104)))
   have m1_5:=Lib.hid (m1_4.out.kp (Kp.alloc _ (Obj.cells #[Value.int IntKind.u32 1] 104)))
   have m2_5:=Lib.hid (m2_4.out.kp (Kp.alloc _ (Obj.cells #[Value.int IntKind.u32 1] 104)))
   have A_5:=Lib.hid (A_4.out.kp (Kp.alloc _ (Obj.cells #[Value.int IntKind.u32 1] 104)))
   have QQ_5:=Lib.hid (QQ_4.out.kp (Kp.alloc _ (Obj.cells #[Value.int IntKind.u32 1] 104)))
   have RR_5:=Lib.hid (RR_4.out.kp (Kp.alloc _ (Obj.cells #[Value.int IntKind.u32 1] 104)))
   clear T_4 U_4 m1_4 m2_4 A_4 QQ_4 RR_4
   go_wp2_with (go_at_call 101;(with_reducible refine (CA.out _ _ _ QQ_5.out M1.out).mono ?_);rintro e w6 ⟨va9,rfl,ha9,k6⟩;refine Hid.out ?_)
   refine Lib.hid ?_
   have T_6:=Lib.hid (T_5.out.kp k6)
   have U_6:=Lib.hid (U_5.out.kp k6)
   have m1_6:=Lib.hid (m1_5.out.kp k6)
   have m2_6:=Lib.hid (m2_5.out.kp k6)
   have A_6:=Lib.hid (A_5.out.kp k6)
   have QQ_6:=Lib.hid (QQ_5.out.kp k6)
   have RR_6:=Lib.hid (RR_5.out.kp k6)
   clear T_5 U_5 m1_5 m2_5 A_5 QQ_5 RR_5
   have AA_6:=Lib.hid ha9
   clear ha9 k6
   obtain ⟨g0,g1,g2,_⟩:=T_6.out.ra.cells
   have M2:=Lib.hid (m_one_q _ _ 0 1 (cell_of_row _ _ 0 _ _ _ (heap_alloc_new w6 (Obj.cells #[Value.int IntKind.u32 1] 104))) (Nat.le_refl _) (by decide))
   have T_7:=Lib.hid (T_6.out.kp (Kp.alloc _ (Obj.cells #[Value.int IntKind.u32 1] 104)))
   have U_7:=Lib.hid (U_6.out.kp (Kp.alloc _ (Obj.cells #[Value.int IntKind.u32 1] 104)))
   have m1_7:=Lib.hid (m1_6.out.kp (Kp.alloc _ (Obj.cells #[Value.int IntKind.u32 1] 104)))
   have m2_7:=Lib.hid (m2_6.out.kp (Kp.alloc _ (Obj.cells #[Value.int IntKind.u32 1] 104)))
   have A_7:=Lib.hid (A_6.out.kp (Kp.alloc _ (Obj.cells #[Value.int IntKind.u32 1] 104)))
   have QQ_7:=Lib.hid (QQ_6.out.kp (Kp.alloc _ (Obj.cells #[Value.int IntKind.u32 1] 104)))
   have RR_7:=Lib.hid (RR_6.out.kp (Kp.alloc _ (Obj.cells #[Value.int IntKind.u32 1] 104)))
   have AA_7:=Lib.hid (AA_6.out.kp (Kp.alloc _ (Obj.cells #[Value.int IntKind.u32 1] 104)))
   clear T_6 U_6 m1_6 m2_6 A_6 QQ_6 RR_6 AA_6
   obtain ⟨g0,g1,g2,_⟩:=T_7.out.ra.cells
   go_wp2_with (go_at_call 100;(with_reducible refine (CR1.out _ _ _ _ AA_7.out M2.out).mono ?_);rintro e w8 ⟨vr,rfl,hvr,k8⟩;refine Hid.out ?_)
   refine Lib.hid ?_
   have T_8:=Lib.hid (T_7.out.kp k8)
   have U_8:=Lib.hid (U_7.out.kp k8)
   have m1_8:=Lib.hid (m1_7.out.kp k8)
   have m2_8:=Lib.hid (m2_7.out.kp k8)
   have A_8:=Lib.hid (A_7.out.kp k8)
   have QQ_8:=Lib.hid (QQ_7.out.kp k8)
   have RR_8:=Lib.hid (RR_7.out.kp k8)
   have AA_8:=Lib.hid (AA_7.out.kp k8)
   clear T_7 U_7 m1_7 m2_7 A_7 QQ_7 RR_7 AA_7
   clear k8
   obtain ⟨sgn,q1,r1,s1,q2,r2,s2,rfl⟩:=hvr.lit
   obtain ⟨⟨e0,e1,e2,f0,f1,f2⟩,HPP,HV,HKF⟩:=rat_ends T_8.out.rr T_8.out.k (Below.refl _ _) hvr (by omega)
   clear hvr
   obtain ⟨k0,k1,k2⟩:=HPP.out
   go_wp2
   exact bodyPost_ret (v:= .agg #[.bool sgn,.slice q1 r1 s1,.slice q2 r2 s2]) (by simp [results,Tryz.results119,go_sem,k0,k1,k2]) rfl ⟨_,rfl,HV.out,HKF.out⟩
end Go.Proofs.YtemmbphdcgdboaaGreatDoor
namespace Go.Proofs.YtemmbphdcgdboaaGreatDoor
open Go.RowKit
set_option maxRecDepth 20000 in
set_option maxHeartbeats 4000000 in
theorem rqscale_any {w:World} (k:Int):
  Calls Tryz.prog 120 #[.int .i64 k] w fun e w'=> ∃r,e= .returned r∧RatV w' r (((2^scaleK k:Nat):Rat))∧Kp w w':=by
 have HT:=Lib.hid (Nul.new w)
 rw [←natCast_ratOf]
 obtain ⟨n,hn⟩: ∃n,n=scaleK k:=⟨_,rfl⟩
 have hk:min (max k 0) 4096=(n:Int):=by rw [hn];unfold scaleK;omega
 have hk2:min 4096 (max k 0)=(n:Int):=by omega
 have hk3:min 4096 (max 0 k)=(n:Int):=by omega
 have hk4:min (max 0 k) 4096=(n:Int):=by omega
 have hn2:n≤4096:=by rw [hn];exact scaleK_le k
 have CS:=Lib.hid (fun w' v (a:M w' v 1)=>rshift_up a (show Sz 1 1 from length_toL_le 1 1 (by decide)) (by omega) n (by omega))
 have hp:2^n≠0:=Nat.ne_of_gt (Nat.pow_pos (by decide))
 rw [←hn]
 have HP2:=Lib.hid hp
 clear hn hn2 hp
 rw [show (1:Nat)*2^n=2^n from Nat.one_mul _] at CS
 obtain ⟨P,hP⟩: ∃P,P=2^n:=⟨_,rfl⟩
 rw [←hP] at CS HP2⊢
 clear hP
 go_enter Tryz.func120,Tryz.ntmps120
 have KN:=HT.out.k
 clear KN
 have M1:=Lib.hid (m_one_q _ _ 0 1 (cell_of_row _ _ 0 _ _ _ (heap_alloc_new (w.alloc (Obj.cells #[Value.bool false,Value.slice none 0 0,Value.slice none 0 0] 29)) (Obj.cells #[Value.int IntKind.u32 1] 104))) (Nat.le_refl _) (by decide))
 simp only [World.size_alloc] at M1
 have T_2:=Lib.hid (HT.out.kp (Kp.alloc _ (Obj.cells #[Value.int IntKind.u32 1] 104)))
 clear HT
 go_wp2_with (go_at_call 148;(with_reducible refine (CS.out _ _ M1.out).mono ?_);rintro e w3 ⟨va,rfl,hva,k3⟩;refine Hid.out ?_)
 refine Lib.hid ?_
 have T_3:=Lib.hid (T_2.out.kp k3)
 clear T_2
 have A_3:=Lib.hid hva
 clear hva k3
 obtain ⟨o9,l9,c9,rfl⟩:=m_slice A_3.out
 have VR:=Lib.hid (RatV.of (neg:=false) (d:=1) (by decide) (Nat.gcd_one_right _) A_3.out (by rw [if_pos rfl];exact m_nil0 _) (fun _=>rfl))
 obtain ⟨⟨e0,e1,e2,f0,f1,f2⟩,HPP,HV,HKF⟩:=rat_ends T_3.out.rr T_3.out.k (Below.refl _ _) VR.out (by omega)
 go_wp2
 obtain ⟨k0,k1,k2⟩:=HPP.out
 exact bodyPost_ret (v:= .agg #[.bool false,.slice o9 l9 c9,.slice none 0 0]) (by simp [results,Tryz.results120,go_sem,k0,k1,k2]) rfl ⟨_,rfl,HV.out,HKF.out⟩
theorem rsz_scale (k:Int):RSz 129 ((2^scaleK k:Nat):Rat):=by
 rw [←natCast_ratOf]
 refine RSz.of_mkRat ?_ (Nat.le_trans (length_toL_le 1 1 (by decide)) (by omega)) (by decide)
 rw [sg_natAbs]
 exact sz_pow (scaleK_le k)
theorem scale_ne (k:Int):((2^scaleK k:Nat):Rat)≠0:=by
 intro h
 have h2:(0:Rat)<((2^scaleK k:Nat):Rat):=by rw [Rat.natCast_pos];exact Nat.pow_pos (by decide)
 rw [h] at h2
 exact Rat.lt_irrefl h2
theorem rsz_down {j:Nat} {x:Rat} (h:RSz j x) (k:Nat) (hk:k≤4096):RSz (j+131) (downR x k):=by
 have hp:RSz 129 ((2^k:Nat):Rat):=by
  rw [←natCast_ratOf]
  refine RSz.of_mkRat ?_ (Nat.le_trans (length_toL_le 1 1 (by decide)) (by omega)) (by decide)
  rw [sg_natAbs]
  exact sz_pow hk
 have hf:=rsz_floor (h.mul hp)
 rw [downR_floor]
 generalize hz:(x*((2^k:Nat):Rat)).floor=z at*
 rw [←Rat.mkRat_eq_div]
 have h1:Sz (j+129+1) z.natAbs:=by simpa using hf.1
 exact RSz.of_mkRat (h1.mono (by omega)) ((sz_pow hk).mono (by omega)) (Nat.ne_of_gt (Nat.pow_pos (by decide)))
set_option maxRecDepth 20000 in
set_option maxHeartbeats 4000000 in
theorem rqdown_any {w:World} {u:Value} {x:Rat} (hu:RatV w u x) (k:Int) {j:Nat} (hs:RSz j x) (hj:j≤200000000):
  Calls Tryz.prog 82 #[u,.int .i64 k] w fun e w'=> ∃r,e= .returned r∧RatV w' r (downR x (scaleK k))∧Kp w w':=by
 rw [downR_floor]
 obtain ⟨a1,l1,c1,a2,l2,c2,rfl,m1,m2⟩:=hu.parts
 have HT:=Lib.hid (One.new w (.bool (decide (x.num<0))) (.slice a1 l1 c1) (.slice a2 l2 c2))
 have HU:=Lib.hid hu
 have CS:=Lib.hid (fun w'=>rqscale_any (w:=w') k)
 have CM:=Lib.hid (fun w' a b (ha:RatV w' a x) (hb:RatV w' b ((2^scaleK k:Nat):Rat))=>rqmul_any ha hb hs (rsz_scale k) (by omega) (by omega))
 have CF:=Lib.hid (fun w' a (ha:RatV w' a (x*((2^scaleK k:Nat):Rat)))=>rqfloor_any ha (hs.mul (rsz_scale k)) (by omega))
 have CO:=Lib.hid (fun w' a b (ha:RatV w' a ((x*((2^scaleK k:Nat):Rat)).floor:Rat)) (hb:RatV w' b ((2^scaleK k:Nat):Rat))=>rqover_any ha hb (rsz_floor (hs.mul (rsz_scale k))) (rsz_scale k) (by omega) (by omega) (scale_ne k))
 obtain ⟨p,hp⟩: ∃b,b=decide (x.num<0):=⟨_,rfl⟩
 try rw [←hp] at HT
 try rw [←hp] at HU
 try rw [←hp] at CS
 try rw [←hp] at CM
 try rw [←hp] at CF
 try rw [←hp] at CO
 try rw [←hp]
 have HPp:=Lib.hid hp
 clear hu m1 m2 hp
 obtain ⟨P,hP⟩: ∃P,P=((2^scaleK k:Nat):Rat):=⟨_,rfl⟩
 rw [←hP] at CS CM CF CO⊢
 clear hP hs hj
 go_enter Tryz.func82,Tryz.ntmps82
 have KN:=HT.out.k
 have U_e:=Lib.hid (HU.out.kp KN)
 clear KN
 obtain ⟨g0,g1,g2,_⟩:=HT.out.ra.cells
 go_wp2_with fail
 have T_2:=Lib.hid (HT.out.kp (Below.refl _ _).drew)
 have U_2:=Lib.hid (U_e.out.kp (Below.refl _ _).drew)
 clear HT U_e
 go_region_held3 (fun w'=>w'.cell? ⟨w.heap.size,0,none⟩=some (.bool p)∧w'.cell? ⟨w.heap.size,1,none⟩=some (.slice a1 l1 c1)∧w'.cell? ⟨w.heap.size,2,none⟩=some (.slice a2 l2 c2))
  (first | (refine ⟨?_,?_,?_⟩<;>assumption) | go_keep)
  (first
   | (go_at_call 120;(with_reducible refine (CS.out _).mono ?_);rintro e w3 ⟨v1,rfl,h1,k3⟩;have T_3:=Lib.hid (T_2.out.kp k3);have U_3:=Lib.hid (U_2.out.kp k3);clear T_2 U_2;have S1_3:=Lib.hid h1;clear h1 k3;obtain ⟨g0,g1,g2,_⟩:=T_3.out.ra.cells)
   | (go_at_call 58;(with_reducible refine (CM.out _ _ _ U_3.out S1_3.out).mono ?_);rintro e w4 ⟨v2,rfl,h2,k4⟩;have T_4:=Lib.hid (T_3.out.kp k4);have U_4:=Lib.hid (U_3.out.kp k4);have S1_4:=Lib.hid (S1_3.out.kp k4);clear T_3 U_3 S1_3;have S2_4:=Lib.hid h2;clear h2 k4;obtain ⟨g0,g1,g2,_⟩:=T_4.out.ra.cells)
   | (go_at_call 119;(with_reducible refine (CF.out _ _ S2_4.out).mono ?_);rintro e w5 ⟨v3,rfl,h3,k5⟩;have T_5:=Lib.hid (T_4.out.kp k5);have U_5:=Lib.hid (U_4.out.kp k5);have S1_5:=Lib.hid (S1_4.out.kp k5);have S2_5:=Lib.hid (S2_4.out.kp k5);clear T_4 U_4 S1_4 S2_4;have S3_5:=Lib.hid h3;clear h3 k5;obtain ⟨g0,g1,g2,_⟩:=T_5.out.ra.cells)
   | (go_at_call 120;(with_reducible refine (CS.out _).mono ?_);rintro e w6 ⟨v4,rfl,h4,k6⟩;have T_6:=Lib.hid (T_5.out.kp k6);have U_6:=Lib.hid (U_5.out.kp k6);have S1_6:=Lib.hid (S1_5.out.kp k6);have S2_6:=Lib.hid (S2_5.out.kp k6);have S3_6:=Lib.hid (S3_5.out.kp k6);clear T_5 U_5 S1_5 S2_5 S3_5;have S4_6:=Lib.hid h4;clear h4 k6;obtain ⟨g0,g1,g2,_⟩:=T_6.out.ra.cells)
   | (go_at_call 50;(with_reducible refine (CO.out _ _ _ S3_6.out S4_6.out).mono ?_);rintro e w7 ⟨vr,rfl,hvr,k7⟩;have T_7:=Lib.hid (T_6.out.kp k7);have U_7:=Lib.hid (U_6.out.kp k7);have S1_7:=Lib.hid (S1_6.out.kp k7);have S2_7:=Lib.hid (S2_6.out.kp k7);have S3_7:=Lib.hid (S3_6.out.kp k7);have S4_7:=Lib.hid (S4_6.out.kp k7);clear T_6 U_6 S1_6 S2_6 S3_6 S4_6;obtain ⟨sgn,q1,r1,s1,q2,r2,s2,rfl⟩:=hvr.lit;obtain ⟨⟨e0,e1,e2,f0,f1,f2⟩,HPP,HV,HKF⟩:=rat_ends T_7.out.rr T_7.out.k (Below.refl _ _) hvr (by omega);clear hvr;clear k7;obtain ⟨g0,g1,g2,_⟩:=T_7.out.ra.cells))
 obtain ⟨k0,k1,k2⟩:=HPP.out
 go_wp2
 exact bodyPost_ret (v:= .agg #[.bool sgn,.slice q1 r1 s1,.slice q2 r2 s2]) (by simp [results,Tryz.results82,go_sem,k0,k1,k2]) rfl ⟨_,rfl,HV.out,HKF.out⟩
set_option maxRecDepth 20000 in
set_option maxHeartbeats 4000000 in
theorem rqup_any {w:World} {u:Value} {x:Rat} (hu:RatV w u x) (k:Int) {j:Nat} (hs:RSz j x) (hj:j≤200000000):
  Calls Tryz.prog 83 #[u,.int .i64 k] w fun e w'=> ∃r,e= .returned r∧RatV w' r (upR x (scaleK k))∧Kp w w':=by
 unfold upR
 obtain ⟨a1,l1,c1,a2,l2,c2,rfl,m1,m2⟩:=hu.parts
 have HT:=Lib.hid (One.new w (.bool (decide (x.num<0))) (.slice a1 l1 c1) (.slice a2 l2 c2))
 have HU:=Lib.hid hu
 have CN:=Lib.hid (fun w' a (ha:RatV w' a x)=>rqneg_any ha)
 have CD:=Lib.hid (fun w' a (ha:RatV w' a (-x))=>rqdown_any ha k hs.neg hj)
 have CN2:=Lib.hid (fun w' a (ha:RatV w' a (downR (-x) (scaleK k)))=>rqneg_any ha)
 obtain ⟨p,hp⟩: ∃b,b=decide (x.num<0):=⟨_,rfl⟩
 try rw [←hp] at HT
 try rw [←hp] at HU
 try rw [←hp] at CN
 try rw [←hp] at CD
 try rw [←hp] at CN2
 try rw [←hp]
 have HPp:=Lib.hid hp
 clear hu m1 m2 hp
 clear hs hj
 go_enter Tryz.func83,Tryz.ntmps83
 have KN:=HT.out.k
 have U_e:=Lib.hid (HU.out.kp KN)
 clear KN
 obtain ⟨g0,g1,g2,_⟩:=HT.out.ra.cells
 go_wp2_with (go_at_call 103;(with_reducible refine (CN.out _ _ U_e.out).mono ?_);rintro e w2 ⟨v1,rfl,h1,k2⟩;refine Hid.out ?_)
 refine Lib.hid ?_
 have T_2:=Lib.hid (HT.out.kp k2)
 have U_2:=Lib.hid (U_e.out.kp k2)
 clear HT U_e
 have S1_2:=Lib.hid h1
 clear h1 k2
 obtain ⟨g0,g1,g2,_⟩:=T_2.out.ra.cells
 go_wp2_with (go_at_call 82;(with_reducible refine (CD.out _ _ S1_2.out).mono ?_);rintro e w3 ⟨v2,rfl,h2,k3⟩;refine Hid.out ?_)
 refine Lib.hid ?_
 have T_3:=Lib.hid (T_2.out.kp k3)
 have U_3:=Lib.hid (U_2.out.kp k3)
 have S1_3:=Lib.hid (S1_2.out.kp k3)
 clear T_2 U_2 S1_2
 have S2_3:=Lib.hid h2
 clear h2 k3
 obtain ⟨g0,g1,g2,_⟩:=T_3.out.ra.cells
 go_wp2_with (go_at_call 103;(with_reducible refine (CN2.out _ _ S2_3.out).mono ?_);rintro e w4 ⟨vr,rfl,hvr,k4⟩;refine Hid.out ?_)
 refine Lib.hid ?_
 have T_4:=Lib.hid (T_3.out.kp k4)
 have U_4:=Lib.hid (U_3.out.kp k4)
 have S1_4:=Lib.hid (S1_3.out.kp k4)
 have S2_4:=Lib.hid (S2_3.out.kp k4)
 clear T_3 U_3 S1_3 S2_3
 clear k4
 obtain ⟨sgn,q1,r1,s1,q2,r2,s2,rfl⟩:=hvr.lit
 obtain ⟨⟨e0,e1,e2,f0,f1,f2⟩,HPP,HV,HKF⟩:=rat_ends T_4.out.rr T_4.out.k (Below.refl _ _) hvr (by omega)
 clear hvr
 obtain ⟨k0,k1,k2⟩:=HPP.out
 go_wp2
 exact bodyPost_ret (v:= .agg #[.bool sgn,.slice q1 r1 s1,.slice q2 r2 s2]) (by simp [results,Tryz.results83,go_sem,k0,k1,k2]) rfl ⟨_,rfl,HV.out,HKF.out⟩
end Go.Proofs.YtemmbphdcgdboaaGreatDoor
namespace Go.Proofs.YtemmbphdcgdboaaGreatDoor
open Go.RowKit
end Go.Proofs.YtemmbphdcgdboaaGreatDoor
namespace Go.Proofs.YtemmbphdcgdboaaGreatDoor
open Go.RowKit
end Go.Proofs.YtemmbphdcgdboaaGreatDoor
namespace Go.Proofs.YtemmbphdcgdboaaGreatDoor
open Go.RowKit
theorem qvalid_any {w:World} {v:Value} {x:Rat} (h:RatV w v x) (hs:RSz 17 x) (hT:Tz w):
  Calls Tryz.prog 73 #[v] w fun e w'=>e= .returned (.bool true)∧Kp w w':=by
 by_cases h0:x.num=0
 ·exact valid_zero h h0
 ·exact valid_some h h0 hs (by decide) hT
end Go.Proofs.YtemmbphdcgdboaaGreatDoor
