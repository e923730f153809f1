/-
  Several texts in one: Qn, Qv, Qe, Qd.
-/
import Derived.Test.YtnkobfcnflphkaaGreatDoorBj
import Derived.Test.YtnkobfcnflphkaaGreatDoorBa
namespace Go.Proofs.YtnkobfcnflphkaaGreatDoor
open Go.RowKit
theorem cmp_mq {w:World} {a b:Value} {m n:Nat} (ha:M w a m) (hb:M w b n):
  Calls Tryz.prog 168 #[a,b] w fun e w'=>e= .returned (.int .i64 (cmpv m n))∧Kp w w':=by
 have:=cmp_any a b _ _ w ha hb
 rw [val_toL,val_toL] at this
 exact this
set_option maxRecDepth 20000 in
set_option maxHeartbeats 1000000 in
theorem sumNums_any {w:World} {s t:Bool} {a b:Value} {m n:Nat} (ha:M w a m) (hb:M w b n) {j k:Nat} (h1:Sz j m) (h2:Sz k n) (hj:j≤1099511627776) (hk:k≤1099511627776):
  Calls Tryz.prog 176 #[.bool s,a,.bool t,b] w fun e w'=> ∃(neg:Bool) (v:Value) (z:Nat),e= .returned (.tuple #[.bool neg,v])∧M w' v z∧sg neg z=sg s m+sg t n∧Kp w w':=by
 have HA:=Lib.hid (add_m ha hb h1 h2 hj hk)
 have HC:=Lib.hid (cmp_mq ha hb)
 have HS:m<n→Hid (∀w',Kp w w'→Calls Tryz.prog 201 #[b,a] w' fun e w2=> ∃v',e= .returned (.tuple #[v',.int .i64 0])∧M w2 v' (n-m)∧Kp w' w2):=fun h=>Lib.hid (fun w' kk=>sub_any b a n m w' (hb.kp kk) (ha.kp kk) (Nat.le_trans h2 hk) (by omega))
 have HT:n≤m→Hid (∀w',Kp w w'→Calls Tryz.prog 201 #[a,b] w' fun e w2=> ∃v',e= .returned (.tuple #[v',.int .i64 0])∧M w2 v' (m-n)∧Kp w' w2):=fun h=>Lib.hid (fun w' kk=>sub_any a b m n w' (ha.kp kk) (hb.kp kk) (Nat.le_trans h1 hj) h)
 clear ha hb h1 h2
 by_cases hst:s=t
 ·subst hst
  clear HC HS HT
  have hE:=Lib.hid (sg_add s m n)
  cases s
  all_goals
   go_enter Tryz.func176,Tryz.ntmps176
   go_wp2_with (go_at_call 200;(with_reducible refine HA.out.mono ?_);rintro e w1 ⟨v,rfl,MV,KV⟩;refine Hid.out ?_)
   refine Lib.hid ?_
   go_wp2
   go_ret2
   exact ⟨_,_,_,rfl,MV,hE.out.symm,KV⟩
 ·have hnt:t=!s:=by cases s<;>cases t<;>simp_all
  subst hnt
  clear HA hst
  by_cases hlt:m<n
  ·have HS1:=HS hlt
   rw [cmpv_lt hlt] at HC
   clear HS HT
   have hE:Hid (sg (!s) (n-m)=sg s m+sg (!s) n):=Lib.hid (by
    have:=sg_sub (!s) (Nat.le_of_lt hlt)
    rw [Bool.not_not] at this
    rw [←this,Int.add_comm])
   clear hlt
   cases s
   all_goals
    go_enter Tryz.func176,Tryz.ntmps176
    go_wp2_with (first
     | (go_at_call 168;(with_reducible refine HC.out.mono ?_);rintro e w1 ⟨rfl,K1⟩;refine Hid.out ?_)
     | (go_at_call 201;(with_reducible refine (HS1.out _ K1).mono ?_);rintro e w1 ⟨v,rfl,MV,KV⟩;refine Hid.out ?_))
    refine Lib.hid ?_
    go_wp2_with (first
     | (go_at_call 201;(with_reducible refine (HS1.out _ K1).mono ?_);rintro e w2 ⟨v,rfl,MV,KV⟩;refine Hid.out ?_))
    refine Lib.hid ?_
    go_wp2
    go_ret2
    exact ⟨_,_,_,rfl,MV,hE.out,K1.tr KV⟩
  ·have HT1:=HT (by omega)
   have hE:Hid (sg s (m-n)=sg s m+sg (!s) n):=Lib.hid (sg_sub s (by omega)).symm
   have hc0:cmpv m n=0∨cmpv m n=1:=by unfold cmpv;split<;>omega
   obtain ⟨c,hc⟩: ∃c,c=cmpv m n:=⟨_,rfl⟩
   rw [←hc] at HC hc0
   have hcn:decide (c<0)=false:=decide_eq_false (by omega)
   clear HS HT hlt hc hc0
   cases s
   all_goals
    go_enter Tryz.func176,Tryz.ntmps176
    go_wp2_with (go_at_call 168;(with_reducible refine HC.out.mono ?_);rintro e w1 ⟨rfl,K1⟩;refine Hid.out ?_)
    refine Lib.hid ?_
    go_wp2_with (go_at_call 201;(with_reducible refine (HT1.out _ K1).mono ?_);rintro e w2 ⟨v,rfl,MV,KV⟩;refine Hid.out ?_)
    refine Lib.hid ?_
    go_wp2
    go_ret2
    exact ⟨_,_,_,rfl,MV,hE.out,K1.tr KV⟩
set_option maxRecDepth 20000 in
set_option maxHeartbeats 1000000 in
theorem sign_any {w:World} {v:Value} {x:Rat} (h:RatV w v x):
  Calls Tryz.prog 85 #[v] w fun e w'=>e= .returned (.int .i64 (sgnR x))∧Kp w w':=by
 obtain ⟨num,den,rfl,hn,hk⟩:=h
 obtain ⟨ao,ac,rfl,a1,a2,_,_⟩:=hn
 obtain ⟨bo,lb,bc,rfl⟩:=m_slice hk
 clear hk
 unfold sgnR
 by_cases e0:x.num=0
 ·rw [e0]
  rw [show (0:Int).natAbs=0 from rfl,toL_zero,if_pos rfl]
  rw [e0,show (0:Int).natAbs=0 from rfl,toL_zero] at a1
  rw [show decide ((0:Int)<0)=false from rfl]
  clear e0
  go_enter Tryz.func85,Tryz.ntmps85
  go_wp2
  go_ret
  exact ⟨rfl,by repeat first | exact Below.refl _ _ | apply Kp.drew | exact Kp.alloc _ _⟩
 ·have hl:=len_pos (n:=x.num.natAbs) (by omega)
  rw [if_neg e0]
  obtain ⟨la,hla⟩: ∃l,l=(toL x.num.natAbs).length:=⟨_,rfl⟩
  rw [←hla] at a1 hl⊢
  have hz:(((la:Nat):Int)==0)=false:=by simp;omega
  obtain ⟨s,hs⟩: ∃s,s=decide (x.num<0):=⟨_,rfl⟩
  have he:(if x.num<0 then (-1:Int) else 1)=if s then-1 else 1:=by rw [hs];simp
  rw [he,←hs]
  clear hla e0 hs he
  cases s
  all_goals
   go_enter Tryz.func85,Tryz.ntmps85
   go_wp2
   go_ret
   exact ⟨rfl,by repeat first | exact Below.refl _ _ | apply Kp.drew | exact Kp.alloc _ _⟩
theorem m_one_q (w:World) (b o:Nat) (c:Nat) (h:w.cell? ⟨b,o,none⟩=some (.int .u32 1)) (hc:1≤c) (hm:c≤maxLen):M w (.slice (some ⟨b,o,none⟩) 1 c) 1:=by
 refine ⟨some ⟨b,o,none⟩,c,by rw [toL_one];rfl,by rw [toL_one];exact hc,hm,?_,?_⟩
 ·rw [toL_one]
  intro x hx
  have hx:x=1:=by simpa using hx
  omega
 ·rw [toL_one]
  intro _
  refine ⟨b,o,rfl,fun i hi=>?_⟩
  have hi:i=0:=by simp at hi;omega
  subst hi
  simpa using h
set_option maxRecDepth 20000 in
set_option maxHeartbeats 1000000 in
theorem denominator_any {w:World} {s:Bool} {num den:Value} {n k:Nat} (hn:M w num n) (hk:M w den k):
  Calls Tryz.prog 142 #[.agg #[.bool s,num,den]] w fun e w'=> ∃v,e= .returned v∧M w' v (if k=0 then 1 else k)∧Kp w w':=by
 have MK:=Lib.hid (fun w' (kk:Kp w w')=>hk.kp kk)
 obtain ⟨no,nl,nc,rfl⟩:=m_slice hn
 obtain ⟨bo,bc,rfl,b1,b2,_,_⟩:=hk
 clear hn
 by_cases h0:k=0
 ·subst h0
  rw [toL_zero] at b1⊢
  clear MK
  go_enter Tryz.func142,Tryz.ntmps142
  go_wp2
  go_ret
  refine ⟨.slice (some ⟨w.heap.size+1,0,none⟩) 1 1,rfl,m_one_q _ _ _ _ ?_ (Nat.le_refl _) (by decide),(Kp.alloc w _).tr (Kp.alloc _ _)⟩
  have hcell:=cell_of_row _ _ 0 _ _ _ (heap_alloc_new (w.alloc (Obj.cells #[Value.bool s,Value.slice no nl nc,Value.slice bo 0 bc] 30)) (Obj.cells #[Value.int IntKind.u32 1] 128))
  rw [World.size_alloc] at hcell
  exact hcell
 ·rw [if_neg h0]
  have hl:=len_pos h0
  obtain ⟨lb,hlb⟩: ∃l,l=(toL k).length:=⟨_,rfl⟩
  rw [←hlb] at b1 hl MK⊢
  have hz:(((lb:Nat):Int)==0)=false:=by simp;omega
  clear hlb h0
  go_enter Tryz.func142,Tryz.ntmps142
  go_wp2
  go_ret
  exact ⟨_,rfl,MK.out _ (by repeat first | exact Below.refl _ _ | apply Kp.dr | exact Kp.alloc _ _),by repeat first | exact Below.refl _ _ | apply Kp.dr | exact Kp.alloc _ _⟩
end Go.Proofs.YtnkobfcnflphkaaGreatDoor
namespace Go.Proofs.YtnkobfcnflphkaaGreatDoor
open Go.RowKit
theorem Kp.up {w0 w:World} (h:Kp w0 w) (o:Obj):Kp w0 (w.alloc o):=h.tr (Kp.alloc w o)
theorem Kp.on {w0 w:World} (h:Kp w0 w):Kp w0 w.drew:=h.drew
theorem den_back (x:Rat):(if denOf x=0 then 1 else denOf x)=x.den:=by
 unfold denOf
 have:=x.den_nz
 by_cases h:x.den=1
 ·rw [if_pos h,if_pos rfl,h]
 ·rw [if_neg h,if_neg this]
theorem den_m {w:World} {s:Bool} {num den:Value} {n:Nat} {x:Rat} (hn:M w num n) (hk:M w den (denOf x)):
  Calls Tryz.prog 142 #[.agg #[.bool s,num,den]] w fun e w'=> ∃v,e= .returned v∧M w' v x.den∧Kp w w':=by
 have:=denominator_any (s:=s) hn hk
 rw [den_back] at this
 exact this
set_option maxRecDepth 20000 in
set_option maxHeartbeats 1000000 in
theorem withSign_any {w:World} {neg:Bool} {v:Value} {x:Rat} (h:RatV w v x) {k:Nat} (hs:RSz k x) (hk:k≤549755813888):
  Calls Tryz.prog 171 #[.bool neg,v] w fun e w'=> ∃v,e= .returned v∧RatV w' v (ratOf neg x.num.natAbs x.den)∧Kp w w':=by
 obtain ⟨num,den,rfl,hn,hd⟩:=h
 have HD:=Lib.hid (fun w' (kk:Kp w w')=>den_m (s:=decide (x.num<0)) (hn.kp kk) (hd.kp kk))
 have HO:=Lib.hid (fun w' vd (kk:Kp w w') (m:M w' vd x.den)=>owned_any (neg:=neg) (hn.kp kk) m x.den_nz x.reduced (Nat.le_trans hs.1 hk) (Nat.le_trans hs.2 hk))
 obtain ⟨ao,la,ac,rfl⟩:=m_slice hn
 obtain ⟨bo,lb,bc,rfl⟩:=m_slice hd
 obtain ⟨s,hs2⟩: ∃s,s=decide (x.num<0):=⟨_,rfl⟩
 rw [←hs2] at HD⊢
 have HRES:=Lib.hid (Res.new (w.alloc (Obj.cells #[.bool s,.slice ao la ac,.slice bo lb bc] 30)) (Value.bool false) (Value.slice none 0 0) (Value.slice none 0 0))
 rw [World.size_alloc] at HRES
 have HPAR:=Lib.hid ((Res.new w (.bool s) (.slice ao la ac) (.slice bo lb bc)).kp ((Kp.alloc _ (Obj.cells #[Value.bool false,Value.slice none 0 0,Value.slice none 0 0] 30)).drew))
 have HKW:Hid (∀o1 o2,Kp w ((w.alloc o1).alloc o2)):=Lib.hid (fun o1 o2=>(Kp.alloc w o1).tr (Kp.alloc _ o2))
 clear hn hd hs hs2
 go_enter Tryz.func171,Tryz.ntmps171
 go_upto_region 1 with fail
 go_region_with (first
  | (go_at_call 142;(refine (HD.out _ (by repeat first | exact Below.refl _ _ | apply Kp.on | apply Kp.up)).mono ?_);rintro e w1 ⟨vd,rfl,hvd,K1⟩;have HVD:=Lib.hid hvd;have HK1:=Lib.hid K1;obtain ⟨p0,p1,p2,_⟩:=(HPAR.out.kp K1).cells)
  | (go_at_call 173;(refine (HO.out _ _ (by first | exact (HKW.out _ _).tr HK1.out | exact ((HKW.out _ _).on).tr HK1.out) HVD.out).mono ?_);rintro e w4 ⟨vr,rfl,hvr,K4⟩;obtain ⟨sgn,o1,l1,c1,o2,l2,c2,rfl⟩:=hvr.lit;obtain ⟨⟨d0,d1,d2,f0,f1,f2⟩,HP,HV,HKF⟩:=rat_ends (HRES.out.kp (Kp.on (Below.refl _ _))) ((HKW.out _ _).on) (HK1.out.tr K4) hvr (by omega);clear hvr K4))
 all_goals obtain ⟨k0,k1,k2⟩:=HP.out
 all_goals go_wp2
 all_goals exact bodyPost_ret (v:= .agg #[.bool sgn,.slice o1 l1 c1,.slice o2 l2 c2]) (by simp [results,Tryz.results171,go_sem,k0,k1,k2]) rfl ⟨_,rfl,HV.out,HKF.out⟩
end Go.Proofs.YtnkobfcnflphkaaGreatDoor
namespace Go.Proofs.YtnkobfcnflphkaaGreatDoor
open Go.RowKit
theorem denOf_inj {x y:Rat} :denOf x=denOf y↔x.den=y.den:=by
 have h1:=den_back x
 have h2:=den_back y
 constructor
 ·intro h
  rw [←h1,←h2,h]
 ·intro h
  unfold denOf
  rw [h]
theorem same_parts (x y:Rat):decide (x=y)=((decide (x.num<0)==decide (y.num<0))&&(decide (x.num.natAbs=y.num.natAbs)&&decide (denOf x=denOf y))):=by
 rw [show decide (denOf x=denOf y)=decide (x.den=y.den) from decide_eq_decide.2 denOf_inj]
 by_cases h:x=y
 ·subst h
  simp
 ·rw [decide_eq_false h]
  symm
  by_cases h1:x.den=y.den
  ·have h2:x.num≠y.num:=fun e=>h (Rat.ext e h1)
   by_cases h3:x.num.natAbs=y.num.natAbs
   ·have h4:decide (x.num<0)≠decide (y.num<0):=by
     intro e
     have:=decide_eq_decide.1 e
     omega
    rw [beq_eq_false_iff_ne.2 h4]
    rfl
   ·rw [decide_eq_false h3]
    simp
  ·rw [decide_eq_false h1]
   simp
end Go.Proofs.YtnkobfcnflphkaaGreatDoor
namespace Go.Proofs.YtnkobfcnflphkaaGreatDoor
open Go.RowKit
end Go.Proofs.YtnkobfcnflphkaaGreatDoor
