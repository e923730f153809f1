/-
  Several texts in one: Qn, Qv, Qe, Qd.
-/
import Derived.Test.YtfineedhebhpaaaGreatDoorBj
import Derived.Test.YtfineedhebhpaaaGreatDoorBa
namespace Go.Proofs.YtfineedhebhpaaaGreatDoor
open Lib renaming hid→Yt
open Nat renaming le_refl→Yu
set_option maxHeartbeats 16000000
open Go.RowKit
theorem Xx {w:World} {a b:Value} {m n:Nat} (ha:M w a m) (hb:M w b n):
  Calls Tryz.prog 238 #[a,b] w fun e w'=>e= .returned (.int .i64 (BZ m n))∧Kp w w':=by
 have:=Ee a b _ _ w ha hb
 rw [Ar,Ar] at this
 exact this
set_option maxRecDepth 20000 in
theorem MT {w:World} {s t:Bool} {a b:Value} {m n:Nat} (ha:M w a m) (hb:M w b n) {j k:Nat} (h1:Sz j m) (h2:Sz k n) (hj:j≤1099511627776) (hk:k≤1099511627776):
  Calls Tryz.prog 252 #[.bool s,a,.bool t,b] w fun e w'=> ∃(neg:Bool) (v:Value) (z:Nat),e= .returned (.tuple #[.bool neg,v])∧M w' v z∧sg neg z=sg s m+sg t n∧Kp w w':=by
 have HA:=Yt (Yg ha hb h1 h2 hj hk)
 have HC:=Yt (Xx ha hb)
 have HS:m<n→Hid (∀w',Kp w w'→Calls Tryz.prog 277 #[b,a] w' fun e w2=> ∃v',e= .returned (.tuple #[v',.int .i64 0])∧M w2 v' (n-m)∧Kp w' w2):=fun h=>Yt (fun w' kk=>Qd b a n m w' (hb.kp kk) (ha.kp kk) (Nat.le_trans h2 hk) (by omega))
 have HT:n≤m→Hid (∀w',Kp w w'→Calls Tryz.prog 277 #[a,b] w' fun e w2=> ∃v',e= .returned (.tuple #[v',.int .i64 0])∧M w2 v' (m-n)∧Kp w' w2):=fun h=>Yt (fun w' kk=>Qd a b m n w' (ha.kp kk) (hb.kp kk) (Nat.le_trans h1 hj) h)
 clear ha hb h1 h2
 by_cases hst:s=t
 ·subst hst
  clear HC HS HT
  have hE:=Yt (OH s m n)
  cases s
  all_goals
   go_enter Tryz.func252,Tryz.ntmps252
   go_wp2_with (go_at_call 276;(with_reducible refine HA.out.mono ?_);rintro e w1 ⟨v,rfl,MV,KV⟩;refine Hid.out ?_)
   refine Yt ?_
   go_wp2
   go_ret2
   exact ⟨_,_,_,rfl,MV,hE.out.symm,KV⟩
 ·have hnt:t=!s:=by cases s<;>cases t<;>simp_all
  subst hnt
  clear HA hst
  by_cases hlt:m<n
  ·have HS1:=HS hlt
   rw [CY hlt] at HC
   clear HS HT
   have hE:Hid (sg (!s) (n-m)=sg s m+sg (!s) n):=Yt (by
    have:=Jm (!s) (Nat.le_of_lt hlt)
    rw [Bool.not_not] at this
    rw [←this,Int.add_comm])
   clear hlt
   cases s
   all_goals
    go_enter Tryz.func252,Tryz.ntmps252
    go_wp2_with (first
     | (go_at_call 238;(with_reducible refine HC.out.mono ?_);rintro e w1 ⟨rfl,K1⟩;refine Hid.out ?_)
     | (go_at_call 277;(with_reducible refine (HS1.out _ K1).mono ?_);rintro e w1 ⟨v,rfl,MV,KV⟩;refine Hid.out ?_))
    refine Yt ?_
    go_wp2_with (first
     | (go_at_call 277;(with_reducible refine (HS1.out _ K1).mono ?_);rintro e w2 ⟨v,rfl,MV,KV⟩;refine Hid.out ?_))
    refine Yt ?_
    go_wp2
    go_ret2
    exact ⟨_,_,_,rfl,MV,hE.out,K1.tr KV⟩
  ·have HT1:=HT (by omega)
   have hE:Hid (sg s (m-n)=sg s m+sg (!s) n):=Yt (Jm s (by omega)).symm
   have hc0:BZ m n=0∨BZ m n=1:=by unfold BZ;split<;>omega
   obtain ⟨c,hc⟩: ∃c,c=BZ m n:=⟨_,rfl⟩
   rw [←hc] at HC hc0
   have hcn:decide (c<0)=false:=decide_eq_false (by omega)
   clear HS HT hlt hc hc0
   cases s
   all_goals
    go_enter Tryz.func252,Tryz.ntmps252
    go_wp2_with (go_at_call 238;(with_reducible refine HC.out.mono ?_);rintro e w1 ⟨rfl,K1⟩;refine Hid.out ?_)
    refine Yt ?_
    go_wp2_with (go_at_call 277;(with_reducible refine (HT1.out _ K1).mono ?_);rintro e w2 ⟨v,rfl,MV,KV⟩;refine Hid.out ?_)
    refine Yt ?_
    go_wp2
    go_ret2
    exact ⟨_,_,_,rfl,MV,hE.out,K1.tr KV⟩
set_option maxRecDepth 20000 in
theorem Td {w:World} {v:Value} {x:Rat} (h:Ax w v x):
  Calls Tryz.prog 177 #[v] w fun e w'=>e= .returned (.int .i64 (Rr x))∧Kp w w':=by
 obtain ⟨num,den,rfl,hn,hk⟩:=h
 obtain ⟨ao,ac,rfl,a1,a2,_,_⟩:=hn
 obtain ⟨bo,lb,bc,rfl⟩:=BQ hk
 clear hk
 unfold Rr
 by_cases e0:x.num=0
 ·rw [e0]
  rw [show (0:Int).natAbs=0 from rfl,Az,if_pos rfl]
  rw [e0,show (0:Int).natAbs=0 from rfl,Az] at a1
  rw [show decide ((0:Int)<0)=false from rfl]
  clear e0
  go_enter Tryz.func177,Tryz.ntmps177
  go_wp2
  go_ret
  exact ⟨rfl,by repeat first|exact Below.refl _ _|apply Kp.drew|exact Kp.alloc _ _⟩
 ·have hl:=DV (n:=x.num.natAbs) (by omega)
  rw [if_neg e0]
  obtain ⟨la,hla⟩: ∃l,l=(toL x.num.natAbs).length:=⟨_,rfl⟩
  rw [←hla] at a1 hl⊢
  have hz:(((la:Nat):Int)==0)=false:=by simp;omega
  obtain ⟨s,hs⟩: ∃s,s=decide (x.num<0):=⟨_,rfl⟩
  have he:(if x.num<0 then (-1:Int) else 1)=if s then-1 else 1:=by rw [hs];simp
  rw [he,←hs]
  clear hla e0 hs he
  cases s
  all_goals
   go_enter Tryz.func177,Tryz.ntmps177
   go_wp2
   go_ret
   exact ⟨rfl,by repeat first|exact Below.refl _ _|apply Kp.drew|exact Kp.alloc _ _⟩
theorem Qq (w:World) (b o:Nat) (c:Nat) (h:w.cell? ⟨b,o,none⟩=some (.int .u32 1)) (hc:1≤c) (hm:c≤maxLen):M w (.slice (some ⟨b,o,none⟩) 1 c) 1:=by
 refine ⟨some ⟨b,o,none⟩,c,by rw [FB];rfl,by rw [FB];exact hc,hm,?_,?_⟩
 ·rw [FB]
  intro x hx
  have hx:x=1:=by simpa using hx
  omega
 ·rw [FB]
  intro _
  refine ⟨b,o,rfl,fun i hi=>?_⟩
  have hi:i=0:=by simp at hi;omega
  subst hi
  simpa using h
set_option maxRecDepth 20000 in
theorem IP {w:World} {s:Bool} {num den:Value} {n k:Nat} (hn:M w num n) (hk:M w den k):
  Calls Tryz.prog 180 #[.agg #[.bool s,num,den]] w fun e w'=> ∃v,e= .returned v∧M w' v (if k=0 then 1 else k)∧Kp w w':=by
 have MK:=Yt (fun w' (kk:Kp w w')=>hk.kp kk)
 obtain ⟨no,nl,nc,rfl⟩:=BQ hn
 obtain ⟨bo,bc,rfl,b1,b2,_,_⟩:=hk
 clear hn
 by_cases h0:k=0
 ·subst h0
  rw [Az] at b1⊢
  clear MK
  go_enter Tryz.func180,Tryz.ntmps180
  go_wp2
  go_ret
  refine ⟨.slice (some ⟨w.heap.size+1,0,none⟩) 1 1,rfl,Qq _ _ _ _ ?_ (Yu _) (by decide),(Kp.alloc w _).tr (Kp.alloc _ _)⟩
  have hcell:=cell_of_row _ _ 0 _ _ _ (heap_alloc_new (w.alloc (Obj.cells #[Value.bool s,Value.slice no nl nc,Value.slice bo 0 bc] 34)) (Obj.cells #[Value.int IntKind.u32 1] 31))
  rw [World.size_alloc] at hcell
  exact hcell
 ·rw [if_neg h0]
  have hl:=DV h0
  obtain ⟨lb,hlb⟩: ∃l,l=(toL k).length:=⟨_,rfl⟩
  rw [←hlb] at b1 hl MK⊢
  have hz:(((lb:Nat):Int)==0)=false:=by simp;omega
  clear hlb h0
  go_enter Tryz.func180,Tryz.ntmps180
  go_wp2
  go_ret
  exact ⟨_,rfl,MK.out _ (by repeat first|exact Below.refl _ _|apply Kp.dr|exact Kp.alloc _ _),by repeat first|exact Below.refl _ _|apply Kp.dr|exact Kp.alloc _ _⟩
theorem Kp.up {w0 w:World} (h:Kp w0 w) (o:Obj):Kp w0 (w.alloc o):=h.tr (Kp.alloc w o)
theorem Kp.on {w0 w:World} (h:Kp w0 w):Kp w0 w.drew:=h.drew
theorem Eu (x:Rat):(if AX x=0 then 1 else AX x)=x.den:=by
 unfold AX
 have:=x.den_nz
 by_cases h:x.den=1
 ·rw [if_pos h,if_pos rfl,h]
 ·rw [if_neg h,if_neg this]
theorem JZ {w:World} {s:Bool} {num den:Value} {n:Nat} {x:Rat} (hn:M w num n) (hk:M w den (AX x)):
  Calls Tryz.prog 180 #[.agg #[.bool s,num,den]] w fun e w'=> ∃v,e= .returned v∧M w' v x.den∧Kp w w':=by
 have:=IP (s:=s) hn hk
 rw [Eu] at this
 exact this
set_option maxRecDepth 20000 in
theorem Lm {w:World} {neg:Bool} {v:Value} {x:Rat} (h:Ax w v x) {k:Nat} (hs:RSz k x) (hk:k≤549755813888):
  Calls Tryz.prog 263 #[.bool neg,v] w fun e w'=> ∃v,e= .returned v∧Ax w' v (AE neg x.num.natAbs x.den)∧Kp w w':=by
 obtain ⟨num,den,rfl,hn,hd⟩:=h
 have HD:=Yt (fun w' (kk:Kp w w')=>JZ (s:=decide (x.num<0)) (hn.kp kk) (hd.kp kk))
 have HO:=Yt (fun w' vd (kk:Kp w w') (m:M w' vd x.den)=>Gx (neg:=neg) (hn.kp kk) m x.den_nz x.reduced (Nat.le_trans hs.1 hk) (Nat.le_trans hs.2 hk))
 obtain ⟨ao,la,ac,rfl⟩:=BQ hn
 obtain ⟨bo,lb,bc,rfl⟩:=BQ hd
 obtain ⟨s,hs2⟩: ∃s,s=decide (x.num<0):=⟨_,rfl⟩
 rw [←hs2] at HD⊢
 have HRES:=Yt (Res.new (w.alloc (Obj.cells #[.bool s,.slice ao la ac,.slice bo lb bc] 34)) (Value.bool false) (Value.slice none 0 0) (Value.slice none 0 0))
 rw [World.size_alloc] at HRES
 have HPAR:=Yt ((Res.new w (.bool s) (.slice ao la ac) (.slice bo lb bc)).kp ((Kp.alloc _ (Obj.cells #[Value.bool false,Value.slice none 0 0,Value.slice none 0 0] 34)).drew))
 have HKW:Hid (∀o1 o2,Kp w ((w.alloc o1).alloc o2)):=Yt (fun o1 o2=>(Kp.alloc w o1).tr (Kp.alloc _ o2))
 clear hn hd hs hs2
 go_enter Tryz.func263,Tryz.ntmps263
 go_upto_region 1 with fail
 go_region_with (first
  | (go_at_call 180;(refine (HD.out _ (by repeat first|exact Below.refl _ _|apply Kp.on|apply Kp.up)).mono ?_);rintro e w1 ⟨vd,rfl,hvd,K1⟩;have HVD:=Yt hvd;have HK1:=Yt K1;obtain ⟨p0,p1,p2,_⟩:=(HPAR.out.kp K1).cells)
  | (go_at_call 224;(refine (HO.out _ _ (by first|exact (HKW.out _ _).tr HK1.out|exact ((HKW.out _ _).on).tr HK1.out) HVD.out).mono ?_);rintro e w4 ⟨vr,rfl,hvr,K4⟩;obtain ⟨sgn,o1,l1,c1,o2,l2,c2,rfl⟩:=hvr.lit;obtain ⟨⟨d0,d1,d2,f0,f1,f2⟩,HP,HV,HKF⟩:=Bz (HRES.out.kp (Kp.on (Below.refl _ _))) ((HKW.out _ _).on) (HK1.out.tr K4) hvr (by omega);clear hvr K4))
 all_goals obtain ⟨k0,k1,k2⟩:=HP.out
 all_goals go_wp2
 all_goals exact bodyPost_ret (v:= .agg #[.bool sgn,.slice o1 l1 c1,.slice o2 l2 c2]) (by simp [results,Tryz.results263,go_sem,k0,k1,k2]) rfl ⟨_,rfl,HV.out,HKF.out⟩
theorem So {x y:Rat} :AX x=AX y↔x.den=y.den:=by
 have h1:=Eu x
 have h2:=Eu y
 constructor
 ·intro h
  rw [←h1,←h2,h]
 ·intro h
  unfold AX
  rw [h]
theorem Jn (x y:Rat):decide (x=y)=((decide (x.num<0)==decide (y.num<0))&&(decide (x.num.natAbs=y.num.natAbs)&&decide (AX x=AX y))):=by
 rw [show decide (AX x=AX y)=decide (x.den=y.den) from decide_eq_decide.2 So]
 by_cases h:x=y
 ·subst h
  simp
 ·rw [decide_eq_false h]
  symm
  by_cases h1:x.den=y.den
  ·have h2:x.num≠y.num:=fun e=>h (Rat.ext e h1)
   by_cases h3:x.num.natAbs=y.num.natAbs
   ·have h4:decide (x.num<0)≠decide (y.num<0):=by
     intro e
     have:=decide_eq_decide.1 e
     omega
    rw [beq_eq_false_iff_ne.2 h4]
    rfl
   ·rw [decide_eq_false h3]
    simp
  ·rw [decide_eq_false h1]
   simp
set_option maxRecDepth 20000 in
theorem RE {w:World} {u v:Value} {x y:Rat} (hu:Ax w u x) (hv:Ax w v y):
  Calls Tryz.prog 135 #[u,v] w fun e w'=>e= .returned (.bool (decide (x=y)))∧Kp w w':=by
 rw [Jn]
 obtain ⟨n1,d1,rfl,hn1,hd1⟩:=hu
 obtain ⟨n2,d2,rfl,hn2,hd2⟩:=hv
 have HN:=Yt (fun w' (kk:Kp w w')=>It n1 n2 (toL x.num.natAbs) (toL y.num.natAbs) w' (hn1.kp kk) (hn2.kp kk))
 have HD:=Yt (fun w' (kk:Kp w w')=>It d1 d2 (toL (AX x)) (toL (AX y)) w' (hd1.kp kk) (hd2.kp kk))
 simp only [P5] at HN HD
 obtain ⟨a1,l1,c1,rfl⟩:=BQ hn1
 obtain ⟨a2,l2,c2,rfl⟩:=BQ hd1
 obtain ⟨a3,l3,c3,rfl⟩:=BQ hn2
 obtain ⟨a4,l4,c4,rfl⟩:=BQ hd2
 clear hn1 hn2 hd1 hd2
 generalize decide (x.num<0)=s
 generalize decide (y.num<0)=t
 generalize decide (x.num.natAbs=y.num.natAbs)=p at HN⊢
 generalize decide (AX x=AX y)=q at HD⊢
 have HK:=Yt (fun o1 o2=>(Kp.alloc w o1).tr (Kp.alloc (w.alloc o1) o2))
 have HP1:=Yt ((Res.new w (.bool s) (.slice a1 l1 c1) (.slice a2 l2 c2)).kp (Kp.alloc _ (Obj.cells #[.bool t,.slice a3 l3 c3,.slice a4 l4 c4] 34)))
 have HP2:=Yt (Res.new (w.alloc (Obj.cells #[.bool s,.slice a1 l1 c1,.slice a2 l2 c2] 34)) (.bool t) (.slice a3 l3 c3) (.slice a4 l4 c4))
 rw [World.size_alloc] at HP2
 have hst:s=t∨t=!s:=by cases s<;>cases t<;>simp
 rcases hst with rfl|rfl
 ·cases p
  ·cases s
   all_goals
    go_enter Tryz.func135,Tryz.ntmps135
    go_wp2_with (go_at_call 201;(with_reducible refine (HN.out _ (HK.out _ _)).mono ?_);rintro e w1 ⟨rfl,K1⟩;refine Hid.out ?_)
    refine Yt ?_
    go_wp2
    go_ret
    exact ⟨rfl,(HK.out _ _).tr K1⟩
  ·cases s
   all_goals
    go_enter Tryz.func135,Tryz.ntmps135
    go_wp2_with (go_at_call 201;(with_reducible refine (HN.out _ (HK.out _ _)).mono ?_);rintro e w1 ⟨rfl,K1⟩;refine Hid.out ?_)
    refine Yt ?_
    obtain ⟨_,_,g1,_⟩:=(HP1.out.kp K1).cells
    obtain ⟨_,_,g2,_⟩:=(HP2.out.kp K1).cells
    go_wp2_with (go_at_call 201;(with_reducible refine (HD.out _ ((HK.out _ _).tr K1)).mono ?_);rintro e w2 ⟨rfl,K2⟩;refine Hid.out ?_)
    refine Yt ?_
    go_wp2
    go_ret
    exact ⟨by simp,((HK.out _ _).tr K1).tr K2⟩
 ·cases s
  all_goals
   go_enter Tryz.func135,Tryz.ntmps135
   go_wp2
   go_ret
   exact ⟨by simp,HK.out _ _⟩
theorem Fn {w:World} {v:Value} {n:Nat} (h:M w v n):
  Calls Tryz.prog 212 #[v] w fun e w'=>e= .returned (.bool true)∧w=w':=by
 have:=Ps v _ w h
 rw [Je] at this
 exact this
theorem N7 (x:Rat):AX x≠1:=by
 unfold AX
 by_cases h:x.den=1
 ·rw [if_pos h];decide
 ·rw [if_neg h];exact h
theorem J0 {x:Rat} (h:x.num=0):AX x=0:=by
 have:=x.reduced
 rw [h,show (0:Int).natAbs=0 from rfl,Nat.coprime_zero_left] at this
 unfold AX
 rw [if_pos this]
set_option maxRecDepth 20000 in
theorem Ou {w:World} {v:Value} {x:Rat} (h:Ax w v x) (h0:x.num=0):
  Calls Tryz.prog 162 #[v] w fun e w'=>e= .returned (.bool true)∧Kp w w':=by
 obtain ⟨num,den,rfl,hn,hd⟩:=h
 rw [J0 h0] at hd
 rw [h0,show (0:Int).natAbs=0 from rfl] at hn
 rw [h0,show decide ((0:Int)<0)=false from rfl]
 have HN:=Yt (fun w' (kk:Kp w w')=>Fn (hn.kp kk))
 have HD:=Yt (fun w' (kk:Kp w w')=>Fn (hd.kp kk))
 have HI:=Yt (fun w' (kk:Kp w w')=>Cz (hd.kp kk))
 rw [show decide (0=1)=false from rfl] at HI
 obtain ⟨ao,ac,rfl,a1,a2,_,_⟩:=hn
 obtain ⟨bo,bc,rfl,b1,b2,_,_⟩:=hd
 simp only [Az,List.length_nil] at HN HD HI a1 b1⊢
 have HK:=Yt (fun o1=>Kp.alloc w o1)
 clear h0
 go_enter Tryz.func162,Tryz.ntmps162
 go_wp2_with (first
  | (go_at_call 212;first|((with_reducible refine (HN.out _ (HK.out _)).mono ?_);rintro e w1 ⟨rfl,rfl⟩)|((with_reducible refine (HD.out _ (HK.out _)).mono ?_);rintro e w1 ⟨rfl,rfl⟩))
  | (go_at_call 213;(with_reducible refine (HI.out _ (HK.out _)).mono ?_);rintro e w1 ⟨rfl,rfl⟩))
 go_wp2
 go_ret
 exact ⟨rfl,HK.out _⟩
set_option maxRecDepth 20000 in
theorem Ov {w:World} {v:Value} {x:Rat} (h:Ax w v x) (h0:x.num≠0) {k:Nat} (hs:RSz k x) (hk:k≤17179869184) (hT:Tz w):
  Calls Tryz.prog 162 #[v] w fun e w'=>e= .returned (.bool true)∧Kp w w':=by
 obtain ⟨num,den,rfl,hn,hd⟩:=h
 have HN:=Yt (fun w' (kk:Kp w w')=>Fn (hn.kp kk))
 have HD:=Yt (fun w' (kk:Kp w w')=>Fn (hd.kp kk))
 have HI:=Yt (fun w' (kk:Kp w w')=>Cz (hd.kp kk))
 rw [decide_eq_false (N7 x)] at HI
 have HM:=Yt (fun w' (kk:Kp w w')=>JZ (s:=decide (x.num<0)) (hn.kp kk) (hd.kp kk))
 have HC:=Yt (fun w' vd (kk:Kp w w') (m:M w' vd x.den)=>EA (hn.kp kk) m (Nat.le_trans hs.1 hk) (Nat.le_trans hs.2 hk) (hT.kp kk))
 rw [show Nat.gcd x.num.natAbs x.den=1 from x.reduced] at HC
 have HO:=Yt (fun w' vg (m:M w' vg 1)=>Cz m)
 rw [show decide (1=1)=true from rfl] at HO
 have hl:=DV (n:=x.num.natAbs) (by omega)
 obtain ⟨ao,ac,rfl,a1,a2,_,_⟩:=hn
 obtain ⟨bo,lb,bc,rfl⟩:=BQ hd
 obtain ⟨la,hla⟩: ∃l,l=(toL x.num.natAbs).length:=⟨_,rfl⟩
 rw [←hla] at a1 hl HN HC HM⊢
 obtain ⟨s,hs2⟩: ∃s,s=decide (x.num<0):=⟨_,rfl⟩
 rw [←hs2] at HM⊢
 have hz:(((la:Nat):Int)==0)=false:=by simp;omega
 have HK:=Yt (fun o1=>Kp.alloc w o1)
 have HPAR:=Yt (Res.new w (.bool s) (.slice ao la ac) (.slice bo lb bc))
 clear h0 hd hs hla hs2 hT
 go_enter Tryz.func162,Tryz.ntmps162
 go_wp2_with (first
  | (go_at_call 212;first|((with_reducible refine (HN.out _ (HK.out _)).mono ?_);rintro e w1 ⟨rfl,rfl⟩)|((with_reducible refine (HD.out _ (HK.out _)).mono ?_);rintro e w1 ⟨rfl,rfl⟩))
  | (go_at_call 213;(with_reducible refine (HI.out _ (HK.out _)).mono ?_);rintro e w1 ⟨rfl,rfl⟩))
 go_region_with (first
  | (go_at_call 180;(refine (HM.out _ (by repeat first|exact Below.refl _ _|apply Kp.on|apply Kp.up)).mono ?_);rintro e w1 ⟨vd,rfl,hvd,K1⟩;have HVD:=Yt hvd;have HK1:=Yt K1;obtain ⟨p0,p1,p2,_⟩:=((HPAR.out.kp (Kp.on (Below.refl _ _))).kp K1).cells)
  | (go_at_call 214;(refine (HC.out _ _ ((HK.out _).on.tr HK1.out) HVD.out).mono ?_);rintro e w2 ⟨vg,rfl,hvg,K2⟩;have HVG:=Yt hvg;have HK2:=Yt K2)
  | (go_at_call 213;(refine (HO.out _ _ HVG.out).mono ?_);rintro e w3 ⟨rfl,rfl⟩))
 all_goals go_wp2
 all_goals go_ret
 all_goals exact ⟨rfl,((HK.out _).on.tr HK1.out).tr HK2.out⟩
end Go.Proofs.YtfineedhebhpaaaGreatDoor
