/-
  Several texts in one: Qn, Qv, Qe, Qd.
-/
import Derived.Test.YtfineedhebhpaaaGreatDoorBj
import Derived.Test.YtfineedhebhpaaaGreatDoorBa
namespace Go.Proofs.YtfineedhebhpaaaGreatDoor
open Lib renaming hid→Xu
open Nat renaming le_refl→Xv
set_option maxHeartbeats 16000000
open Go.RowKit
theorem Pf {w:World} {a b:Value} {m n:Nat} (ha:M w a m) (hb:M w b n):
  Calls Tryz.prog 238 #[a,b] w fun e w'=>e= .returned (.int .i64 (AT m n))∧Kp w w':=by
 have:=Ec a b _ _ w ha hb
 rw [Ar,Ar] at this
 exact this
set_option maxRecDepth 20000 in
theorem Me {w:World} {s t:Bool} {a b:Value} {m n:Nat} (ha:M w a m) (hb:M w b n) {j k:Nat} (h1:Sz j m) (h2:Sz k n) (hj:j≤1099511627776) (hk:k≤1099511627776):
  Calls Tryz.prog 252 #[.bool s,a,.bool t,b] w fun e w'=> ∃(neg:Bool) (v:Value) (z:Nat),e= .returned (.tuple #[.bool neg,v])∧M w' v z∧sg neg z=sg s m+sg t n∧Kp w w':=by
 have HA:=Xu (Xj ha hb h1 h2 hj hk)
 have HC:=Xu (Pf ha hb)
 have HS:m<n→Hid (∀w',Kp w w'→Calls Tryz.prog 277 #[b,a] w' fun e w2=> ∃v',e= .returned (.tuple #[v',.int .i64 0])∧M w2 v' (n-m)∧Kp w' w2):=fun h=>Xu (fun w' kk=>Py b a n m w' (hb.kp kk) (ha.kp kk) (Nat.le_trans h2 hk) (by omega))
 have HT:n≤m→Hid (∀w',Kp w w'→Calls Tryz.prog 277 #[a,b] w' fun e w2=> ∃v',e= .returned (.tuple #[v',.int .i64 0])∧M w2 v' (m-n)∧Kp w' w2):=fun h=>Xu (fun w' kk=>Py a b m n w' (ha.kp kk) (hb.kp kk) (Nat.le_trans h1 hj) h)
 clear ha hb h1 h2
 by_cases hst:s=t
 ·subst hst
  clear HC HS HT
  have hE:=Xu (N6 s m n)
  cases s
  all_goals
   go_enter Tryz.func252,Tryz.ntmps252
   go_wp2_with (go_at_call 276;(with_reducible refine HA.out.mono ?_);rintro e w1 ⟨v,rfl,MV,KV⟩;refine Hid.out ?_)
   refine Xu ?_
   go_wp2
   go_ret2
   exact ⟨_,_,_,rfl,MV,hE.out.symm,KV⟩
 ·have hnt:t=!s:=by cases s<;>cases t<;>simp_all
  subst hnt
  clear HA hst
  by_cases hlt:m<n
  ·have HS1:=HS hlt
   rw [BZ hlt] at HC
   clear HS HT
   have hE:Hid (sg (!s) (n-m)=sg s m+sg (!s) n):=Xu (by
    have:=IM (!s) (Nat.le_of_lt hlt)
    rw [Bool.not_not] at this
    rw [←this,Int.add_comm])
   clear hlt
   cases s
   all_goals
    go_enter Tryz.func252,Tryz.ntmps252
    go_wp2_with (first
     | (go_at_call 238;(with_reducible refine HC.out.mono ?_);rintro e w1 ⟨rfl,K1⟩;refine Hid.out ?_)
     | (go_at_call 277;(with_reducible refine (HS1.out _ K1).mono ?_);rintro e w1 ⟨v,rfl,MV,KV⟩;refine Hid.out ?_))
    refine Xu ?_
    go_wp2_with (first
     | (go_at_call 277;(with_reducible refine (HS1.out _ K1).mono ?_);rintro e w2 ⟨v,rfl,MV,KV⟩;refine Hid.out ?_))
    refine Xu ?_
    go_wp2
    go_ret2
    exact ⟨_,_,_,rfl,MV,hE.out,K1.tr KV⟩
  ·have HT1:=HT (by omega)
   have hE:Hid (sg s (m-n)=sg s m+sg (!s) n):=Xu (IM s (by omega)).symm
   have hc0:AT m n=0∨AT m n=1:=by unfold AT;split<;>omega
   obtain ⟨c,hc⟩: ∃c,c=AT m n:=⟨_,rfl⟩
   rw [←hc] at HC hc0
   have hcn:decide (c<0)=false:=decide_eq_false (by omega)
   clear HS HT hlt hc hc0
   cases s
   all_goals
    go_enter Tryz.func252,Tryz.ntmps252
    go_wp2_with (go_at_call 238;(with_reducible refine HC.out.mono ?_);rintro e w1 ⟨rfl,K1⟩;refine Hid.out ?_)
    refine Xu ?_
    go_wp2_with (go_at_call 277;(with_reducible refine (HT1.out _ K1).mono ?_);rintro e w2 ⟨v,rfl,MV,KV⟩;refine Hid.out ?_)
    refine Xu ?_
    go_wp2
    go_ret2
    exact ⟨_,_,_,rfl,MV,hE.out,K1.tr KV⟩
set_option maxRecDepth 20000 in
theorem FE {w:World} {v:Value} {x:Rat} (h:Ax w v x):
  Calls Tryz.prog 177 #[v] w fun e w'=>e= .returned (.int .i64 (Co x))∧Kp w w':=by
 obtain ⟨num,den,rfl,hn,hk⟩:=h
 obtain ⟨ao,ac,rfl,a1,a2,_,_⟩:=hn
 obtain ⟨bo,lb,bc,rfl⟩:=Ck hk
 clear hk
 unfold Co
 by_cases e0:x.num=0
 ·rw [e0]
  rw [show (0:Int).natAbs=0 from rfl,AE,if_pos rfl]
  rw [e0,show (0:Int).natAbs=0 from rfl,AE] at a1
  rw [show decide ((0:Int)<0)=false from rfl]
  clear e0
  go_enter Tryz.func177,Tryz.ntmps177
  go_wp2
  go_ret
  exact ⟨rfl,by repeat first|exact Below.refl _ _|apply Kp.drew|exact Kp.alloc _ _⟩
 ·have hl:=DN (n:=x.num.natAbs) (by omega)
  rw [if_neg e0]
  obtain ⟨la,hla⟩: ∃l,l=(toL x.num.natAbs).length:=⟨_,rfl⟩
  rw [←hla] at a1 hl⊢
  have hz:(((la:Nat):Int)==0)=false:=by simp;omega
  obtain ⟨s,hs⟩: ∃s,s=decide (x.num<0):=⟨_,rfl⟩
  have he:(if x.num<0 then (-1:Int) else 1)=if s then-1 else 1:=by rw [hs];simp
  rw [he,←hs]
  clear hla e0 hs he
  cases s
  all_goals
   go_enter Tryz.func177,Tryz.ntmps177
   go_wp2
   go_ret
   exact ⟨rfl,by repeat first|exact Below.refl _ _|apply Kp.drew|exact Kp.alloc _ _⟩
theorem PP (w:World) (b o:Nat) (c:Nat) (h:w.cell? ⟨b,o,none⟩=some (.int .u32 1)) (hc:1≤c) (hm:c≤maxLen):M w (.slice (some ⟨b,o,none⟩) 1 c) 1:=by
 refine ⟨some ⟨b,o,none⟩,c,by rw [FU];rfl,by rw [FU];exact hc,hm,?_,?_⟩
 ·rw [FU]
  intro x hx
  have hx:x=1:=by simpa using hx
  omega
 ·rw [FU]
  intro _
  refine ⟨b,o,rfl,fun i hi=>?_⟩
  have hi:i=0:=by simp at hi;omega
  subst hi
  simpa using h
set_option maxRecDepth 20000 in
theorem H9 {w:World} {s:Bool} {num den:Value} {n k:Nat} (hn:M w num n) (hk:M w den k):
  Calls Tryz.prog 180 #[.agg #[.bool s,num,den]] w fun e w'=> ∃v,e= .returned v∧M w' v (if k=0 then 1 else k)∧Kp w w':=by
 have MK:=Xu (fun w' (kk:Kp w w')=>hk.kp kk)
 obtain ⟨no,nl,nc,rfl⟩:=Ck hn
 obtain ⟨bo,bc,rfl,b1,b2,_,_⟩:=hk
 clear hn
 by_cases h0:k=0
 ·subst h0
  rw [AE] at b1⊢
  clear MK
  go_enter Tryz.func180,Tryz.ntmps180
  go_wp2
  go_ret
  refine ⟨.slice (some ⟨w.heap.size+1,0,none⟩) 1 1,rfl,PP _ _ _ _ ?_ (Xv _) (by decide),(Kp.alloc w _).tr (Kp.alloc _ _)⟩
  have hcell:=cell_of_row _ _ 0 _ _ _ (heap_alloc_new (w.alloc (Obj.cells #[Value.bool s,Value.slice no nl nc,Value.slice bo 0 bc] 34)) (Obj.cells #[Value.int IntKind.u32 1] 31))
  rw [World.size_alloc] at hcell
  exact hcell
 ·rw [if_neg h0]
  have hl:=DN h0
  obtain ⟨lb,hlb⟩: ∃l,l=(toL k).length:=⟨_,rfl⟩
  rw [←hlb] at b1 hl MK⊢
  have hz:(((lb:Nat):Int)==0)=false:=by simp;omega
  clear hlb h0
  go_enter Tryz.func180,Tryz.ntmps180
  go_wp2
  go_ret
  exact ⟨_,rfl,MK.out _ (by repeat first|exact Below.refl _ _|apply Kp.dr|exact Kp.alloc _ _),by repeat first|exact Below.refl _ _|apply Kp.dr|exact Kp.alloc _ _⟩
theorem Kp.up {w0 w:World} (h:Kp w0 w) (o:Obj):Kp w0 (w.alloc o):=h.tr (Kp.alloc w o)
theorem Kp.on {w0 w:World} (h:Kp w0 w):Kp w0 w.drew:=h.drew
theorem Dy (x:Rat):(if A0 x=0 then 1 else A0 x)=x.den:=by
 unfold A0
 have:=x.den_nz
 by_cases h:x.den=1
 ·rw [if_pos h,if_pos rfl,h]
 ·rw [if_neg h,if_neg this]
theorem Jt {w:World} {s:Bool} {num den:Value} {n:Nat} {x:Rat} (hn:M w num n) (hk:M w den (A0 x)):
  Calls Tryz.prog 180 #[.agg #[.bool s,num,den]] w fun e w'=> ∃v,e= .returned v∧M w' v x.den∧Kp w w':=by
 have:=H9 (s:=s) hn hk
 rw [Dy] at this
 exact this
theorem Kr {x y:Rat} :A0 x=A0 y↔x.den=y.den:=by
 have h1:=Dy x
 have h2:=Dy y
 constructor
 ·intro h
  rw [←h1,←h2,h]
 ·intro h
  unfold A0
  rw [h]
theorem IN (x y:Rat):decide (x=y)=((decide (x.num<0)==decide (y.num<0))&&(decide (x.num.natAbs=y.num.natAbs)&&decide (A0 x=A0 y))):=by
 rw [show decide (A0 x=A0 y)=decide (x.den=y.den) from decide_eq_decide.2 Kr]
 by_cases h:x=y
 ·subst h
  simp
 ·rw [decide_eq_false h]
  symm
  by_cases h1:x.den=y.den
  ·have h2:x.num≠y.num:=fun e=>h (Rat.ext e h1)
   by_cases h3:x.num.natAbs=y.num.natAbs
   ·have h4:decide (x.num<0)≠decide (y.num<0):=by
     intro e
     have:=decide_eq_decide.1 e
     omega
    rw [beq_eq_false_iff_ne.2 h4]
    rfl
   ·rw [decide_eq_false h3]
    simp
  ·rw [decide_eq_false h1]
   simp
set_option maxRecDepth 20000 in
theorem QW {w:World} {u v:Value} {x y:Rat} (hu:Ax w u x) (hv:Ax w v y):
  Calls Tryz.prog 135 #[u,v] w fun e w'=>e= .returned (.bool (decide (x=y)))∧Kp w w':=by
 rw [IN]
 obtain ⟨n1,d1,rfl,hn1,hd1⟩:=hu
 obtain ⟨n2,d2,rfl,hn2,hd2⟩:=hv
 have HN:=Xu (fun w' (kk:Kp w w')=>F8 n1 n2 (toL x.num.natAbs) (toL y.num.natAbs) w' (hn1.kp kk) (hn2.kp kk))
 have HD:=Xu (fun w' (kk:Kp w w')=>F8 d1 d2 (toL (A0 x)) (toL (A0 y)) w' (hd1.kp kk) (hd2.kp kk))
 simp only [KH] at HN HD
 obtain ⟨a1,l1,c1,rfl⟩:=Ck hn1
 obtain ⟨a2,l2,c2,rfl⟩:=Ck hd1
 obtain ⟨a3,l3,c3,rfl⟩:=Ck hn2
 obtain ⟨a4,l4,c4,rfl⟩:=Ck hd2
 clear hn1 hn2 hd1 hd2
 generalize decide (x.num<0)=s
 generalize decide (y.num<0)=t
 generalize decide (x.num.natAbs=y.num.natAbs)=p at HN⊢
 generalize decide (A0 x=A0 y)=q at HD⊢
 have HK:=Xu (fun o1 o2=>(Kp.alloc w o1).tr (Kp.alloc (w.alloc o1) o2))
 have HP1:=Xu ((Res.new w (.bool s) (.slice a1 l1 c1) (.slice a2 l2 c2)).kp (Kp.alloc _ (Obj.cells #[.bool t,.slice a3 l3 c3,.slice a4 l4 c4] 34)))
 have HP2:=Xu (Res.new (w.alloc (Obj.cells #[.bool s,.slice a1 l1 c1,.slice a2 l2 c2] 34)) (.bool t) (.slice a3 l3 c3) (.slice a4 l4 c4))
 rw [World.size_alloc] at HP2
 have hst:s=t∨t=!s:=by cases s<;>cases t<;>simp
 rcases hst with rfl|rfl
 ·cases p
  ·cases s
   all_goals
    go_enter Tryz.func135,Tryz.ntmps135
    go_wp2_with (go_at_call 201;(with_reducible refine (HN.out _ (HK.out _ _)).mono ?_);rintro e w1 ⟨rfl,K1⟩;refine Hid.out ?_)
    refine Xu ?_
    go_wp2
    go_ret
    exact ⟨rfl,(HK.out _ _).tr K1⟩
  ·cases s
   all_goals
    go_enter Tryz.func135,Tryz.ntmps135
    go_wp2_with (go_at_call 201;(with_reducible refine (HN.out _ (HK.out _ _)).mono ?_);rintro e w1 ⟨rfl,K1⟩;refine Hid.out ?_)
    refine Xu ?_
    obtain ⟨_,_,g1,_⟩:=(HP1.out.kp K1).cells
    obtain ⟨_,_,g2,_⟩:=(HP2.out.kp K1).cells
    go_wp2_with (go_at_call 201;(with_reducible refine (HD.out _ ((HK.out _ _).tr K1)).mono ?_);rintro e w2 ⟨rfl,K2⟩;refine Hid.out ?_)
    refine Xu ?_
    go_wp2
    go_ret
    exact ⟨by simp,((HK.out _ _).tr K1).tr K2⟩
 ·cases s
  all_goals
   go_enter Tryz.func135,Tryz.ntmps135
   go_wp2
   go_ret
   exact ⟨by simp,HK.out _ _⟩
end Go.Proofs.YtfineedhebhpaaaGreatDoor
