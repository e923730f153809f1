/-
  Several texts in one: Q4, Q5, Q6.
-/
import Derived.Test.YtnkobfcnflphkaaGreatDoorBy
import Derived.Test.YtnkobfcnflphkaaGreatDoorBc
import Derived.Test.YtnkobfcnflphkaaGreatDoorBb
import Derived.Test.YtnkobfcnflphkaaGreatDoorBm
import Derived.Test.YtnkobfcnflphkaaGreatDoorBk
namespace Go.Proofs.YtnkobfcnflphkaaGreatDoor
open Lib renaming hid→Zb
set_option maxHeartbeats 16000000
open Go.RowKit
theorem Lj (x y:Nat) (w:World):Calls Tryz.prog 191 #[.int .u64 (x:Nat),.int .u64 (y:Nat)] w fun e w'=>e= .returned (.int .i64 (AY x y))∧w'=w:=by
 rcases Nat.lt_trichotomy x y with h|h|h
 ·rw [BX h]
  go_enter Tryz.func191,Tryz.ntmps191
  go_wp2
  go_ret
  exact ⟨rfl,rfl⟩
 ·rw [C4 h]
  subst h
  go_enter Tryz.func191,Tryz.ntmps191
  go_wp2
  go_ret
  exact ⟨rfl,rfl⟩
 ·rw [BY h]
  go_enter Tryz.func191,Tryz.ntmps191
  go_wp2
  go_ret
  exact ⟨rfl,rfl⟩
set_option maxRecDepth 20000 in
theorem Wr (g:Nat) (a b:Int) (w:World) (h0:w.cell? ⟨g,0,none⟩=some (.int .i64 a)) (h1:w.cell? ⟨g,1,none⟩=some (.int .i64 b)):
  Calls Tryz.prog 190 #[.slice (some ⟨g,0,none⟩) 2 2] w fun e w'=>e= .returned (.int .i64 (if a=0 then b else a))∧w'=w:=by
 obtain ⟨r,hr⟩: ∃r,r=if a=0 then b else a:=⟨_,rfl⟩
 rw [←hr]
 have HR:=Zb hr
 clear hr
 go_enter Tryz.func190,Tryz.ntmps190
 go_wp2
 go_loop [5,8] (fun _ i=> ∃k:Nat,k≤2∧i= .int .i64 k∧(0<k→a=0)∧(1<k→b=0)) (fun _ i=>2-(intOf i).toNat)
 case atStart=>exact ⟨0,by omega,rfl,fun h=>by omega,fun h=>by omega⟩
 case round=>
  obtain ⟨k,hk,rfl,ha,hb⟩:=hrel
  rcases k with _|_|_|k
  ·clear ha hb
   by_cases e:a=0
   ·have hz:(a !=0)=false:=by simp [e]
    have HE:=Zb e
    clear e
    go_wp2
    go_round
    case rel=>exact ⟨1,by omega,by go_num,fun _=>HE.out,fun h=>by omega⟩
    case measure=>simp [intOf]
   ·have hz:(a !=0)=true:=by rw [bne_iff_ne];exact e
    have HE:=Zb e
    clear e
    go_wp2
    go_ret
    exact ⟨Bx (by rw [HR.out,if_neg HE.out]),rfl⟩
  ·have HA:=Zb (ha (by omega))
   clear ha hb
   by_cases e:b=0
   ·have hz:(b !=0)=false:=by simp [e]
    have HE:=Zb e
    clear e
    go_wp2
    go_round
    case rel=>exact ⟨2,by omega,by go_num,fun _=>HA.out,fun _=>HE.out⟩
    case measure=>simp [intOf]
   ·have hz:(b !=0)=true:=by rw [bne_iff_ne];exact e
    have HE:=Zb e
    clear e
    go_wp2
    go_ret
    exact ⟨Bx (by rw [HR.out,if_pos HA.out]),rfl⟩
  ·have HA:=Zb (ha (by omega))
   have HB:=Zb (hb (by omega))
   clear ha hb
   go_wp2
   go_ret
   exact ⟨Bx (by rw [HR.out,if_pos HA.out,HB.out]),rfl⟩
  ·omega
theorem P8 {P Q:Nat} :AY P Q=if AY (P/18446744073709551616) (Q/18446744073709551616)=0 then AY (P % 18446744073709551616) (Q % 18446744073709551616) else AY (P/18446744073709551616) (Q/18446744073709551616):=by
 unfold AY
 repeat' split
 all_goals omega
theorem P9 {m n d:Nat} (hd:d≠0):AY (m*d) (n*d)=AY m n:=by
 have hp:=Nat.pos_of_ne_zero hd
 rcases Nat.lt_trichotomy m n with h|h|h
 ·rw [BX h,BX (Nat.mul_lt_mul_of_pos_right h hp)]
 ·rw [C4 h,C4 (by rw [h])]
 ·rw [BY h,BY (Nat.mul_lt_mul_of_pos_right h hp)]
theorem Ll {m n:Nat} {a b c d:Nat} (ha:a≠0) (hb:b≠0) (hm:m=a*b) (hn:n=c*d) (h:BD c+BD d+2≤BD a+BD b):n<m:=by
 obtain ⟨a1,_,a3⟩:=FL ha
 obtain ⟨b1,_,b3⟩:=FL hb
 have lt: ∀z:Nat,z<2^BD z:=fun z=>by
  by_cases hz:z=0
  ·subst hz;exact Nat.pow_pos (by decide)
  ·exact (FL hz).2.1
 rw [hm,hn]
 have h1:c*d<2^(BD c+BD d):=by
  rw [Nat.pow_add]
  by_cases hc:c=0
  ·subst hc
   rw [Nat.zero_mul]
   exact Nat.mul_pos (Nat.pow_pos (by decide)) (Nat.pow_pos (by decide))
  ·exact Nat.mul_lt_mul_of_lt_of_le (lt c) (Nat.le_of_lt (lt d)) (Nat.pow_pos (by decide))
 refine Nat.lt_of_lt_of_le h1 (Nat.le_trans (Nat.pow_le_pow_right (by decide) (show BD c+BD d≤(BD a-1)+(BD b-1) by omega)) ?_)
 rw [Nat.pow_add]
 exact Nat.mul_le_mul a1 b1
theorem Hs {n k:Nat} (h:Sz k n):BD n≤32*k:=by
 by_cases h0:n=0
 ·subst h0;rw [Qg];omega
 ·have hl:=DE h0
  rw [Ft n hl]
  have h2:=D6 (x:=(toL n).getD ((toL n).length-1) 0) (by
   have hL:=BC n
   have hi:(toL n).length-1<(toL n).length:=by omega
   have he:(toL n).getD ((toL n).length-1) 0=(toL n)[(toL n).length-1]:=by simp [List.getD,hi]
   rw [he]
   exact hL _ (List.getElem_mem _))
  unfold Sz at h
  omega
theorem E0 {x:Rat} (h:x.num=0):AT x=0:=by
 have:=x.reduced
 rw [h,show (0:Int).natAbs=0 from rfl,Nat.coprime_zero_left] at this
 unfold AT
 rw [if_pos this]
set_option maxRecDepth 20000 in
theorem Tw (a b:Bool) (n d m e:Nat) (hn:n<18446744073709551616) (hd:d<18446744073709551616) (hm:m<18446744073709551616) (he:e<18446744073709551616) (w:World):
  Calls Tryz.prog 167 #[B9 a n d,B9 b m e] w fun ex w'=>ex= .returned (.int .i64 (AY (n*e) (m*d)))∧Kp w w':=by
 have HM1:=Zb (Tryz.bits_Mul64 n e hn he)
 have HM2:=Zb (Tryz.bits_Mul64 m d hm hd)
 unfold B9
 rw [P8]
 obtain ⟨P,hP⟩: ∃P,P=n*e:=⟨_,rfl⟩
 obtain ⟨Q,hQ⟩: ∃Q,Q=m*d:=⟨_,rfl⟩
 rw [←hP] at HM1⊢
 rw [←hQ] at HM2⊢
 obtain ⟨p1,hp1⟩: ∃z,z=P/18446744073709551616:=⟨_,rfl⟩
 obtain ⟨p2,hp2⟩: ∃z,z=P % 18446744073709551616:=⟨_,rfl⟩
 obtain ⟨q1,hq1⟩: ∃z,z=Q/18446744073709551616:=⟨_,rfl⟩
 obtain ⟨q2,hq2⟩: ∃z,z=Q % 18446744073709551616:=⟨_,rfl⟩
 rw [←hp1,←hp2] at HM1⊢
 rw [←hq1,←hq2] at HM2⊢
 have HC1:=Zb (Lj p1 q1)
 have HC2:=Zb (Lj p2 q2)
 obtain ⟨c1,hc1⟩: ∃z,z=AY p1 q1:=⟨_,rfl⟩
 obtain ⟨c2,hc2⟩: ∃z,z=AY p2 q2:=⟨_,rfl⟩
 rw [←hc1] at HC1⊢
 rw [←hc2] at HC2⊢
 have KA: ∀o1 o2 o3:Obj,Kp w (((w.alloc o1).alloc o2).alloc o3):=fun o1 o2 o3=>((Kp.alloc w o1).tr (Kp.alloc _ o2)).tr (Kp.alloc _ o3)
 have HKA:=Zb KA
 have HOR:=Zb (fun w' g h0 h1=>Wr g c1 c2 w' h0 h1)
 obtain ⟨r,hr⟩: ∃r,r=if c1=0 then c2 else c1:=⟨_,rfl⟩
 rw [←hr] at HOR⊢
 have HROW:=Zb (fun o1 o2:Obj=>(show (((w.alloc o1).alloc o2).alloc (Obj.cells #[Value.int .i64 c1,Value.int .i64 c2] 3)).heap[w.heap.size+1+1]?=some (Obj.cells #[Value.int .i64 c1,Value.int .i64 c2] 3) from by
  have h:=heap_alloc_new ((w.alloc o1).alloc o2) (Obj.cells #[Value.int .i64 c1,Value.int .i64 c2] 3)
  rw [World.size_alloc,World.size_alloc] at h
  exact h))
 clear KA hP hQ hp1 hp2 hq1 hq2 hc1 hc2 hr hn hd hm he
 go_enter Tryz.func167,Tryz.ntmps167
 go_wp2_with (first
  | (go_at_call 189;first|((with_reducible refine (HM1.out _).mono ?_);rintro e w1 ⟨rfl,rfl⟩)|((with_reducible refine (HM2.out _).mono ?_);rintro e w1 ⟨rfl,rfl⟩))
  | (go_at_call 191;first|((with_reducible refine (HC1.out _).mono ?_);rintro e w1 ⟨rfl,rfl⟩)|((with_reducible refine (HC2.out _).mono ?_);rintro e w1 ⟨rfl,rfl⟩))
  | (go_at_call 190;((with_reducible refine (HOR.out _ _ (cell_of_row _ _ 0 _ _ _ (HROW.out _ _)) (cell_of_row _ _ 1 _ _ _ (HROW.out _ _))).mono ?_);rintro e w1 ⟨rfl,rfl⟩)))
 go_ret
 exact ⟨rfl,HKA.out _ _ _⟩
set_option maxRecDepth 20000 in
theorem Li {w:World} {u:Value} {x:Rat} (hu:Ao w u x) {v:Value} {y:Rat} (hv:Ao w v y) {j k:Nat} (hs:RSz j x) (ht:RSz k y) (hj:j≤500000000) (hk:k≤500000000) (h0:x.num=0↔y.num=0) (hT:Tz w):
  Calls Tryz.prog 138 #[u,v] w fun e w'=>e= .returned (.int .i64 (AY (x.num.natAbs*y.den) (y.num.natAbs*x.den)))∧Kp w w':=by
 obtain ⟨a1,l1,c1,a2,l2,c2,rfl,m1,m2⟩:=hu.parts
 obtain ⟨a3,l3,c3,a4,l4,c4,rfl,m3,m4⟩:=hv.parts
 have HT:=Zb (P2.new w (.bool (decide (x.num<0))) (.slice a1 l1 c1) (.slice a2 l2 c2) (.bool (decide (y.num<0))) (.slice a3 l3 c3) (.slice a4 l4 c4))
 have HU:=Zb hu
 have Hm1:=Zb m1
 have Hm2:=Zb m2
 have HV:=Zb hv
 have Hm3:=Zb m3
 have Hm4:=Zb m4
 have HZ:=Zb hT
 have CSA:=Zb (fun w' a (ha:Ao w' a x)=>by obtain ⟨n,d,e,m1,m2⟩:=ha;have h:=Ds (s:=decide (x.num<0)) m1 m2;rw [DF,←e] at h;exact h)
 have CSB:=Zb (fun w' a (ha:Ao w' a y)=>by obtain ⟨n,d,e,m1,m2⟩:=ha;have h:=Ds (s:=decide (y.num<0)) m1 m2;rw [DF,←e] at h;exact h)
 have CEQ:=Zb (fun w' (ha:M w' (.slice a2 l2 c2) (AT x)) (hb:M w' (.slice a4 l4 c4) (AT y))=>Ld _ _ _ _ w' ha hb)
 have CC0:=Zb (fun w' va vb (ha:M w' va x.num.natAbs) (hb:M w' vb y.num.natAbs)=>Qa ha hb)
 have CDA:=Zb (fun w' a (ha:Ao w' a x)=>by obtain ⟨n,d,e,m1,m2⟩:=ha;have h:=Hm (s:=decide (x.num<0)) m1 m2;rw [←e] at h;exact h)
 have CDB:=Zb (fun w' a (ha:Ao w' a y)=>by obtain ⟨n,d,e,m1,m2⟩:=ha;have h:=Hm (s:=decide (y.num<0)) m1 m2;rw [←e] at h;exact h)
 have CB1:=Zb (fun w' v (a:M w' v x.num.natAbs)=>Fn v _ w' a (by have:=hs.1;unfold Sz at this;omega))
 have CB2:=Zb (fun w' v (a:M w' v y.den)=>Fn v _ w' a (by have:=ht.2;unfold Sz at this;omega))
 have CB3:=Zb (fun w' v (a:M w' v y.num.natAbs)=>Fn v _ w' a (by have:=ht.1;unfold Sz at this;omega))
 have CB4:=Zb (fun w' v (a:M w' v x.den)=>Fn v _ w' a (by have:=hs.2;unfold Sz at this;omega))
 have CT1:=Zb (fun w' va vb (a:M w' va x.num.natAbs) (b:M w' vb y.den)=>DN a b hs.1 ht.2 (by omega) (by omega))
 have CT2:=Zb (fun w' va vb (a:M w' va y.num.natAbs) (b:M w' vb x.den)=>DN a b ht.1 hs.2 (by omega) (by omega))
 have CC1:=Zb (fun w' va vb (ha:M w' va (x.num.natAbs*y.den)) (hb:M w' vb (y.num.natAbs*x.den))=>Qa ha hb)
 have CSC:=Zb (fun n d m e hn hd hm he w'=>Tw (decide (x.num<0)) (decide (y.num<0)) n d m e hn hd hm he w')
 obtain ⟨p,hp⟩: ∃b,b=decide (x.num<0):=⟨_,rfl⟩
 try rw [←hp] at HT
 try rw [←hp] at HU
 try rw [←hp] at Hm1
 try rw [←hp] at Hm2
 try rw [←hp] at HV
 try rw [←hp] at Hm3
 try rw [←hp] at Hm4
 try rw [←hp] at CSA
 try rw [←hp] at CSB
 try rw [←hp] at CEQ
 try rw [←hp] at CC0
 try rw [←hp] at CDA
 try rw [←hp] at CDB
 try rw [←hp] at CB1
 try rw [←hp] at CB2
 try rw [←hp] at CB3
 try rw [←hp] at CB4
 try rw [←hp] at CT1
 try rw [←hp] at CT2
 try rw [←hp] at CC1
 try rw [←hp] at CSC
 try rw [←hp]
 have HPp:=Zb hp
 obtain ⟨q,hq⟩: ∃b,b=decide (y.num<0):=⟨_,rfl⟩
 try rw [←hq] at HT
 try rw [←hq] at HU
 try rw [←hq] at Hm1
 try rw [←hq] at Hm2
 try rw [←hq] at HV
 try rw [←hq] at Hm3
 try rw [←hq] at Hm4
 try rw [←hq] at CSA
 try rw [←hq] at CSB
 try rw [←hq] at CEQ
 try rw [←hq] at CC0
 try rw [←hq] at CDA
 try rw [←hq] at CDB
 try rw [←hq] at CB1
 try rw [←hq] at CB2
 try rw [←hq] at CB3
 try rw [←hq] at CB4
 try rw [←hq] at CT1
 try rw [←hq] at CT2
 try rw [←hq] at CC1
 try rw [←hq] at CSC
 try rw [←hq]
 have HPq:=Zb hq
 clear hu m1 m2 hp hv m3 m4 hq hT
 unfold B9 at CSA CSB CSC
 simp only [Qt] at CEQ
 obtain ⟨bq,hbq⟩: ∃b,b=decide (AT x=AT y):=⟨_,rfl⟩
 rw [←hbq] at CEQ
 have HBQ:=Zb hbq
 clear hbq
 have hb1:=Hs hs.1
 have hb2:=Hs ht.2
 have hb3:=Hs ht.1
 have hb4:=Hs hs.2
 have HBM:=Zb (fun (h:AT x≠AT y)=>(show (BD y.num.natAbs+BD x.den+2≤BD x.num.natAbs+BD y.den→AY (x.num.natAbs*y.den) (y.num.natAbs*x.den)=1)∧(BD x.num.natAbs+BD y.den+2≤BD y.num.natAbs+BD x.den→AY (x.num.natAbs*y.den) (y.num.natAbs*x.den)= -1) from by
  have hx:x.num.natAbs≠0:=by
   intro e
   have e1:x.num=0:=Int.natAbs_eq_zero.1 e
   exact h (by rw [E0 e1,E0 (h0.1 e1)])
  have hy:y.num.natAbs≠0:=by
   intro e
   have e1:y.num=0:=Int.natAbs_eq_zero.1 e
   exact h (by rw [E0 (h0.2 e1),E0 e1])
  exact ⟨fun h2=>BY (Ll hx y.den_nz rfl rfl h2),fun h2=>BX (Ll hy x.den_nz rfl rfl h2)⟩))
 have HEQ:=Zb (fun (h:AT x=AT y)=>(show AY x.num.natAbs y.num.natAbs=AY (x.num.natAbs*y.den) (y.num.natAbs*x.den) from by
  have e:x.den=y.den:=Lh.1 h
  rw [e,P9 y.den_nz]))
 obtain ⟨b1,hb1'⟩: ∃b,b=BD x.num.natAbs:=⟨_,rfl⟩
 rw [←hb1'] at CB1 HBM hb1
 clear hb1'
 obtain ⟨b2,hb2'⟩: ∃b,b=BD y.den:=⟨_,rfl⟩
 rw [←hb2'] at CB2 HBM hb2
 clear hb2'
 obtain ⟨b3,hb3'⟩: ∃b,b=BD y.num.natAbs:=⟨_,rfl⟩
 rw [←hb3'] at CB3 HBM hb3
 clear hb3'
 obtain ⟨b4,hb4'⟩: ∃b,b=BD x.den:=⟨_,rfl⟩
 rw [←hb4'] at CB4 HBM hb4
 clear hb4'
 obtain ⟨cr,hcr⟩: ∃c,c=AY (x.num.natAbs*y.den) (y.num.natAbs*x.den):=⟨_,rfl⟩
 rw [←hcr] at CC1 HBM HEQ⊢
 have HCR:=Zb hcr
 obtain ⟨ce,hce⟩: ∃c,c=AY x.num.natAbs y.num.natAbs:=⟨_,rfl⟩
 rw [←hce] at CC0 HEQ
 clear hcr hce hs ht h0
 obtain ⟨n1,hn1⟩: ∃n,n=x.num.natAbs:=⟨_,rfl⟩
 obtain ⟨e1,he1⟩: ∃n,n=x.den:=⟨_,rfl⟩
 obtain ⟨n2,hn2⟩: ∃n,n=y.num.natAbs:=⟨_,rfl⟩
 obtain ⟨e2,he2⟩: ∃n,n=y.den:=⟨_,rfl⟩
 rw [←hn1] at CSA HCR
 rw [←he1] at CSA HCR
 rw [←hn2] at CSB HCR
 rw [←he2] at CSB HCR
 clear hn1 he1 hn2 he2
 go_enter Tryz.func138,Tryz.ntmps138
 have KN:=HT.out.k
 have U_e:=Zb (HU.out.kp KN)
 have m1_e:=Zb (Hm1.out.kp KN)
 have m2_e:=Zb (Hm2.out.kp KN)
 have V_e:=Zb (HV.out.kp KN)
 have m3_e:=Zb (Hm3.out.kp KN)
 have m4_e:=Zb (Hm4.out.kp KN)
 have Z_e:=Zb (HZ.out.kp KN)
 clear KN
 obtain ⟨g0,g1,g2,_⟩:=HT.out.ra.cells
 obtain ⟨h0,h1,h2,_⟩:=HT.out.rb.cells
 go_wp2_with (go_at_call 166;(with_reducible refine (CSA.out _ _ U_e.out).mono ?_);rintro e w2 ⟨sx,nx,dx,okx,rfl,hnx,hdx,hokx,k2⟩;refine Hid.out ?_)
 refine Zb ?_
 have T_2:=Zb (HT.out.kp k2)
 have U_2:=Zb (U_e.out.kp k2)
 have m1_2:=Zb (m1_e.out.kp k2)
 have m2_2:=Zb (m2_e.out.kp k2)
 have V_2:=Zb (V_e.out.kp k2)
 have m3_2:=Zb (m3_e.out.kp k2)
 have m4_2:=Zb (m4_e.out.kp k2)
 have Z_2:=Zb (Z_e.out.kp k2)
 clear HT U_e m1_e m2_e V_e m3_e m4_e Z_e
 clear k2
 have HX:=Zb hokx
 clear hokx
 have XB_2:=Zb (Shb.new w2 (.bool sx) (.int .u64 (nx:Int)) (.int .u64 (dx:Int)))
 have T_3:=Zb (T_2.out.kp (Kp.alloc _ (Obj.cells #[Value.bool sx,Value.int IntKind.u64 (nx:Int),Value.int IntKind.u64 (dx:Int)] 142)))
 have U_3:=Zb (U_2.out.kp (Kp.alloc _ (Obj.cells #[Value.bool sx,Value.int IntKind.u64 (nx:Int),Value.int IntKind.u64 (dx:Int)] 142)))
 have m1_3:=Zb (m1_2.out.kp (Kp.alloc _ (Obj.cells #[Value.bool sx,Value.int IntKind.u64 (nx:Int),Value.int IntKind.u64 (dx:Int)] 142)))
 have m2_3:=Zb (m2_2.out.kp (Kp.alloc _ (Obj.cells #[Value.bool sx,Value.int IntKind.u64 (nx:Int),Value.int IntKind.u64 (dx:Int)] 142)))
 have V_3:=Zb (V_2.out.kp (Kp.alloc _ (Obj.cells #[Value.bool sx,Value.int IntKind.u64 (nx:Int),Value.int IntKind.u64 (dx:Int)] 142)))
 have m3_3:=Zb (m3_2.out.kp (Kp.alloc _ (Obj.cells #[Value.bool sx,Value.int IntKind.u64 (nx:Int),Value.int IntKind.u64 (dx:Int)] 142)))
 have m4_3:=Zb (m4_2.out.kp (Kp.alloc _ (Obj.cells #[Value.bool sx,Value.int IntKind.u64 (nx:Int),Value.int IntKind.u64 (dx:Int)] 142)))
 have Z_3:=Zb (Z_2.out.kp (Kp.alloc _ (Obj.cells #[Value.bool sx,Value.int IntKind.u64 (nx:Int),Value.int IntKind.u64 (dx:Int)] 142)))
 clear T_2 U_2 m1_2 m2_2 V_2 m3_2 m4_2 Z_2
 obtain ⟨g0,g1,g2,_⟩:=T_3.out.ra.cells
 obtain ⟨h0,h1,h2,_⟩:=T_3.out.rb.cells
 go_wp2_with (go_at_call 166;(with_reducible refine (CSB.out _ _ V_3.out).mono ?_);rintro e w4 ⟨sy,ny,dy,oky,rfl,hny,hdy,hoky,k4⟩;refine Hid.out ?_)
 refine Zb ?_
 have T_4:=Zb (T_3.out.kp k4)
 have U_4:=Zb (U_3.out.kp k4)
 have m1_4:=Zb (m1_3.out.kp k4)
 have m2_4:=Zb (m2_3.out.kp k4)
 have V_4:=Zb (V_3.out.kp k4)
 have m3_4:=Zb (m3_3.out.kp k4)
 have m4_4:=Zb (m4_3.out.kp k4)
 have Z_4:=Zb (Z_3.out.kp k4)
 have XB_4:=Zb (XB_2.out.kp k4)
 clear T_3 U_3 m1_3 m2_3 V_3 m3_3 m4_3 Z_3 XB_2
 clear k4
 obtain ⟨g0,g1,g2,_⟩:=T_4.out.ra.cells
 obtain ⟨h0,h1,h2,_⟩:=T_4.out.rb.cells
 have HY:=Zb hoky
 clear hoky
 obtain ⟨x0,x1,x2,_⟩:=XB_4.out.cells
 obtain ⟨t0,ht0⟩: ∃t,t=(okx&&oky):=⟨_,rfl⟩
 have HT0:=Zb ht0
 clear ht0
 go_upto_region 3 with fail
 go_cut [25] (fun t wc=>t= .bool t0∧w4.alloc (Obj.cells #[Value.bool sy,Value.int IntKind.u64 (ny:Int),Value.int IntKind.u64 (dy:Int)] 142)=wc)
 case first=>
  cases okx
  ·obtain rfl:t0=false:=HT0.out
   go_wp2_with fail
   go_meet
   exact ⟨rfl,rfl⟩
  ·cases oky
   ·obtain rfl:t0=false:=HT0.out
    go_wp2_with fail
    go_meet
    exact ⟨rfl,rfl⟩
   ·obtain rfl:t0=true:=HT0.out
    go_wp2_with fail
    go_meet
    exact ⟨rfl,rfl⟩
 case rest=>
 obtain ⟨rfl,rfl⟩:=hcut
 cases t0
 ·clear HX HY CSC HCR HT0
  have T_5:=Zb (T_4.out.kp (Kp.alloc _ (Obj.cells #[Value.bool sy,Value.int IntKind.u64 (ny:Int),Value.int IntKind.u64 (dy:Int)] 142)))
  have U_5:=Zb (U_4.out.kp (Kp.alloc _ (Obj.cells #[Value.bool sy,Value.int IntKind.u64 (ny:Int),Value.int IntKind.u64 (dy:Int)] 142)))
  have m1_5:=Zb (m1_4.out.kp (Kp.alloc _ (Obj.cells #[Value.bool sy,Value.int IntKind.u64 (ny:Int),Value.int IntKind.u64 (dy:Int)] 142)))
  have m2_5:=Zb (m2_4.out.kp (Kp.alloc _ (Obj.cells #[Value.bool sy,Value.int IntKind.u64 (ny:Int),Value.int IntKind.u64 (dy:Int)] 142)))
  have V_5:=Zb (V_4.out.kp (Kp.alloc _ (Obj.cells #[Value.bool sy,Value.int IntKind.u64 (ny:Int),Value.int IntKind.u64 (dy:Int)] 142)))
  have m3_5:=Zb (m3_4.out.kp (Kp.alloc _ (Obj.cells #[Value.bool sy,Value.int IntKind.u64 (ny:Int),Value.int IntKind.u64 (dy:Int)] 142)))
  have m4_5:=Zb (m4_4.out.kp (Kp.alloc _ (Obj.cells #[Value.bool sy,Value.int IntKind.u64 (ny:Int),Value.int IntKind.u64 (dy:Int)] 142)))
  have Z_5:=Zb (Z_4.out.kp (Kp.alloc _ (Obj.cells #[Value.bool sy,Value.int IntKind.u64 (ny:Int),Value.int IntKind.u64 (dy:Int)] 142)))
  have XB_5:=Zb (XB_4.out.kp (Kp.alloc _ (Obj.cells #[Value.bool sy,Value.int IntKind.u64 (ny:Int),Value.int IntKind.u64 (dy:Int)] 142)))
  clear T_4 U_4 m1_4 m2_4 V_4 m3_4 m4_4 Z_4 XB_4
  obtain ⟨g0,g1,g2,_⟩:=T_5.out.ra.cells
  obtain ⟨h0,h1,h2,_⟩:=T_5.out.rb.cells
  go_wp2_with (go_at_call 162;(with_reducible refine (CEQ.out _ m2_5.out m4_5.out).mono ?_);rintro e w6 ⟨rfl,k6⟩;refine Hid.out ?_)
  refine Zb ?_
  have T_6:=Zb (T_5.out.kp k6)
  have U_6:=Zb (U_5.out.kp k6)
  have m1_6:=Zb (m1_5.out.kp k6)
  have m2_6:=Zb (m2_5.out.kp k6)
  have V_6:=Zb (V_5.out.kp k6)
  have m3_6:=Zb (m3_5.out.kp k6)
  have m4_6:=Zb (m4_5.out.kp k6)
  have Z_6:=Zb (Z_5.out.kp k6)
  have XB_6:=Zb (XB_5.out.kp k6)
  clear T_5 U_5 m1_5 m2_5 V_5 m3_5 m4_5 Z_5 XB_5
  clear k6
  obtain ⟨g0,g1,g2,_⟩:=T_6.out.ra.cells
  obtain ⟨h0,h1,h2,_⟩:=T_6.out.rb.cells
  cases bq
  ·have HE:=Zb (HBM.out (of_decide_eq_false HBQ.out.symm))
   clear HBM HEQ
   go_upto_region 7 with fail
   have T_7:=Zb (T_6.out.kp (Below.refl _ _).drew)
   have U_7:=Zb (U_6.out.kp (Below.refl _ _).drew)
   have m1_7:=Zb (m1_6.out.kp (Below.refl _ _).drew)
   have m2_7:=Zb (m2_6.out.kp (Below.refl _ _).drew)
   have V_7:=Zb (V_6.out.kp (Below.refl _ _).drew)
   have m3_7:=Zb (m3_6.out.kp (Below.refl _ _).drew)
   have m4_7:=Zb (m4_6.out.kp (Below.refl _ _).drew)
   have Z_7:=Zb (Z_6.out.kp (Below.refl _ _).drew)
   have XB_7:=Zb (XB_6.out.kp (Below.refl _ _).drew)
   clear T_6 U_6 m1_6 m2_6 V_6 m3_6 m4_6 Z_6 XB_6
   go_region_held3 (fun w'=>w'.cell? ⟨w.heap.size,0,none⟩=some (.bool p)∧w'.cell? ⟨w.heap.size,1,none⟩=some (.slice a1 l1 c1)∧w'.cell? ⟨w.heap.size,2,none⟩=some (.slice a2 l2 c2)∧w'.cell? ⟨w.heap.size+1,0,none⟩=some (.bool q)∧w'.cell? ⟨w.heap.size+1,1,none⟩=some (.slice a3 l3 c3)∧w'.cell? ⟨w.heap.size+1,2,none⟩=some (.slice a4 l4 c4))
    (first|(refine ⟨?_,?_,?_,?_,?_,?_⟩<;>assumption)|go_keep)
    (first
     | (go_at_call 142;(with_reducible refine (CDA.out _ _ U_7.out).mono ?_);rintro e w8 ⟨va,rfl,mA,k8⟩;have T_8:=Zb (T_7.out.kp k8);have U_8:=Zb (U_7.out.kp k8);have m1_8:=Zb (m1_7.out.kp k8);have m2_8:=Zb (m2_7.out.kp k8);have V_8:=Zb (V_7.out.kp k8);have m3_8:=Zb (m3_7.out.kp k8);have m4_8:=Zb (m4_7.out.kp k8);have Z_8:=Zb (Z_7.out.kp k8);have XB_8:=Zb (XB_7.out.kp k8);clear T_7 U_7 m1_7 m2_7 V_7 m3_7 m4_7 Z_7 XB_7;have A_8:=Zb mA;clear mA k8;obtain ⟨g0,g1,g2,_⟩:=T_8.out.ra.cells;obtain ⟨h0,h1,h2,_⟩:=T_8.out.rb.cells)
     | (go_at_call 142;(with_reducible refine (CDB.out _ _ V_8.out).mono ?_);rintro e w9 ⟨vb,rfl,mB,k9⟩;have T_9:=Zb (T_8.out.kp k9);have U_9:=Zb (U_8.out.kp k9);have m1_9:=Zb (m1_8.out.kp k9);have m2_9:=Zb (m2_8.out.kp k9);have V_9:=Zb (V_8.out.kp k9);have m3_9:=Zb (m3_8.out.kp k9);have m4_9:=Zb (m4_8.out.kp k9);have Z_9:=Zb (Z_8.out.kp k9);have XB_9:=Zb (XB_8.out.kp k9);have A_9:=Zb (A_8.out.kp k9);clear T_8 U_8 m1_8 m2_8 V_8 m3_8 m4_8 Z_8 XB_8 A_8;have B_9:=Zb mB;clear mB k9;obtain ⟨g0,g1,g2,_⟩:=T_9.out.ra.cells;obtain ⟨h0,h1,h2,_⟩:=T_9.out.rb.cells))
   have e1:IntKind.i64.wrap ((b1:Int)+(b2:Int))=(b1:Int)+(b2:Int):=IntWalk.i64_in _ (by omega)
   have e2:IntKind.i64.wrap ((b1:Int)+(b2:Int)-(b3:Int))=(b1:Int)+(b2:Int)-(b3:Int):=IntWalk.i64_in _ (by omega)
   have e4:IntKind.i64.wrap ((b1:Int)+(b2:Int)-(b3:Int)-(b4:Int))=(b1:Int)+(b2:Int)-(b3:Int)-(b4:Int):=IntWalk.i64_in _ (by omega)
   obtain ⟨mo,hmo⟩: ∃m:Int,m=(b1:Int)+(b2:Int)-(b3:Int)-(b4:Int):=⟨_,rfl⟩
   have HMO:=Zb (show (1<mo→cr=1)∧(mo< -1→cr= -1) from ⟨fun h=>HE.out.1 (by omega),fun h=>HE.out.2 (by omega)⟩)
   have e3:=e4.trans hmo.symm
   clear e4 HE hmo hb1 hb2 hb3 hb4
   go_upto_region 8 with fail
   have T_10:=Zb (T_9.out.kp (Below.refl _ _).drew)
   have U_10:=Zb (U_9.out.kp (Below.refl _ _).drew)
   have m1_10:=Zb (m1_9.out.kp (Below.refl _ _).drew)
   have m2_10:=Zb (m2_9.out.kp (Below.refl _ _).drew)
   have V_10:=Zb (V_9.out.kp (Below.refl _ _).drew)
   have m3_10:=Zb (m3_9.out.kp (Below.refl _ _).drew)
   have m4_10:=Zb (m4_9.out.kp (Below.refl _ _).drew)
   have Z_10:=Zb (Z_9.out.kp (Below.refl _ _).drew)
   have XB_10:=Zb (XB_9.out.kp (Below.refl _ _).drew)
   have A_10:=Zb (A_9.out.kp (Below.refl _ _).drew)
   have B_10:=Zb (B_9.out.kp (Below.refl _ _).drew)
   clear T_9 U_9 m1_9 m2_9 V_9 m3_9 m4_9 Z_9 XB_9 A_9 B_9
   go_region_held3 (fun w'=>w'.cell? ⟨w.heap.size,0,none⟩=some (.bool p)∧w'.cell? ⟨w.heap.size,1,none⟩=some (.slice a1 l1 c1)∧w'.cell? ⟨w.heap.size,2,none⟩=some (.slice a2 l2 c2)∧w'.cell? ⟨w.heap.size+1,0,none⟩=some (.bool q)∧w'.cell? ⟨w.heap.size+1,1,none⟩=some (.slice a3 l3 c3)∧w'.cell? ⟨w.heap.size+1,2,none⟩=some (.slice a4 l4 c4))
    (first|(refine ⟨?_,?_,?_,?_,?_,?_⟩<;>assumption)|go_keep)
    (first
     | (go_at_call 169;(with_reducible refine (CB1.out _ _ m1_10.out).mono ?_);rintro e w11 ⟨rfl,rfl⟩;obtain ⟨g0,g1,g2,_⟩:=T_10.out.ra.cells;obtain ⟨h0,h1,h2,_⟩:=T_10.out.rb.cells)
     | (go_at_call 169;(with_reducible refine (CB2.out _ _ B_10.out).mono ?_);rintro e w12 ⟨rfl,rfl⟩;obtain ⟨g0,g1,g2,_⟩:=T_10.out.ra.cells;obtain ⟨h0,h1,h2,_⟩:=T_10.out.rb.cells)
     | (go_at_call 169;(with_reducible refine (CB3.out _ _ m3_10.out).mono ?_);rintro e w13 ⟨rfl,rfl⟩;obtain ⟨g0,g1,g2,_⟩:=T_10.out.ra.cells;obtain ⟨h0,h1,h2,_⟩:=T_10.out.rb.cells)
     | (go_at_call 169;(with_reducible refine (CB4.out _ _ A_10.out).mono ?_);rintro e w14 ⟨rfl,rfl⟩;obtain ⟨g0,g1,g2,_⟩:=T_10.out.ra.cells;obtain ⟨h0,h1,h2,_⟩:=T_10.out.rb.cells))
   clear e1 e2 e3
   by_cases h1:1<mo
   ·have HR1:=Zb (HMO.out.1 h1)
    have hd1:decide (1<mo)=true:=decide_eq_true h1
    clear HMO
    go_wp2
    go_ret
    exact ⟨Bx HR1.out.symm,T_10.out.k⟩
   ·have hd1:decide (1<mo)=false:=decide_eq_false h1
    by_cases h2:mo< -1
    ·have HR1:=Zb (HMO.out.2 h2)
     have hd2:decide (mo< -1)=true:=decide_eq_true h2
     clear HMO
     go_wp2
     go_ret
     exact ⟨Bx HR1.out.symm,T_10.out.k⟩
    ·have hd2:decide (mo< -1)=false:=decide_eq_false h2
     clear HMO
     go_upto_region 13 with fail
     have T_15:=Zb (T_10.out.kp (Below.refl _ _).drew)
     have U_15:=Zb (U_10.out.kp (Below.refl _ _).drew)
     have m1_15:=Zb (m1_10.out.kp (Below.refl _ _).drew)
     have m2_15:=Zb (m2_10.out.kp (Below.refl _ _).drew)
     have V_15:=Zb (V_10.out.kp (Below.refl _ _).drew)
     have m3_15:=Zb (m3_10.out.kp (Below.refl _ _).drew)
     have m4_15:=Zb (m4_10.out.kp (Below.refl _ _).drew)
     have Z_15:=Zb (Z_10.out.kp (Below.refl _ _).drew)
     have XB_15:=Zb (XB_10.out.kp (Below.refl _ _).drew)
     have A_15:=Zb (A_10.out.kp (Below.refl _ _).drew)
     have B_15:=Zb (B_10.out.kp (Below.refl _ _).drew)
     clear T_10 U_10 m1_10 m2_10 V_10 m3_10 m4_10 Z_10 XB_10 A_10 B_10
     go_region_held3 (fun w'=>w'.cell? ⟨w.heap.size,0,none⟩=some (.bool p)∧w'.cell? ⟨w.heap.size,1,none⟩=some (.slice a1 l1 c1)∧w'.cell? ⟨w.heap.size,2,none⟩=some (.slice a2 l2 c2)∧w'.cell? ⟨w.heap.size+1,0,none⟩=some (.bool q)∧w'.cell? ⟨w.heap.size+1,1,none⟩=some (.slice a3 l3 c3)∧w'.cell? ⟨w.heap.size+1,2,none⟩=some (.slice a4 l4 c4))
      (first|(refine ⟨?_,?_,?_,?_,?_,?_⟩<;>assumption)|go_keep)
      (first
       | (go_at_call 170;(with_reducible refine (CT1.out _ _ _ m1_15.out B_15.out).mono ?_);rintro e w16 ⟨v1,rfl,n1,k16⟩;have T_16:=Zb (T_15.out.kp k16);have U_16:=Zb (U_15.out.kp k16);have m1_16:=Zb (m1_15.out.kp k16);have m2_16:=Zb (m2_15.out.kp k16);have V_16:=Zb (V_15.out.kp k16);have m3_16:=Zb (m3_15.out.kp k16);have m4_16:=Zb (m4_15.out.kp k16);have Z_16:=Zb (Z_15.out.kp k16);have XB_16:=Zb (XB_15.out.kp k16);have A_16:=Zb (A_15.out.kp k16);have B_16:=Zb (B_15.out.kp k16);clear T_15 U_15 m1_15 m2_15 V_15 m3_15 m4_15 Z_15 XB_15 A_15 B_15;have N1_16:=Zb n1;clear n1 k16;obtain ⟨g0,g1,g2,_⟩:=T_16.out.ra.cells;obtain ⟨h0,h1,h2,_⟩:=T_16.out.rb.cells)
       | (go_at_call 170;(with_reducible refine (CT2.out _ _ _ m3_16.out A_16.out).mono ?_);rintro e w17 ⟨v2,rfl,n2,k17⟩;have T_17:=Zb (T_16.out.kp k17);have U_17:=Zb (U_16.out.kp k17);have m1_17:=Zb (m1_16.out.kp k17);have m2_17:=Zb (m2_16.out.kp k17);have V_17:=Zb (V_16.out.kp k17);have m3_17:=Zb (m3_16.out.kp k17);have m4_17:=Zb (m4_16.out.kp k17);have Z_17:=Zb (Z_16.out.kp k17);have XB_17:=Zb (XB_16.out.kp k17);have A_17:=Zb (A_16.out.kp k17);have B_17:=Zb (B_16.out.kp k17);have N1_17:=Zb (N1_16.out.kp k17);clear T_16 U_16 m1_16 m2_16 V_16 m3_16 m4_16 Z_16 XB_16 A_16 B_16 N1_16;have N2_17:=Zb n2;clear n2 k17;obtain ⟨g0,g1,g2,_⟩:=T_17.out.ra.cells;obtain ⟨h0,h1,h2,_⟩:=T_17.out.rb.cells)
       | (go_at_call 168;(with_reducible refine (CC1.out _ _ _ N1_17.out N2_17.out).mono ?_);rintro e w18 ⟨rfl,k18⟩;have T_18:=Zb (T_17.out.kp k18);have U_18:=Zb (U_17.out.kp k18);have m1_18:=Zb (m1_17.out.kp k18);have m2_18:=Zb (m2_17.out.kp k18);have V_18:=Zb (V_17.out.kp k18);have m3_18:=Zb (m3_17.out.kp k18);have m4_18:=Zb (m4_17.out.kp k18);have Z_18:=Zb (Z_17.out.kp k18);have XB_18:=Zb (XB_17.out.kp k18);have A_18:=Zb (A_17.out.kp k18);have B_18:=Zb (B_17.out.kp k18);have N1_18:=Zb (N1_17.out.kp k18);have N2_18:=Zb (N2_17.out.kp k18);clear T_17 U_17 m1_17 m2_17 V_17 m3_17 m4_17 Z_17 XB_17 A_17 B_17 N1_17 N2_17;clear k18;obtain ⟨g0,g1,g2,_⟩:=T_18.out.ra.cells;obtain ⟨h0,h1,h2,_⟩:=T_18.out.rb.cells))
     go_wp2
     go_ret
     exact ⟨rfl,T_18.out.k⟩
  ·have HE:=Zb (HEQ.out (of_decide_eq_true HBQ.out.symm))
   clear HBM HEQ
   go_wp2_with (go_at_call 168;(with_reducible refine (CC0.out _ _ _ m1_6.out m3_6.out).mono ?_);rintro e w7 ⟨rfl,k7⟩;refine Hid.out ?_)
   refine Zb ?_
   have T_7:=Zb (T_6.out.kp k7)
   have U_7:=Zb (U_6.out.kp k7)
   have m1_7:=Zb (m1_6.out.kp k7)
   have m2_7:=Zb (m2_6.out.kp k7)
   have V_7:=Zb (V_6.out.kp k7)
   have m3_7:=Zb (m3_6.out.kp k7)
   have m4_7:=Zb (m4_6.out.kp k7)
   have Z_7:=Zb (Z_6.out.kp k7)
   have XB_7:=Zb (XB_6.out.kp k7)
   clear T_6 U_6 m1_6 m2_6 V_6 m3_6 m4_6 Z_6 XB_6
   clear k7
   obtain ⟨g0,g1,g2,_⟩:=T_7.out.ra.cells
   obtain ⟨h0,h1,h2,_⟩:=T_7.out.rb.cells
   go_wp2
   go_ret
   exact ⟨Bx HE.out,T_7.out.k⟩
 ·have hox:okx=true∧oky=true:=by
   cases okx<;>cases oky<;>first|exact ⟨rfl,rfl⟩|exact absurd HT0.out (by decide)
  obtain ⟨rfl,rfl⟩:=hox
  obtain ⟨i1,i2,i3⟩:=HX.out rfl
  obtain rfl:=i1.symm
  obtain rfl:=i2.symm
  obtain rfl:=i3.symm
  obtain ⟨j1,j2,j3⟩:=HY.out rfl
  obtain rfl:=j1.symm
  obtain rfl:=j2.symm
  obtain rfl:=j3.symm
  clear HX HY HT0
  have CSC2:=Zb (CSC.out _ _ _ _ hnx hdx hny hdy)
  rw [←HCR.out] at CSC2
  have T_5:=Zb (T_4.out.kp (Kp.alloc _ (Obj.cells #[Value.bool q,Value.int IntKind.u64 (n2:Int),Value.int IntKind.u64 (e2:Int)] 142)))
  have U_5:=Zb (U_4.out.kp (Kp.alloc _ (Obj.cells #[Value.bool q,Value.int IntKind.u64 (n2:Int),Value.int IntKind.u64 (e2:Int)] 142)))
  have m1_5:=Zb (m1_4.out.kp (Kp.alloc _ (Obj.cells #[Value.bool q,Value.int IntKind.u64 (n2:Int),Value.int IntKind.u64 (e2:Int)] 142)))
  have m2_5:=Zb (m2_4.out.kp (Kp.alloc _ (Obj.cells #[Value.bool q,Value.int IntKind.u64 (n2:Int),Value.int IntKind.u64 (e2:Int)] 142)))
  have V_5:=Zb (V_4.out.kp (Kp.alloc _ (Obj.cells #[Value.bool q,Value.int IntKind.u64 (n2:Int),Value.int IntKind.u64 (e2:Int)] 142)))
  have m3_5:=Zb (m3_4.out.kp (Kp.alloc _ (Obj.cells #[Value.bool q,Value.int IntKind.u64 (n2:Int),Value.int IntKind.u64 (e2:Int)] 142)))
  have m4_5:=Zb (m4_4.out.kp (Kp.alloc _ (Obj.cells #[Value.bool q,Value.int IntKind.u64 (n2:Int),Value.int IntKind.u64 (e2:Int)] 142)))
  have Z_5:=Zb (Z_4.out.kp (Kp.alloc _ (Obj.cells #[Value.bool q,Value.int IntKind.u64 (n2:Int),Value.int IntKind.u64 (e2:Int)] 142)))
  have XB_5:=Zb (XB_4.out.kp (Kp.alloc _ (Obj.cells #[Value.bool q,Value.int IntKind.u64 (n2:Int),Value.int IntKind.u64 (e2:Int)] 142)))
  clear T_4 U_4 m1_4 m2_4 V_4 m3_4 m4_4 Z_4 XB_4
  obtain ⟨x0,x1,x2,_⟩:=XB_5.out.cells
  go_wp2_with (go_at_call 167;(with_reducible refine (CSC2.out _).mono ?_);rintro e w6 ⟨rfl,k6⟩;refine Hid.out ?_)
  refine Zb ?_
  have T_6:=Zb (T_5.out.kp k6)
  have U_6:=Zb (U_5.out.kp k6)
  have m1_6:=Zb (m1_5.out.kp k6)
  have m2_6:=Zb (m2_5.out.kp k6)
  have V_6:=Zb (V_5.out.kp k6)
  have m3_6:=Zb (m3_5.out.kp k6)
  have m4_6:=Zb (m4_5.out.kp k6)
  have Z_6:=Zb (Z_5.out.kp k6)
  have XB_6:=Zb (XB_5.out.kp k6)
  clear T_5 U_5 m1_5 m2_5 V_5 m3_5 m4_5 Z_5 XB_5
  clear k6
  go_wp2
  go_ret
  exact ⟨rfl,T_6.out.k⟩
set_option maxRecDepth 20000 in
theorem Pw {w:World} {u:Value} {x:Rat} (hu:Ao w u x) {v:Value} {y:Rat} (hv:Ao w v y) (h9:A9 x≠A9 y):
  Calls Tryz.prog 71 #[u,v] w fun e w'=>e= .returned (.int .i64 (Cd x y))∧Kp w w':=by
 rw [J3 h9]
 obtain ⟨a1,l1,c1,a2,l2,c2,rfl,m1,m2⟩:=hu.parts
 obtain ⟨a3,l3,c3,a4,l4,c4,rfl,m3,m4⟩:=hv.parts
 have HT:=Zb (P2.new w (.bool (decide (x.num<0))) (.slice a1 l1 c1) (.slice a2 l2 c2) (.bool (decide (y.num<0))) (.slice a3 l3 c3) (.slice a4 l4 c4))
 have HU:=Zb hu
 have HV:=Zb hv
 have CA:=Zb (fun w' a (ha:Ao w' a x)=>Fh ha)
 have CB:=Zb (fun w' a (ha:Ao w' a y)=>Fh ha)
 obtain ⟨p,hp⟩: ∃b,b=decide (x.num<0):=⟨_,rfl⟩
 try rw [←hp] at HT
 try rw [←hp] at HU
 try rw [←hp] at HV
 try rw [←hp] at CA
 try rw [←hp] at CB
 try rw [←hp]
 have HPp:=Zb hp
 obtain ⟨q,hq⟩: ∃b,b=decide (y.num<0):=⟨_,rfl⟩
 try rw [←hq] at HT
 try rw [←hq] at HU
 try rw [←hq] at HV
 try rw [←hq] at CA
 try rw [←hq] at CB
 try rw [←hq]
 have HPq:=Zb hq
 clear hu m1 m2 hp hv m3 m4 hq
 have hbx: -1≤A9 x∧A9 x≤1:=by unfold A9;split<;>first|omega|(split<;>omega)
 have hby: -1≤A9 y∧A9 y≤1:=by unfold A9;split<;>first|omega|(split<;>omega)
 obtain ⟨sx,hsx⟩: ∃s,s=A9 x:=⟨_,rfl⟩
 obtain ⟨sy,hsy⟩: ∃s,s=A9 y:=⟨_,rfl⟩
 rw [←hsx] at CA h9 hbx⊢
 rw [←hsy] at CB h9 hby⊢
 clear hsx hsy
 have hne:(sx !=sy)=true:=by rw [bne_iff_ne];exact h9
 obtain ⟨hbx1,hbx2⟩:=hbx
 obtain ⟨hby1,hby2⟩:=hby
 clear h9
 go_enter Tryz.func71,Tryz.ntmps71
 have KN:=HT.out.k
 have U_e:=Zb (HU.out.kp KN)
 have V_e:=Zb (HV.out.kp KN)
 clear KN
 obtain ⟨g0,g1,g2,_⟩:=HT.out.ra.cells
 obtain ⟨h0,h1,h2,_⟩:=HT.out.rb.cells
 go_upto_region 1 with fail
 have T_2:=Zb (HT.out.kp (Below.refl _ _).drew)
 have U_2:=Zb (U_e.out.kp (Below.refl _ _).drew)
 have V_2:=Zb (V_e.out.kp (Below.refl _ _).drew)
 clear HT U_e V_e
 go_region_held3 (fun w'=>w'.cell? ⟨w.heap.size,0,none⟩=some (.bool p)∧w'.cell? ⟨w.heap.size,1,none⟩=some (.slice a1 l1 c1)∧w'.cell? ⟨w.heap.size,2,none⟩=some (.slice a2 l2 c2)∧w'.cell? ⟨w.heap.size+1,0,none⟩=some (.bool q)∧w'.cell? ⟨w.heap.size+1,1,none⟩=some (.slice a3 l3 c3)∧w'.cell? ⟨w.heap.size+1,2,none⟩=some (.slice a4 l4 c4))
  (first|(refine ⟨?_,?_,?_,?_,?_,?_⟩<;>assumption)|go_keep)
  (first
   | (go_at_call 85;(with_reducible refine (CA.out _ _ U_2.out).mono ?_);rintro e w3 ⟨rfl,k3⟩;have T_3:=Zb (T_2.out.kp k3);have U_3:=Zb (U_2.out.kp k3);have V_3:=Zb (V_2.out.kp k3);clear T_2 U_2 V_2;clear k3;obtain ⟨g0,g1,g2,_⟩:=T_3.out.ra.cells;obtain ⟨h0,h1,h2,_⟩:=T_3.out.rb.cells)
   | (go_at_call 85;(with_reducible refine (CB.out _ _ V_3.out).mono ?_);rintro e w4 ⟨rfl,k4⟩;have T_4:=Zb (T_3.out.kp k4);have U_4:=Zb (U_3.out.kp k4);have V_4:=Zb (V_3.out.kp k4);clear T_3 U_3 V_3;clear k4;obtain ⟨g0,g1,g2,_⟩:=T_4.out.ra.cells;obtain ⟨h0,h1,h2,_⟩:=T_4.out.rb.cells))
 go_wp2
 go_ret
 exact ⟨Bx (by omega),T_4.out.k⟩
set_option maxRecDepth 20000 in
theorem Pv {w:World} {u:Value} {x:Rat} (hu:Ao w u x) {v:Value} {y:Rat} (hv:Ao w v y) {j k:Nat} (hs:RSz j x) (ht:RSz k y) (hj:j≤500000000) (hk:k≤500000000) (h9:A9 x=A9 y) (hT:Tz w):
  Calls Tryz.prog 71 #[u,v] w fun e w'=>e= .returned (.int .i64 (if decide (x.num<0)=true then AY (y.num.natAbs*x.den) (x.num.natAbs*y.den) else AY (x.num.natAbs*y.den) (y.num.natAbs*x.den)))∧Kp w w':=by
 have hz:x.num=0↔y.num=0:=by
  have e1:=IV (x:=x)
  have e2:=IV (x:=y)
  rw [←Rat.num_eq_zero] at e1 e2
  rw [←e1,←e2,h9]
 have hsn:decide (A9 x<0)=decide (x.num<0):=by
  refine decide_eq_decide.2 ?_
  unfold A9
  split
  ·omega
  ·split<;>omega
 obtain ⟨a1,l1,c1,a2,l2,c2,rfl,m1,m2⟩:=hu.parts
 obtain ⟨a3,l3,c3,a4,l4,c4,rfl,m3,m4⟩:=hv.parts
 have HT:=Zb (P2.new w (.bool (decide (x.num<0))) (.slice a1 l1 c1) (.slice a2 l2 c2) (.bool (decide (y.num<0))) (.slice a3 l3 c3) (.slice a4 l4 c4))
 have HU:=Zb hu
 have HV:=Zb hv
 have HZ:=Zb hT
 have CA:=Zb (fun w' a (ha:Ao w' a x)=>Fh ha)
 have CB:=Zb (fun w' a (ha:Ao w' a y)=>Fh ha)
 have C1:=Zb (fun w' a b (ha:Ao w' a x) (hb:Ao w' b y) (t:Tz w')=>Li ha hb hs ht hj hk hz t)
 have C2:=Zb (fun w' a b (ha:Ao w' a x) (hb:Ao w' b y) (t:Tz w')=>Li hb ha ht hs hk hj hz.symm t)
 have HSN:=Zb (hsn)
 obtain ⟨p,hp⟩: ∃b,b=decide (x.num<0):=⟨_,rfl⟩
 try rw [←hp] at HT
 try rw [←hp] at HU
 try rw [←hp] at HV
 try rw [←hp] at CA
 try rw [←hp] at CB
 try rw [←hp] at C1
 try rw [←hp] at C2
 try rw [←hp] at HSN
 try rw [←hp]
 have HPp:=Zb hp
 obtain ⟨q,hq⟩: ∃b,b=decide (y.num<0):=⟨_,rfl⟩
 try rw [←hq] at HT
 try rw [←hq] at HU
 try rw [←hq] at HV
 try rw [←hq] at CA
 try rw [←hq] at CB
 try rw [←hq] at C1
 try rw [←hq] at C2
 try rw [←hq] at HSN
 try rw [←hq]
 have HPq:=Zb hq
 clear hu m1 m2 hp hv m3 m4 hq hT
 obtain ⟨sx,hsx⟩: ∃s,s=A9 x:=⟨_,rfl⟩
 rw [←h9] at CB
 rw [←hsx] at CA CB HSN
 clear hsx h9 hs ht hj hk hz hsn
 have hsb:(sx !=sx)=false:=by simp
 cases p
 ·have hsl:=HSN.out
  go_enter Tryz.func71,Tryz.ntmps71
  have KN:=HT.out.k
  have U_e:=Zb (HU.out.kp KN)
  have V_e:=Zb (HV.out.kp KN)
  have Z_e:=Zb (HZ.out.kp KN)
  clear KN
  obtain ⟨g0,g1,g2,_⟩:=HT.out.ra.cells
  obtain ⟨h0,h1,h2,_⟩:=HT.out.rb.cells
  go_upto_region 1 with fail
  have T_2:=Zb (HT.out.kp (Below.refl _ _).drew)
  have U_2:=Zb (U_e.out.kp (Below.refl _ _).drew)
  have V_2:=Zb (V_e.out.kp (Below.refl _ _).drew)
  have Z_2:=Zb (Z_e.out.kp (Below.refl _ _).drew)
  clear HT U_e V_e Z_e
  go_region_held3 (fun w'=>w'.cell? ⟨w.heap.size,0,none⟩=some (.bool false)∧w'.cell? ⟨w.heap.size,1,none⟩=some (.slice a1 l1 c1)∧w'.cell? ⟨w.heap.size,2,none⟩=some (.slice a2 l2 c2)∧w'.cell? ⟨w.heap.size+1,0,none⟩=some (.bool q)∧w'.cell? ⟨w.heap.size+1,1,none⟩=some (.slice a3 l3 c3)∧w'.cell? ⟨w.heap.size+1,2,none⟩=some (.slice a4 l4 c4))
   (first|(refine ⟨?_,?_,?_,?_,?_,?_⟩<;>assumption)|go_keep)
   (first
    | (go_at_call 85;(with_reducible refine (CA.out _ _ U_2.out).mono ?_);rintro e w3 ⟨rfl,k3⟩;have T_3:=Zb (T_2.out.kp k3);have U_3:=Zb (U_2.out.kp k3);have V_3:=Zb (V_2.out.kp k3);have Z_3:=Zb (Z_2.out.kp k3);clear T_2 U_2 V_2 Z_2;clear k3;obtain ⟨g0,g1,g2,_⟩:=T_3.out.ra.cells;obtain ⟨h0,h1,h2,_⟩:=T_3.out.rb.cells)
    | (go_at_call 85;(with_reducible refine (CB.out _ _ V_3.out).mono ?_);rintro e w4 ⟨rfl,k4⟩;have T_4:=Zb (T_3.out.kp k4);have U_4:=Zb (U_3.out.kp k4);have V_4:=Zb (V_3.out.kp k4);have Z_4:=Zb (Z_3.out.kp k4);clear T_3 U_3 V_3 Z_3;clear k4;obtain ⟨g0,g1,g2,_⟩:=T_4.out.ra.cells;obtain ⟨h0,h1,h2,_⟩:=T_4.out.rb.cells))
  go_wp2_with (go_at_call 138;(with_reducible refine (C1.out _ _ _ U_4.out V_4.out Z_4.out).mono ?_);rintro e w5 ⟨rfl,k5⟩;refine Hid.out ?_)
  refine Zb ?_
  have T_5:=Zb (T_4.out.kp k5)
  have U_5:=Zb (U_4.out.kp k5)
  have V_5:=Zb (V_4.out.kp k5)
  have Z_5:=Zb (Z_4.out.kp k5)
  clear T_4 U_4 V_4 Z_4
  clear k5
  obtain ⟨g0,g1,g2,_⟩:=T_5.out.ra.cells
  obtain ⟨h0,h1,h2,_⟩:=T_5.out.rb.cells
  go_wp2
  go_ret
  exact ⟨by simp,T_5.out.k⟩
 ·have hsl:=HSN.out
  go_enter Tryz.func71,Tryz.ntmps71
  have KN:=HT.out.k
  have U_e:=Zb (HU.out.kp KN)
  have V_e:=Zb (HV.out.kp KN)
  have Z_e:=Zb (HZ.out.kp KN)
  clear KN
  obtain ⟨g0,g1,g2,_⟩:=HT.out.ra.cells
  obtain ⟨h0,h1,h2,_⟩:=HT.out.rb.cells
  go_upto_region 1 with fail
  have T_2:=Zb (HT.out.kp (Below.refl _ _).drew)
  have U_2:=Zb (U_e.out.kp (Below.refl _ _).drew)
  have V_2:=Zb (V_e.out.kp (Below.refl _ _).drew)
  have Z_2:=Zb (Z_e.out.kp (Below.refl _ _).drew)
  clear HT U_e V_e Z_e
  go_region_held3 (fun w'=>w'.cell? ⟨w.heap.size,0,none⟩=some (.bool true)∧w'.cell? ⟨w.heap.size,1,none⟩=some (.slice a1 l1 c1)∧w'.cell? ⟨w.heap.size,2,none⟩=some (.slice a2 l2 c2)∧w'.cell? ⟨w.heap.size+1,0,none⟩=some (.bool q)∧w'.cell? ⟨w.heap.size+1,1,none⟩=some (.slice a3 l3 c3)∧w'.cell? ⟨w.heap.size+1,2,none⟩=some (.slice a4 l4 c4))
   (first|(refine ⟨?_,?_,?_,?_,?_,?_⟩<;>assumption)|go_keep)
   (first
    | (go_at_call 85;(with_reducible refine (CA.out _ _ U_2.out).mono ?_);rintro e w3 ⟨rfl,k3⟩;have T_3:=Zb (T_2.out.kp k3);have U_3:=Zb (U_2.out.kp k3);have V_3:=Zb (V_2.out.kp k3);have Z_3:=Zb (Z_2.out.kp k3);clear T_2 U_2 V_2 Z_2;clear k3;obtain ⟨g0,g1,g2,_⟩:=T_3.out.ra.cells;obtain ⟨h0,h1,h2,_⟩:=T_3.out.rb.cells)
    | (go_at_call 85;(with_reducible refine (CB.out _ _ V_3.out).mono ?_);rintro e w4 ⟨rfl,k4⟩;have T_4:=Zb (T_3.out.kp k4);have U_4:=Zb (U_3.out.kp k4);have V_4:=Zb (V_3.out.kp k4);have Z_4:=Zb (Z_3.out.kp k4);clear T_3 U_3 V_3 Z_3;clear k4;obtain ⟨g0,g1,g2,_⟩:=T_4.out.ra.cells;obtain ⟨h0,h1,h2,_⟩:=T_4.out.rb.cells))
  go_wp2_with (go_at_call 138;(with_reducible refine (C2.out _ _ _ U_4.out V_4.out Z_4.out).mono ?_);rintro e w5 ⟨rfl,k5⟩;refine Hid.out ?_)
  refine Zb ?_
  have T_5:=Zb (T_4.out.kp k5)
  have U_5:=Zb (U_4.out.kp k5)
  have V_5:=Zb (V_4.out.kp k5)
  have Z_5:=Zb (Z_4.out.kp k5)
  clear T_4 U_4 V_4 Z_4
  clear k5
  obtain ⟨g0,g1,g2,_⟩:=T_5.out.ra.cells
  obtain ⟨h0,h1,h2,_⟩:=T_5.out.rb.cells
  go_wp2
  go_ret
  exact ⟨by simp,T_5.out.k⟩
theorem Jv {w:World} {u:Value} {x:Rat} (hu:Ao w u x) {v:Value} {y:Rat} (hv:Ao w v y) {j k:Nat} (hs:RSz j x) (ht:RSz k y) (hj:j≤500000000) (hk:k≤500000000) (hT:Tz w):
  Calls Tryz.prog 71 #[u,v] w fun e w'=>e= .returned (.int .i64 (Cd x y))∧Kp w w':=by
 by_cases h9:A9 x=A9 y
 ·have h:=Pv hu hv hs ht hj hk h9 hT
  have he:(if decide (x.num<0)=true then AY (y.num.natAbs*x.den) (x.num.natAbs*y.den) else AY (x.num.natAbs*y.den) (y.num.natAbs*x.den))=Cd x y:=by
   unfold A9 at h9
   by_cases hx:x.num<0
   ·rw [if_pos (decide_eq_true hx)]
    refine (Ov (by omega) ?_).symm
    by_cases hy:y.num≤0
    ·exact hy
    ·rw [if_neg (by omega),if_pos hx,if_neg (by omega),if_neg (by omega)] at h9
     omega
   ·rw [if_neg (by rw [decide_eq_false hx];decide)]
    refine (J4 (by omega) ?_).symm
    by_cases hy:0≤y.num
    ·exact hy
    ·rw [if_neg hx,if_neg (by omega: ¬y.num=0),if_pos (by omega)] at h9
     split at h9<;>omega
  rw [he] at h
  exact h
 ·exact Pw hu hv h9
set_option maxRecDepth 20000 in
theorem TY {w:World} {u:Value} {x:Rat} (hu:Ao w u x) {v:Value} {y:Rat} (hv:Ao w v y) {j k:Nat} (hs:RSz j x) (ht:RSz k y) (hj:j≤500000000) (hk:k≤500000000) (hT:Tz w):
  Calls Tryz.prog 139 #[u,v] w fun e w'=> ∃r,e= .returned r∧Ao w' r (if Cd x y≤0 then x else y)∧Kp w w':=by
 obtain ⟨a1,l1,c1,a2,l2,c2,rfl,m1,m2⟩:=hu.parts
 obtain ⟨a3,l3,c3,a4,l4,c4,rfl,m3,m4⟩:=hv.parts
 have HT:=Zb (Two.new w (.bool (decide (x.num<0))) (.slice a1 l1 c1) (.slice a2 l2 c2) (.bool (decide (y.num<0))) (.slice a3 l3 c3) (.slice a4 l4 c4))
 have HU:=Zb hu
 have HV:=Zb hv
 have HZ:=Zb hT
 have CC:=Zb (fun w' a b (ha:Ao w' a x) (hb:Ao w' b y) (t:Tz w')=>Jv ha hb hs ht hj hk t)
 have CW1:=Zb (fun w' a (ha:Ao w' a x)=>by have h:=Dx (neg:=decide (x.num<0)) ha hs (by omega);rw [AU] at h;exact h)
 have CW2:=Zb (fun w' a (ha:Ao w' a y)=>by have h:=Dx (neg:=decide (y.num<0)) ha ht (by omega);rw [AU] at h;exact h)
 obtain ⟨p,hp⟩: ∃b,b=decide (x.num<0):=⟨_,rfl⟩
 try rw [←hp] at HT
 try rw [←hp] at HU
 try rw [←hp] at HV
 try rw [←hp] at CC
 try rw [←hp] at CW1
 try rw [←hp] at CW2
 try rw [←hp]
 have HPp:=Zb hp
 obtain ⟨q,hq⟩: ∃b,b=decide (y.num<0):=⟨_,rfl⟩
 try rw [←hq] at HT
 try rw [←hq] at HU
 try rw [←hq] at HV
 try rw [←hq] at CC
 try rw [←hq] at CW1
 try rw [←hq] at CW2
 try rw [←hq]
 have HPq:=Zb hq
 clear hu m1 m2 hp hv m3 m4 hq hT
 obtain ⟨c,hc⟩: ∃c,c=Cd x y:=⟨_,rfl⟩
 rw [←hc] at CC⊢
 clear hc hs ht hj hk
 by_cases hlt:c≤0
 ·rw [if_pos hlt]
  have hdl:decide (c≤0)=true:=decide_eq_true hlt
  go_enter Tryz.func139,Tryz.ntmps139
  have KN:=HT.out.k
  have U_e:=Zb (HU.out.kp KN)
  have V_e:=Zb (HV.out.kp KN)
  have Z_e:=Zb (HZ.out.kp KN)
  clear KN
  obtain ⟨g0,g1,g2,_⟩:=HT.out.ra.cells
  obtain ⟨h0,h1,h2,_⟩:=HT.out.rb.cells
  go_wp2_with (go_at_call 71;(with_reducible refine (CC.out _ _ _ U_e.out V_e.out Z_e.out).mono ?_);rintro e w2 ⟨rfl,k2⟩;refine Hid.out ?_)
  refine Zb ?_
  have T_2:=Zb (HT.out.kp k2)
  have U_2:=Zb (U_e.out.kp k2)
  have V_2:=Zb (V_e.out.kp k2)
  have Z_2:=Zb (Z_e.out.kp k2)
  clear HT U_e V_e Z_e
  clear k2
  obtain ⟨g0,g1,g2,_⟩:=T_2.out.ra.cells
  obtain ⟨h0,h1,h2,_⟩:=T_2.out.rb.cells
  go_wp2_with (go_at_call 171;(with_reducible refine (CW1.out _ _ U_2.out).mono ?_);rintro e w3 ⟨vr,rfl,hvr,k3⟩;refine Hid.out ?_)
  refine Zb ?_
  have T_3:=Zb (T_2.out.kp k3)
  have U_3:=Zb (U_2.out.kp k3)
  have V_3:=Zb (V_2.out.kp k3)
  have Z_3:=Zb (Z_2.out.kp k3)
  clear T_2 U_2 V_2 Z_2
  clear k3
  obtain ⟨sgn,q1,r1,s1,q2,r2,s2,rfl⟩:=hvr.lit
  obtain ⟨⟨e0,e1,e2,f0,f1,f2⟩,HPP,HV,HKF⟩:=AP T_3.out.rr T_3.out.k (Below.refl _ _) hvr (by omega)
  clear hvr
  obtain ⟨k0,k1,k2⟩:=HPP.out
  go_wp2
  exact bodyPost_ret (v:= .agg #[.bool sgn,.slice q1 r1 s1,.slice q2 r2 s2]) (by simp [results,Tryz.results139,go_sem,k0,k1,k2]) rfl ⟨_,rfl,HV.out,HKF.out⟩
 ·rw [if_neg hlt]
  have hdl:decide (c≤0)=false:=decide_eq_false hlt
  go_enter Tryz.func139,Tryz.ntmps139
  have KN:=HT.out.k
  have U_e:=Zb (HU.out.kp KN)
  have V_e:=Zb (HV.out.kp KN)
  have Z_e:=Zb (HZ.out.kp KN)
  clear KN
  obtain ⟨g0,g1,g2,_⟩:=HT.out.ra.cells
  obtain ⟨h0,h1,h2,_⟩:=HT.out.rb.cells
  go_wp2_with (go_at_call 71;(with_reducible refine (CC.out _ _ _ U_e.out V_e.out Z_e.out).mono ?_);rintro e w2 ⟨rfl,k2⟩;refine Hid.out ?_)
  refine Zb ?_
  have T_2:=Zb (HT.out.kp k2)
  have U_2:=Zb (U_e.out.kp k2)
  have V_2:=Zb (V_e.out.kp k2)
  have Z_2:=Zb (Z_e.out.kp k2)
  clear HT U_e V_e Z_e
  clear k2
  obtain ⟨g0,g1,g2,_⟩:=T_2.out.ra.cells
  obtain ⟨h0,h1,h2,_⟩:=T_2.out.rb.cells
  go_wp2_with (go_at_call 171;(with_reducible refine (CW2.out _ _ V_2.out).mono ?_);rintro e w3 ⟨vr,rfl,hvr,k3⟩;refine Hid.out ?_)
  refine Zb ?_
  have T_3:=Zb (T_2.out.kp k3)
  have U_3:=Zb (U_2.out.kp k3)
  have V_3:=Zb (V_2.out.kp k3)
  have Z_3:=Zb (Z_2.out.kp k3)
  clear T_2 U_2 V_2 Z_2
  clear k3
  obtain ⟨sgn,q1,r1,s1,q2,r2,s2,rfl⟩:=hvr.lit
  obtain ⟨⟨e0,e1,e2,f0,f1,f2⟩,HPP,HV,HKF⟩:=AP T_3.out.rr T_3.out.k (Below.refl _ _) hvr (by omega)
  clear hvr
  obtain ⟨k0,k1,k2⟩:=HPP.out
  go_wp2
  exact bodyPost_ret (v:= .agg #[.bool sgn,.slice q1 r1 s1,.slice q2 r2 s2]) (by simp [results,Tryz.results139,go_sem,k0,k1,k2]) rfl ⟨_,rfl,HV.out,HKF.out⟩
set_option maxRecDepth 20000 in
theorem TZ {w:World} {u:Value} {x:Rat} (hu:Ao w u x) {v:Value} {y:Rat} (hv:Ao w v y) {j k:Nat} (hs:RSz j x) (ht:RSz k y) (hj:j≤500000000) (hk:k≤500000000) (hT:Tz w):
  Calls Tryz.prog 140 #[u,v] w fun e w'=> ∃r,e= .returned r∧Ao w' r (if 0≤Cd x y then x else y)∧Kp w w':=by
 obtain ⟨a1,l1,c1,a2,l2,c2,rfl,m1,m2⟩:=hu.parts
 obtain ⟨a3,l3,c3,a4,l4,c4,rfl,m3,m4⟩:=hv.parts
 have HT:=Zb (Two.new w (.bool (decide (x.num<0))) (.slice a1 l1 c1) (.slice a2 l2 c2) (.bool (decide (y.num<0))) (.slice a3 l3 c3) (.slice a4 l4 c4))
 have HU:=Zb hu
 have HV:=Zb hv
 have HZ:=Zb hT
 have CC:=Zb (fun w' a b (ha:Ao w' a x) (hb:Ao w' b y) (t:Tz w')=>Jv ha hb hs ht hj hk t)
 have CW1:=Zb (fun w' a (ha:Ao w' a x)=>by have h:=Dx (neg:=decide (x.num<0)) ha hs (by omega);rw [AU] at h;exact h)
 have CW2:=Zb (fun w' a (ha:Ao w' a y)=>by have h:=Dx (neg:=decide (y.num<0)) ha ht (by omega);rw [AU] at h;exact h)
 obtain ⟨p,hp⟩: ∃b,b=decide (x.num<0):=⟨_,rfl⟩
 try rw [←hp] at HT
 try rw [←hp] at HU
 try rw [←hp] at HV
 try rw [←hp] at CC
 try rw [←hp] at CW1
 try rw [←hp] at CW2
 try rw [←hp]
 have HPp:=Zb hp
 obtain ⟨q,hq⟩: ∃b,b=decide (y.num<0):=⟨_,rfl⟩
 try rw [←hq] at HT
 try rw [←hq] at HU
 try rw [←hq] at HV
 try rw [←hq] at CC
 try rw [←hq] at CW1
 try rw [←hq] at CW2
 try rw [←hq]
 have HPq:=Zb hq
 clear hu m1 m2 hp hv m3 m4 hq hT
 obtain ⟨c,hc⟩: ∃c,c=Cd x y:=⟨_,rfl⟩
 rw [←hc] at CC⊢
 clear hc hs ht hj hk
 by_cases hlt:0≤c
 ·rw [if_pos hlt]
  have hdl:decide (0≤c)=true:=decide_eq_true hlt
  go_enter Tryz.func140,Tryz.ntmps140
  have KN:=HT.out.k
  have U_e:=Zb (HU.out.kp KN)
  have V_e:=Zb (HV.out.kp KN)
  have Z_e:=Zb (HZ.out.kp KN)
  clear KN
  obtain ⟨g0,g1,g2,_⟩:=HT.out.ra.cells
  obtain ⟨h0,h1,h2,_⟩:=HT.out.rb.cells
  go_wp2_with (go_at_call 71;(with_reducible refine (CC.out _ _ _ U_e.out V_e.out Z_e.out).mono ?_);rintro e w2 ⟨rfl,k2⟩;refine Hid.out ?_)
  refine Zb ?_
  have T_2:=Zb (HT.out.kp k2)
  have U_2:=Zb (U_e.out.kp k2)
  have V_2:=Zb (V_e.out.kp k2)
  have Z_2:=Zb (Z_e.out.kp k2)
  clear HT U_e V_e Z_e
  clear k2
  obtain ⟨g0,g1,g2,_⟩:=T_2.out.ra.cells
  obtain ⟨h0,h1,h2,_⟩:=T_2.out.rb.cells
  go_wp2_with (go_at_call 171;(with_reducible refine (CW1.out _ _ U_2.out).mono ?_);rintro e w3 ⟨vr,rfl,hvr,k3⟩;refine Hid.out ?_)
  refine Zb ?_
  have T_3:=Zb (T_2.out.kp k3)
  have U_3:=Zb (U_2.out.kp k3)
  have V_3:=Zb (V_2.out.kp k3)
  have Z_3:=Zb (Z_2.out.kp k3)
  clear T_2 U_2 V_2 Z_2
  clear k3
  obtain ⟨sgn,q1,r1,s1,q2,r2,s2,rfl⟩:=hvr.lit
  obtain ⟨⟨e0,e1,e2,f0,f1,f2⟩,HPP,HV,HKF⟩:=AP T_3.out.rr T_3.out.k (Below.refl _ _) hvr (by omega)
  clear hvr
  obtain ⟨k0,k1,k2⟩:=HPP.out
  go_wp2
  exact bodyPost_ret (v:= .agg #[.bool sgn,.slice q1 r1 s1,.slice q2 r2 s2]) (by simp [results,Tryz.results140,go_sem,k0,k1,k2]) rfl ⟨_,rfl,HV.out,HKF.out⟩
 ·rw [if_neg hlt]
  have hdl:decide (0≤c)=false:=decide_eq_false hlt
  go_enter Tryz.func140,Tryz.ntmps140
  have KN:=HT.out.k
  have U_e:=Zb (HU.out.kp KN)
  have V_e:=Zb (HV.out.kp KN)
  have Z_e:=Zb (HZ.out.kp KN)
  clear KN
  obtain ⟨g0,g1,g2,_⟩:=HT.out.ra.cells
  obtain ⟨h0,h1,h2,_⟩:=HT.out.rb.cells
  go_wp2_with (go_at_call 71;(with_reducible refine (CC.out _ _ _ U_e.out V_e.out Z_e.out).mono ?_);rintro e w2 ⟨rfl,k2⟩;refine Hid.out ?_)
  refine Zb ?_
  have T_2:=Zb (HT.out.kp k2)
  have U_2:=Zb (U_e.out.kp k2)
  have V_2:=Zb (V_e.out.kp k2)
  have Z_2:=Zb (Z_e.out.kp k2)
  clear HT U_e V_e Z_e
  clear k2
  obtain ⟨g0,g1,g2,_⟩:=T_2.out.ra.cells
  obtain ⟨h0,h1,h2,_⟩:=T_2.out.rb.cells
  go_wp2_with (go_at_call 171;(with_reducible refine (CW2.out _ _ V_2.out).mono ?_);rintro e w3 ⟨vr,rfl,hvr,k3⟩;refine Hid.out ?_)
  refine Zb ?_
  have T_3:=Zb (T_2.out.kp k3)
  have U_3:=Zb (U_2.out.kp k3)
  have V_3:=Zb (V_2.out.kp k3)
  have Z_3:=Zb (Z_2.out.kp k3)
  clear T_2 U_2 V_2 Z_2
  clear k3
  obtain ⟨sgn,q1,r1,s1,q2,r2,s2,rfl⟩:=hvr.lit
  obtain ⟨⟨e0,e1,e2,f0,f1,f2⟩,HPP,HV,HKF⟩:=AP T_3.out.rr T_3.out.k (Below.refl _ _) hvr (by omega)
  clear hvr
  obtain ⟨k0,k1,k2⟩:=HPP.out
  go_wp2
  exact bodyPost_ret (v:= .agg #[.bool sgn,.slice q1 r1 s1,.slice q2 r2 s2]) (by simp [results,Tryz.results140,go_sem,k0,k1,k2]) rfl ⟨_,rfl,HV.out,HKF.out⟩
end Go.Proofs.YtnkobfcnflphkaaGreatDoor
