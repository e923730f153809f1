/-
  Several texts in one: Q4, Q5, Q6.
-/
import Derived.Test.YtfineedhebhpaaaGreatDoorBy
import Derived.Test.YtfineedhebhpaaaGreatDoorBc
import Derived.Test.YtfineedhebhpaaaGreatDoorBb
import Derived.Test.YtfineedhebhpaaaGreatDoorBm
import Derived.Test.YtfineedhebhpaaaGreatDoorBk
namespace Go.Proofs.YtfineedhebhpaaaGreatDoor
open Lib renaming hid→Xu
set_option maxHeartbeats 16000000
open Go.RowKit
theorem Ku (x y:Nat) (w:World):Calls Tryz.prog 266 #[.int .u64 (x:Nat),.int .u64 (y:Nat)] w fun e w'=>e= .returned (.int .i64 (AT x y))∧w'=w:=by
 rcases Nat.lt_trichotomy x y with h|h|h
 ·rw [BZ h]
  go_enter Tryz.func266,Tryz.ntmps266
  go_wp2
  go_ret
  exact ⟨rfl,rfl⟩
 ·rw [CW h]
  subst h
  go_enter Tryz.func266,Tryz.ntmps266
  go_wp2
  go_ret
  exact ⟨rfl,rfl⟩
 ·rw [B5 h]
  go_enter Tryz.func266,Tryz.ntmps266
  go_wp2
  go_ret
  exact ⟨rfl,rfl⟩
set_option maxRecDepth 20000 in
theorem UX (g:Nat) (a b:Int) (w:World) (h0:w.cell? ⟨g,0,none⟩=some (.int .i64 a)) (h1:w.cell? ⟨g,1,none⟩=some (.int .i64 b)):
  Calls Tryz.prog 265 #[.slice (some ⟨g,0,none⟩) 2 2] w fun e w'=>e= .returned (.int .i64 (if a=0 then b else a))∧w'=w:=by
 obtain ⟨r,hr⟩: ∃r,r=if a=0 then b else a:=⟨_,rfl⟩
 rw [←hr]
 have HR:=Xu hr
 clear hr
 go_enter Tryz.func265,Tryz.ntmps265
 go_wp2
 go_loop [5,8] (fun _ i=> ∃k:Nat,k≤2∧i= .int .i64 k∧(0<k→a=0)∧(1<k→b=0)) (fun _ i=>2-(intOf i).toNat)
 case atStart=>exact ⟨0,by omega,rfl,fun h=>by omega,fun h=>by omega⟩
 case round=>
  obtain ⟨k,hk,rfl,ha,hb⟩:=hrel
  rcases k with _|_|_|k
  ·clear ha hb
   by_cases e:a=0
   ·have hz:(a !=0)=false:=by simp [e]
    have HE:=Xu e
    clear e
    go_wp2
    go_round
    case rel=>exact ⟨1,by omega,by go_num,fun _=>HE.out,fun h=>by omega⟩
    case measure=>simp [intOf]
   ·have hz:(a !=0)=true:=by rw [bne_iff_ne];exact e
    have HE:=Xu e
    clear e
    go_wp2
    go_ret
    exact ⟨A8 (by rw [HR.out,if_neg HE.out]),rfl⟩
  ·have HA:=Xu (ha (by omega))
   clear ha hb
   by_cases e:b=0
   ·have hz:(b !=0)=false:=by simp [e]
    have HE:=Xu e
    clear e
    go_wp2
    go_round
    case rel=>exact ⟨2,by omega,by go_num,fun _=>HA.out,fun _=>HE.out⟩
    case measure=>simp [intOf]
   ·have hz:(b !=0)=true:=by rw [bne_iff_ne];exact e
    have HE:=Xu e
    clear e
    go_wp2
    go_ret
    exact ⟨A8 (by rw [HR.out,if_pos HA.out]),rfl⟩
  ·have HA:=Xu (ha (by omega))
   have HB:=Xu (hb (by omega))
   clear ha hb
   go_wp2
   go_ret
   exact ⟨A8 (by rw [HR.out,if_pos HA.out,HB.out]),rfl⟩
  ·omega
theorem Pd {P Q:Nat} :AT P Q=if AT (P/18446744073709551616) (Q/18446744073709551616)=0 then AT (P % 18446744073709551616) (Q % 18446744073709551616) else AT (P/18446744073709551616) (Q/18446744073709551616):=by
 unfold AT
 repeat' split
 all_goals omega
theorem Pe {m n d:Nat} (hd:d≠0):AT (m*d) (n*d)=AT m n:=by
 have hp:=Nat.pos_of_ne_zero hd
 rcases Nat.lt_trichotomy m n with h|h|h
 ·rw [BZ h,BZ (Nat.mul_lt_mul_of_pos_right h hp)]
 ·rw [CW h,CW (by rw [h])]
 ·rw [B5 h,B5 (Nat.mul_lt_mul_of_pos_right h hp)]
theorem Kx {m n:Nat} {a b c d:Nat} (ha:a≠0) (hb:b≠0) (hm:m=a*b) (hn:n=c*d) (h:Bz c+Bz d+2≤Bz a+Bz b):n<m:=by
 obtain ⟨a1,_,a3⟩:=Ft ha
 obtain ⟨b1,_,b3⟩:=Ft hb
 have lt: ∀z:Nat,z<2^Bz z:=fun z=>by
  by_cases hz:z=0
  ·subst hz;exact Nat.pow_pos (by decide)
  ·exact (Ft hz).2.1
 rw [hm,hn]
 have h1:c*d<2^(Bz c+Bz d):=by
  rw [Nat.pow_add]
  by_cases hc:c=0
  ·subst hc
   rw [Nat.zero_mul]
   exact Nat.mul_pos (Nat.pow_pos (by decide)) (Nat.pow_pos (by decide))
  ·exact Nat.mul_lt_mul_of_lt_of_le (lt c) (Nat.le_of_lt (lt d)) (Nat.pow_pos (by decide))
 refine Nat.lt_of_lt_of_le h1 (Nat.le_trans (Nat.pow_le_pow_right (by decide) (show Bz c+Bz d≤(Bz a-1)+(Bz b-1) by omega)) ?_)
 rw [Nat.pow_add]
 exact Nat.mul_le_mul a1 b1
theorem GW {n k:Nat} (h:Sz k n):Bz n≤32*k:=by
 by_cases h0:n=0
 ·subst h0;rw [Pj];omega
 ·have hl:=DN h0
  rw [Ff n hl]
  have h2:=DX (x:=(toL n).getD ((toL n).length-1) 0) (by
   have hL:=Bx n
   have hi:(toL n).length-1<(toL n).length:=by omega
   have he:(toL n).getD ((toL n).length-1) 0=(toL n)[(toL n).length-1]:=by simp [List.getD,hi]
   rw [he]
   exact hL _ (List.getElem_mem _))
  unfold Sz at h
  omega
theorem EH {x:Rat} (h:x.num=0):A0 x=0:=by
 have:=x.reduced
 rw [h,show (0:Int).natAbs=0 from rfl,Nat.coprime_zero_left] at this
 unfold A0
 rw [if_pos this]
set_option maxRecDepth 20000 in
theorem Sh (a b:Bool) (n d m e:Nat) (hn:n<18446744073709551616) (hd:d<18446744073709551616) (hm:m<18446744073709551616) (he:e<18446744073709551616) (w:World):
  Calls Tryz.prog 237 #[B8 a n d,B8 b m e] w fun ex w'=>ex= .returned (.int .i64 (AT (n*e) (m*d)))∧Kp w w':=by
 have HM1:=Xu (Tryz.bits_Mul64 n e hn he)
 have HM2:=Xu (Tryz.bits_Mul64 m d hm hd)
 unfold B8
 rw [Pd]
 obtain ⟨P,hP⟩: ∃P,P=n*e:=⟨_,rfl⟩
 obtain ⟨Q,hQ⟩: ∃Q,Q=m*d:=⟨_,rfl⟩
 rw [←hP] at HM1⊢
 rw [←hQ] at HM2⊢
 obtain ⟨p1,hp1⟩: ∃z,z=P/18446744073709551616:=⟨_,rfl⟩
 obtain ⟨p2,hp2⟩: ∃z,z=P % 18446744073709551616:=⟨_,rfl⟩
 obtain ⟨q1,hq1⟩: ∃z,z=Q/18446744073709551616:=⟨_,rfl⟩
 obtain ⟨q2,hq2⟩: ∃z,z=Q % 18446744073709551616:=⟨_,rfl⟩
 rw [←hp1,←hp2] at HM1⊢
 rw [←hq1,←hq2] at HM2⊢
 have HC1:=Xu (Ku p1 q1)
 have HC2:=Xu (Ku p2 q2)
 obtain ⟨c1,hc1⟩: ∃z,z=AT p1 q1:=⟨_,rfl⟩
 obtain ⟨c2,hc2⟩: ∃z,z=AT p2 q2:=⟨_,rfl⟩
 rw [←hc1] at HC1⊢
 rw [←hc2] at HC2⊢
 have KA: ∀o1 o2 o3:Obj,Kp w (((w.alloc o1).alloc o2).alloc o3):=fun o1 o2 o3=>((Kp.alloc w o1).tr (Kp.alloc _ o2)).tr (Kp.alloc _ o3)
 have HKA:=Xu KA
 have HOR:=Xu (fun w' g h0 h1=>UX g c1 c2 w' h0 h1)
 obtain ⟨r,hr⟩: ∃r,r=if c1=0 then c2 else c1:=⟨_,rfl⟩
 rw [←hr] at HOR⊢
 have HROW:=Xu (fun o1 o2:Obj=>(show (((w.alloc o1).alloc o2).alloc (Obj.cells #[Value.int .i64 c1,Value.int .i64 c2] 3)).heap[w.heap.size+1+1]?=some (Obj.cells #[Value.int .i64 c1,Value.int .i64 c2] 3) from by
  have h:=heap_alloc_new ((w.alloc o1).alloc o2) (Obj.cells #[Value.int .i64 c1,Value.int .i64 c2] 3)
  rw [World.size_alloc,World.size_alloc] at h
  exact h))
 clear KA hP hQ hp1 hp2 hq1 hq2 hc1 hc2 hr hn hd hm he
 go_enter Tryz.func237,Tryz.ntmps237
 go_wp2_with (first
  | (go_at_call 264;first|((with_reducible refine (HM1.out _).mono ?_);rintro e w1 ⟨rfl,rfl⟩)|((with_reducible refine (HM2.out _).mono ?_);rintro e w1 ⟨rfl,rfl⟩))
  | (go_at_call 266;first|((with_reducible refine (HC1.out _).mono ?_);rintro e w1 ⟨rfl,rfl⟩)|((with_reducible refine (HC2.out _).mono ?_);rintro e w1 ⟨rfl,rfl⟩))
  | (go_at_call 265;((with_reducible refine (HOR.out _ _ (cell_of_row _ _ 0 _ _ _ (HROW.out _ _)) (cell_of_row _ _ 1 _ _ _ (HROW.out _ _))).mono ?_);rintro e w1 ⟨rfl,rfl⟩)))
 go_ret
 exact ⟨rfl,HKA.out _ _ _⟩
set_option maxRecDepth 20000 in
theorem Ks {w:World} {u:Value} {x:Rat} (hu:Ax w u x) {v:Value} {y:Rat} (hv:Ax w v y) {j k:Nat} (hs:RSz j x) (ht:RSz k y) (hj:j≤500000000) (hk:k≤500000000) (h0:x.num=0↔y.num=0) (hT:Tz w):
  Calls Tryz.prog 200 #[u,v] w fun e w'=>e= .returned (.int .i64 (AT (x.num.natAbs*y.den) (y.num.natAbs*x.den)))∧Kp w w':=by
 obtain ⟨a1,l1,c1,a2,l2,c2,rfl,m1,m2⟩:=hu.parts
 obtain ⟨a3,l3,c3,a4,l4,c4,rfl,m3,m4⟩:=hv.parts
 have HT:=Xu (P2.new w (.bool (decide (x.num<0))) (.slice a1 l1 c1) (.slice a2 l2 c2) (.bool (decide (y.num<0))) (.slice a3 l3 c3) (.slice a4 l4 c4))
 have HU:=Xu hu
 have Hm1:=Xu m1
 have Hm2:=Xu m2
 have HV:=Xu hv
 have Hm3:=Xu m3
 have Hm4:=Xu m4
 have HZ:=Xu hT
 have CSA:=Xu (fun w' a (ha:Ax w' a x)=>by obtain ⟨n,d,e,m1,m2⟩:=ha;have h:=Dl (s:=decide (x.num<0)) m1 m2;rw [Dy,←e] at h;exact h)
 have CSB:=Xu (fun w' a (ha:Ax w' a y)=>by obtain ⟨n,d,e,m1,m2⟩:=ha;have h:=Dl (s:=decide (y.num<0)) m1 m2;rw [Dy,←e] at h;exact h)
 have CEQ:=Xu (fun w' (ha:M w' (.slice a2 l2 c2) (A0 x)) (hb:M w' (.slice a4 l4 c4) (A0 y))=>F8 _ _ _ _ w' ha hb)
 have CC0:=Xu (fun w' va vb (ha:M w' va x.num.natAbs) (hb:M w' vb y.num.natAbs)=>Pf ha hb)
 have CDA:=Xu (fun w' a (ha:Ax w' a x)=>by obtain ⟨n,d,e,m1,m2⟩:=ha;have h:=Jt (s:=decide (x.num<0)) m1 m2;rw [←e] at h;exact h)
 have CDB:=Xu (fun w' a (ha:Ax w' a y)=>by obtain ⟨n,d,e,m1,m2⟩:=ha;have h:=Jt (s:=decide (y.num<0)) m1 m2;rw [←e] at h;exact h)
 have CB1:=Xu (fun w' v (a:M w' v x.num.natAbs)=>E8 v _ w' a (by have:=hs.1;unfold Sz at this;omega))
 have CB2:=Xu (fun w' v (a:M w' v y.den)=>E8 v _ w' a (by have:=ht.2;unfold Sz at this;omega))
 have CB3:=Xu (fun w' v (a:M w' v y.num.natAbs)=>E8 v _ w' a (by have:=ht.1;unfold Sz at this;omega))
 have CB4:=Xu (fun w' v (a:M w' v x.den)=>E8 v _ w' a (by have:=hs.2;unfold Sz at this;omega))
 have CT1:=Xu (fun w' va vb (a:M w' va x.num.natAbs) (b:M w' vb y.den)=>DC a b hs.1 ht.2 (by omega) (by omega))
 have CT2:=Xu (fun w' va vb (a:M w' va y.num.natAbs) (b:M w' vb x.den)=>DC a b ht.1 hs.2 (by omega) (by omega))
 have CC1:=Xu (fun w' va vb (ha:M w' va (x.num.natAbs*y.den)) (hb:M w' vb (y.num.natAbs*x.den))=>Pf ha hb)
 have CSC:=Xu (fun n d m e hn hd hm he w'=>Sh (decide (x.num<0)) (decide (y.num<0)) n d m e hn hd hm he w')
 obtain ⟨p,hp⟩: ∃b,b=decide (x.num<0):=⟨_,rfl⟩
 try rw [←hp] at HT
 try rw [←hp] at HU
 try rw [←hp] at Hm1
 try rw [←hp] at Hm2
 try rw [←hp] at HV
 try rw [←hp] at Hm3
 try rw [←hp] at Hm4
 try rw [←hp] at CSA
 try rw [←hp] at CSB
 try rw [←hp] at CEQ
 try rw [←hp] at CC0
 try rw [←hp] at CDA
 try rw [←hp] at CDB
 try rw [←hp] at CB1
 try rw [←hp] at CB2
 try rw [←hp] at CB3
 try rw [←hp] at CB4
 try rw [←hp] at CT1
 try rw [←hp] at CT2
 try rw [←hp] at CC1
 try rw [←hp] at CSC
 try rw [←hp]
 have HPp:=Xu hp
 obtain ⟨q,hq⟩: ∃b,b=decide (y.num<0):=⟨_,rfl⟩
 try rw [←hq] at HT
 try rw [←hq] at HU
 try rw [←hq] at Hm1
 try rw [←hq] at Hm2
 try rw [←hq] at HV
 try rw [←hq] at Hm3
 try rw [←hq] at Hm4
 try rw [←hq] at CSA
 try rw [←hq] at CSB
 try rw [←hq] at CEQ
 try rw [←hq] at CC0
 try rw [←hq] at CDA
 try rw [←hq] at CDB
 try rw [←hq] at CB1
 try rw [←hq] at CB2
 try rw [←hq] at CB3
 try rw [←hq] at CB4
 try rw [←hq] at CT1
 try rw [←hq] at CT2
 try rw [←hq] at CC1
 try rw [←hq] at CSC
 try rw [←hq]
 have HPq:=Xu hq
 clear hu m1 m2 hp hv m3 m4 hq hT
 unfold B8 at CSA CSB CSC
 simp only [KH] at CEQ
 obtain ⟨bq,hbq⟩: ∃b,b=decide (A0 x=A0 y):=⟨_,rfl⟩
 rw [←hbq] at CEQ
 have HBQ:=Xu hbq
 clear hbq
 have hb1:=GW hs.1
 have hb2:=GW ht.2
 have hb3:=GW ht.1
 have hb4:=GW hs.2
 have HBM:=Xu (fun (h:A0 x≠A0 y)=>(show (Bz y.num.natAbs+Bz x.den+2≤Bz x.num.natAbs+Bz y.den→AT (x.num.natAbs*y.den) (y.num.natAbs*x.den)=1)∧(Bz x.num.natAbs+Bz y.den+2≤Bz y.num.natAbs+Bz x.den→AT (x.num.natAbs*y.den) (y.num.natAbs*x.den)= -1) from by
  have hx:x.num.natAbs≠0:=by
   intro e
   have e1:x.num=0:=Int.natAbs_eq_zero.1 e
   exact h (by rw [EH e1,EH (h0.1 e1)])
  have hy:y.num.natAbs≠0:=by
   intro e
   have e1:y.num=0:=Int.natAbs_eq_zero.1 e
   exact h (by rw [EH (h0.2 e1),EH e1])
  exact ⟨fun h2=>B5 (Kx hx y.den_nz rfl rfl h2),fun h2=>BZ (Kx hy x.den_nz rfl rfl h2)⟩))
 have HEQ:=Xu (fun (h:A0 x=A0 y)=>(show AT x.num.natAbs y.num.natAbs=AT (x.num.natAbs*y.den) (y.num.natAbs*x.den) from by
  have e:x.den=y.den:=Kr.1 h
  rw [e,Pe y.den_nz]))
 obtain ⟨b1,hb1'⟩: ∃b,b=Bz x.num.natAbs:=⟨_,rfl⟩
 rw [←hb1'] at CB1 HBM hb1
 clear hb1'
 obtain ⟨b2,hb2'⟩: ∃b,b=Bz y.den:=⟨_,rfl⟩
 rw [←hb2'] at CB2 HBM hb2
 clear hb2'
 obtain ⟨b3,hb3'⟩: ∃b,b=Bz y.num.natAbs:=⟨_,rfl⟩
 rw [←hb3'] at CB3 HBM hb3
 clear hb3'
 obtain ⟨b4,hb4'⟩: ∃b,b=Bz x.den:=⟨_,rfl⟩
 rw [←hb4'] at CB4 HBM hb4
 clear hb4'
 obtain ⟨cr,hcr⟩: ∃c,c=AT (x.num.natAbs*y.den) (y.num.natAbs*x.den):=⟨_,rfl⟩
 rw [←hcr] at CC1 HBM HEQ⊢
 have HCR:=Xu hcr
 obtain ⟨ce,hce⟩: ∃c,c=AT x.num.natAbs y.num.natAbs:=⟨_,rfl⟩
 rw [←hce] at CC0 HEQ
 clear hcr hce hs ht h0
 obtain ⟨n1,hn1⟩: ∃n,n=x.num.natAbs:=⟨_,rfl⟩
 obtain ⟨e1,he1⟩: ∃n,n=x.den:=⟨_,rfl⟩
 obtain ⟨n2,hn2⟩: ∃n,n=y.num.natAbs:=⟨_,rfl⟩
 obtain ⟨e2,he2⟩: ∃n,n=y.den:=⟨_,rfl⟩
 rw [←hn1] at CSA HCR
 rw [←he1] at CSA HCR
 rw [←hn2] at CSB HCR
 rw [←he2] at CSB HCR
 clear hn1 he1 hn2 he2
 go_enter Tryz.func200,Tryz.ntmps200
 have KN:=HT.out.k
 have U_e:=Xu (HU.out.kp KN)
 have m1_e:=Xu (Hm1.out.kp KN)
 have m2_e:=Xu (Hm2.out.kp KN)
 have V_e:=Xu (HV.out.kp KN)
 have m3_e:=Xu (Hm3.out.kp KN)
 have m4_e:=Xu (Hm4.out.kp KN)
 have Z_e:=Xu (HZ.out.kp KN)
 clear KN
 obtain ⟨g0,g1,g2,_⟩:=HT.out.ra.cells
 obtain ⟨h0,h1,h2,_⟩:=HT.out.rb.cells
 go_wp2_with (go_at_call 222;(with_reducible refine (CSA.out _ _ U_e.out).mono ?_);rintro e w2 ⟨sx,nx,dx,okx,rfl,hnx,hdx,hokx,k2⟩;refine Hid.out ?_)
 refine Xu ?_
 have T_2:=Xu (HT.out.kp k2)
 have U_2:=Xu (U_e.out.kp k2)
 have m1_2:=Xu (m1_e.out.kp k2)
 have m2_2:=Xu (m2_e.out.kp k2)
 have V_2:=Xu (V_e.out.kp k2)
 have m3_2:=Xu (m3_e.out.kp k2)
 have m4_2:=Xu (m4_e.out.kp k2)
 have Z_2:=Xu (Z_e.out.kp k2)
 clear HT U_e m1_e m2_e V_e m3_e m4_e Z_e
 clear k2
 have HX:=Xu hokx
 clear hokx
 have XB_2:=Xu (Shb.new w2 (.bool sx) (.int .u64 (nx:Int)) (.int .u64 (dx:Int)))
 have T_3:=Xu (T_2.out.kp (Kp.alloc _ (Obj.cells #[Value.bool sx,Value.int IntKind.u64 (nx:Int),Value.int IntKind.u64 (dx:Int)] 170)))
 have U_3:=Xu (U_2.out.kp (Kp.alloc _ (Obj.cells #[Value.bool sx,Value.int IntKind.u64 (nx:Int),Value.int IntKind.u64 (dx:Int)] 170)))
 have m1_3:=Xu (m1_2.out.kp (Kp.alloc _ (Obj.cells #[Value.bool sx,Value.int IntKind.u64 (nx:Int),Value.int IntKind.u64 (dx:Int)] 170)))
 have m2_3:=Xu (m2_2.out.kp (Kp.alloc _ (Obj.cells #[Value.bool sx,Value.int IntKind.u64 (nx:Int),Value.int IntKind.u64 (dx:Int)] 170)))
 have V_3:=Xu (V_2.out.kp (Kp.alloc _ (Obj.cells #[Value.bool sx,Value.int IntKind.u64 (nx:Int),Value.int IntKind.u64 (dx:Int)] 170)))
 have m3_3:=Xu (m3_2.out.kp (Kp.alloc _ (Obj.cells #[Value.bool sx,Value.int IntKind.u64 (nx:Int),Value.int IntKind.u64 (dx:Int)] 170)))
 have m4_3:=Xu (m4_2.out.kp (Kp.alloc _ (Obj.cells #[Value.bool sx,Value.int IntKind.u64 (nx:Int),Value.int IntKind.u64 (dx:Int)] 170)))
 have Z_3:=Xu (Z_2.out.kp (Kp.alloc _ (Obj.cells #[Value.bool sx,Value.int IntKind.u64 (nx:Int),Value.int IntKind.u64 (dx:Int)] 170)))
 clear T_2 U_2 m1_2 m2_2 V_2 m3_2 m4_2 Z_2
 obtain ⟨g0,g1,g2,_⟩:=T_3.out.ra.cells
 obtain ⟨h0,h1,h2,_⟩:=T_3.out.rb.cells
 go_wp2_with (go_at_call 222;(with_reducible refine (CSB.out _ _ V_3.out).mono ?_);rintro e w4 ⟨sy,ny,dy,oky,rfl,hny,hdy,hoky,k4⟩;refine Hid.out ?_)
 refine Xu ?_
 have T_4:=Xu (T_3.out.kp k4)
 have U_4:=Xu (U_3.out.kp k4)
 have m1_4:=Xu (m1_3.out.kp k4)
 have m2_4:=Xu (m2_3.out.kp k4)
 have V_4:=Xu (V_3.out.kp k4)
 have m3_4:=Xu (m3_3.out.kp k4)
 have m4_4:=Xu (m4_3.out.kp k4)
 have Z_4:=Xu (Z_3.out.kp k4)
 have XB_4:=Xu (XB_2.out.kp k4)
 clear T_3 U_3 m1_3 m2_3 V_3 m3_3 m4_3 Z_3 XB_2
 clear k4
 obtain ⟨g0,g1,g2,_⟩:=T_4.out.ra.cells
 obtain ⟨h0,h1,h2,_⟩:=T_4.out.rb.cells
 have HY:=Xu hoky
 clear hoky
 obtain ⟨x0,x1,x2,_⟩:=XB_4.out.cells
 obtain ⟨t0,ht0⟩: ∃t,t=(okx&&oky):=⟨_,rfl⟩
 have HT0:=Xu ht0
 clear ht0
 go_upto_region 3 with fail
 go_cut [25] (fun t wc=>t= .bool t0∧w4.alloc (Obj.cells #[Value.bool sy,Value.int IntKind.u64 (ny:Int),Value.int IntKind.u64 (dy:Int)] 170)=wc)
 case first=>
  cases okx
  ·obtain rfl:t0=false:=HT0.out
   go_wp2_with fail
   go_meet
   exact ⟨rfl,rfl⟩
  ·cases oky
   ·obtain rfl:t0=false:=HT0.out
    go_wp2_with fail
    go_meet
    exact ⟨rfl,rfl⟩
   ·obtain rfl:t0=true:=HT0.out
    go_wp2_with fail
    go_meet
    exact ⟨rfl,rfl⟩
 case rest=>
 obtain ⟨rfl,rfl⟩:=hcut
 cases t0
 ·clear HX HY CSC HCR HT0
  have T_5:=Xu (T_4.out.kp (Kp.alloc _ (Obj.cells #[Value.bool sy,Value.int IntKind.u64 (ny:Int),Value.int IntKind.u64 (dy:Int)] 170)))
  have U_5:=Xu (U_4.out.kp (Kp.alloc _ (Obj.cells #[Value.bool sy,Value.int IntKind.u64 (ny:Int),Value.int IntKind.u64 (dy:Int)] 170)))
  have m1_5:=Xu (m1_4.out.kp (Kp.alloc _ (Obj.cells #[Value.bool sy,Value.int IntKind.u64 (ny:Int),Value.int IntKind.u64 (dy:Int)] 170)))
  have m2_5:=Xu (m2_4.out.kp (Kp.alloc _ (Obj.cells #[Value.bool sy,Value.int IntKind.u64 (ny:Int),Value.int IntKind.u64 (dy:Int)] 170)))
  have V_5:=Xu (V_4.out.kp (Kp.alloc _ (Obj.cells #[Value.bool sy,Value.int IntKind.u64 (ny:Int),Value.int IntKind.u64 (dy:Int)] 170)))
  have m3_5:=Xu (m3_4.out.kp (Kp.alloc _ (Obj.cells #[Value.bool sy,Value.int IntKind.u64 (ny:Int),Value.int IntKind.u64 (dy:Int)] 170)))
  have m4_5:=Xu (m4_4.out.kp (Kp.alloc _ (Obj.cells #[Value.bool sy,Value.int IntKind.u64 (ny:Int),Value.int IntKind.u64 (dy:Int)] 170)))
  have Z_5:=Xu (Z_4.out.kp (Kp.alloc _ (Obj.cells #[Value.bool sy,Value.int IntKind.u64 (ny:Int),Value.int IntKind.u64 (dy:Int)] 170)))
  have XB_5:=Xu (XB_4.out.kp (Kp.alloc _ (Obj.cells #[Value.bool sy,Value.int IntKind.u64 (ny:Int),Value.int IntKind.u64 (dy:Int)] 170)))
  clear T_4 U_4 m1_4 m2_4 V_4 m3_4 m4_4 Z_4 XB_4
  obtain ⟨g0,g1,g2,_⟩:=T_5.out.ra.cells
  obtain ⟨h0,h1,h2,_⟩:=T_5.out.rb.cells
  go_wp2_with (go_at_call 201;(with_reducible refine (CEQ.out _ m2_5.out m4_5.out).mono ?_);rintro e w6 ⟨rfl,k6⟩;refine Hid.out ?_)
  refine Xu ?_
  have T_6:=Xu (T_5.out.kp k6)
  have U_6:=Xu (U_5.out.kp k6)
  have m1_6:=Xu (m1_5.out.kp k6)
  have m2_6:=Xu (m2_5.out.kp k6)
  have V_6:=Xu (V_5.out.kp k6)
  have m3_6:=Xu (m3_5.out.kp k6)
  have m4_6:=Xu (m4_5.out.kp k6)
  have Z_6:=Xu (Z_5.out.kp k6)
  have XB_6:=Xu (XB_5.out.kp k6)
  clear T_5 U_5 m1_5 m2_5 V_5 m3_5 m4_5 Z_5 XB_5
  clear k6
  obtain ⟨g0,g1,g2,_⟩:=T_6.out.ra.cells
  obtain ⟨h0,h1,h2,_⟩:=T_6.out.rb.cells
  cases bq
  ·have HE:=Xu (HBM.out (of_decide_eq_false HBQ.out.symm))
   clear HBM HEQ
   go_upto_region 7 with fail
   have T_7:=Xu (T_6.out.kp (Below.refl _ _).drew)
   have U_7:=Xu (U_6.out.kp (Below.refl _ _).drew)
   have m1_7:=Xu (m1_6.out.kp (Below.refl _ _).drew)
   have m2_7:=Xu (m2_6.out.kp (Below.refl _ _).drew)
   have V_7:=Xu (V_6.out.kp (Below.refl _ _).drew)
   have m3_7:=Xu (m3_6.out.kp (Below.refl _ _).drew)
   have m4_7:=Xu (m4_6.out.kp (Below.refl _ _).drew)
   have Z_7:=Xu (Z_6.out.kp (Below.refl _ _).drew)
   have XB_7:=Xu (XB_6.out.kp (Below.refl _ _).drew)
   clear T_6 U_6 m1_6 m2_6 V_6 m3_6 m4_6 Z_6 XB_6
   go_region_held3 (fun w'=>w'.cell? ⟨w.heap.size,0,none⟩=some (.bool p)∧w'.cell? ⟨w.heap.size,1,none⟩=some (.slice a1 l1 c1)∧w'.cell? ⟨w.heap.size,2,none⟩=some (.slice a2 l2 c2)∧w'.cell? ⟨w.heap.size+1,0,none⟩=some (.bool q)∧w'.cell? ⟨w.heap.size+1,1,none⟩=some (.slice a3 l3 c3)∧w'.cell? ⟨w.heap.size+1,2,none⟩=some (.slice a4 l4 c4))
    (first|(refine ⟨?_,?_,?_,?_,?_,?_⟩<;>assumption)|go_keep)
    (first
     | (go_at_call 180;(with_reducible refine (CDA.out _ _ U_7.out).mono ?_);rintro e w8 ⟨va,rfl,mA,k8⟩;have T_8:=Xu (T_7.out.kp k8);have U_8:=Xu (U_7.out.kp k8);have m1_8:=Xu (m1_7.out.kp k8);have m2_8:=Xu (m2_7.out.kp k8);have V_8:=Xu (V_7.out.kp k8);have m3_8:=Xu (m3_7.out.kp k8);have m4_8:=Xu (m4_7.out.kp k8);have Z_8:=Xu (Z_7.out.kp k8);have XB_8:=Xu (XB_7.out.kp k8);clear T_7 U_7 m1_7 m2_7 V_7 m3_7 m4_7 Z_7 XB_7;have A_8:=Xu mA;clear mA k8;obtain ⟨g0,g1,g2,_⟩:=T_8.out.ra.cells;obtain ⟨h0,h1,h2,_⟩:=T_8.out.rb.cells)
     | (go_at_call 180;(with_reducible refine (CDB.out _ _ V_8.out).mono ?_);rintro e w9 ⟨vb,rfl,mB,k9⟩;have T_9:=Xu (T_8.out.kp k9);have U_9:=Xu (U_8.out.kp k9);have m1_9:=Xu (m1_8.out.kp k9);have m2_9:=Xu (m2_8.out.kp k9);have V_9:=Xu (V_8.out.kp k9);have m3_9:=Xu (m3_8.out.kp k9);have m4_9:=Xu (m4_8.out.kp k9);have Z_9:=Xu (Z_8.out.kp k9);have XB_9:=Xu (XB_8.out.kp k9);have A_9:=Xu (A_8.out.kp k9);clear T_8 U_8 m1_8 m2_8 V_8 m3_8 m4_8 Z_8 XB_8 A_8;have B_9:=Xu mB;clear mB k9;obtain ⟨g0,g1,g2,_⟩:=T_9.out.ra.cells;obtain ⟨h0,h1,h2,_⟩:=T_9.out.rb.cells))
   have e1:IntKind.i64.wrap ((b1:Int)+(b2:Int))=(b1:Int)+(b2:Int):=IntWalk.i64_in _ (by omega)
   have e2:IntKind.i64.wrap ((b1:Int)+(b2:Int)-(b3:Int))=(b1:Int)+(b2:Int)-(b3:Int):=IntWalk.i64_in _ (by omega)
   have e4:IntKind.i64.wrap ((b1:Int)+(b2:Int)-(b3:Int)-(b4:Int))=(b1:Int)+(b2:Int)-(b3:Int)-(b4:Int):=IntWalk.i64_in _ (by omega)
   obtain ⟨mo,hmo⟩: ∃m:Int,m=(b1:Int)+(b2:Int)-(b3:Int)-(b4:Int):=⟨_,rfl⟩
   have HMO:=Xu (show (1<mo→cr=1)∧(mo< -1→cr= -1) from ⟨fun h=>HE.out.1 (by omega),fun h=>HE.out.2 (by omega)⟩)
   have e3:=e4.trans hmo.symm
   clear e4 HE hmo hb1 hb2 hb3 hb4
   go_upto_region 8 with fail
   have T_10:=Xu (T_9.out.kp (Below.refl _ _).drew)
   have U_10:=Xu (U_9.out.kp (Below.refl _ _).drew)
   have m1_10:=Xu (m1_9.out.kp (Below.refl _ _).drew)
   have m2_10:=Xu (m2_9.out.kp (Below.refl _ _).drew)
   have V_10:=Xu (V_9.out.kp (Below.refl _ _).drew)
   have m3_10:=Xu (m3_9.out.kp (Below.refl _ _).drew)
   have m4_10:=Xu (m4_9.out.kp (Below.refl _ _).drew)
   have Z_10:=Xu (Z_9.out.kp (Below.refl _ _).drew)
   have XB_10:=Xu (XB_9.out.kp (Below.refl _ _).drew)
   have A_10:=Xu (A_9.out.kp (Below.refl _ _).drew)
   have B_10:=Xu (B_9.out.kp (Below.refl _ _).drew)
   clear T_9 U_9 m1_9 m2_9 V_9 m3_9 m4_9 Z_9 XB_9 A_9 B_9
   go_region_held3 (fun w'=>w'.cell? ⟨w.heap.size,0,none⟩=some (.bool p)∧w'.cell? ⟨w.heap.size,1,none⟩=some (.slice a1 l1 c1)∧w'.cell? ⟨w.heap.size,2,none⟩=some (.slice a2 l2 c2)∧w'.cell? ⟨w.heap.size+1,0,none⟩=some (.bool q)∧w'.cell? ⟨w.heap.size+1,1,none⟩=some (.slice a3 l3 c3)∧w'.cell? ⟨w.heap.size+1,2,none⟩=some (.slice a4 l4 c4))
    (first|(refine ⟨?_,?_,?_,?_,?_,?_⟩<;>assumption)|go_keep)
    (first
     | (go_at_call 239;(with_reducible refine (CB1.out _ _ m1_10.out).mono ?_);rintro e w11 ⟨rfl,rfl⟩;obtain ⟨g0,g1,g2,_⟩:=T_10.out.ra.cells;obtain ⟨h0,h1,h2,_⟩:=T_10.out.rb.cells)
     | (go_at_call 239;(with_reducible refine (CB2.out _ _ B_10.out).mono ?_);rintro e w12 ⟨rfl,rfl⟩;obtain ⟨g0,g1,g2,_⟩:=T_10.out.ra.cells;obtain ⟨h0,h1,h2,_⟩:=T_10.out.rb.cells)
     | (go_at_call 239;(with_reducible refine (CB3.out _ _ m3_10.out).mono ?_);rintro e w13 ⟨rfl,rfl⟩;obtain ⟨g0,g1,g2,_⟩:=T_10.out.ra.cells;obtain ⟨h0,h1,h2,_⟩:=T_10.out.rb.cells)
     | (go_at_call 239;(with_reducible refine (CB4.out _ _ A_10.out).mono ?_);rintro e w14 ⟨rfl,rfl⟩;obtain ⟨g0,g1,g2,_⟩:=T_10.out.ra.cells;obtain ⟨h0,h1,h2,_⟩:=T_10.out.rb.cells))
   clear e1 e2 e3
   by_cases h1:1<mo
   ·have HR1:=Xu (HMO.out.1 h1)
    have hd1:decide (1<mo)=true:=decide_eq_true h1
    clear HMO
    go_wp2
    go_ret
    exact ⟨A8 HR1.out.symm,T_10.out.k⟩
   ·have hd1:decide (1<mo)=false:=decide_eq_false h1
    by_cases h2:mo< -1
    ·have HR1:=Xu (HMO.out.2 h2)
     have hd2:decide (mo< -1)=true:=decide_eq_true h2
     clear HMO
     go_wp2
     go_ret
     exact ⟨A8 HR1.out.symm,T_10.out.k⟩
    ·have hd2:decide (mo< -1)=false:=decide_eq_false h2
     clear HMO
     go_upto_region 13 with fail
     have T_15:=Xu (T_10.out.kp (Below.refl _ _).drew)
     have U_15:=Xu (U_10.out.kp (Below.refl _ _).drew)
     have m1_15:=Xu (m1_10.out.kp (Below.refl _ _).drew)
     have m2_15:=Xu (m2_10.out.kp (Below.refl _ _).drew)
     have V_15:=Xu (V_10.out.kp (Below.refl _ _).drew)
     have m3_15:=Xu (m3_10.out.kp (Below.refl _ _).drew)
     have m4_15:=Xu (m4_10.out.kp (Below.refl _ _).drew)
     have Z_15:=Xu (Z_10.out.kp (Below.refl _ _).drew)
     have XB_15:=Xu (XB_10.out.kp (Below.refl _ _).drew)
     have A_15:=Xu (A_10.out.kp (Below.refl _ _).drew)
     have B_15:=Xu (B_10.out.kp (Below.refl _ _).drew)
     clear T_10 U_10 m1_10 m2_10 V_10 m3_10 m4_10 Z_10 XB_10 A_10 B_10
     go_region_held3 (fun w'=>w'.cell? ⟨w.heap.size,0,none⟩=some (.bool p)∧w'.cell? ⟨w.heap.size,1,none⟩=some (.slice a1 l1 c1)∧w'.cell? ⟨w.heap.size,2,none⟩=some (.slice a2 l2 c2)∧w'.cell? ⟨w.heap.size+1,0,none⟩=some (.bool q)∧w'.cell? ⟨w.heap.size+1,1,none⟩=some (.slice a3 l3 c3)∧w'.cell? ⟨w.heap.size+1,2,none⟩=some (.slice a4 l4 c4))
      (first|(refine ⟨?_,?_,?_,?_,?_,?_⟩<;>assumption)|go_keep)
      (first
       | (go_at_call 225;(with_reducible refine (CT1.out _ _ _ m1_15.out B_15.out).mono ?_);rintro e w16 ⟨v1,rfl,n1,k16⟩;have T_16:=Xu (T_15.out.kp k16);have U_16:=Xu (U_15.out.kp k16);have m1_16:=Xu (m1_15.out.kp k16);have m2_16:=Xu (m2_15.out.kp k16);have V_16:=Xu (V_15.out.kp k16);have m3_16:=Xu (m3_15.out.kp k16);have m4_16:=Xu (m4_15.out.kp k16);have Z_16:=Xu (Z_15.out.kp k16);have XB_16:=Xu (XB_15.out.kp k16);have A_16:=Xu (A_15.out.kp k16);have B_16:=Xu (B_15.out.kp k16);clear T_15 U_15 m1_15 m2_15 V_15 m3_15 m4_15 Z_15 XB_15 A_15 B_15;have N1_16:=Xu n1;clear n1 k16;obtain ⟨g0,g1,g2,_⟩:=T_16.out.ra.cells;obtain ⟨h0,h1,h2,_⟩:=T_16.out.rb.cells)
       | (go_at_call 225;(with_reducible refine (CT2.out _ _ _ m3_16.out A_16.out).mono ?_);rintro e w17 ⟨v2,rfl,n2,k17⟩;have T_17:=Xu (T_16.out.kp k17);have U_17:=Xu (U_16.out.kp k17);have m1_17:=Xu (m1_16.out.kp k17);have m2_17:=Xu (m2_16.out.kp k17);have V_17:=Xu (V_16.out.kp k17);have m3_17:=Xu (m3_16.out.kp k17);have m4_17:=Xu (m4_16.out.kp k17);have Z_17:=Xu (Z_16.out.kp k17);have XB_17:=Xu (XB_16.out.kp k17);have A_17:=Xu (A_16.out.kp k17);have B_17:=Xu (B_16.out.kp k17);have N1_17:=Xu (N1_16.out.kp k17);clear T_16 U_16 m1_16 m2_16 V_16 m3_16 m4_16 Z_16 XB_16 A_16 B_16 N1_16;have N2_17:=Xu n2;clear n2 k17;obtain ⟨g0,g1,g2,_⟩:=T_17.out.ra.cells;obtain ⟨h0,h1,h2,_⟩:=T_17.out.rb.cells)
       | (go_at_call 238;(with_reducible refine (CC1.out _ _ _ N1_17.out N2_17.out).mono ?_);rintro e w18 ⟨rfl,k18⟩;have T_18:=Xu (T_17.out.kp k18);have U_18:=Xu (U_17.out.kp k18);have m1_18:=Xu (m1_17.out.kp k18);have m2_18:=Xu (m2_17.out.kp k18);have V_18:=Xu (V_17.out.kp k18);have m3_18:=Xu (m3_17.out.kp k18);have m4_18:=Xu (m4_17.out.kp k18);have Z_18:=Xu (Z_17.out.kp k18);have XB_18:=Xu (XB_17.out.kp k18);have A_18:=Xu (A_17.out.kp k18);have B_18:=Xu (B_17.out.kp k18);have N1_18:=Xu (N1_17.out.kp k18);have N2_18:=Xu (N2_17.out.kp k18);clear T_17 U_17 m1_17 m2_17 V_17 m3_17 m4_17 Z_17 XB_17 A_17 B_17 N1_17 N2_17;clear k18;obtain ⟨g0,g1,g2,_⟩:=T_18.out.ra.cells;obtain ⟨h0,h1,h2,_⟩:=T_18.out.rb.cells))
     go_wp2
     go_ret
     exact ⟨rfl,T_18.out.k⟩
  ·have HE:=Xu (HEQ.out (of_decide_eq_true HBQ.out.symm))
   clear HBM HEQ
   go_wp2_with (go_at_call 238;(with_reducible refine (CC0.out _ _ _ m1_6.out m3_6.out).mono ?_);rintro e w7 ⟨rfl,k7⟩;refine Hid.out ?_)
   refine Xu ?_
   have T_7:=Xu (T_6.out.kp k7)
   have U_7:=Xu (U_6.out.kp k7)
   have m1_7:=Xu (m1_6.out.kp k7)
   have m2_7:=Xu (m2_6.out.kp k7)
   have V_7:=Xu (V_6.out.kp k7)
   have m3_7:=Xu (m3_6.out.kp k7)
   have m4_7:=Xu (m4_6.out.kp k7)
   have Z_7:=Xu (Z_6.out.kp k7)
   have XB_7:=Xu (XB_6.out.kp k7)
   clear T_6 U_6 m1_6 m2_6 V_6 m3_6 m4_6 Z_6 XB_6
   clear k7
   obtain ⟨g0,g1,g2,_⟩:=T_7.out.ra.cells
   obtain ⟨h0,h1,h2,_⟩:=T_7.out.rb.cells
   go_wp2
   go_ret
   exact ⟨A8 HE.out,T_7.out.k⟩
 ·have hox:okx=true∧oky=true:=by
   cases okx<;>cases oky<;>first|exact ⟨rfl,rfl⟩|exact absurd HT0.out (by decide)
  obtain ⟨rfl,rfl⟩:=hox
  obtain ⟨i1,i2,i3⟩:=HX.out rfl
  obtain rfl:=i1.symm
  obtain rfl:=i2.symm
  obtain rfl:=i3.symm
  obtain ⟨j1,j2,j3⟩:=HY.out rfl
  obtain rfl:=j1.symm
  obtain rfl:=j2.symm
  obtain rfl:=j3.symm
  clear HX HY HT0
  have CSC2:=Xu (CSC.out _ _ _ _ hnx hdx hny hdy)
  rw [←HCR.out] at CSC2
  have T_5:=Xu (T_4.out.kp (Kp.alloc _ (Obj.cells #[Value.bool q,Value.int IntKind.u64 (n2:Int),Value.int IntKind.u64 (e2:Int)] 170)))
  have U_5:=Xu (U_4.out.kp (Kp.alloc _ (Obj.cells #[Value.bool q,Value.int IntKind.u64 (n2:Int),Value.int IntKind.u64 (e2:Int)] 170)))
  have m1_5:=Xu (m1_4.out.kp (Kp.alloc _ (Obj.cells #[Value.bool q,Value.int IntKind.u64 (n2:Int),Value.int IntKind.u64 (e2:Int)] 170)))
  have m2_5:=Xu (m2_4.out.kp (Kp.alloc _ (Obj.cells #[Value.bool q,Value.int IntKind.u64 (n2:Int),Value.int IntKind.u64 (e2:Int)] 170)))
  have V_5:=Xu (V_4.out.kp (Kp.alloc _ (Obj.cells #[Value.bool q,Value.int IntKind.u64 (n2:Int),Value.int IntKind.u64 (e2:Int)] 170)))
  have m3_5:=Xu (m3_4.out.kp (Kp.alloc _ (Obj.cells #[Value.bool q,Value.int IntKind.u64 (n2:Int),Value.int IntKind.u64 (e2:Int)] 170)))
  have m4_5:=Xu (m4_4.out.kp (Kp.alloc _ (Obj.cells #[Value.bool q,Value.int IntKind.u64 (n2:Int),Value.int IntKind.u64 (e2:Int)] 170)))
  have Z_5:=Xu (Z_4.out.kp (Kp.alloc _ (Obj.cells #[Value.bool q,Value.int IntKind.u64 (n2:Int),Value.int IntKind.u64 (e2:Int)] 170)))
  have XB_5:=Xu (XB_4.out.kp (Kp.alloc _ (Obj.cells #[Value.bool q,Value.int IntKind.u64 (n2:Int),Value.int IntKind.u64 (e2:Int)] 170)))
  clear T_4 U_4 m1_4 m2_4 V_4 m3_4 m4_4 Z_4 XB_4
  obtain ⟨x0,x1,x2,_⟩:=XB_5.out.cells
  go_wp2_with (go_at_call 237;(with_reducible refine (CSC2.out _).mono ?_);rintro e w6 ⟨rfl,k6⟩;refine Hid.out ?_)
  refine Xu ?_
  have T_6:=Xu (T_5.out.kp k6)
  have U_6:=Xu (U_5.out.kp k6)
  have m1_6:=Xu (m1_5.out.kp k6)
  have m2_6:=Xu (m2_5.out.kp k6)
  have V_6:=Xu (V_5.out.kp k6)
  have m3_6:=Xu (m3_5.out.kp k6)
  have m4_6:=Xu (m4_5.out.kp k6)
  have Z_6:=Xu (Z_5.out.kp k6)
  have XB_6:=Xu (XB_5.out.kp k6)
  clear T_5 U_5 m1_5 m2_5 V_5 m3_5 m4_5 Z_5 XB_5
  clear k6
  go_wp2
  go_ret
  exact ⟨rfl,T_6.out.k⟩
set_option maxRecDepth 20000 in
theorem Ow {w:World} {u:Value} {x:Rat} (hu:Ax w u x) {v:Value} {y:Rat} (hv:Ax w v y) (h9:Co x≠Co y):
  Calls Tryz.prog 134 #[u,v] w fun e w'=>e= .returned (.int .i64 (Cm x y))∧Kp w w':=by
 rw [JC h9]
 obtain ⟨a1,l1,c1,a2,l2,c2,rfl,m1,m2⟩:=hu.parts
 obtain ⟨a3,l3,c3,a4,l4,c4,rfl,m3,m4⟩:=hv.parts
 have HT:=Xu (P2.new w (.bool (decide (x.num<0))) (.slice a1 l1 c1) (.slice a2 l2 c2) (.bool (decide (y.num<0))) (.slice a3 l3 c3) (.slice a4 l4 c4))
 have HU:=Xu hu
 have HV:=Xu hv
 have CA:=Xu (fun w' a (ha:Ax w' a x)=>FE ha)
 have CB:=Xu (fun w' a (ha:Ax w' a y)=>FE ha)
 obtain ⟨p,hp⟩: ∃b,b=decide (x.num<0):=⟨_,rfl⟩
 try rw [←hp] at HT
 try rw [←hp] at HU
 try rw [←hp] at HV
 try rw [←hp] at CA
 try rw [←hp] at CB
 try rw [←hp]
 have HPp:=Xu hp
 obtain ⟨q,hq⟩: ∃b,b=decide (y.num<0):=⟨_,rfl⟩
 try rw [←hq] at HT
 try rw [←hq] at HU
 try rw [←hq] at HV
 try rw [←hq] at CA
 try rw [←hq] at CB
 try rw [←hq]
 have HPq:=Xu hq
 clear hu m1 m2 hp hv m3 m4 hq
 have hbx: -1≤Co x∧Co x≤1:=by unfold Co;split<;>first|omega|(split<;>omega)
 have hby: -1≤Co y∧Co y≤1:=by unfold Co;split<;>first|omega|(split<;>omega)
 obtain ⟨sx,hsx⟩: ∃s,s=Co x:=⟨_,rfl⟩
 obtain ⟨sy,hsy⟩: ∃s,s=Co y:=⟨_,rfl⟩
 rw [←hsx] at CA h9 hbx⊢
 rw [←hsy] at CB h9 hby⊢
 clear hsx hsy
 have hne:(sx !=sy)=true:=by rw [bne_iff_ne];exact h9
 obtain ⟨hbx1,hbx2⟩:=hbx
 obtain ⟨hby1,hby2⟩:=hby
 clear h9
 go_enter Tryz.func134,Tryz.ntmps134
 have KN:=HT.out.k
 have U_e:=Xu (HU.out.kp KN)
 have V_e:=Xu (HV.out.kp KN)
 clear KN
 obtain ⟨g0,g1,g2,_⟩:=HT.out.ra.cells
 obtain ⟨h0,h1,h2,_⟩:=HT.out.rb.cells
 go_upto_region 1 with fail
 have T_2:=Xu (HT.out.kp (Below.refl _ _).drew)
 have U_2:=Xu (U_e.out.kp (Below.refl _ _).drew)
 have V_2:=Xu (V_e.out.kp (Below.refl _ _).drew)
 clear HT U_e V_e
 go_region_held3 (fun w'=>w'.cell? ⟨w.heap.size,0,none⟩=some (.bool p)∧w'.cell? ⟨w.heap.size,1,none⟩=some (.slice a1 l1 c1)∧w'.cell? ⟨w.heap.size,2,none⟩=some (.slice a2 l2 c2)∧w'.cell? ⟨w.heap.size+1,0,none⟩=some (.bool q)∧w'.cell? ⟨w.heap.size+1,1,none⟩=some (.slice a3 l3 c3)∧w'.cell? ⟨w.heap.size+1,2,none⟩=some (.slice a4 l4 c4))
  (first|(refine ⟨?_,?_,?_,?_,?_,?_⟩<;>assumption)|go_keep)
  (first
   | (go_at_call 177;(with_reducible refine (CA.out _ _ U_2.out).mono ?_);rintro e w3 ⟨rfl,k3⟩;have T_3:=Xu (T_2.out.kp k3);have U_3:=Xu (U_2.out.kp k3);have V_3:=Xu (V_2.out.kp k3);clear T_2 U_2 V_2;clear k3;obtain ⟨g0,g1,g2,_⟩:=T_3.out.ra.cells;obtain ⟨h0,h1,h2,_⟩:=T_3.out.rb.cells)
   | (go_at_call 177;(with_reducible refine (CB.out _ _ V_3.out).mono ?_);rintro e w4 ⟨rfl,k4⟩;have T_4:=Xu (T_3.out.kp k4);have U_4:=Xu (U_3.out.kp k4);have V_4:=Xu (V_3.out.kp k4);clear T_3 U_3 V_3;clear k4;obtain ⟨g0,g1,g2,_⟩:=T_4.out.ra.cells;obtain ⟨h0,h1,h2,_⟩:=T_4.out.rb.cells))
 go_wp2
 go_ret
 exact ⟨A8 (by omega),T_4.out.k⟩
set_option maxRecDepth 20000 in
theorem Ov {w:World} {u:Value} {x:Rat} (hu:Ax w u x) {v:Value} {y:Rat} (hv:Ax w v y) {j k:Nat} (hs:RSz j x) (ht:RSz k y) (hj:j≤500000000) (hk:k≤500000000) (h9:Co x=Co y) (hT:Tz w):
  Calls Tryz.prog 134 #[u,v] w fun e w'=>e= .returned (.int .i64 (if decide (x.num<0)=true then AT (y.num.natAbs*x.den) (x.num.natAbs*y.den) else AT (x.num.natAbs*y.den) (y.num.natAbs*x.den)))∧Kp w w':=by
 have hz:x.num=0↔y.num=0:=by
  have e1:=KR (x:=x)
  have e2:=KR (x:=y)
  rw [←Rat.num_eq_zero] at e1 e2
  rw [←e1,←e2,h9]
 have hsn:decide (Co x<0)=decide (x.num<0):=by
  refine decide_eq_decide.2 ?_
  unfold Co
  split
  ·omega
  ·split<;>omega
 obtain ⟨a1,l1,c1,a2,l2,c2,rfl,m1,m2⟩:=hu.parts
 obtain ⟨a3,l3,c3,a4,l4,c4,rfl,m3,m4⟩:=hv.parts
 have HT:=Xu (P2.new w (.bool (decide (x.num<0))) (.slice a1 l1 c1) (.slice a2 l2 c2) (.bool (decide (y.num<0))) (.slice a3 l3 c3) (.slice a4 l4 c4))
 have HU:=Xu hu
 have HV:=Xu hv
 have HZ:=Xu hT
 have CA:=Xu (fun w' a (ha:Ax w' a x)=>FE ha)
 have CB:=Xu (fun w' a (ha:Ax w' a y)=>FE ha)
 have C1:=Xu (fun w' a b (ha:Ax w' a x) (hb:Ax w' b y) (t:Tz w')=>Ks ha hb hs ht hj hk hz t)
 have C2:=Xu (fun w' a b (ha:Ax w' a x) (hb:Ax w' b y) (t:Tz w')=>Ks hb ha ht hs hk hj hz.symm t)
 have HSN:=Xu (hsn)
 obtain ⟨p,hp⟩: ∃b,b=decide (x.num<0):=⟨_,rfl⟩
 try rw [←hp] at HT
 try rw [←hp] at HU
 try rw [←hp] at HV
 try rw [←hp] at CA
 try rw [←hp] at CB
 try rw [←hp] at C1
 try rw [←hp] at C2
 try rw [←hp] at HSN
 try rw [←hp]
 have HPp:=Xu hp
 obtain ⟨q,hq⟩: ∃b,b=decide (y.num<0):=⟨_,rfl⟩
 try rw [←hq] at HT
 try rw [←hq] at HU
 try rw [←hq] at HV
 try rw [←hq] at CA
 try rw [←hq] at CB
 try rw [←hq] at C1
 try rw [←hq] at C2
 try rw [←hq] at HSN
 try rw [←hq]
 have HPq:=Xu hq
 clear hu m1 m2 hp hv m3 m4 hq hT
 obtain ⟨sx,hsx⟩: ∃s,s=Co x:=⟨_,rfl⟩
 rw [←h9] at CB
 rw [←hsx] at CA CB HSN
 clear hsx h9 hs ht hj hk hz hsn
 have hsb:(sx !=sx)=false:=by simp
 cases p
 ·have hsl:=HSN.out
  go_enter Tryz.func134,Tryz.ntmps134
  have KN:=HT.out.k
  have U_e:=Xu (HU.out.kp KN)
  have V_e:=Xu (HV.out.kp KN)
  have Z_e:=Xu (HZ.out.kp KN)
  clear KN
  obtain ⟨g0,g1,g2,_⟩:=HT.out.ra.cells
  obtain ⟨h0,h1,h2,_⟩:=HT.out.rb.cells
  go_upto_region 1 with fail
  have T_2:=Xu (HT.out.kp (Below.refl _ _).drew)
  have U_2:=Xu (U_e.out.kp (Below.refl _ _).drew)
  have V_2:=Xu (V_e.out.kp (Below.refl _ _).drew)
  have Z_2:=Xu (Z_e.out.kp (Below.refl _ _).drew)
  clear HT U_e V_e Z_e
  go_region_held3 (fun w'=>w'.cell? ⟨w.heap.size,0,none⟩=some (.bool false)∧w'.cell? ⟨w.heap.size,1,none⟩=some (.slice a1 l1 c1)∧w'.cell? ⟨w.heap.size,2,none⟩=some (.slice a2 l2 c2)∧w'.cell? ⟨w.heap.size+1,0,none⟩=some (.bool q)∧w'.cell? ⟨w.heap.size+1,1,none⟩=some (.slice a3 l3 c3)∧w'.cell? ⟨w.heap.size+1,2,none⟩=some (.slice a4 l4 c4))
   (first|(refine ⟨?_,?_,?_,?_,?_,?_⟩<;>assumption)|go_keep)
   (first
    | (go_at_call 177;(with_reducible refine (CA.out _ _ U_2.out).mono ?_);rintro e w3 ⟨rfl,k3⟩;have T_3:=Xu (T_2.out.kp k3);have U_3:=Xu (U_2.out.kp k3);have V_3:=Xu (V_2.out.kp k3);have Z_3:=Xu (Z_2.out.kp k3);clear T_2 U_2 V_2 Z_2;clear k3;obtain ⟨g0,g1,g2,_⟩:=T_3.out.ra.cells;obtain ⟨h0,h1,h2,_⟩:=T_3.out.rb.cells)
    | (go_at_call 177;(with_reducible refine (CB.out _ _ V_3.out).mono ?_);rintro e w4 ⟨rfl,k4⟩;have T_4:=Xu (T_3.out.kp k4);have U_4:=Xu (U_3.out.kp k4);have V_4:=Xu (V_3.out.kp k4);have Z_4:=Xu (Z_3.out.kp k4);clear T_3 U_3 V_3 Z_3;clear k4;obtain ⟨g0,g1,g2,_⟩:=T_4.out.ra.cells;obtain ⟨h0,h1,h2,_⟩:=T_4.out.rb.cells))
  go_wp2_with (go_at_call 200;(with_reducible refine (C1.out _ _ _ U_4.out V_4.out Z_4.out).mono ?_);rintro e w5 ⟨rfl,k5⟩;refine Hid.out ?_)
  refine Xu ?_
  have T_5:=Xu (T_4.out.kp k5)
  have U_5:=Xu (U_4.out.kp k5)
  have V_5:=Xu (V_4.out.kp k5)
  have Z_5:=Xu (Z_4.out.kp k5)
  clear T_4 U_4 V_4 Z_4
  clear k5
  obtain ⟨g0,g1,g2,_⟩:=T_5.out.ra.cells
  obtain ⟨h0,h1,h2,_⟩:=T_5.out.rb.cells
  go_wp2
  go_ret
  exact ⟨by simp,T_5.out.k⟩
 ·have hsl:=HSN.out
  go_enter Tryz.func134,Tryz.ntmps134
  have KN:=HT.out.k
  have U_e:=Xu (HU.out.kp KN)
  have V_e:=Xu (HV.out.kp KN)
  have Z_e:=Xu (HZ.out.kp KN)
  clear KN
  obtain ⟨g0,g1,g2,_⟩:=HT.out.ra.cells
  obtain ⟨h0,h1,h2,_⟩:=HT.out.rb.cells
  go_upto_region 1 with fail
  have T_2:=Xu (HT.out.kp (Below.refl _ _).drew)
  have U_2:=Xu (U_e.out.kp (Below.refl _ _).drew)
  have V_2:=Xu (V_e.out.kp (Below.refl _ _).drew)
  have Z_2:=Xu (Z_e.out.kp (Below.refl _ _).drew)
  clear HT U_e V_e Z_e
  go_region_held3 (fun w'=>w'.cell? ⟨w.heap.size,0,none⟩=some (.bool true)∧w'.cell? ⟨w.heap.size,1,none⟩=some (.slice a1 l1 c1)∧w'.cell? ⟨w.heap.size,2,none⟩=some (.slice a2 l2 c2)∧w'.cell? ⟨w.heap.size+1,0,none⟩=some (.bool q)∧w'.cell? ⟨w.heap.size+1,1,none⟩=some (.slice a3 l3 c3)∧w'.cell? ⟨w.heap.size+1,2,none⟩=some (.slice a4 l4 c4))
   (first|(refine ⟨?_,?_,?_,?_,?_,?_⟩<;>assumption)|go_keep)
   (first
    | (go_at_call 177;(with_reducible refine (CA.out _ _ U_2.out).mono ?_);rintro e w3 ⟨rfl,k3⟩;have T_3:=Xu (T_2.out.kp k3);have U_3:=Xu (U_2.out.kp k3);have V_3:=Xu (V_2.out.kp k3);have Z_3:=Xu (Z_2.out.kp k3);clear T_2 U_2 V_2 Z_2;clear k3;obtain ⟨g0,g1,g2,_⟩:=T_3.out.ra.cells;obtain ⟨h0,h1,h2,_⟩:=T_3.out.rb.cells)
    | (go_at_call 177;(with_reducible refine (CB.out _ _ V_3.out).mono ?_);rintro e w4 ⟨rfl,k4⟩;have T_4:=Xu (T_3.out.kp k4);have U_4:=Xu (U_3.out.kp k4);have V_4:=Xu (V_3.out.kp k4);have Z_4:=Xu (Z_3.out.kp k4);clear T_3 U_3 V_3 Z_3;clear k4;obtain ⟨g0,g1,g2,_⟩:=T_4.out.ra.cells;obtain ⟨h0,h1,h2,_⟩:=T_4.out.rb.cells))
  go_wp2_with (go_at_call 200;(with_reducible refine (C2.out _ _ _ U_4.out V_4.out Z_4.out).mono ?_);rintro e w5 ⟨rfl,k5⟩;refine Hid.out ?_)
  refine Xu ?_
  have T_5:=Xu (T_4.out.kp k5)
  have U_5:=Xu (U_4.out.kp k5)
  have V_5:=Xu (V_4.out.kp k5)
  have Z_5:=Xu (Z_4.out.kp k5)
  clear T_4 U_4 V_4 Z_4
  clear k5
  obtain ⟨g0,g1,g2,_⟩:=T_5.out.ra.cells
  obtain ⟨h0,h1,h2,_⟩:=T_5.out.rb.cells
  go_wp2
  go_ret
  exact ⟨by simp,T_5.out.k⟩
theorem SW {w:World} {u:Value} {x:Rat} (hu:Ax w u x) {v:Value} {y:Rat} (hv:Ax w v y) {j k:Nat} (hs:RSz j x) (ht:RSz k y) (hj:j≤500000000) (hk:k≤500000000) (hT:Tz w):
  Calls Tryz.prog 134 #[u,v] w fun e w'=>e= .returned (.int .i64 (Cm x y))∧Kp w w':=by
 by_cases h9:Co x=Co y
 ·have h:=Ov hu hv hs ht hj hk h9 hT
  have he:(if decide (x.num<0)=true then AT (y.num.natAbs*x.den) (x.num.natAbs*y.den) else AT (x.num.natAbs*y.den) (y.num.natAbs*x.den))=Cm x y:=by
   unfold Co at h9
   by_cases hx:x.num<0
   ·rw [if_pos (decide_eq_true hx)]
    refine (NB (by omega) ?_).symm
    by_cases hy:y.num≤0
    ·exact hy
    ·rw [if_neg (by omega),if_pos hx,if_neg (by omega),if_neg (by omega)] at h9
     omega
   ·rw [if_neg (by rw [decide_eq_false hx];decide)]
    refine (JD (by omega) ?_).symm
    by_cases hy:0≤y.num
    ·exact hy
    ·rw [if_neg hx,if_neg (by omega: ¬y.num=0),if_pos (by omega)] at h9
     split at h9<;>omega
  rw [he] at h
  exact h
 ·exact Ow hu hv h9
end Go.Proofs.YtfineedhebhpaaaGreatDoor
