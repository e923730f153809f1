/-
  Several texts in one: Q, Qa, Qo, Ql.
-/
import Derived.Test.YtfineedhebhpaaaGreatDoorBf
import Derived.Test.YtfineedhebhpaaaGreatDoorBi
import Derived.Test.YtfineedhebhpaaaGreatDoorBa
import Derived.Test.YtfineedhebhpaaaGreatDoorBg
namespace Go.Proofs.YtfineedhebhpaaaGreatDoor
open Nat renaming le_refl→Yu
open Lib renaming hid→Yt
set_option maxHeartbeats 16000000
open Go.RowKit
def AX (x:Rat):Nat:=if x.den=1 then 0 else x.den
def Ax (w:World) (v:Value) (x:Rat):Prop:=
 ∃num den,v= .agg #[.bool (decide (x.num<0)),num,den]∧M w num x.num.natAbs∧M w den (AX x)
theorem Ax.kp {w w':World} {v:Value} {x:Rat} (h:Ax w v x) (k:Kp w w'):Ax w' v x:=by
 obtain ⟨num,den,rfl,h1,h2⟩:=h
 exact ⟨num,den,rfl,h1.kp k,h2.kp k⟩
theorem Ij (w:World):M w (.slice none 0 0) 0:=by first|exact m_nil w|exact m_nil
theorem Ax.of {w:World} {neg:Bool} {n d:Nat} {num den:Value} (hd:d≠0) (hc:Nat.gcd n d=1) (hn:M w num n) (hden:M w den (if d=1 then 0 else d)) (h0:n=0→neg=false):Ax w (.agg #[.bool neg,num,den]) (AE neg n d):=by
 obtain ⟨e1,e2⟩:=DX neg hd hc
 refine ⟨num,den,?_,by rw [e1,Dt];exact hn,by unfold AX;rw [e2];exact hden⟩
 rw [e1,XN]
 by_cases h:n=0
 ·rw [h0 h];rfl
 ·rw [decide_eq_true h,Bool.and_true]
theorem Ax.zero (w:World):Ax w (.agg #[.bool false,.slice none 0 0,.slice none 0 0]) 0:=by
 have:=Ax.of (w:=w) (neg:=false) (n:=0) (d:=1) (by decide) (by decide) (Ij w) (by rw [if_pos rfl];exact Ij w) (fun _=>rfl)
 rwa [GP] at this
def RSz (k:Nat) (x:Rat):Prop:=Sz k x.num.natAbs∧Sz k x.den
theorem RSz.mono {j k:Nat} {x:Rat} (h:RSz j x) (hk:j≤k):RSz k x:=⟨h.1.mono hk,h.2.mono hk⟩
theorem Sz.plus {k m n:Nat} (h:Sz k m) (h2:Sz k n):Sz (k+1) (m+n):=by
 apply Al
 have h3:=Nat.lt_of_lt_of_le (Cw m) (Nat.pow_le_pow_right (show 0<4294967296 by omega) h)
 have h4:=Nat.lt_of_lt_of_le (Cw n) (Nat.pow_le_pow_right (show 0<4294967296 by omega) h2)
 rw [Nat.pow_succ]
 generalize (4294967296:Nat)^k=P at*
 omega
theorem RSz.of_mkRat {k:Nat} {z:Int} {d:Nat} (hz:Sz k z.natAbs) (hd:Sz k d) (h0:d≠0):RSz k (mkRat z d):=by
 have hg:0<Nat.gcd d z.natAbs:=Nat.gcd_pos_of_pos_left _ (Nat.pos_of_ne_zero h0)
 constructor
 ·rw [Rat.num_mkRat,if_neg h0]
  refine hz.le ?_
  have h1:((Nat.gcd d z.natAbs:Nat):Int)∣z:=by
   have:=Int.ofNat_dvd.2 (Nat.gcd_dvd_right d z.natAbs)
   exact Int.dvd_natAbs.1 this
  rw [Int.natAbs_ediv_of_dvd h1]
  exact Nat.div_le_self _ _
 ·rw [Rat.den_mkRat,if_neg h0]
  exact hd.le (Nat.div_le_self _ _)
theorem RSz.add {j k:Nat} {x y:Rat} (h:RSz j x) (h2:RSz k y):RSz (j+k+1) (x+y):=by
 rw [Rat.add_def']
 refine RSz.of_mkRat ?_ ((h.2.mul h2.2).mono (by omega)) (Nat.mul_ne_zero x.den_nz y.den_nz)
 have h3:Sz (j+k) (x.num.natAbs*y.den):=h.1.mul h2.2
 have h4:Sz (j+k) (y.num.natAbs*x.den):=by rw [Nat.mul_comm];exact h.2.mul h2.1
 refine (h3.plus h4).le ?_
 refine Nat.le_trans (Int.natAbs_add_le _ _) ?_
 rw [Int.natAbs_mul,Int.natAbs_mul,Int.natAbs_natCast,Int.natAbs_natCast]
 exact Yu _
theorem RSz.mul {j k:Nat} {x y:Rat} (h:RSz j x) (h2:RSz k y):RSz (j+k) (x*y):=by
 rw [Rat.mul_def']
 refine RSz.of_mkRat ?_ (h.2.mul h2.2) (Nat.mul_ne_zero x.den_nz y.den_nz)
 rw [Int.natAbs_mul]
 exact h.1.mul h2.1
theorem RSz.neg {k:Nat} {x:Rat} (h:RSz k x):RSz k (-x):=by
 refine ⟨?_,?_⟩
 ·rw [Rat.neg_num,Int.natAbs_neg];exact h.1
 ·rw [Rat.neg_den];exact h.2
theorem RSz.sub {j k:Nat} {x y:Rat} (h:RSz j x) (h2:RSz k y):RSz (j+k+1) (x-y):=by
 rw [Rat.sub_eq_add_neg]
 exact h.add h2.neg
theorem DV {n:Nat} (h:n≠0):0<(toL n).length:=by
 rcases Nat.eq_zero_or_pos (toL n).length with e|e
 ·exact absurd ((AU n).1 (List.length_eq_zero_iff.1 e)) h
 ·exact e
theorem FB:toL 1= [1]:=by rw [Dl 1 (by decide),Az]
set_option maxRecDepth 20000 in
theorem Cz {w:World} {v:Value} {n:Nat} (h:M w v n):
  Calls Tryz.prog 213 #[v] w fun e w'=>e= .returned (.bool (decide (n=1)))∧w=w':=by
 obtain ⟨ao,ac,rfl,a1,a2,a3,a4⟩:=h
 unfold maxLen at a2
 by_cases h1:(toL n).length=1
 ·have h2:=Ea h1
  obtain ⟨b,off,x,rfl,hc,hx,HX⟩:=a4.at a3 0 (by omega)
  obtain rfl:x=n:=by have:=HX.out;rw [h2] at this;exact this
  rw [Nat.add_zero] at hc
  rw [h1] at a1⊢
  have hd:decide ((x:Int)=1)=decide (x=1):=by
   by_cases e:x=1
   ·rw [decide_eq_true e,decide_eq_true (by omega)]
   ·rw [decide_eq_false e,decide_eq_false (by omega)]
  have hb:((x:Int)==1)=decide (x=1):=by rw [←hd];rfl
  have HB:=Yt hb
  clear a3 a4 h1 h2 HX hd hb
  go_enter Tryz.func213,Tryz.ntmps213
  go_wp2
  go_ret
  exact ⟨Er HB.out,rfl⟩
 ·have h2:n≠1:=by rintro rfl;rw [FB] at h1;simp at h1
  rw [decide_eq_false h2]
  obtain ⟨l,hl⟩: ∃l,l=(toL n).length:=⟨_,rfl⟩
  rw [←hl] at h1 a1⊢
  have hne:((l:Int)==1)=false:=beq_eq_false_iff_ne.2 (by omega)
  clear a3 a4 hl h2 h1
  go_enter Tryz.func213,Tryz.ntmps213
  go_wp2
  go_ret
  exact ⟨rfl,rfl⟩
set_option maxRecDepth 20000 in
theorem Ff {w:World} {a b:Value} {m n:Nat} (ha:M w a m) (hb:M w b n) {j k:Nat} (h1:Sz j m) (h2:Sz k n) (hj:j≤1099511627776) (hk:k≤1099511627776):
  Calls Tryz.prog 225 #[a,b] w fun e w'=> ∃v,e= .returned v∧M w' v (m*n)∧Kp w w':=by
 have HA:=Yt (Cz ha)
 have HB:=Yt (Cz hb)
 have HM:=Yt (XY ha hb h1 h2 hj hk)
 have MA:=Yt ha
 have MB:=Yt hb
 clear ha hb h1 h2
 by_cases e1:m=1
 ·rw [decide_eq_true e1] at HA
  rw [e1,Nat.one_mul]
  clear HM HB
  go_enter Tryz.func225,Tryz.ntmps225
  go_wp2_with (go_at_call 213;(with_reducible refine HA.out.mono ?_);rintro e w1 ⟨rfl,rfl⟩)
  go_wp2
  go_ret
  exact ⟨_,rfl,MB.out,Below.refl _ _⟩
 ·rw [decide_eq_false e1] at HA
  by_cases e2:n=1
  ·rw [decide_eq_true e2] at HB
   rw [e2,Nat.mul_one]
   clear HM
   go_enter Tryz.func225,Tryz.ntmps225
   go_wp2_with (go_at_call 213;first|((with_reducible refine HA.out.mono ?_);rintro e w1 ⟨rfl,rfl⟩)|((with_reducible refine HB.out.mono ?_);rintro e w1 ⟨rfl,rfl⟩))
   go_wp2
   go_ret
   exact ⟨_,rfl,MA.out,Below.refl _ _⟩
  ·rw [decide_eq_false e2] at HB
   clear e1 e2
   go_enter Tryz.func225,Tryz.ntmps225
   go_wp2_with (first
    | (go_at_call 213;first|((with_reducible refine HA.out.mono ?_);rintro e w1 ⟨rfl,rfl⟩)|((with_reducible refine HB.out.mono ?_);rintro e w1 ⟨rfl,rfl⟩))
    | (go_at_call 261;(with_reducible refine HM.out.mono ?_);rintro e w2 ⟨v2,rfl,h2,K2⟩;refine Hid.out ?_))
   refine Yt ?_
   go_wp2
   go_ret
   exact ⟨_,rfl,h2,K2⟩
set_option maxRecDepth 20000 in
theorem CE {w:World} {a b:Value} {m g:Nat} (ha:M w a m) (hb:M w b g) (hs:(toL m).length≤549755813888) (hg:g≠0) (hT:Tz w):
  Calls Tryz.prog 226 #[a,b] w fun e w'=> ∃v,e= .returned v∧M w' v (m/g)∧Kp w w':=by
 have HB:=Yt (Cz hb)
 have HD:=Yt (QG ha hb (k:=(toL m).length) (Yu _) hs hg hT)
 have MA:=Yt ha
 clear ha hb hT
 by_cases e1:g=1
 ·rw [decide_eq_true e1] at HB
  rw [e1,Nat.div_one]
  clear HD
  go_enter Tryz.func226,Tryz.ntmps226
  go_wp2_with (go_at_call 213;(with_reducible refine HB.out.mono ?_);rintro e w1 ⟨rfl,rfl⟩)
  go_wp2
  go_ret
  exact ⟨_,rfl,MA.out,Below.refl _ _⟩
 ·rw [decide_eq_false e1] at HB
  go_enter Tryz.func226,Tryz.ntmps226
  go_wp2_with (first
   | (go_at_call 213;(with_reducible refine HB.out.mono ?_);rintro e w1 ⟨rfl,rfl⟩)
   | (go_at_call 262;(with_reducible refine HD.out.mono ?_);rintro e w2 ⟨q,r,rfl,hq,_,K2⟩;refine Hid.out ?_))
  refine Yt ?_
  go_wp2
  go_ret
  exact ⟨_,rfl,hq,K2⟩
theorem It (a b:Value) (xs ys:List Nat) (w:World) (ha:Rd w a xs) (hb:Rd w b ys):
  Calls Tryz.prog 201 #[a,b] w fun e w'=>e= .returned (.bool (decide (xs=ys)))∧Kp w w':=by
 obtain ⟨ao,ac,rfl,a1,a2,a3,a4⟩:=ha
 obtain ⟨bo,bc,rfl,b1,b2,b3,b4⟩:=hb
 unfold maxLen at a2 b2
 have A3:=Yt a3
 have B3:=Yt b3
 clear a3 b3
 by_cases hl:xs.length=ys.length
 ·have hne:(((xs.length:Nat):Int) !=(ys.length:Int))=false:=by rw [hl];simp
  have HL:=Yt hl
  clear hl
  go_enter Tryz.func201,Tryz.ntmps201
  go_wp2
  go_loopw [13] (fun i wr=> ∃k:Nat,k≤xs.length∧i= .int .i64 k∧(∀j,j<k→xs.getD j 0=ys.getD j 0)∧Kp w wr) (fun i _=>xs.length-(intOf i).toNat)
  case atStart=>exact ⟨0,Nat.zero_le _,rfl,fun j hj=>by omega,Below.refl _ _⟩
  case round=>
   obtain ⟨k,hk,rfl,heq,K1⟩:=hrel
   have HEQ:=Yt heq
   clear heq
   by_cases hk1:k<xs.length
   ·obtain ⟨ab,aoff,x,rfl,hcell,hx,HX⟩:=(a4.kp K1).at A3.out k hk1
    obtain ⟨bb,boff,y,rfl,hcell2,hy,HY⟩:=(b4.kp K1).at B3.out k (by rw [←HL.out];exact hk1)
    have hk2:k<ys.length:=by rw [←HL.out];exact hk1
    by_cases hxy:x=y
    ·have hb:(((x:Nat):Int) !=(y:Int))=false:=by rw [hxy];simp
     have HXY:=Yt hxy
     clear hxy
     go_wp2
     go_quiet (fail)
     go_wp2
     go_roundw
     case rel=>exact ⟨k+1,by omega,by go_num,fun j hj=>by
      rcases Nat.lt_or_ge j k with h|h
      ·exact HEQ.out j h
      ·obtain rfl:j=k:=by omega
       rw [←HX.out,←HY.out,HXY.out],K1.drewN _⟩
     case measure=>simp [intOf];omega
    ·have hb:(((x:Nat):Int) !=(y:Int))=true:=by rw [bne_iff_ne];omega
     have hd:decide (xs=ys)=false:=decide_eq_false fun e=>hxy (by rw [HX.out,HY.out,e])
     have HD:=Yt hd
     clear hxy hd
     go_wp2
     go_quiet (fail)
     go_wp2
     go_ret
     exact ⟨Er HD.out.symm,K1.drewN _⟩
   ·obtain rfl:k=xs.length:=by omega
    have hd:decide (xs=ys)=true:=decide_eq_true (PF HL.out HEQ.out)
    have HD:=Yt hd
    clear hd
    go_wp2
    go_ret
    exact ⟨Er HD.out.symm,K1⟩
 ·have hne:(((xs.length:Nat):Int) !=(ys.length:Int))=true:=by rw [bne_iff_ne];omega
  have hd:decide (xs=ys)=false:=decide_eq_false fun e=>hl (by rw [e])
  rw [hd]
  clear hl hd
  go_enter Tryz.func201,Tryz.ntmps201
  go_wp2
  go_ret
  exact ⟨rfl,Below.refl _ _⟩
theorem P5 {m n:Nat} :decide (toL m=toL n)=decide (m=n):=by
 by_cases h:m=n
 ·rw [decide_eq_true h,decide_eq_true (by rw [h])]
 ·rw [decide_eq_false h,decide_eq_false (fun e=>h (by rw [←Ar m,e,Ar]))]
set_option maxRecDepth 20000 in
theorem EA {w:World} {a b:Value} {m n:Nat} (ha:M w a m) (hb:M w b n) (hlA:(toL m).length≤17179869184) (hlB:(toL n).length≤17179869184) (hT:Tz w):
  Calls Tryz.prog 214 #[a,b] w fun e w'=> ∃v,e= .returned v∧M w' v (Nat.gcd m n)∧Kp w w':=by
 have HA:=Yt (Cz ha)
 have HB:=Yt (Cz hb)
 have HE:=Yt (It a b _ _ w ha hb)
 rw [P5] at HE
 have HG:=Yt (fun w' (k:Kp w w')=>VZ (ha.kp k) (hb.kp k) hlA hlB (hT.kp k))
 have MA:=Yt ha
 have MB:=Yt hb
 clear ha hb hT hlA hlB
 by_cases e1:m=1
 ·rw [decide_eq_true e1] at HA
  have hr:Nat.gcd m n=m:=by rw [e1,Nat.gcd_one_left]
  rw [hr]
  clear HG HB HE e1 hr
  go_enter Tryz.func214,Tryz.ntmps214
  go_wp2_with (go_at_call 213;(with_reducible refine HA.out.mono ?_);rintro e w1 ⟨rfl,rfl⟩)
  go_wp2
  go_ret
  exact ⟨_,rfl,MA.out,Below.refl _ _⟩
 ·rw [decide_eq_false e1] at HA
  by_cases e2:n=1
  ·rw [decide_eq_true e2] at HB
   have hr:Nat.gcd m n=n:=by rw [e2,Nat.gcd_one_right]
   rw [hr]
   clear HG HE e1 e2 hr
   go_enter Tryz.func214,Tryz.ntmps214
   go_wp2_with (go_at_call 213;first|((with_reducible refine HA.out.mono ?_);rintro e w1 ⟨rfl,rfl⟩)|((with_reducible refine HB.out.mono ?_);rintro e w1 ⟨rfl,rfl⟩))
   go_wp2
   go_ret
   exact ⟨_,rfl,MB.out,Below.refl _ _⟩
  ·rw [decide_eq_false e2] at HB
   by_cases e3:m=n
   ·rw [decide_eq_true e3] at HE
    have hr:Nat.gcd m n=m:=by rw [←e3,Nat.gcd_self]
    rw [hr]
    clear HG e1 e2 e3 hr
    go_enter Tryz.func214,Tryz.ntmps214
    go_wp2_with (first
     | (go_at_call 213;first|((with_reducible refine HA.out.mono ?_);rintro e w1 ⟨rfl,rfl⟩)|((with_reducible refine HB.out.mono ?_);rintro e w1 ⟨rfl,rfl⟩))
     | (go_at_call 201;(with_reducible refine HE.out.mono ?_);rintro e w2 ⟨rfl,K2⟩;refine Hid.out ?_))
    refine Yt ?_
    go_wp2
    go_ret
    exact ⟨_,rfl,MA.out.kp K2,K2⟩
   ·rw [decide_eq_false e3] at HE
    clear e1 e2 e3
    go_enter Tryz.func214,Tryz.ntmps214
    go_wp2_with (first
     | (go_at_call 213;first|((with_reducible refine HA.out.mono ?_);rintro e w1 ⟨rfl,rfl⟩)|((with_reducible refine HB.out.mono ?_);rintro e w1 ⟨rfl,rfl⟩))
     | (go_at_call 201;(with_reducible refine HE.out.mono ?_);rintro e w2 ⟨rfl,K2⟩;refine Hid.out ?_))
    refine Yt ?_
    have HG2:=Yt (HG.out w2 K2)
    go_wp2_with (go_at_call 255;(with_reducible refine HG2.out.mono ?_);rintro e w3 ⟨v3,rfl,h3,K3⟩;refine Hid.out ?_)
    refine Yt ?_
    go_wp2
    go_ret
    exact ⟨_,rfl,h3,K2.tr K3⟩
theorem Own.m_tail {w:World} {g:Nat} {xs ys:List Nat} (h:Own w 31 g (xs++ys)) (hy:Ai ys) {n:Nat} (hn:ys=toL n) (hl:ys.length≤maxLen):M w (.slice (some ⟨g,xs.length,none⟩) ys.length ys.length) n:=by
 unfold M
 rw [←hn]
 refine ⟨_,_,rfl,Yu _,hl,hy,fun _=>⟨g,xs.length,rfl,fun i hi=>?_⟩⟩
 rw [h.cell (xs.length+i) (by rw [List.length_append];omega)]
 congr 2
 simp [List.getD,List.getElem?_append_right]
theorem Own.m_head {w:World} {g:Nat} {xs ys:List Nat} (h:Own w 31 g (xs++ys)) (hx:Ai xs) {n:Nat} (hn:xs=toL n) {c:Nat} (hc:xs.length≤c) (hl:c≤maxLen):M w (.slice (some ⟨g,0,none⟩) xs.length c) n:=by
 unfold M
 rw [←hn]
 refine ⟨_,_,rfl,hc,hl,hx,fun _=>⟨g,0,rfl,fun i hi=>?_⟩⟩
 rw [Nat.zero_add,h.cell i (by rw [List.length_append];omega)]
 congr 2
 simp [List.getD,List.getElem?_append_left hi]
def Res (w:World) (g:Nat) (a b c:Value):Prop:=w.heap[g]?=some (.cells #[a,b,c] 34 (0,0))
theorem Res.kp {w w':World} {g:Nat} {a b c:Value} (h:Res w g a b c) (k:Kp w w'):Res w' g a b c:=by
 unfold Res
 rw [k.block g (Array.getElem?_eq_some_iff.1 h).1]
 exact h
theorem Res.new (w:World) (a b c:Value):Res (w.alloc (Obj.cells #[a,b,c] 34)) w.heap.size a b c:=heap_alloc_new w _
theorem Res.cells {w:World} {g:Nat} {a b c:Value} (h:Res w g a b c):w.cell? ⟨g,0,none⟩=some a∧w.cell? ⟨g,1,none⟩=some b∧w.cell? ⟨g,2,none⟩=some c∧w.frozen? ⟨g,0,none⟩=false∧w.frozen? ⟨g,1,none⟩=false∧w.frozen? ⟨g,2,none⟩=false:=
 ⟨cell_of_row w g 0 _ _ _ h,cell_of_row w g 1 _ _ _ h,cell_of_row w g 2 _ _ _ h,frozen_of_row w g 0 _ _ h,frozen_of_row w g 1 _ _ h,frozen_of_row w g 2 _ _ h⟩
def En (w:World) (g:Nat) (a b c:Value):World:=((w.setCell ⟨g,0,none⟩ a).setCell ⟨g,1,none⟩ b).setCell ⟨g,2,none⟩ c
theorem Res.put {w:World} {g:Nat} {a b c:Value} (h:Res w g a b c) (x y z:Value):Res (En w g x y z) g x y z:=by
 have h0:=heap_setCell_same w g 0 _ _ x h
 have h1:=heap_setCell_same _ g 1 _ _ y h0
 have h2:=heap_setCell_same _ g 2 _ _ z h1
 exact h2
theorem R5 (w:World) (g:Nat) (a b c:Value):Ci g w (En w g a b c):=(((Ci.refl g w).setCell 0 _).setCell 1 _).setCell 2 _
theorem M.put3 {w:World} {v:Value} {n g:Nat} (h:M w v n) (hn:GK g v) (a b c:Value):M (En w g a b c) v n:=
 ((Rd.put (Rd.put (Rd.put h hn 0 a) hn 1 b) hn 2 c))
theorem Kp.put3 {w0 w:World} (h:Kp w0 w) {g:Nat} (hg:w0.heap.size≤g) (a b c:Value):Kp w0 (En w g a b c):=(R5 w g a b c).kp h hg
theorem TY {w:World} {B:Nat} {e:TypeId} {s:Nat} {v:Value} {n:Nat} {xs:List Value} (h:w.ownsRow B e s v n xs) (hn:0<n): ∃g c,v= .slice (some ⟨g,0,none⟩) n c:=by
 rcases h.2 with ⟨_,h0⟩|⟨g,cap,cur,rfl,_⟩
 ·omega
 ·exact ⟨g,cap,rfl⟩
set_option maxRecDepth 20000 in
theorem Po {w:World} {neg:Bool} {a b:Value} {n d:Nat} (ha:M w a n) (h0:n=0):
  Calls Tryz.prog 224 #[.bool neg,a,b] w fun e w'=> ∃v,e= .returned v∧Ax w' v (AE neg n d)∧Kp w w':=by
 subst h0
 rw [GP]
 obtain ⟨ao,ac,rfl,a1,a2,a3,a4⟩:=ha
 rw [Az]
 clear a1 a2 a3 a4
 go_enter Tryz.func224,Tryz.ntmps224
 go_wp2
 refine bodyPost_ret (v:= .agg #[.bool false,.slice none 0 0,.slice none 0 0]) (by simp [results,Tryz.results224,go_sem]) rfl ⟨_,rfl,Ax.zero _,?_⟩
 exact Kp.alloc _ _
set_option maxRecDepth 20000 in
theorem R4 {w:World} {neg:Bool} {a b:Value} {n:Nat} (ha:M w a n) (hb:M w b 1) (h0:n≠0) (hl:(toL n).length≤549755813888):
  Calls Tryz.prog 224 #[.bool neg,a,b] w fun e w'=> ∃v,e= .returned v∧Ax w' v (AE neg n 1)∧Kp w w':=by
 obtain ⟨i0,hi,hz0,hz1,hz2⟩:=info_parts BT
 have KW:=Kp.alloc w (Obj.cells #[Value.bool false,Value.slice none 0 0,Value.slice none 0 0] 34)
 have HI:=Yt (Cz (hb.kp KW))
 rw [decide_eq_true rfl] at HI
 have HRES:=Yt (Res.new w (Value.bool false) (Value.slice none 0 0) (Value.slice none 0 0))
 have hl0:=DV h0
 have HN0:=Yt h0
 obtain ⟨ao,ac,rfl,a1,a2,a3,a4⟩:=ha
 have HSRC:=Yt ((a4.kp KW).news)
 have HLM:=Yt (BG n)
 unfold maxLen at a2
 obtain ⟨la,hla⟩: ∃la,la=(toL n).length:=⟨_,rfl⟩
 have hcl:(cellsOf (toL n)).length=la*1:=by rw [Du,←hla,Nat.mul_one]
 have HCL:=Yt hcl
 rw [←hla] at a1 hl hl0⊢
 have hne:((la:Int)==0)=false:=beq_eq_false_iff_ne.2 (by omega)
 have HKW:=Yt KW
 clear a3 a4 hb hla h0 hcl KW
 go_enter Tryz.func224,Tryz.ntmps224
 go_wp2_with (first
  | (go_at_call 213;(with_reducible refine HI.out.mono ?_);rintro e w1 ⟨rfl,rfl⟩)
  | (at_builtin;refine AJ _ rfl (.const (.slice none 0 0)) (.tmp 16) 32 rfl (w.heap.size+1) 31 i0 (.int .u32 0) 1 4 AZ hi hz0 hz1 hz2 rfl (by decide) (.slice none 0 0) 0 [] rfl (World.ownsRow_nil _ _ _ _) ao la ac (cellsOf (toL n)) rfl HCL.out HSRC.out (A9 _) (by unfold maxLen;omega) (by omega) (by simp) ?_;intro v' w3 hown' hg3 _;refine Hid.out ?_))
 refine Yt ?_
 have K3:Kp w w3:=HKW.out.grown hg3 (by simp) (fun b hb=>by simp [Value.ownBlock] at hb)
 have HR3:=Yt (HRES.out.kp ((Below.refl _ _).grown hg3 (Yu _) (fun b hb=>by simp [Value.ownBlock] at hb)))
 simp only [List.nil_append,Nat.zero_add] at hown'
 obtain ⟨g4,c4,rfl⟩:=TY hown' hl0
 have HNW:=Yt ((JG hown').notIn (Nat.lt_succ_self _))
 have HM:=Yt (show M w3 (.slice (some ⟨g4,0,none⟩) la c4) n from Rd.owned hown' HLM.out)
 obtain ⟨d0,d1,d2,f0,f1,f2⟩:=HR3.out.cells
 have HK3:=Yt K3
 clear hown' hg3 K3
 go_wp2
 have hc:=(HR3.out.put (.bool neg) (.slice (some ⟨g4,0,none⟩) la c4) (.slice none 0 0)).cells
 obtain ⟨c0,c1,c2,_,_,_⟩:=hc
 unfold En at c0 c1 c2
 refine bodyPost_ret (v:= .agg #[.bool neg,.slice (some ⟨g4,0,none⟩) la c4,.slice none 0 0]) (by simp [results,Tryz.results224,go_sem,c0,c1,c2]) rfl ⟨_,rfl,?_,?_⟩
 ·exact Ax.of (by decide) (Nat.gcd_one_right n) (HM.out.put3 HNW.out _ _ _) (by rw [if_pos rfl];exact Ij _) (fun h=>absurd h HN0.out)
 ·exact HK3.out.put3 (Yu _) _ _ _
theorem MW (xs:List Nat) (m:Nat):splice (cellsOf (List.replicate (xs.length+m) 0)) 0 (cellsOf xs)=cellsOf (xs++List.replicate m 0):=by
 simp [splice,cellsOf]
theorem MU (xs ys:List Nat):splice (cellsOf (xs++List.replicate ys.length 0)) xs.length (cellsOf ys)=cellsOf (xs++ys):=by
 simp [splice,cellsOf]
set_option maxRecDepth 20000 in
theorem Pp {w:World} {neg:Bool} {a b:Value} {n d:Nat} (ha:M w a n) (hb:M w b d) (h0:n≠0) (hd0:d≠0) (hd1:d≠1) (hc:Nat.gcd n d=1) (hl:(toL n).length≤549755813888) (hl2:(toL d).length≤549755813888):
  Calls Tryz.prog 224 #[.bool neg,a,b] w fun e w'=> ∃v,e= .returned v∧Ax w' v (AE neg n d)∧Kp w w':=by
 obtain ⟨i0,hi,hz0,hz1,hz2⟩:=info_parts BT
 have KW:=Kp.alloc w (Obj.cells #[Value.bool false,Value.slice none 0 0,Value.slice none 0 0] 34)
 have HI:=Yt (Cz (hb.kp KW))
 rw [decide_eq_false hd1] at HI
 have HRES:=Yt (Res.new w (Value.bool false) (Value.slice none 0 0) (Value.slice none 0 0))
 have hl0:=DV h0
 have hld:=DV hd0
 have HN0:=Yt h0
 have HD:=Yt (And.intro hd0 (And.intro hd1 hc))
 obtain ⟨ao,ac,rfl,a1,a2,a3,a4⟩:=ha
 obtain ⟨bo,bc,rfl,b1,b2,b3,b4⟩:=hb
 have HSA:=Yt (a4.kp KW)
 have HSB:=Yt (b4.kp KW)
 have HLA:=Yt a3
 have HLB:=Yt b3
 unfold maxLen at a2 b2
 obtain ⟨la,hla⟩: ∃la,la=(toL n).length:=⟨_,rfl⟩
 obtain ⟨lb,hlb⟩: ∃lb,lb=(toL d).length:=⟨_,rfl⟩
 have HCA:=Yt hla
 have HCB:=Yt hlb
 rw [←hla] at a1 hl hl0⊢
 rw [←hlb] at b1 hl2 hld HI⊢
 have hne:((la:Int)==0)=false:=beq_eq_false_iff_ne.2 (by omega)
 have HKW:=Yt KW
 clear a3 a4 b3 b4 hla hlb h0 hd0 hd1 hc KW
 go_enter Tryz.func224,Tryz.ntmps224
 go_wp2_with (first
  | (go_at_call 213;(with_reducible refine HI.out.mono ?_);rintro e w1 ⟨rfl,rfl⟩)
  | (at_make;refine wpList_make_full _ rfl _ _ 32 rfl (w.heap.size+1) 31 i0 (.int .u32 0) 1 AZ hi hz0 hz1 _ _ _ _ (la+lb) rfl rfl (by omega) (by omega) (by rw [hz2];omega) (by unfold maxLen;omega) (by simp) ?_;intro w3 hown hg;refine Hid.out ?_))
 refine Yt ?_
 have hs:(w.alloc (Obj.cells #[Value.bool false,Value.slice none 0 0,Value.slice none 0 0] 34)).heap.size=w.heap.size+1:=by simp
 rw [hs] at hown
 have O1:=Yt (Own.of_make hown)
 have KA:=(Below.refl (w.alloc (Obj.cells #[Value.bool false,Value.slice none 0 0,Value.slice none 0 0] 34)).heap.size _).grown hg (Yu _) (fun b hb=>by cases hb)
 have HKA:=Yt KA
 clear hown hg KA hs
 have hsz:(Tryz.prog.info? 31).map (·.size)=some 1:=by rw [hi];exact congrArg some hz1
 have HZ:=Yt hsz
 clear hsz
 go_wp2_with ((with_reducible show wpList _ _ _ (Oper.mk (some 28) _ _ _ _ _::_) _ _);refine Hid.out ?_)
 refine Yt ?_
 refine wpList_copy_splice rfl (.tmp 26) (.tmp 27) 32 32 rfl 31 AZ HZ.out (some ⟨w.heap.size+1,0,none⟩) ao (la+lb) (la+lb) la ac rfl rfl (w.heap.size+1) 0 (cellsOf (List.replicate (la+lb) 0)) 31 O1.out (cellsOf (toL n)) (by rw [Du,←HCA.out];exact (Nat.min_eq_left (Nat.le_add_right _ _)).symm) (fun hp=>⟨rfl,(HSA.out.kp HKA.out).news hp⟩) (by simp only [Du];rw [←HCA.out,List.length_replicate];omega) (A9 _) _ _ HKA.out (by simp) ?_
 intro w4 O2 K4
 have O4:Hid (Own w4 31 (w.heap.size+1) (toL n++List.replicate lb 0)):=by
  have h:=O2.out
  rw [HCA.out,MW] at h
  exact Yt h
 have HK4:=Yt K4
 clear O2 K4
 go_wp2_with ((with_reducible show wpList _ _ _ (Oper.mk (some 33) _ _ _ _ _::_) _ _);refine Hid.out ?_)
 refine Yt ?_
 refine wpList_copy_splice rfl (.tmp 31) (.tmp 32) 32 32 rfl 31 AZ HZ.out (some ⟨w.heap.size+1,la,none⟩) bo lb lb lb bc ?_ rfl (w.heap.size+1) la (cellsOf (toL n++List.replicate lb 0)) 31 O4.out (cellsOf (toL d)) (by rw [Du,←HCB.out];exact (Nat.min_self _).symm) (fun hp=>⟨rfl,(HSB.out.kp HK4.out).news hp⟩) (by simp only [Du];rw [←HCB.out,List.length_append,←HCA.out,List.length_replicate];exact Yu _) (A9 _) _ _ HK4.out (by simp) ?_
 ·rfl
 intro w5 O5 K5
 have O6:Hid (Own w5 31 (w.heap.size+1) (toL n++toL d)):=by
  have h:=O5.out
  rw [HCA.out,HCB.out,MU] at h
  exact Yt h
 have HK5:=Yt K5
 have HR5:=Yt (HRES.out.kp K5)
 obtain ⟨d0,d1,d2,f0,f1,f2⟩:=HR5.out.cells
 clear O5 K5
 have hlz:(lb=0)=False:=eq_false (by omega)
 have HMN:=Yt (O6.out.m_head HLA.out rfl (c:=(toL n).length) (Yu _) (by rw [←HCA.out];unfold maxLen;omega))
 have HMD:=Yt (O6.out.m_tail HLB.out rfl (by rw [←HCB.out];unfold maxLen;omega))
 rw [←HCA.out] at HMN HMD
 rw [←HCB.out] at HMD
 have HP:=Yt (HR5.out.put (.bool neg) (.slice (some ⟨w.heap.size+1,0,none⟩) la la) (.slice (some ⟨w.heap.size+1,la,none⟩) lb lb)).cells
 have HNI: ∀off k c,GK w.heap.size (.slice (some ⟨w.heap.size+1,off,none⟩) k c):=by
  intro off k c b o sp l c' e
  obtain ⟨⟨rfl,_⟩,_⟩:(w.heap.size+1=b∧_)∧_:=by simpa using e
  omega
 have HNI:=Yt HNI
 unfold En at HP
 go_wp2_with fail
 go_region_with (fail)
 all_goals go_wp2
 all_goals obtain ⟨c0,c1,c2,_,_,_⟩:=HP.out
 all_goals refine bodyPost_ret (v:= .agg #[.bool neg,.slice (some ⟨w.heap.size+1,0,none⟩) la la,.slice (some ⟨w.heap.size+1,la,none⟩) lb lb]) (by simp [results,Tryz.results224,go_sem,c0,c1,c2]) rfl ⟨_,rfl,?_,?_⟩
 all_goals first
  | exact Ax.kp (Ax.of HD.out.1 HD.out.2.2 (HMN.out.put3 (HNI.out _ _ _) _ _ _) (by rw [if_neg HD.out.2.1];exact HMD.out.put3 (HNI.out _ _ _) _ _ _) (fun h=>absurd h HN0.out)) (Below.refl _ _).drew
  | exact (HKW.out.tr HK5.out |>.put3 (Yu _) _ _ _).drew
def EF (v:Value):Prop:= ∀x,v≠ .int .u32 x
theorem EN (b:Bool):EF (.bool b):=fun _ h=>by cases h
theorem Cp (o:Option Addr) (n c:Nat):EF (.slice o n c):=fun _ h=>by cases h
theorem M.notRes {w:World} {v:Value} {n g:Nat} {a b c:Value} (h:M w v n) (hn:n≠0) (hr:Res w g a b c) (ha:EF a) (hb:EF b) (hc:EF c):GK g v:=by
 obtain ⟨ao,cap,rfl,h1,h2,h3,h4⟩:=h
 obtain ⟨b',off,rfl,hcell⟩:=h4 (fun e=>hn ((AU n).1 e))
 intro b2 off2 sp l c2 e
 obtain ⟨⟨rfl,_⟩,_⟩:(b'=b2∧_)∧_:=by simpa using e
 rintro rfl
 have h0:=hcell 0 (DV hn)
 rw [Nat.add_zero] at h0
 match off with
 | 0=>rw [cell_of_row w b' 0 _ _ _ hr] at h0;exact ha _ (by simpa using h0)
 | 1=>rw [cell_of_row w b' 1 _ _ _ hr] at h0;exact hb _ (by simpa using h0)
 | 2=>rw [cell_of_row w b' 2 _ _ _ hr] at h0;exact hc _ (by simpa using h0)
 | k+3=>rw [cell_of_row w b' (k+3) _ _ _ hr] at h0;simp at h0
theorem M.res {w:World} {v:Value} {n g:Nat} {a b c:Value} (h:M w v n) (hr:Res w g a b c) (ha:EF a) (hb:EF b) (hc:EF c) (x y z:Value):M (En w g x y z) v n:=by
 by_cases hn:n=0
 ·obtain ⟨ao,cap,rfl,h1,h2,h3,h4⟩:=h
  refine ⟨ao,cap,rfl,h1,h2,h3,fun hne=>?_⟩
  rw [hn,Az] at hne
  exact absurd rfl hne
 ·exact h.put3 (h.notRes hn hr ha hb hc) x y z
theorem Ax.res {w:World} {v:Value} {r:Rat} {g:Nat} {a b c:Value} (h:Ax w v r) (hr:Res w g a b c) (ha:EF a) (hb:EF b) (hc:EF c) (x y z:Value):Ax (En w g x y z) v r:=by
 obtain ⟨num,den,rfl,h1,h2⟩:=h
 exact ⟨num,den,rfl,h1.res hr ha hb hc x y z,h2.res hr ha hb hc x y z⟩
theorem BQ {w:World} {v:Value} {n:Nat} (h:M w v n): ∃o l c,v= .slice o l c:=by
 obtain ⟨o,c,e,_⟩:=h
 exact ⟨o,_,c,e⟩
theorem Ax.lit {w:World} {v:Value} {x:Rat} (h:Ax w v x): ∃(s:Bool) (o1:Option Addr) (l1 c1:Nat) (o2:Option Addr) (l2 c2:Nat),v= .agg #[.bool s,.slice o1 l1 c1,.slice o2 l2 c2]:=by
 obtain ⟨num,den,rfl,m1,m2⟩:=h
 obtain ⟨o1,l1,c1,rfl⟩:=BQ m1
 obtain ⟨o2,l2,c2,rfl⟩:=BQ m2
 exact ⟨_,_,_,_,_,_,_,rfl⟩
theorem Bz {w W w4:World} {g:Nat} {s:Bool} {o1 o2:Option Addr} {l1 c1 l2 c2:Nat} {p:Bool} {a1 a2:Option Addr} {n1 m1 n2 m2:Nat} {x:Rat} (hr:Res W g (.bool p) (.slice a1 n1 m1) (.slice a2 n2 m2)) (kw:Kp w W) (kk:Kp W w4) (hv:Ax w4 (.agg #[.bool s,.slice o1 l1 c1,.slice o2 l2 c2]) x) (hg:w.heap.size≤g:=by exact Nat.le_refl _):
  (w4.cell? ⟨g,0,none⟩=some (.bool p)∧w4.cell? ⟨g,1,none⟩=some (.slice a1 n1 m1)∧w4.cell? ⟨g,2,none⟩=some (.slice a2 n2 m2)∧w4.frozen? ⟨g,0,none⟩=false∧w4.frozen? ⟨g,1,none⟩=false∧w4.frozen? ⟨g,2,none⟩=false)∧
  Hid ((((w4.setCell ⟨g,0,none⟩ (.bool s)).setCell ⟨g,1,none⟩ (.slice o1 l1 c1)).setCell ⟨g,2,none⟩ (.slice o2 l2 c2)).cell? ⟨g,0,none⟩=some (.bool s)∧
   (((w4.setCell ⟨g,0,none⟩ (.bool s)).setCell ⟨g,1,none⟩ (.slice o1 l1 c1)).setCell ⟨g,2,none⟩ (.slice o2 l2 c2)).cell? ⟨g,1,none⟩=some (.slice o1 l1 c1)∧
   (((w4.setCell ⟨g,0,none⟩ (.bool s)).setCell ⟨g,1,none⟩ (.slice o1 l1 c1)).setCell ⟨g,2,none⟩ (.slice o2 l2 c2)).cell? ⟨g,2,none⟩=some (.slice o2 l2 c2))∧
  Hid (Ax (((w4.setCell ⟨g,0,none⟩ (.bool s)).setCell ⟨g,1,none⟩ (.slice o1 l1 c1)).setCell ⟨g,2,none⟩ (.slice o2 l2 c2)) (.agg #[.bool s,.slice o1 l1 c1,.slice o2 l2 c2]) x)∧
  Hid (Kp w (((w4.setCell ⟨g,0,none⟩ (.bool s)).setCell ⟨g,1,none⟩ (.slice o1 l1 c1)).setCell ⟨g,2,none⟩ (.slice o2 l2 c2))):=by
 have h4:=hr.kp kk
 have hc:=(h4.put (.bool s) (.slice o1 l1 c1) (.slice o2 l2 c2)).cells
 exact ⟨h4.cells,Yt ⟨hc.1,hc.2.1,hc.2.2.1⟩,Yt (hv.res h4 (EN _) (Cp _ _ _) (Cp _ _ _) _ _ _),Yt ((kw.tr kk).put3 hg _ _ _)⟩
theorem Gx {w:World} {neg:Bool} {a b:Value} {n d:Nat} (ha:M w a n) (hb:M w b d) (hd0:d≠0) (hc:Nat.gcd n d=1) (hl:(toL n).length≤549755813888) (hl2:(toL d).length≤549755813888):
  Calls Tryz.prog 224 #[.bool neg,a,b] w fun e w'=> ∃v,e= .returned v∧Ax w' v (AE neg n d)∧Kp w w':=by
 by_cases h0:n=0
 ·exact Po ha h0
 ·by_cases h1:d=1
  ·subst h1
   exact R4 ha hb h0 hl
  ·exact Pp ha hb h0 hd0 h1 hc hl hl2
end Go.Proofs.YtfineedhebhpaaaGreatDoor
