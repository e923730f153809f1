/-
  Several texts in one: Q, Qa, Qo, Ql.
-/
import Derived.Test.YtfineedhebhpaaaGreatDoorBf
import Derived.Test.YtfineedhebhpaaaGreatDoorBi
import Derived.Test.YtfineedhebhpaaaGreatDoorBa
import Derived.Test.YtfineedhebhpaaaGreatDoorBg
namespace Go.Proofs.YtfineedhebhpaaaGreatDoor
open Nat renaming le_refl→Xv
open Lib renaming hid→Xu
set_option maxHeartbeats 16000000
open Go.RowKit
def A0 (x:Rat):Nat:=if x.den=1 then 0 else x.den
def Ax (w:World) (v:Value) (x:Rat):Prop:=
 ∃num den,v= .agg #[.bool (decide (x.num<0)),num,den]∧M w num x.num.natAbs∧M w den (A0 x)
theorem Ax.kp {w w':World} {v:Value} {x:Rat} (h:Ax w v x) (k:Kp w w'):Ax w' v x:=by
 obtain ⟨num,den,rfl,h1,h2⟩:=h
 exact ⟨num,den,rfl,h1.kp k,h2.kp k⟩
theorem Jc (w:World):M w (.slice none 0 0) 0:=by first|exact m_nil w|exact m_nil
theorem Ax.of {w:World} {neg:Bool} {n d:Nat} {num den:Value} (hd:d≠0) (hc:Nat.gcd n d=1) (hn:M w num n) (hden:M w den (if d=1 then 0 else d)) (h0:n=0→neg=false):Ax w (.agg #[.bool neg,num,den]) (AH neg n d):=by
 obtain ⟨e1,e2⟩:=FJ neg hd hc
 refine ⟨num,den,?_,by rw [e1,Eg];exact hn,by unfold A0;rw [e2];exact hden⟩
 rw [e1,WS]
 by_cases h:n=0
 ·rw [h0 h];rfl
 ·rw [decide_eq_true h,Bool.and_true]
theorem Ax.zero (w:World):Ax w (.agg #[.bool false,.slice none 0 0,.slice none 0 0]) 0:=by
 have:=Ax.of (w:=w) (neg:=false) (n:=0) (d:=1) (by decide) (by decide) (Jc w) (by rw [if_pos rfl];exact Jc w) (fun _=>rfl)
 rwa [Gm] at this
def RSz (k:Nat) (x:Rat):Prop:=Sz k x.num.natAbs∧Sz k x.den
theorem RSz.mono {j k:Nat} {x:Rat} (h:RSz j x) (hk:j≤k):RSz k x:=⟨h.1.mono hk,h.2.mono hk⟩
theorem Sz.plus {k m n:Nat} (h:Sz k m) (h2:Sz k n):Sz (k+1) (m+n):=by
 apply AL
 have h3:=Nat.lt_of_lt_of_le (Dj m) (Nat.pow_le_pow_right (show 0<4294967296 by omega) h)
 have h4:=Nat.lt_of_lt_of_le (Dj n) (Nat.pow_le_pow_right (show 0<4294967296 by omega) h2)
 rw [Nat.pow_succ]
 generalize (4294967296:Nat)^k=P at*
 omega
theorem RSz.of_mkRat {k:Nat} {z:Int} {d:Nat} (hz:Sz k z.natAbs) (hd:Sz k d) (h0:d≠0):RSz k (mkRat z d):=by
 have hg:0<Nat.gcd d z.natAbs:=Nat.gcd_pos_of_pos_left _ (Nat.pos_of_ne_zero h0)
 constructor
 ·rw [Rat.num_mkRat,if_neg h0]
  refine hz.le ?_
  have h1:((Nat.gcd d z.natAbs:Nat):Int)∣z:=by
   have:=Int.ofNat_dvd.2 (Nat.gcd_dvd_right d z.natAbs)
   exact Int.dvd_natAbs.1 this
  rw [Int.natAbs_ediv_of_dvd h1]
  exact Nat.div_le_self _ _
 ·rw [Rat.den_mkRat,if_neg h0]
  exact hd.le (Nat.div_le_self _ _)
theorem RSz.add {j k:Nat} {x y:Rat} (h:RSz j x) (h2:RSz k y):RSz (j+k+1) (x+y):=by
 rw [Rat.add_def']
 refine RSz.of_mkRat ?_ ((h.2.mul h2.2).mono (by omega)) (Nat.mul_ne_zero x.den_nz y.den_nz)
 have h3:Sz (j+k) (x.num.natAbs*y.den):=h.1.mul h2.2
 have h4:Sz (j+k) (y.num.natAbs*x.den):=by rw [Nat.mul_comm];exact h.2.mul h2.1
 refine (h3.plus h4).le ?_
 refine Nat.le_trans (Int.natAbs_add_le _ _) ?_
 rw [Int.natAbs_mul,Int.natAbs_mul,Int.natAbs_natCast,Int.natAbs_natCast]
 exact Xv _
theorem RSz.mul {j k:Nat} {x y:Rat} (h:RSz j x) (h2:RSz k y):RSz (j+k) (x*y):=by
 rw [Rat.mul_def']
 refine RSz.of_mkRat ?_ (h.2.mul h2.2) (Nat.mul_ne_zero x.den_nz y.den_nz)
 rw [Int.natAbs_mul]
 exact h.1.mul h2.1
theorem RSz.neg {k:Nat} {x:Rat} (h:RSz k x):RSz k (-x):=by
 refine ⟨?_,?_⟩
 ·rw [Rat.neg_num,Int.natAbs_neg];exact h.1
 ·rw [Rat.neg_den];exact h.2
theorem RSz.sub {j k:Nat} {x y:Rat} (h:RSz j x) (h2:RSz k y):RSz (j+k+1) (x-y):=by
 rw [Rat.sub_eq_add_neg]
 exact h.add h2.neg
theorem DN {n:Nat} (h:n≠0):0<(toL n).length:=by
 rcases Nat.eq_zero_or_pos (toL n).length with e|e
 ·exact absurd ((AY n).1 (List.length_eq_zero_iff.1 e)) h
 ·exact e
theorem FU:toL 1= [1]:=by rw [De 1 (by decide),AE]
set_option maxRecDepth 20000 in
theorem DE {w:World} {v:Value} {n:Nat} (h:M w v n):
  Calls Tryz.prog 213 #[v] w fun e w'=>e= .returned (.bool (decide (n=1)))∧w=w':=by
 obtain ⟨ao,ac,rfl,a1,a2,a3,a4⟩:=h
 unfold maxLen at a2
 by_cases h1:(toL n).length=1
 ·have h2:=D9 h1
  obtain ⟨b,off,x,rfl,hc,hx,HX⟩:=a4.at a3 0 (by omega)
  obtain rfl:x=n:=by have:=HX.out;rw [h2] at this;exact this
  rw [Nat.add_zero] at hc
  rw [h1] at a1⊢
  have hd:decide ((x:Int)=1)=decide (x=1):=by
   by_cases e:x=1
   ·rw [decide_eq_true e,decide_eq_true (by omega)]
   ·rw [decide_eq_false e,decide_eq_false (by omega)]
  have hb:((x:Int)==1)=decide (x=1):=by rw [←hd];rfl
  have HB:=Xu hb
  clear a3 a4 h1 h2 HX hd hb
  go_enter Tryz.func213,Tryz.ntmps213
  go_wp2
  go_ret
  exact ⟨En HB.out,rfl⟩
 ·have h2:n≠1:=by rintro rfl;rw [FU] at h1;simp at h1
  rw [decide_eq_false h2]
  obtain ⟨l,hl⟩: ∃l,l=(toL n).length:=⟨_,rfl⟩
  rw [←hl] at h1 a1⊢
  have hne:((l:Int)==1)=false:=beq_eq_false_iff_ne.2 (by omega)
  clear a3 a4 hl h2 h1
  go_enter Tryz.func213,Tryz.ntmps213
  go_wp2
  go_ret
  exact ⟨rfl,rfl⟩
set_option maxRecDepth 20000 in
theorem DC {w:World} {a b:Value} {m n:Nat} (ha:M w a m) (hb:M w b n) {j k:Nat} (h1:Sz j m) (h2:Sz k n) (hj:j≤1099511627776) (hk:k≤1099511627776):
  Calls Tryz.prog 225 #[a,b] w fun e w'=> ∃v,e= .returned v∧M w' v (m*n)∧Kp w w':=by
 have HA:=Xu (DE ha)
 have HB:=Xu (DE hb)
 have HM:=Xu (W4 ha hb h1 h2 hj hk)
 have MA:=Xu ha
 have MB:=Xu hb
 clear ha hb h1 h2
 by_cases e1:m=1
 ·rw [decide_eq_true e1] at HA
  rw [e1,Nat.one_mul]
  clear HM HB
  go_enter Tryz.func225,Tryz.ntmps225
  go_wp2_with (go_at_call 213;(with_reducible refine HA.out.mono ?_);rintro e w1 ⟨rfl,rfl⟩)
  go_wp2
  go_ret
  exact ⟨_,rfl,MB.out,Below.refl _ _⟩
 ·rw [decide_eq_false e1] at HA
  by_cases e2:n=1
  ·rw [decide_eq_true e2] at HB
   rw [e2,Nat.mul_one]
   clear HM
   go_enter Tryz.func225,Tryz.ntmps225
   go_wp2_with (go_at_call 213;first|((with_reducible refine HA.out.mono ?_);rintro e w1 ⟨rfl,rfl⟩)|((with_reducible refine HB.out.mono ?_);rintro e w1 ⟨rfl,rfl⟩))
   go_wp2
   go_ret
   exact ⟨_,rfl,MA.out,Below.refl _ _⟩
  ·rw [decide_eq_false e2] at HB
   clear e1 e2
   go_enter Tryz.func225,Tryz.ntmps225
   go_wp2_with (first
    | (go_at_call 213;first|((with_reducible refine HA.out.mono ?_);rintro e w1 ⟨rfl,rfl⟩)|((with_reducible refine HB.out.mono ?_);rintro e w1 ⟨rfl,rfl⟩))
    | (go_at_call 261;(with_reducible refine HM.out.mono ?_);rintro e w2 ⟨v2,rfl,h2,K2⟩;refine Hid.out ?_))
   refine Xu ?_
   go_wp2
   go_ret
   exact ⟨_,rfl,h2,K2⟩
set_option maxRecDepth 20000 in
theorem Cx {w:World} {a b:Value} {m g:Nat} (ha:M w a m) (hb:M w b g) (hs:(toL m).length≤549755813888) (hg:g≠0) (hT:Tz w):
  Calls Tryz.prog 226 #[a,b] w fun e w'=> ∃v,e= .returned v∧M w' v (m/g)∧Kp w w':=by
 have HB:=Xu (DE hb)
 have HD:=Xu (P5 ha hb (k:=(toL m).length) (Xv _) hs hg hT)
 have MA:=Xu ha
 clear ha hb hT
 by_cases e1:g=1
 ·rw [decide_eq_true e1] at HB
  rw [e1,Nat.div_one]
  clear HD
  go_enter Tryz.func226,Tryz.ntmps226
  go_wp2_with (go_at_call 213;(with_reducible refine HB.out.mono ?_);rintro e w1 ⟨rfl,rfl⟩)
  go_wp2
  go_ret
  exact ⟨_,rfl,MA.out,Below.refl _ _⟩
 ·rw [decide_eq_false e1] at HB
  go_enter Tryz.func226,Tryz.ntmps226
  go_wp2_with (first
   | (go_at_call 213;(with_reducible refine HB.out.mono ?_);rintro e w1 ⟨rfl,rfl⟩)
   | (go_at_call 262;(with_reducible refine HD.out.mono ?_);rintro e w2 ⟨q,r,rfl,hq,_,K2⟩;refine Hid.out ?_))
  refine Xu ?_
  go_wp2
  go_ret
  exact ⟨_,rfl,hq,K2⟩
theorem F8 (a b:Value) (xs ys:List Nat) (w:World) (ha:Rd w a xs) (hb:Rd w b ys):
  Calls Tryz.prog 201 #[a,b] w fun e w'=>e= .returned (.bool (decide (xs=ys)))∧Kp w w':=by
 obtain ⟨ao,ac,rfl,a1,a2,a3,a4⟩:=ha
 obtain ⟨bo,bc,rfl,b1,b2,b3,b4⟩:=hb
 unfold maxLen at a2 b2
 have A3:=Xu a3
 have B3:=Xu b3
 clear a3 b3
 by_cases hl:xs.length=ys.length
 ·have hne:(((xs.length:Nat):Int) !=(ys.length:Int))=false:=by rw [hl];simp
  have HL:=Xu hl
  clear hl
  go_enter Tryz.func201,Tryz.ntmps201
  go_wp2
  go_loopw [13] (fun i wr=> ∃k:Nat,k≤xs.length∧i= .int .i64 k∧(∀j,j<k→xs.getD j 0=ys.getD j 0)∧Kp w wr) (fun i _=>xs.length-(intOf i).toNat)
  case atStart=>exact ⟨0,Nat.zero_le _,rfl,fun j hj=>by omega,Below.refl _ _⟩
  case round=>
   obtain ⟨k,hk,rfl,heq,K1⟩:=hrel
   have HEQ:=Xu heq
   clear heq
   by_cases hk1:k<xs.length
   ·obtain ⟨ab,aoff,x,rfl,hcell,hx,HX⟩:=(a4.kp K1).at A3.out k hk1
    obtain ⟨bb,boff,y,rfl,hcell2,hy,HY⟩:=(b4.kp K1).at B3.out k (by rw [←HL.out];exact hk1)
    have hk2:k<ys.length:=by rw [←HL.out];exact hk1
    by_cases hxy:x=y
    ·have hb:(((x:Nat):Int) !=(y:Int))=false:=by rw [hxy];simp
     have HXY:=Xu hxy
     clear hxy
     go_wp2
     go_quiet (fail)
     go_wp2
     go_roundw
     case rel=>exact ⟨k+1,by omega,by go_num,fun j hj=>by
      rcases Nat.lt_or_ge j k with h|h
      ·exact HEQ.out j h
      ·obtain rfl:j=k:=by omega
       rw [←HX.out,←HY.out,HXY.out],K1.drewN _⟩
     case measure=>simp [intOf];omega
    ·have hb:(((x:Nat):Int) !=(y:Int))=true:=by rw [bne_iff_ne];omega
     have hd:decide (xs=ys)=false:=decide_eq_false fun e=>hxy (by rw [HX.out,HY.out,e])
     have HD:=Xu hd
     clear hxy hd
     go_wp2
     go_quiet (fail)
     go_wp2
     go_ret
     exact ⟨En HD.out.symm,K1.drewN _⟩
   ·obtain rfl:k=xs.length:=by omega
    have hd:decide (xs=ys)=true:=decide_eq_true (O8 HL.out HEQ.out)
    have HD:=Xu hd
    clear hd
    go_wp2
    go_ret
    exact ⟨En HD.out.symm,K1⟩
 ·have hne:(((xs.length:Nat):Int) !=(ys.length:Int))=true:=by rw [bne_iff_ne];omega
  have hd:decide (xs=ys)=false:=decide_eq_false fun e=>hl (by rw [e])
  rw [hd]
  clear hl hd
  go_enter Tryz.func201,Tryz.ntmps201
  go_wp2
  go_ret
  exact ⟨rfl,Below.refl _ _⟩
theorem KH {m n:Nat} :decide (toL m=toL n)=decide (m=n):=by
 by_cases h:m=n
 ·rw [decide_eq_true h,decide_eq_true (by rw [h])]
 ·rw [decide_eq_false h,decide_eq_false (fun e=>h (by rw [←Ar m,e,Ar]))]
set_option maxRecDepth 20000 in
theorem Fp {w:World} {a b:Value} {m n:Nat} (ha:M w a m) (hb:M w b n) (hlA:(toL m).length≤17179869184) (hlB:(toL n).length≤17179869184) (hT:Tz w):
  Calls Tryz.prog 214 #[a,b] w fun e w'=> ∃v,e= .returned v∧M w' v (Nat.gcd m n)∧Kp w w':=by
 have HA:=Xu (DE ha)
 have HB:=Xu (DE hb)
 have HE:=Xu (F8 a b _ _ w ha hb)
 rw [KH] at HE
 have HG:=Xu (fun w' (k:Kp w w')=>Va (ha.kp k) (hb.kp k) hlA hlB (hT.kp k))
 have MA:=Xu ha
 have MB:=Xu hb
 clear ha hb hT hlA hlB
 by_cases e1:m=1
 ·rw [decide_eq_true e1] at HA
  have hr:Nat.gcd m n=m:=by rw [e1,Nat.gcd_one_left]
  rw [hr]
  clear HG HB HE e1 hr
  go_enter Tryz.func214,Tryz.ntmps214
  go_wp2_with (go_at_call 213;(with_reducible refine HA.out.mono ?_);rintro e w1 ⟨rfl,rfl⟩)
  go_wp2
  go_ret
  exact ⟨_,rfl,MA.out,Below.refl _ _⟩
 ·rw [decide_eq_false e1] at HA
  by_cases e2:n=1
  ·rw [decide_eq_true e2] at HB
   have hr:Nat.gcd m n=n:=by rw [e2,Nat.gcd_one_right]
   rw [hr]
   clear HG HE e1 e2 hr
   go_enter Tryz.func214,Tryz.ntmps214
   go_wp2_with (go_at_call 213;first|((with_reducible refine HA.out.mono ?_);rintro e w1 ⟨rfl,rfl⟩)|((with_reducible refine HB.out.mono ?_);rintro e w1 ⟨rfl,rfl⟩))
   go_wp2
   go_ret
   exact ⟨_,rfl,MB.out,Below.refl _ _⟩
  ·rw [decide_eq_false e2] at HB
   by_cases e3:m=n
   ·rw [decide_eq_true e3] at HE
    have hr:Nat.gcd m n=m:=by rw [←e3,Nat.gcd_self]
    rw [hr]
    clear HG e1 e2 e3 hr
    go_enter Tryz.func214,Tryz.ntmps214
    go_wp2_with (first
     | (go_at_call 213;first|((with_reducible refine HA.out.mono ?_);rintro e w1 ⟨rfl,rfl⟩)|((with_reducible refine HB.out.mono ?_);rintro e w1 ⟨rfl,rfl⟩))
     | (go_at_call 201;(with_reducible refine HE.out.mono ?_);rintro e w2 ⟨rfl,K2⟩;refine Hid.out ?_))
    refine Xu ?_
    go_wp2
    go_ret
    exact ⟨_,rfl,MA.out.kp K2,K2⟩
   ·rw [decide_eq_false e3] at HE
    clear e1 e2 e3
    go_enter Tryz.func214,Tryz.ntmps214
    go_wp2_with (first
     | (go_at_call 213;first|((with_reducible refine HA.out.mono ?_);rintro e w1 ⟨rfl,rfl⟩)|((with_reducible refine HB.out.mono ?_);rintro e w1 ⟨rfl,rfl⟩))
     | (go_at_call 201;(with_reducible refine HE.out.mono ?_);rintro e w2 ⟨rfl,K2⟩;refine Hid.out ?_))
    refine Xu ?_
    have HG2:=Xu (HG.out w2 K2)
    go_wp2_with (go_at_call 255;(with_reducible refine HG2.out.mono ?_);rintro e w3 ⟨v3,rfl,h3,K3⟩;refine Hid.out ?_)
    refine Xu ?_
    go_wp2
    go_ret
    exact ⟨_,rfl,h3,K2.tr K3⟩
theorem Own.m_tail {w:World} {g:Nat} {xs ys:List Nat} (h:Own w 31 g (xs++ys)) (hy:Af ys) {n:Nat} (hn:ys=toL n) (hl:ys.length≤maxLen):M w (.slice (some ⟨g,xs.length,none⟩) ys.length ys.length) n:=by
 unfold M
 rw [←hn]
 refine ⟨_,_,rfl,Xv _,hl,hy,fun _=>⟨g,xs.length,rfl,fun i hi=>?_⟩⟩
 rw [h.cell (xs.length+i) (by rw [List.length_append];omega)]
 congr 2
 simp [List.getD,List.getElem?_append_right]
theorem Own.m_head {w:World} {g:Nat} {xs ys:List Nat} (h:Own w 31 g (xs++ys)) (hx:Af xs) {n:Nat} (hn:xs=toL n) {c:Nat} (hc:xs.length≤c) (hl:c≤maxLen):M w (.slice (some ⟨g,0,none⟩) xs.length c) n:=by
 unfold M
 rw [←hn]
 refine ⟨_,_,rfl,hc,hl,hx,fun _=>⟨g,0,rfl,fun i hi=>?_⟩⟩
 rw [Nat.zero_add,h.cell i (by rw [List.length_append];omega)]
 congr 2
 simp [List.getD,List.getElem?_append_left hi]
def Res (w:World) (g:Nat) (a b c:Value):Prop:=w.heap[g]?=some (.cells #[a,b,c] 34 (0,0))
theorem Res.kp {w w':World} {g:Nat} {a b c:Value} (h:Res w g a b c) (k:Kp w w'):Res w' g a b c:=by
 unfold Res
 rw [k.block g (Array.getElem?_eq_some_iff.1 h).1]
 exact h
theorem Res.new (w:World) (a b c:Value):Res (w.alloc (Obj.cells #[a,b,c] 34)) w.heap.size a b c:=heap_alloc_new w _
theorem Res.cells {w:World} {g:Nat} {a b c:Value} (h:Res w g a b c):w.cell? ⟨g,0,none⟩=some a∧w.cell? ⟨g,1,none⟩=some b∧w.cell? ⟨g,2,none⟩=some c∧w.frozen? ⟨g,0,none⟩=false∧w.frozen? ⟨g,1,none⟩=false∧w.frozen? ⟨g,2,none⟩=false:=
 ⟨cell_of_row w g 0 _ _ _ h,cell_of_row w g 1 _ _ _ h,cell_of_row w g 2 _ _ _ h,frozen_of_row w g 0 _ _ h,frozen_of_row w g 1 _ _ h,frozen_of_row w g 2 _ _ h⟩
def Em (w:World) (g:Nat) (a b c:Value):World:=((w.setCell ⟨g,0,none⟩ a).setCell ⟨g,1,none⟩ b).setCell ⟨g,2,none⟩ c
theorem Res.put {w:World} {g:Nat} {a b c:Value} (h:Res w g a b c) (x y z:Value):Res (Em w g x y z) g x y z:=by
 have h0:=heap_setCell_same w g 0 _ _ x h
 have h1:=heap_setCell_same _ g 1 _ _ y h0
 have h2:=heap_setCell_same _ g 2 _ _ z h1
 exact h2
theorem Rm (w:World) (g:Nat) (a b c:Value):Ce g w (Em w g a b c):=(((Ce.refl g w).setCell 0 _).setCell 1 _).setCell 2 _
theorem M.put3 {w:World} {v:Value} {n g:Nat} (h:M w v n) (hn:Gh g v) (a b c:Value):M (Em w g a b c) v n:=
 ((Rd.put (Rd.put (Rd.put h hn 0 a) hn 1 b) hn 2 c))
theorem Kp.put3 {w0 w:World} (h:Kp w0 w) {g:Nat} (hg:w0.heap.size≤g) (a b c:Value):Kp w0 (Em w g a b c):=(Rm w g a b c).kp h hg
theorem Tb {w:World} {B:Nat} {e:TypeId} {s:Nat} {v:Value} {n:Nat} {xs:List Value} (h:w.ownsRow B e s v n xs) (hn:0<n): ∃g c,v= .slice (some ⟨g,0,none⟩) n c:=by
 rcases h.2 with ⟨_,h0⟩|⟨g,cap,cur,rfl,_⟩
 ·omega
 ·exact ⟨g,cap,rfl⟩
set_option maxRecDepth 20000 in
theorem OH {w:World} {neg:Bool} {a b:Value} {n d:Nat} (ha:M w a n) (h0:n=0):
  Calls Tryz.prog 224 #[.bool neg,a,b] w fun e w'=> ∃v,e= .returned v∧Ax w' v (AH neg n d)∧Kp w w':=by
 subst h0
 rw [Gm]
 obtain ⟨ao,ac,rfl,a1,a2,a3,a4⟩:=ha
 rw [AE]
 clear a1 a2 a3 a4
 go_enter Tryz.func224,Tryz.ntmps224
 go_wp2
 refine bodyPost_ret (v:= .agg #[.bool false,.slice none 0 0,.slice none 0 0]) (by simp [results,Tryz.results224,go_sem]) rfl ⟨_,rfl,Ax.zero _,?_⟩
 exact Kp.alloc _ _
set_option maxRecDepth 20000 in
theorem Rl {w:World} {neg:Bool} {a b:Value} {n:Nat} (ha:M w a n) (hb:M w b 1) (h0:n≠0) (hl:(toL n).length≤549755813888):
  Calls Tryz.prog 224 #[.bool neg,a,b] w fun e w'=> ∃v,e= .returned v∧Ax w' v (AH neg n 1)∧Kp w w':=by
 obtain ⟨i0,hi,hz0,hz1,hz2⟩:=info_parts BQ
 have KW:=Kp.alloc w (Obj.cells #[Value.bool false,Value.slice none 0 0,Value.slice none 0 0] 34)
 have HI:=Xu (DE (hb.kp KW))
 rw [decide_eq_true rfl] at HI
 have HRES:=Xu (Res.new w (Value.bool false) (Value.slice none 0 0) (Value.slice none 0 0))
 have hl0:=DN h0
 have HN0:=Xu h0
 obtain ⟨ao,ac,rfl,a1,a2,a3,a4⟩:=ha
 have HSRC:=Xu ((a4.kp KW).news)
 have HLM:=Xu (Bx n)
 unfold maxLen at a2
 obtain ⟨la,hla⟩: ∃la,la=(toL n).length:=⟨_,rfl⟩
 have hcl:(cellsOf (toL n)).length=la*1:=by rw [CY,←hla,Nat.mul_one]
 have HCL:=Xu hcl
 rw [←hla] at a1 hl hl0⊢
 have hne:((la:Int)==0)=false:=beq_eq_false_iff_ne.2 (by omega)
 have HKW:=Xu KW
 clear a3 a4 hb hla h0 hcl KW
 go_enter Tryz.func224,Tryz.ntmps224
 go_wp2_with (first
  | (go_at_call 213;(with_reducible refine HI.out.mono ?_);rintro e w1 ⟨rfl,rfl⟩)
  | (at_builtin;refine AF _ rfl (.const (.slice none 0 0)) (.tmp 16) 32 rfl (w.heap.size+1) 31 i0 (.int .u32 0) 1 4 AZ hi hz0 hz1 hz2 rfl (by decide) (.slice none 0 0) 0 [] rfl (World.ownsRow_nil _ _ _ _) ao la ac (cellsOf (toL n)) rfl HCL.out HSRC.out (A6 _) (by unfold maxLen;omega) (by omega) (by simp) ?_;intro v' w3 hown' hg3 _;refine Hid.out ?_))
 refine Xu ?_
 have K3:Kp w w3:=HKW.out.grown hg3 (by simp) (fun b hb=>by simp [Value.ownBlock] at hb)
 have HR3:=Xu (HRES.out.kp ((Below.refl _ _).grown hg3 (Xv _) (fun b hb=>by simp [Value.ownBlock] at hb)))
 simp only [List.nil_append,Nat.zero_add] at hown'
 obtain ⟨g4,c4,rfl⟩:=Tb hown' hl0
 have HNW:=Xu ((I7 hown').notIn (Nat.lt_succ_self _))
 have HM:=Xu (show M w3 (.slice (some ⟨g4,0,none⟩) la c4) n from Rd.owned hown' HLM.out)
 obtain ⟨d0,d1,d2,f0,f1,f2⟩:=HR3.out.cells
 have HK3:=Xu K3
 clear hown' hg3 K3
 go_wp2
 have hc:=(HR3.out.put (.bool neg) (.slice (some ⟨g4,0,none⟩) la c4) (.slice none 0 0)).cells
 obtain ⟨c0,c1,c2,_,_,_⟩:=hc
 unfold Em at c0 c1 c2
 refine bodyPost_ret (v:= .agg #[.bool neg,.slice (some ⟨g4,0,none⟩) la c4,.slice none 0 0]) (by simp [results,Tryz.results224,go_sem,c0,c1,c2]) rfl ⟨_,rfl,?_,?_⟩
 ·exact Ax.of (by decide) (Nat.gcd_one_right n) (HM.out.put3 HNW.out _ _ _) (by rw [if_pos rfl];exact Jc _) (fun h=>absurd h HN0.out)
 ·exact HK3.out.put3 (Xv _) _ _ _
theorem Mh (xs:List Nat) (m:Nat):splice (cellsOf (List.replicate (xs.length+m) 0)) 0 (cellsOf xs)=cellsOf (xs++List.replicate m 0):=by
 simp [splice,cellsOf]
theorem Mg (xs ys:List Nat):splice (cellsOf (xs++List.replicate ys.length 0)) xs.length (cellsOf ys)=cellsOf (xs++ys):=by
 simp [splice,cellsOf]
set_option maxRecDepth 20000 in
theorem OI {w:World} {neg:Bool} {a b:Value} {n d:Nat} (ha:M w a n) (hb:M w b d) (h0:n≠0) (hd0:d≠0) (hd1:d≠1) (hc:Nat.gcd n d=1) (hl:(toL n).length≤549755813888) (hl2:(toL d).length≤549755813888):
  Calls Tryz.prog 224 #[.bool neg,a,b] w fun e w'=> ∃v,e= .returned v∧Ax w' v (AH neg n d)∧Kp w w':=by
 obtain ⟨i0,hi,hz0,hz1,hz2⟩:=info_parts BQ
 have KW:=Kp.alloc w (Obj.cells #[Value.bool false,Value.slice none 0 0,Value.slice none 0 0] 34)
 have HI:=Xu (DE (hb.kp KW))
 rw [decide_eq_false hd1] at HI
 have HRES:=Xu (Res.new w (Value.bool false) (Value.slice none 0 0) (Value.slice none 0 0))
 have hl0:=DN h0
 have hld:=DN hd0
 have HN0:=Xu h0
 have HD:=Xu (And.intro hd0 (And.intro hd1 hc))
 obtain ⟨ao,ac,rfl,a1,a2,a3,a4⟩:=ha
 obtain ⟨bo,bc,rfl,b1,b2,b3,b4⟩:=hb
 have HSA:=Xu (a4.kp KW)
 have HSB:=Xu (b4.kp KW)
 have HLA:=Xu a3
 have HLB:=Xu b3
 unfold maxLen at a2 b2
 obtain ⟨la,hla⟩: ∃la,la=(toL n).length:=⟨_,rfl⟩
 obtain ⟨lb,hlb⟩: ∃lb,lb=(toL d).length:=⟨_,rfl⟩
 have HCA:=Xu hla
 have HCB:=Xu hlb
 rw [←hla] at a1 hl hl0⊢
 rw [←hlb] at b1 hl2 hld HI⊢
 have hne:((la:Int)==0)=false:=beq_eq_false_iff_ne.2 (by omega)
 have HKW:=Xu KW
 clear a3 a4 b3 b4 hla hlb h0 hd0 hd1 hc KW
 go_enter Tryz.func224,Tryz.ntmps224
 go_wp2_with (first
  | (go_at_call 213;(with_reducible refine HI.out.mono ?_);rintro e w1 ⟨rfl,rfl⟩)
  | (at_make;refine wpList_make_full _ rfl _ _ 32 rfl (w.heap.size+1) 31 i0 (.int .u32 0) 1 AZ hi hz0 hz1 _ _ _ _ (la+lb) rfl rfl (by omega) (by omega) (by rw [hz2];omega) (by unfold maxLen;omega) (by simp) ?_;intro w3 hown hg;refine Hid.out ?_))
 refine Xu ?_
 have hs:(w.alloc (Obj.cells #[Value.bool false,Value.slice none 0 0,Value.slice none 0 0] 34)).heap.size=w.heap.size+1:=by simp
 rw [hs] at hown
 have O1:=Xu (Own.of_make hown)
 have KA:=(Below.refl (w.alloc (Obj.cells #[Value.bool false,Value.slice none 0 0,Value.slice none 0 0] 34)).heap.size _).grown hg (Xv _) (fun b hb=>by cases hb)
 have HKA:=Xu KA
 clear hown hg KA hs
 have hsz:(Tryz.prog.info? 31).map (·.size)=some 1:=by rw [hi];exact congrArg some hz1
 have HZ:=Xu hsz
 clear hsz
 go_wp2_with ((with_reducible show wpList _ _ _ (Oper.mk (some 28) _ _ _ _ _::_) _ _);refine Hid.out ?_)
 refine Xu ?_
 refine wpList_copy_splice rfl (.tmp 26) (.tmp 27) 32 32 rfl 31 AZ HZ.out (some ⟨w.heap.size+1,0,none⟩) ao (la+lb) (la+lb) la ac rfl rfl (w.heap.size+1) 0 (cellsOf (List.replicate (la+lb) 0)) 31 O1.out (cellsOf (toL n)) (by rw [CY,←HCA.out];exact (Nat.min_eq_left (Nat.le_add_right _ _)).symm) (fun hp=>⟨rfl,(HSA.out.kp HKA.out).news hp⟩) (by simp only [CY];rw [←HCA.out,List.length_replicate];omega) (A6 _) _ _ HKA.out (by simp) ?_
 intro w4 O2 K4
 have O4:Hid (Own w4 31 (w.heap.size+1) (toL n++List.replicate lb 0)):=by
  have h:=O2.out
  rw [HCA.out,Mh] at h
  exact Xu h
 have HK4:=Xu K4
 clear O2 K4
 go_wp2_with ((with_reducible show wpList _ _ _ (Oper.mk (some 33) _ _ _ _ _::_) _ _);refine Hid.out ?_)
 refine Xu ?_
 refine wpList_copy_splice rfl (.tmp 31) (.tmp 32) 32 32 rfl 31 AZ HZ.out (some ⟨w.heap.size+1,la,none⟩) bo lb lb lb bc ?_ rfl (w.heap.size+1) la (cellsOf (toL n++List.replicate lb 0)) 31 O4.out (cellsOf (toL d)) (by rw [CY,←HCB.out];exact (Nat.min_self _).symm) (fun hp=>⟨rfl,(HSB.out.kp HK4.out).news hp⟩) (by simp only [CY];rw [←HCB.out,List.length_append,←HCA.out,List.length_replicate];exact Xv _) (A6 _) _ _ HK4.out (by simp) ?_
 ·rfl
 intro w5 O5 K5
 have O6:Hid (Own w5 31 (w.heap.size+1) (toL n++toL d)):=by
  have h:=O5.out
  rw [HCA.out,HCB.out,Mg] at h
  exact Xu h
 have HK5:=Xu K5
 have HR5:=Xu (HRES.out.kp K5)
 obtain ⟨d0,d1,d2,f0,f1,f2⟩:=HR5.out.cells
 clear O5 K5
 have hlz:(lb=0)=False:=eq_false (by omega)
 have HMN:=Xu (O6.out.m_head HLA.out rfl (c:=(toL n).length) (Xv _) (by rw [←HCA.out];unfold maxLen;omega))
 have HMD:=Xu (O6.out.m_tail HLB.out rfl (by rw [←HCB.out];unfold maxLen;omega))
 rw [←HCA.out] at HMN HMD
 rw [←HCB.out] at HMD
 have HP:=Xu (HR5.out.put (.bool neg) (.slice (some ⟨w.heap.size+1,0,none⟩) la la) (.slice (some ⟨w.heap.size+1,la,none⟩) lb lb)).cells
 have HNI: ∀off k c,Gh w.heap.size (.slice (some ⟨w.heap.size+1,off,none⟩) k c):=by
  intro off k c b o sp l c' e
  obtain ⟨⟨rfl,_⟩,_⟩:(w.heap.size+1=b∧_)∧_:=by simpa using e
  omega
 have HNI:=Xu HNI
 unfold Em at HP
 go_wp2_with fail
 go_region_with (fail)
 all_goals go_wp2
 all_goals obtain ⟨c0,c1,c2,_,_,_⟩:=HP.out
 all_goals refine bodyPost_ret (v:= .agg #[.bool neg,.slice (some ⟨w.heap.size+1,0,none⟩) la la,.slice (some ⟨w.heap.size+1,la,none⟩) lb lb]) (by simp [results,Tryz.results224,go_sem,c0,c1,c2]) rfl ⟨_,rfl,?_,?_⟩
 all_goals first
  | exact Ax.kp (Ax.of HD.out.1 HD.out.2.2 (HMN.out.put3 (HNI.out _ _ _) _ _ _) (by rw [if_neg HD.out.2.1];exact HMD.out.put3 (HNI.out _ _ _) _ _ _) (fun h=>absurd h HN0.out)) (Below.refl _ _).drew
  | exact (HKW.out.tr HK5.out |>.put3 (Xv _) _ _ _).drew
def Er (v:Value):Prop:= ∀x,v≠ .int .u32 x
theorem EA (b:Bool):Er (.bool b):=fun _ h=>by cases h
theorem Cj (o:Option Addr) (n c:Nat):Er (.slice o n c):=fun _ h=>by cases h
theorem M.notRes {w:World} {v:Value} {n g:Nat} {a b c:Value} (h:M w v n) (hn:n≠0) (hr:Res w g a b c) (ha:Er a) (hb:Er b) (hc:Er c):Gh g v:=by
 obtain ⟨ao,cap,rfl,h1,h2,h3,h4⟩:=h
 obtain ⟨b',off,rfl,hcell⟩:=h4 (fun e=>hn ((AY n).1 e))
 intro b2 off2 sp l c2 e
 obtain ⟨⟨rfl,_⟩,_⟩:(b'=b2∧_)∧_:=by simpa using e
 rintro rfl
 have h0:=hcell 0 (DN hn)
 rw [Nat.add_zero] at h0
 match off with
 | 0=>rw [cell_of_row w b' 0 _ _ _ hr] at h0;exact ha _ (by simpa using h0)
 | 1=>rw [cell_of_row w b' 1 _ _ _ hr] at h0;exact hb _ (by simpa using h0)
 | 2=>rw [cell_of_row w b' 2 _ _ _ hr] at h0;exact hc _ (by simpa using h0)
 | k+3=>rw [cell_of_row w b' (k+3) _ _ _ hr] at h0;simp at h0
theorem M.res {w:World} {v:Value} {n g:Nat} {a b c:Value} (h:M w v n) (hr:Res w g a b c) (ha:Er a) (hb:Er b) (hc:Er c) (x y z:Value):M (Em w g x y z) v n:=by
 by_cases hn:n=0
 ·obtain ⟨ao,cap,rfl,h1,h2,h3,h4⟩:=h
  refine ⟨ao,cap,rfl,h1,h2,h3,fun hne=>?_⟩
  rw [hn,AE] at hne
  exact absurd rfl hne
 ·exact h.put3 (h.notRes hn hr ha hb hc) x y z
theorem Ax.res {w:World} {v:Value} {r:Rat} {g:Nat} {a b c:Value} (h:Ax w v r) (hr:Res w g a b c) (ha:Er a) (hb:Er b) (hc:Er c) (x y z:Value):Ax (Em w g x y z) v r:=by
 obtain ⟨num,den,rfl,h1,h2⟩:=h
 exact ⟨num,den,rfl,h1.res hr ha hb hc x y z,h2.res hr ha hb hc x y z⟩
theorem Ck {w:World} {v:Value} {n:Nat} (h:M w v n): ∃o l c,v= .slice o l c:=by
 obtain ⟨o,c,e,_⟩:=h
 exact ⟨o,_,c,e⟩
theorem Ax.lit {w:World} {v:Value} {x:Rat} (h:Ax w v x): ∃(s:Bool) (o1:Option Addr) (l1 c1:Nat) (o2:Option Addr) (l2 c2:Nat),v= .agg #[.bool s,.slice o1 l1 c1,.slice o2 l2 c2]:=by
 obtain ⟨num,den,rfl,m1,m2⟩:=h
 obtain ⟨o1,l1,c1,rfl⟩:=Ck m1
 obtain ⟨o2,l2,c2,rfl⟩:=Ck m2
 exact ⟨_,_,_,_,_,_,_,rfl⟩
theorem BR {w W w4:World} {g:Nat} {s:Bool} {o1 o2:Option Addr} {l1 c1 l2 c2:Nat} {p:Bool} {a1 a2:Option Addr} {n1 m1 n2 m2:Nat} {x:Rat} (hr:Res W g (.bool p) (.slice a1 n1 m1) (.slice a2 n2 m2)) (kw:Kp w W) (kk:Kp W w4) (hv:Ax w4 (.agg #[.bool s,.slice o1 l1 c1,.slice o2 l2 c2]) x) (hg:w.heap.size≤g:=by exact Nat.le_refl _):
  (w4.cell? ⟨g,0,none⟩=some (.bool p)∧w4.cell? ⟨g,1,none⟩=some (.slice a1 n1 m1)∧w4.cell? ⟨g,2,none⟩=some (.slice a2 n2 m2)∧w4.frozen? ⟨g,0,none⟩=false∧w4.frozen? ⟨g,1,none⟩=false∧w4.frozen? ⟨g,2,none⟩=false)∧
  Hid ((((w4.setCell ⟨g,0,none⟩ (.bool s)).setCell ⟨g,1,none⟩ (.slice o1 l1 c1)).setCell ⟨g,2,none⟩ (.slice o2 l2 c2)).cell? ⟨g,0,none⟩=some (.bool s)∧
   (((w4.setCell ⟨g,0,none⟩ (.bool s)).setCell ⟨g,1,none⟩ (.slice o1 l1 c1)).setCell ⟨g,2,none⟩ (.slice o2 l2 c2)).cell? ⟨g,1,none⟩=some (.slice o1 l1 c1)∧
   (((w4.setCell ⟨g,0,none⟩ (.bool s)).setCell ⟨g,1,none⟩ (.slice o1 l1 c1)).setCell ⟨g,2,none⟩ (.slice o2 l2 c2)).cell? ⟨g,2,none⟩=some (.slice o2 l2 c2))∧
  Hid (Ax (((w4.setCell ⟨g,0,none⟩ (.bool s)).setCell ⟨g,1,none⟩ (.slice o1 l1 c1)).setCell ⟨g,2,none⟩ (.slice o2 l2 c2)) (.agg #[.bool s,.slice o1 l1 c1,.slice o2 l2 c2]) x)∧
  Hid (Kp w (((w4.setCell ⟨g,0,none⟩ (.bool s)).setCell ⟨g,1,none⟩ (.slice o1 l1 c1)).setCell ⟨g,2,none⟩ (.slice o2 l2 c2))):=by
 have h4:=hr.kp kk
 have hc:=(h4.put (.bool s) (.slice o1 l1 c1) (.slice o2 l2 c2)).cells
 exact ⟨h4.cells,Xu ⟨hc.1,hc.2.1,hc.2.2.1⟩,Xu (hv.res h4 (EA _) (Cj _ _ _) (Cj _ _ _) _ _ _),Xu ((kw.tr kk).put3 hg _ _ _)⟩
theorem Hb {w:World} {neg:Bool} {a b:Value} {n d:Nat} (ha:M w a n) (hb:M w b d) (hd0:d≠0) (hc:Nat.gcd n d=1) (hl:(toL n).length≤549755813888) (hl2:(toL d).length≤549755813888):
  Calls Tryz.prog 224 #[.bool neg,a,b] w fun e w'=> ∃v,e= .returned v∧Ax w' v (AH neg n d)∧Kp w w':=by
 by_cases h0:n=0
 ·exact OH ha h0
 ·by_cases h1:d=1
  ·subst h1
   exact Rl ha hb h0 hl
  ·exact OI ha hb h0 hd0 h1 hc hl hl2
end Go.Proofs.YtfineedhebhpaaaGreatDoor
