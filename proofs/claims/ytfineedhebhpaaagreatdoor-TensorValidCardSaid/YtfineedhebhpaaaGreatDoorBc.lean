/-
  Several texts in one: ReadsW, SubW, ShW, Shift, Div64, Knuth, DivLong.
-/
import Derived.Test.YtfineedhebhpaaaGreatDoorBb
import Derived.Test.YtfineedhebhpaaaGreatDoorBa
import Derived.Lib.BitFns
import Derived.Test.YtfineedhebhpaaaGreatDoorShelf
import Derived.Deep.DeepCutAuto
import Derived.Deep.RegionHeld3
import Derived.Deep.AppendLies
namespace Go.Proofs.YtfineedhebhpaaaGreatDoor
open Nat renaming le_refl→Yu
open Lib renaming hid→Yt
set_option maxHeartbeats 16000000
open Go.RowKit
def El (xs:List Nat):Bool:=decide (xs.length=0∨xs.getD (xs.length-1) 0≠0)
theorem P4 (n:Nat) (h:0<(toL n).length):(toL n).getD ((toL n).length-1) 0≠0:=by
 intro e
 have h1:=Em (toL n) (toL n).length h (Yu _) e
 rw [List.take_length,Ca] at h1
 have h2:=AC ((toL n).take ((toL n).length-1))
 rw [←h1,List.length_take] at h2
 omega
theorem Je (n:Nat):El (toL n)=true:=by
 unfold El
 apply decide_eq_true
 rcases Nat.eq_zero_or_pos (toL n).length with h|h
 ·exact Or.inl h
 ·exact Or.inr (P4 n h)
theorem Ps (v:Value) (xs:List Nat) (w:World) (h:Rd w v xs):
  Calls Tryz.prog 212 #[v] w fun e w'=>e= .returned (.bool (El xs))∧w=w':=by
 obtain ⟨ao,cap,rfl,h1,h2,h3,h4⟩:=h
 unfold maxLen at h2
 rcases Nat.eq_zero_or_pos xs.length with h0|h0
 ·have hv:El xs=true:=decide_eq_true (Or.inl h0)
  rw [hv]
  have he:(((xs.length:Nat):Int)==0)=true:=beq_iff_eq.2 (by omega)
  clear h3 h4 hv h0
  go_enter Tryz.func212,Tryz.ntmps212
  go_wp2
  go_ret
  exact ⟨rfl,rfl⟩
 ·have he:(((xs.length:Nat):Int)==0)=false:=beq_eq_false_iff_ne.2 (by omega)
  obtain ⟨b,off,x,rfl,hcell,hx,HX⟩:=h4.at h3 (xs.length-1) (by omega)
  have hv:El xs=(((x:Nat):Int) !=0):=by
   unfold El
   rw [←HX.out]
   by_cases hz:x=0
   ·subst hz
    simp
    exact fun e=>by simp [e] at h0
   ·rw [decide_eq_true (Or.inr hz)]
    exact (bne_iff_ne.2 (by omega)).symm
  rw [hv]
  clear h3 h4 hv
  go_enter Tryz.func212,Tryz.ntmps212
  go_wp2
  go_ret
  exact ⟨rfl,rfl⟩
theorem OM (v:Value) (xs:List Nat) (w:World) (h:Rd w v xs):
  Calls Tryz.prog 215 #[v] w fun e w'=>e= .returned (.bool (El xs))∧w=w':=by
 obtain ⟨ao,cap,rfl,h1,h2,h3,h4⟩:=h
 unfold maxLen at h2
 rcases Nat.eq_zero_or_pos xs.length with h0|h0
 ·have hv:El xs=true:=decide_eq_true (Or.inl h0)
  rw [hv]
  have he:(((xs.length:Nat):Int)==0)=true:=beq_iff_eq.2 (by omega)
  clear h3 h4 hv h0
  go_enter Tryz.func215,Tryz.ntmps215
  go_wp2
  go_ret
  exact ⟨rfl,rfl⟩
 ·have he:(((xs.length:Nat):Int)==0)=false:=beq_eq_false_iff_ne.2 (by omega)
  obtain ⟨b,off,x,rfl,hcell,hx,HX⟩:=h4.at h3 (xs.length-1) (by omega)
  have hv:El xs=(((x:Nat):Int) !=0):=by
   unfold El
   rw [←HX.out]
   by_cases hz:x=0
   ·subst hz
    simp
    exact fun e=>by simp [e] at h0
   ·rw [decide_eq_true (Or.inr hz)]
    exact (bne_iff_ne.2 (by omega)).symm
  rw [hv]
  clear h3 h4 hv
  go_enter Tryz.func215,Tryz.ntmps215
  go_wp2
  go_ret
  exact ⟨rfl,rfl⟩
theorem CO (a b:Value) (m n:Nat) (w:World) (ha:M w a m) (hb:M w b n):
  Calls Tryz.prog 88 #[a,b] w fun e w'=>e= .returned (.int .i64 (BZ m n))∧Kp w w':=by
 obtain ⟨ao,ac,rfl,a1,a2,a3,A4⟩:=ha
 obtain ⟨bo,bc,rfl,b1,b2,b3,B4⟩:=hb
 have A3:=Yt a3
 have B3:=Yt b3
 have hl1:=Yt (Cq a3 b3)
 have hl2:=Yt (Cq b3 a3)
 rw [Ca,Ca] at hl1 hl2
 have ex:=Ar m
 have ey:=Ar n
 unfold maxLen at a2 b2
 clear a3 b3
 obtain ⟨X,hX⟩: ∃X,X=toL m:=⟨_,rfl⟩
 obtain ⟨Y,hY⟩: ∃Y,Y=toL n:=⟨_,rfl⟩
 rw [←hX] at A4 A3 hl1 hl2 ex a1⊢
 rw [←hY] at B4 B3 hl1 hl2 ey b1⊢
 rw [←ex,←ey]
 clear hX hY ex ey
 by_cases hl:X.length=Y.length
 ·have hne:(((X.length:Nat):Int) !=(Y.length:Int))=false:=by rw [hl];simp
  have HL:=Yt hl
  have hly:Y.length≤X.length:=by omega
  have hlx:X.length≤Y.length:=by omega
  clear hl hl1 hl2
  go_enter Tryz.func88,Tryz.ntmps88
  go_wp2
  go_loopw [5] (fun i wr=> ∃j:Nat,j≤X.length∧i= .int .i64 ((j:Int)-1)∧X.drop j=Y.drop j∧Kp w wr) (fun i _=>(intOf i+1).toNat)
  case atStart=>exact ⟨X.length,Yu _,rfl,by rw [List.drop_length,List.drop_of_length_le hly],Below.refl _ _⟩
  case round=>
   obtain ⟨j,hj,rfl,hd,K1⟩:=hrel
   have HD:=Yt hd
   clear hd
   by_cases hj0:0<j
   ·obtain ⟨i,rfl⟩: ∃i,j=i+1:=⟨j-1,by omega⟩
    obtain ⟨ab,aoff,x,rfl,hcell,hx,HX⟩:=(A4.kp K1).at A3.out i (by omega)
    obtain ⟨bb,boff,y,rfl,hcell2,hy,HY⟩:=(B4.kp K1).at B3.out i (by omega)
    rcases Nat.lt_trichotomy x y with h|h|h
    ·have hc: -1=BZ (val X) (val Y):=(CY (Qr A3.out HD.out HL.out (by omega) (by rw [←HX.out,←HY.out];exact h))).symm
     have HC:=Yt hc
     clear hc
     go_wp2
     go_quiet (fail)
     go_wp2
     go_ret
     exact ⟨BS HC.out,K1.drewN _⟩
    ·have hd2:X.drop i=Y.drop i:=by
      rw [Cm X i (by omega),Cm Y i (by omega),HD.out,←HX.out,←HY.out,h]
     have HD2:=Yt hd2
     have h1: ¬x<y:=by omega
     have h2: ¬y<x:=by omega
     clear hd2 h
     go_wp2
     go_quiet (fail)
     go_wp2
     go_quiet (fail)
     go_wp2
     go_roundw
     case rel=>exact ⟨i,by omega,by go_num,HD2.out,K1.drewN _⟩
     case measure=>simp [intOf]
    ·have hc:1=BZ (val X) (val Y):=(C4 (Qr B3.out HD.out.symm HL.out.symm (by omega) (by rw [←HX.out,←HY.out];exact h))).symm
     have HC:=Yt hc
     have h1: ¬x<y:=by omega
     clear hc
     go_wp2
     go_quiet (fail)
     go_wp2
     go_quiet (fail)
     go_wp2
     go_ret
     exact ⟨BS HC.out,(K1.drewN _).drewN _⟩
   ·obtain rfl:j=0:=by omega
    have hc:0=BZ (val X) (val Y):=(Ed (FW HD.out)).symm
    have HC:=Yt hc
    clear hc
    go_wp2
    go_ret
    exact ⟨BS HC.out,K1⟩
 ·have hne:(((X.length:Nat):Int) !=(Y.length:Int))=true:=by rw [bne_iff_ne];omega
  rcases Nat.lt_or_gt_of_ne hl with h|h
  ·have HC:=Yt (CY (hl1.out h)).symm
   clear hl
   go_enter Tryz.func88,Tryz.ntmps88
   go_wp2
   go_ret
   exact ⟨BS HC.out,Below.refl _ _⟩
  ·have HC:=Yt (C4 (hl2.out h)).symm
   have h1: ¬X.length<Y.length:=by omega
   clear hl
   go_enter Tryz.func88,Tryz.ntmps88
   go_wp2
   go_ret
   exact ⟨BS HC.out,Below.refl _ _⟩
theorem Gt (n:Nat) (w:World) (hn:n<18446744073709551616):
  Calls Tryz.prog 198 #[.int .u64 n] w fun e w'=> ∃v',e= .returned v'∧M w' v' n∧Kp w w':=by
 have hL:Ai [n % 4294967296,n/4294967296]:=Ai.cons (by omega) (Ai.cons (by omega) Ai.nil)
 have hv:val [n % 4294967296,n/4294967296]=n:=by simp [val];omega
 have ht:=BY hL
 rw [hv] at ht
 have HO:Rd (w.alloc (.cells (cellsOf [n % 4294967296,n/4294967296]).toArray 31)) (.slice (some ⟨w.heap.size,0,none⟩) 2 2) [n % 4294967296,n/4294967296]:=Rd.lit w _ _ hL 2 rfl (by unfold maxLen;omega)
 have HT:=Yt (DW _ _ _ HO (by simp))
 rw [←ht] at HT
 clear hL hv ht HO
 go_enter Tryz.func198,Tryz.ntmps198
 go_wp2_with (go_at_call 194;refine HT.out.mono ?_;rintro e w1 ⟨v1,rfl,h1,k1⟩)
 go_ret
 exact ⟨_,rfl,h1,(Kp.alloc _ _).tr k1⟩
def C6 (n:Nat):Nat:=if n=0 then 0 else n.log2+1
theorem Iw {x:Nat} (h:x<4294967296) (h0:x≠0):1≤Lib.bitLen x∧2^(Lib.bitLen x-1)≤x∧x<2^Lib.bitLen x∧Lib.bitLen x≤32:=by
 obtain ⟨h1,h2,h3⟩:=Lib.bitLenAux_bounds 64 x (by omega) h0
 refine ⟨h1,h2,h3,?_⟩
 rcases Nat.lt_or_ge 32 (Lib.bitLen x) with h4|h4
 ·have h5:2^32≤2^(Lib.bitLen x-1):=Nat.pow_le_pow_right (by omega) (by omega)
  have h6:2^(Lib.bitLen x-1)≤x:=h2
  omega
 ·exact h4
theorem EU {x:Nat} (h:x<4294967296):Lib.bitLen x≤32:=by
 by_cases h0:x=0
 ·subst h0;decide
 ·exact (Iw h h0).2.2.2
theorem UU {n k:Nat} (h1:2^k≤n) (h2:n<2^(k+1)):C6 n=k+1:=by
 have h0:n≠0:=by have:=Nat.pow_pos (n:=k) (show 0<2 by omega);omega
 unfold C6
 rw [if_neg h0,(Nat.log2_eq_iff h0).2 ⟨h1,h2⟩]
theorem PP {n:Nat} (h:n≠0):2^(C6 n-1)≤n∧n<2^C6 n∧1≤C6 n:=by
 unfold C6
 rw [if_neg h]
 exact ⟨Nat.log2_self_le h,Nat.lt_log2_self,by omega⟩
theorem Sy {X:List Nat} (hx:Ai X) (h:0<X.length) (ht:X.getD (X.length-1) 0≠0):C6 (val X)=32*(X.length-1)+Lib.bitLen (X.getD (X.length-1) 0):=by
 obtain ⟨j,hj⟩: ∃j,X.length=j+1:=⟨X.length-1,by omega⟩
 rw [hj,Nat.add_sub_cancel] at ht⊢
 have hv:val X=val (X.take j)+4294967296^j*X.getD j 0:=by
  have:=Dh X j (by omega)
  rwa [←hj,List.take_length] at this
 have hlt:=Cf (hx.take j)
 rw [List.length_take,Nat.min_eq_left (by omega)] at hlt
 obtain ⟨b1,b2,b3,b4⟩:=Iw (hx.getD j) ht
 have ep:4294967296^j=2^(32*j):=by rw [Nat.pow_mul]
 rw [ep] at hv hlt
 obtain ⟨b,hb⟩: ∃b,Lib.bitLen (X.getD j 0)=b+1:=⟨Lib.bitLen (X.getD j 0)-1,by omega⟩
 rw [hb,Nat.add_sub_cancel] at b2
 rw [hb] at b3⊢
 rw [←Nat.add_assoc]
 apply UU
 ·rw [Nat.pow_add,hv]
  have:=Nat.mul_le_mul_left (2^(32*j)) b2
  omega
 ·rw [Nat.add_assoc,Nat.pow_add,hv]
  have:=Nat.mul_le_mul_left (2^(32*j)) (show X.getD j 0+1≤2^(b+1) from b3)
  rw [Nat.mul_add,Nat.mul_one] at this
  omega
theorem GE (n:Nat) (h:0<(toL n).length):C6 n=32*((toL n).length-1)+Lib.bitLen ((toL n).getD ((toL n).length-1) 0):=by
 have:=Sy (BG n) h (P4 n h)
 rwa [Ar] at this
theorem R6 (v:Value) (n:Nat) (w:World) (h:M w v n) (hl:(toL n).length≤1099511627776):
  Calls Tryz.prog 239 #[v] w fun e w'=>e= .returned (.int .i64 (C6 n))∧w=w':=by
 obtain ⟨ao,cap,rfl,h1,h2,h3,h4⟩:=h
 have HT:=Yt (BE ao cap _ w h1 h2 h4)
 rw [Ca] at HT
 unfold maxLen at h2
 rcases Nat.eq_zero_or_pos (toL n).length with h0|h0
 ·have hn:n=0:=(AU n).1 (List.eq_nil_of_length_eq_zero h0)
  have he:((((toL n).length:Nat):Int)==0)=true:=beq_iff_eq.2 (by omega)
  have HB:=Yt (show (0:Int)=((C6 n:Nat):Int) by rw [hn];rfl)
  clear hn h3 h4 h0
  go_enter Tryz.func239,Tryz.ntmps239
  go_wp2_with (go_at_call 267;refine HT.out.mono ?_;rintro e w1 ⟨rfl,rfl⟩)
  go_ret
  exact ⟨BS HB.out,rfl⟩
 ·have he:((((toL n).length:Nat):Int)==0)=false:=beq_eq_false_iff_ne.2 (by omega)
  obtain ⟨b,off,x,rfl,hcell,hx,HX⟩:=h4.at h3 ((toL n).length-1) (by omega)
  have hb:=GE n h0
  rw [←HX.out] at hb
  have hle:=EU hx
  have HLEN:=Yt (Tryz.bits_Len32 (x:Int) w (by omega) (by omega))
  rw [Int.toNat_natCast] at HLEN
  have HB:=Yt hb
  obtain ⟨l,hll⟩: ∃l,l=(toL n).length:=⟨_,rfl⟩
  obtain ⟨bl,hbl⟩: ∃bl,bl=Lib.bitLen x:=⟨_,rfl⟩
  rw [←hll] at HT h1 hl h0 he hcell HB⊢
  rw [←hbl] at hle HLEN HB
  clear hb h3 h4 hll hbl HX
  go_enter Tryz.func239,Tryz.ntmps239
  go_wp2_with (first
   | (go_at_call 267;refine HT.out.mono ?_;rintro e w1 ⟨rfl,rfl⟩)
   | (go_at_call 248;refine HLEN.out.mono ?_;rintro e w1 ⟨rfl,rfl⟩))
  go_ret
  exact ⟨BS (by rw [HB.out];omega),rfl⟩
theorem RR (v:Value) (n:Nat) (w:World) (h:M w v n) (hl:(toL n).length≤1099511627776):
  Calls Tryz.prog 232 #[v] w fun e w'=>e= .returned (.int .i64 (C6 n))∧w=w':=by
 obtain ⟨ao,cap,rfl,h1,h2,h3,h4⟩:=h
 unfold maxLen at h2
 rcases Nat.eq_zero_or_pos (toL n).length with h0|h0
 ·have hn:n=0:=(AU n).1 (List.eq_nil_of_length_eq_zero h0)
  have he:((((toL n).length:Nat):Int)==0)=true:=beq_iff_eq.2 (by omega)
  have HB:=Yt (show (0:Int)=((C6 n:Nat):Int) by rw [hn];rfl)
  clear hn h3 h4 h0
  go_enter Tryz.func232,Tryz.ntmps232
  go_wp2
  go_ret
  exact ⟨BS HB.out,rfl⟩
 ·have he:((((toL n).length:Nat):Int)==0)=false:=beq_eq_false_iff_ne.2 (by omega)
  obtain ⟨b,off,x,rfl,hcell,hx,HX⟩:=h4.at h3 ((toL n).length-1) (by omega)
  have hb:=GE n h0
  rw [←HX.out] at hb
  have hle:=EU hx
  have HB:=Yt hb
  obtain ⟨l,hll⟩: ∃l,l=(toL n).length:=⟨_,rfl⟩
  rw [←hll] at h1 hl h0 he hcell HB⊢
  clear hb h3 h4 hll HX
  go_enter Tryz.func232,Tryz.ntmps232
  go_wp2
  go_loop [3,4] (fun cv xv=> ∃c y:Nat,cv= .int .i64 (32*((l:Int)-1)+c)∧xv= .int .u32 y∧y<4294967296∧c+Lib.bitLen y=Lib.bitLen x) (fun _ xv=>(intOf xv).toNat)
  case atStart=>exact ⟨0,x,by go_num,rfl,hx,by omega⟩
  case round=>
   obtain ⟨c,y,rfl,rfl,hy,hcy⟩:=hrel
   have HCY:=Yt hcy
   have hc:c≤32:=by omega
   clear hcy
   by_cases hy0:y=0
   ·have hne:(((y:Nat):Int) !=0)=false:=by rw [hy0];rfl
    have hfin:c=Lib.bitLen x:=by
     have h5:=HCY.out
     rw [hy0,show Lib.bitLen 0=0 by decide] at h5
     omega
    have HF:=Yt hfin
    clear hy0 hfin
    go_wp2
    go_ret
    exact ⟨BS (by rw [HB.out,HF.out];omega),rfl⟩
   ·have hne:(((y:Nat):Int) !=0)=true:=by rw [bne_iff_ne];omega
    have h5:=Lib.bitLen_half y hy0 (by omega)
    have HF:=Yt (show (c+1)+Lib.bitLen (y/2)=Lib.bitLen x by have:=HCY.out;omega)
    have hyp:0<y:=by omega
    clear hy0 h5
    go_wp2
    go_round
    case rel=>exact ⟨c+1,y/2,by go_num,by go_num,by omega,HF.out⟩
    case measure=>simp [intOf];omega
def bor (x s:Nat):Nat:=if x<s then 1 else 0
theorem PO (x s:Nat):bor x s≤1:=by unfold bor;split<;>omega
theorem Xb {x s:Nat} (hx:x<4294967296) (hs:s≤4294967296):
  IntKind.u64.wrap ((x:Int)-(s:Int)) % 4294967296=(((x+4294967296*bor x s-s:Nat)):Int)∧IntKind.u64.wrap ((x:Int)-(s:Int))/9223372036854775808=((bor x s:Nat):Int)∧x+4294967296*bor x s-s<4294967296∧
  x+4294967296*bor x s=(x+4294967296*bor x s-s)+s:=by
 unfold bor
 rw [IntKind.wrap_u64]
 split<;>omega
theorem Wx {x c y:Nat} :IntKind.u64.wrap (IntKind.u64.wrap ((x:Int)-(c:Int))-(y:Int))=IntKind.u64.wrap ((x:Int)-((c+y:Nat):Int)):=by
 rw [IntKind.wrap_u64,IntKind.wrap_u64,IntKind.wrap_u64]
 omega
theorem Di {O X ys:List Nat} {k c x y d b:Nat} (hk:k<O.length) (hv:val (X.take k)+4294967296^k*c=val (O.take k)+val (ys.take k)) (hx:x=X.getD k 0) (hy:y=ys.getD k 0) (hd:x+4294967296*b=d+(c+y)):
  val (X.take (k+1))+4294967296^(k+1)*b=val ((O.set k d).take (k+1))+val (ys.take (k+1)):=by
 rw [BX _ _ _ hk,Au X,Au ys,←hx,←hy,JE k,Nat.mul_assoc]
 have e:4294967296^k*x+4294967296^k*(4294967296*b)=4294967296^k*d+4294967296^k*c+4294967296^k*y:=by
  rw [←Nat.mul_add,hd,Nat.mul_add,Nat.mul_add,Nat.add_assoc]
 omega
theorem Lv {O X ys:List Nat} {c:Nat} (hO:O.length=X.length) (hL:Ai O) (hyl:ys.length≤X.length) (hle:val ys≤val X) (hv:val (X.take X.length)+4294967296^X.length*c=val (O.take X.length)+val (ys.take X.length)):val O=val X-val ys:=by
 rw [List.take_of_length_le (Yu _),List.take_of_length_le (by omega),List.take_of_length_le hyl] at hv
 have h1:=Cf hL
 rw [hO] at h1
 rcases Nat.eq_zero_or_pos c with h|h
 ·subst h
  omega
 ·have:=Nat.mul_le_mul_left (4294967296^X.length) h
  rw [Nat.mul_one] at this
  omega
theorem CU (ys:List Nat) (k:Nat) (h: ¬k<ys.length):0=ys.getD k 0:=by simp [List.getD,List.getElem?_eq_none (Nat.le_of_not_lt h)]
theorem Ft {O X:List Nat} {k:Nat} (h:O.drop k=X.drop k):O.getD k 0=X.getD k 0:=by
 have h1:(O.drop k)[0]?=(X.drop k)[0]?:=by rw [h]
 simp only [List.getElem?_drop,Nat.add_zero] at h1
 simp [List.getD,h1]
theorem S8 (a b:Value) (X ys:List Nat) (w:World) (ha:Rd w a X) (hb:Rd w b ys) (hl:X.length≤1099511627776) (ht:Aq X=X) (hyl:ys.length≤X.length) (hle:val ys≤val X):
  Calls Tryz.prog 277 #[a,b] w fun e w'=> ∃v',e= .returned (.tuple #[v',.int .i64 0])∧Rd w' v' (toL (val X-val ys))∧Kp w w':=by
 have hC:=Yt (Ee a b _ _ w ha hb)
 have hlt:decide (BZ (val X) (val ys)<0)=false:=by
  apply decide_eq_false
  unfold BZ
  rw [if_neg (by omega)]
  split<;>omega
 have HLm:Hid (Ai X):=by obtain ⟨_,_,_,_,_,h,_⟩:=ha;exact Lib.hid h
 obtain ⟨bo,bc,rfl,b1,b2,b3,b4⟩:=hb
 have B3:=Yt b3
 have HTT:=Yt ht
 have HA:=Yt ha
 have HLE:=Yt hle
 unfold maxLen at b2
 clear ha b3 ht hle
 obtain ⟨cv,hcv⟩: ∃cv,cv=BZ (val X) (val ys):=⟨_,rfl⟩
 rw [←hcv] at hC hlt
 clear hcv
 go_enter Tryz.func277,Tryz.ntmps277
 go_wp2_with (go_at_call 238;refine hC.out.mono ?_;rintro e w1 ⟨rfl,K1⟩;refine Hid.out ?_)
 refine Yt ?_
 have HCP:=Yt (DP a _ w1 (HA.out.kp K1) hl)
 rw [HTT.out] at HCP
 go_wp2_with (go_at_call 280;refine HCP.out.mono ?_;rintro e w2 ⟨g,hg,rfl,hO2,K2⟩;have HO2:=Yt hO2;clear hO2)
 have hgw:w.heap.size≤g:=Nat.le_trans K1.size hg
 have K12:Kp w w2:=K1.tr K2
 go_loopw [7,19] (fun cv i wr=> ∃(k c:Nat) (O:List Nat),k≤X.length∧i= .int .i64 k∧cv= .int .u64 c∧c≤1∧Own wr 31 g O∧O.length=X.length∧Ai O∧O.drop k=X.drop k∧
  val (X.take k)+4294967296^k*c=val (O.take k)+val (ys.take k)∧Kp w wr) (fun _ i _=>X.length-(intOf i).toNat)
 case atStart=>exact ⟨0,0,X,Nat.zero_le _,rfl,rfl,by omega,HO2.out,rfl,HLm.out,rfl,by simp [val],K12⟩
 case round=>
  obtain ⟨k,c,O,hk,rfl,rfl,hc,hO,hOl,hOL,hOd,hval,K3⟩:=hrel
  have HO:=Yt hO
  have HOl:=Yt hOl
  have HOL:=Yt hOL
  have HOd:=Yt hOd
  have HV:=Yt hval
  clear hO hOl hOL hOd hval
  by_cases hk1:k<X.length
  ·obtain ⟨x,hcell,hx,HX⟩:=HO.out.at HOL.out k (by rw [HOl.out];exact hk1)
   have hfz:=HO.out.frozen k
   have hxX:x=X.getD k 0:=by rw [HX.out,Ft HOd.out]
   have HXX:=Yt hxX
   clear hxX
   by_cases hk2:k<ys.length
   ·obtain ⟨bb,boff,y,rfl,hcell2,hy,HY⟩:=(b4.kp K3).at B3.out k hk2
    have HS:=Yt (Xb (s:=c+y) hx (by omega))
    have HS2:=Yt (@Wx x c y)
    go_wp2
    rw [HS2.out,HS.out.1,HS.out.2.1]
    go_roundw
    case rel=>exact ⟨k+1,bor x (c+y),O.set k (x+4294967296*bor x (c+y)-(c+y)),by omega,by go_num,rfl,PO _ _,HO.out.set k _,by rw [List.length_set];exact HOl.out,HOL.out.set _ _ HS.out.2.2.1,Ce HOd.out _,Di (by rw [HOl.out];exact hk1) HV.out HXX.out HY.out HS.out.2.2.2,K3.setCell hgw _⟩
    case measure=>simp [intOf];omega
   ·have HS:=Yt (Xb (s:=c) hx (by omega))
    have hy0:=Yt (CU ys k hk2)
    go_wp2
    rw [HS.out.1,HS.out.2.1]
    go_roundw
    case rel=>exact ⟨k+1,bor x c,O.set k (x+4294967296*bor x c-c),by omega,by go_num,rfl,PO _ _,HO.out.set k _,by rw [List.length_set];exact HOl.out,HOL.out.set _ _ HS.out.2.2.1,Ce HOd.out _,Di (by rw [HOl.out];exact hk1) HV.out HXX.out hy0.out HS.out.2.2.2,K3.setCell hgw _⟩
    case measure=>simp [intOf];omega
  ·obtain rfl:k=X.length:=by omega
   have HF:=Yt (Lv HOl.out HOL.out hyl HLE.out HV.out)
   have HTR:=Yt (Cg (some ⟨g,0,none⟩) X.length X.length O wr HOl.out (Yu _) (by unfold maxLen;omega) HO.out.sl)
   go_wp2_with (go_at_call 267;refine HTR.out.mono ?_;rintro e w4 ⟨rfl,rfl⟩)
   go_ret2
   exact ⟨_,rfl,HO.out.mag HOL.out _ _ HF.out (by rw [HOl.out];exact Yu _) (by unfold maxLen;omega),K3⟩
theorem Qd (a b:Value) (m n:Nat) (w:World) (ha:M w a m) (hb:M w b n) (hl:(toL m).length≤1099511627776) (hmn:n≤m):
  Calls Tryz.prog 277 #[a,b] w fun e w'=> ∃v',e= .returned (.tuple #[v',.int .i64 0])∧M w' v' (m-n)∧Kp w w':=by
 have:=S8 a b _ _ w ha hb hl (Ca m) (AM _ _ hmn) (by rw [Ar,Ar];exact hmn)
 rw [Ar,Ar] at this
 exact this
set_option maxRecDepth 20000 in
theorem Pu (a b:Value) (X ys:List Nat) (w:World) (ha:Rd w a X) (hb:Rd w b ys) (hl:X.length≤1099511627776) (hyl:ys.length≤X.length) (hle:val ys≤val X):
  Calls Tryz.prog 228 #[a,b] w fun e w'=> ∃v',e= .returned v'∧Rd w' v' (toL (val X-val ys))∧Kp w w':=by
 obtain ⟨i0,hi,hz0,hz1,hz2⟩:=info_parts BT
 obtain ⟨ao,ac,rfl,a1,a2,a3,a4⟩:=ha
 obtain ⟨bo,bc,rfl,b1,b2,b3,b4⟩:=hb
 have A3:=Yt a3
 have B3:=Yt b3
 have HLE:=Yt hle
 unfold maxLen at a2 b2
 clear a3 b3 hle
 go_enter Tryz.func228,Tryz.ntmps228
 go_wp2_with (at_make;refine wpList_make_full _ rfl _ _ 32 rfl w.heap.size 31 i0 (.int .u32 0) 1 AZ hi hz0 hz1 _ _ _ _ X.length rfl rfl rfl rfl (by rw [hz2];omega) (by unfold maxLen;omega) (Yu _) ?_;intro w1 hown hg;have O1:=Yt (Own.of_make hown);have K1:=(Below.refl w.heap.size w).grown hg (Yu _) (by intro j hj;cases hj);clear hown hg)
 go_loopw [6,7] (fun cv i wr=> ∃(k c:Nat) (O:List Nat),k≤X.length∧i= .int .i64 k∧cv= .int .u64 c∧c≤1∧Own wr 31 w.heap.size O∧O.length=X.length∧Ai O∧
  val (X.take k)+4294967296^k*c=val (O.take k)+val (ys.take k)∧Kp w wr) (fun _ i _=>X.length-(intOf i).toNat)
 case atStart=>exact ⟨0,0,List.replicate X.length 0,Nat.zero_le _,rfl,rfl,by omega,O1.out,by simp,Ai.replicate _,by simp [val],K1⟩
 case round=>
  obtain ⟨k,c,O,hk,rfl,rfl,hc,hO,hOl,hOL,hval,K3⟩:=hrel
  have HO:=Yt hO
  have HOl:=Yt hOl
  have HOL:=Yt hOL
  have HV:=Yt hval
  clear hO hOl hOL hval
  by_cases hk1:k<X.length
  ·obtain ⟨ab,aoff,x,rfl,hcell,hx,HX⟩:=(a4.kp K3).at A3.out k hk1
   obtain ⟨o,hcl,_,_⟩:=HO.out.at HOL.out k (by rw [HOl.out];exact hk1)
   have hfz:=HO.out.frozen k
   by_cases hk2:k<ys.length
   ·obtain ⟨bb,boff,y,rfl,hcell2,hy,HY⟩:=(b4.kp K3).at B3.out k hk2
    by_cases hlt:x<c+y
    ·go_wp2
     go_roundw
     case rel=>exact ⟨k+1,1,O.set k (x+4294967296-(c+y)),by omega,by go_num,rfl,by omega,by
      have h:=HO.out.set k (x+4294967296-(c+y))
      rw [show (((x+4294967296-(c+y):Nat)):Int)=(x:Int)+4294967296-((c:Int)+y) by omega] at h
      exact h,by rw [List.length_set];exact HOl.out,HOL.out.set _ _ (by omega),Di (by rw [HOl.out];exact hk1) HV.out HX.out HY.out (by omega),K3.setCell (Yu _) _⟩
     case measure=>simp [intOf];omega
    ·go_wp2
     go_roundw
     case rel=>exact ⟨k+1,0,O.set k (x-(c+y)),by omega,by go_num,rfl,by omega,by
      have h:=HO.out.set k (x-(c+y))
      rw [show (((x-(c+y):Nat)):Int)=(x:Int)-((c:Int)+y) by omega] at h
      exact h,by rw [List.length_set];exact HOl.out,HOL.out.set _ _ (by omega),Di (by rw [HOl.out];exact hk1) HV.out HX.out HY.out (by omega),K3.setCell (Yu _) _⟩
     case measure=>simp [intOf];omega
   ·have hy0:=Yt (CU ys k hk2)
    by_cases hlt:x<c
    ·go_wp2
     go_roundw
     case rel=>exact ⟨k+1,1,O.set k (x+4294967296-c),by omega,by go_num,rfl,by omega,by
      have h:=HO.out.set k (x+4294967296-c)
      rw [show (((x+4294967296-c:Nat)):Int)=(x:Int)+4294967296-(c:Int) by omega] at h
      exact h,by rw [List.length_set];exact HOl.out,HOL.out.set _ _ (by omega),Di (by rw [HOl.out];exact hk1) HV.out HX.out hy0.out (by omega),K3.setCell (Yu _) _⟩
     case measure=>simp [intOf];omega
    ·go_wp2
     go_roundw
     case rel=>exact ⟨k+1,0,O.set k (x-c),by omega,by go_num,rfl,by omega,by
      have h:=HO.out.set k (x-c)
      rw [show (((x-c:Nat)):Int)=(x:Int)-(c:Int) by omega] at h
      exact h,by rw [List.length_set];exact HOl.out,HOL.out.set _ _ (by omega),Di (by rw [HOl.out];exact hk1) HV.out HX.out hy0.out (by omega),K3.setCell (Yu _) _⟩
     case measure=>simp [intOf];omega
  ·obtain rfl:k=X.length:=by omega
   have HF:=Yt (Lv HOl.out HOL.out hyl HLE.out HV.out)
   have HRd:=HO.out.rd HOL.out X.length (by rw [HOl.out];exact Yu _) X.length (Yu _) (by unfold maxLen;omega)
   rw [List.take_of_length_le (by rw [HOl.out];exact Yu _)] at HRd
   have HTR:=Yt (DW _ O wr HRd (by rw [HOl.out];exact hl))
   have ht:=BY HOL.out
   rw [HF.out] at ht
   rw [←ht] at HTR
   clear ht HRd
   go_wp2_with (go_at_call 194;refine HTR.out.mono ?_;rintro e w4 ⟨v4,rfl,h4,K4⟩)
   go_ret
   exact ⟨_,rfl,h4,K3.tr K4⟩
theorem Nd (a b:Value) (m n:Nat) (w:World) (ha:M w a m) (hb:M w b n) (hl:(toL m).length≤1099511627776) (hmn:n≤m):
  Calls Tryz.prog 184 #[a,b] w fun e w'=> ∃v',e= .returned (.tuple #[v',.int .i64 0])∧M w' v' (m-n)∧Kp w w':=by
 have hC:=Yt (CO a b _ _ w ha hb)
 have hlt:decide (BZ m n<0)=false:=by
  apply decide_eq_false
  unfold BZ
  rw [if_neg (by omega)]
  split<;>omega
 obtain ⟨cv,hcv⟩: ∃cv,cv=BZ m n:=⟨_,rfl⟩
 rw [←hcv] at hC hlt
 have hm: ∀w1,Kp w w1→Calls Tryz.prog 228 #[a,b] w1 fun e w'=> ∃v',e= .returned v'∧M w' v' (m-n)∧Kp w1 w':=by
  intro w1 k1
  have:=Pu a b _ _ w1 (ha.kp k1) (hb.kp k1) hl (AM _ _ hmn) (by rw [Ar,Ar];exact hmn)
  rw [Ar,Ar] at this
  exact this
 have HM:=Yt hm
 clear hcv ha hb hmn hm
 go_enter Tryz.func184,Tryz.ntmps184
 go_wp2_with (go_at_call 88;refine hC.out.mono ?_;rintro e w1 ⟨rfl,K1⟩;refine Hid.out ?_)
 refine Yt ?_
 have HM1:=Yt (HM.out w1 K1)
 go_wp2_with (go_at_call 228;refine HM1.out.mono ?_;rintro e w2 ⟨v2,rfl,h2,K2⟩)
 go_ret2
 exact ⟨_,rfl,h2,K1.tr K2⟩
theorem Sl.cellIn {w:World} {ao:Option Addr} {xs:List Nat} (h:Sl w ao xs) (hx:Ai xs) (k:Nat) (hk:k<xs.length) {b off:Nat} (he:ao=some ⟨b,off,none⟩):
  ∃x,w.cell? ⟨b,off+k,none⟩=some (.int .u32 (x:Nat))∧x<4294967296∧Hid (x=xs.getD k 0):=by
 obtain ⟨b',off',x,he',h1,h2,h3⟩:=h.at hx k hk
 rw [he] at he'
 obtain ⟨rfl,rfl⟩:b=b'∧off=off':=by simpa using he'
 exact ⟨x,h1,h2,h3⟩
theorem XV {c x n:Nat} (hc:c<2^n) (hx:x<4294967296) (hn:n<32):
  bits .or .u64 (c:Int) (IntKind.u64.wrap ((x:Int)*2^n))=((c+x*2^n:Nat):Int):=by
 obtain ⟨q,hq,hp,hlt⟩:=Gb hn
 have h1:=(F6 hc hx).2
 have h2:4294967296*2^n≤4294967296*4294967296:=Nat.mul_le_mul_left _ (Nat.le_of_lt hlt)
 have h3:x*2^n<18446744073709551616:=by omega
 have e:((x:Int)*2^n)=((x*2^n:Nat):Int):=by rw [Int.natCast_mul,Int.natCast_pow];rfl
 rw [e,IntWalk.u64_in _ (by omega),bits_or_u64_nat c (x*2^n) (by omega) h3,JI hc]
set_option maxRecDepth 20000 in
theorem Id (g o L C:Nat) (ao:Option Addr) (cap n:Nat) (O xs:List Nat) (w:World) (hO:Own w 31 g O) (hL:Ai O) (hx:Ai xs) (hs: ∀w',Ci g w w'→Sl w' ao xs)
  (hl:xs.length+1≤L) (hl2:o+L≤O.length) (hl3:O.length≤1099511627776) (_hcap:xs.length≤cap) (_hcm:cap≤maxLen) (hn:n<32):
  Calls Tryz.prog 296 #[.slice (some ⟨g,o,none⟩) L C,.slice ao xs.length cap,.int .i64 (n:Nat)] w fun e w'=>e= .returned (.tuple #[])∧ ∃P,Own w' 31 g P∧Ai P∧P.length=O.length∧P.take o=O.take o∧
   P.drop (o+(xs.length+1))=O.drop (o+(xs.length+1))∧val ((P.drop o).take (xs.length+1))=val xs*2^n∧Ci g w w':=by
 have HO:=Yt hO
 have HL:=Yt hL
 have HX:=Yt hx
 have HS:=Yt hs
 clear hO hL hx hs
 go_enter Tryz.func296,Tryz.ntmps296
 go_wp2
 go_loopw [6,11] (fun cv i wr=> ∃(k c:Nat) (P:List Nat),k≤xs.length∧i= .int .i64 k∧cv= .int .u64 c∧c<2^n∧Own wr 31 g P∧Ai P∧P.length=O.length∧P.take o=O.take o∧P.drop (o+k)=O.drop (o+k)∧
  val ((P.drop o).take k)+4294967296^k*c=val (xs.take k)*2^n∧Ci g w wr) (fun _ i _=>xs.length-(intOf i).toNat)
 case atStart=>exact ⟨0,0,O,Nat.zero_le _,rfl,rfl,Nat.pow_pos (by omega),HO.out,HL.out,rfl,rfl,rfl,by simp [val],Ci.refl _ _⟩
 case round=>
  obtain ⟨k,c,P,hk,rfl,rfl,hc,hP,hPL,hPl,hPt,hPd,hPv,K1⟩:=hrel
  have HP:=Yt hP
  have HPL:=Yt hPL
  have HPl:=Yt hPl
  have HPt:=Yt hPt
  have HPd:=Yt hPd
  have HPv:=Yt hPv
  have HC:=Yt hc
  have hc32:c<4294967296:=Nat.lt_trans hc (Gb hn).choose_spec.2.2
  clear hP hPL hPl hPt hPd hPv hc
  by_cases hk1:k<xs.length
  ·obtain ⟨ab,aoff,x,rfl,hcell,hx,HXx⟩:=(HS.out wr K1).at HX.out k hk1
   obtain ⟨y,hcl,_,_⟩:=HP.out.at HPL.out (o+k) (by rw [HPl.out];omega)
   have hfz:=HP.out.frozen (o+k)
   have HB:=Yt (XV HC.out hx hn)
   have HR:=Yt (F6 HC.out hx)
   have HST:=Yt (Pc (D:=P.drop o) (by rw [List.length_drop,HPl.out];omega) HPv.out HXx.out)
   go_wp2
   rw [HB.out]
   go_roundw
   case rel=>exact ⟨k+1,(c+x*2^n)/4294967296,P.set (o+k) ((c+x*2^n) % 4294967296),by omega,by go_num,by go_num,HR.out.1,HP.out.set (o+k) _,HPL.out.set _ _ (Nat.mod_lt _ (by omega)),by rw [List.length_set];exact HPl.out,by rw [List.take_set_of_le (Nat.le_add_right o k)];exact HPt.out,Ce HPd.out _,by rw [ER];exact HST.out,K1.setCell _ _⟩
   case measure=>simp [intOf];omega
  ·obtain rfl:k=xs.length:=by omega
   obtain ⟨y,hcl,_,_⟩:=HP.out.at HPL.out (o+xs.length) (by rw [HPl.out];omega)
   have hfz:=HP.out.frozen (o+xs.length)
   have HF:=Yt (RV (D:=P.drop o) (by rw [List.length_drop,HPl.out];omega) HPv.out)
   go_wp2
   go_end0
   exact ⟨rfl,P.set (o+xs.length) c,HP.out.set (o+xs.length) _,HPL.out.set _ _ hc32,by rw [List.length_set];exact HPl.out,by rw [List.take_set_of_le (Nat.le_add_right o _)];exact HPt.out,Ce HPd.out _,by rw [ER];exact HF.out,K1.setCell _ _⟩
theorem G9 (v n:Nat):((v:Int)/2^n % 4294967296)=((v/2^n % 4294967296:Nat):Int):=by
 rw [Int.natCast_emod,Int.natCast_ediv,Int.natCast_pow]
 rfl
theorem L0 {x y:Nat} (hx:x<4294967296) (hy:y<4294967296):
  bits .or .u64 (x:Int) ((y:Int)*4294967296)=((x+4294967296*y:Nat):Int):=by
 have h1:=bits_or_u64_nat x (y*4294967296) (by omega) (by omega)
 rw [Int.natCast_mul] at h1
 have h2:=JI (c:=x) (x:=y) (n:=32) (by omega)
 rw [show (2^32:Nat)=4294967296 from rfl] at h2
 rw [show ((y:Int)*4294967296)=(y:Int)*((4294967296:Nat):Int) from rfl,h1,h2,Nat.mul_comm]
set_option maxRecDepth 20000 in
theorem KR (g L C n:Nat) (O:List Nat) (w:World) (hO:Own w 31 g O) (hL:Ai O) (hl2:L≤O.length) (hl3:O.length≤1099511627776) (hn:n<32):
  Calls Tryz.prog 298 #[.slice (some ⟨g,0,none⟩) L C,.int .i64 (n:Nat)] w fun e w'=>e= .returned (.tuple #[])∧ ∃P,Own w' 31 g P∧Ai P∧P.length=O.length∧
   P.drop L=O.drop L∧val (P.take L)=val (O.take L)/2^n∧Ci g w w':=by
 have HO:=Yt hO
 have HL:=Yt hL
 clear hO hL
 go_enter Tryz.func298,Tryz.ntmps298
 go_wp2
 go_loopw [8] (fun i wr=> ∃(k:Nat) (P:List Nat),k≤L∧i= .int .i64 k∧Own wr 31 g P∧Ai P∧P.length=O.length∧P.take k=(E3 n (O.take L)).take k∧P.drop k=O.drop k∧Ci g w wr) (fun i _=>L-(intOf i).toNat)
 case atStart=>exact ⟨0,O,Nat.zero_le _,rfl,HO.out,HL.out,rfl,rfl,rfl,Ci.refl _ _⟩
 case round=>
  obtain ⟨k,P,hk,rfl,hP,hPL,hPl,hPt,hPd,K1⟩:=hrel
  have HP:=Yt hP
  have HPL:=Yt hPL
  have HPl:=Yt hPl
  have HPt:=Yt hPt
  have HPd:=Yt hPd
  clear hP hPL hPl hPt hPd
  by_cases hk1:k<L
  ·obtain ⟨x,hcell,hx,HX⟩:=HP.out.at HPL.out k (by rw [HPl.out];omega)
   have hfz:=HP.out.frozen k
   have HXO:=Yt (show x=O.getD k 0 by rw [HX.out,Ft HPd.out])
   by_cases hk2:k+1<L
   ·obtain ⟨y,hcell2,hy,HY⟩:=HP.out.at HPL.out (k+1) (by rw [HPl.out];omega)
    have HYO:=Yt (show y=(O.take L).getD (k+1) 0 by
     rw [DN _ _ _ hk2,HY.out]
     have h1:P.drop (k+1)=O.drop (k+1):=by rw [←List.drop_drop,←List.drop_drop,HPd.out]
     exact Ft h1)
    have HB:=Yt (L0 hx hy)
    have HST:=Yt (NO hk1 hl2 HPl.out HPt.out (d:=(x+4294967296*y)/2^n % 4294967296) (by rw [←HXO.out,←HYO.out]))
    go_wp2
    rw [HB.out,G9]
    go_roundw
    case rel=>exact ⟨k+1,P.set k ((x+4294967296*y)/2^n % 4294967296),by omega,by go_num,HP.out.set k _,HPL.out.set _ _ (Nat.mod_lt _ (by omega)),by rw [List.length_set];exact HPl.out,HST.out,Ce HPd.out _,K1.setCell _ _⟩
    case measure=>simp [intOf];omega
   ·have HST:=Yt (NO hk1 hl2 HPl.out HPt.out (d:=x/2^n % 4294967296) (by rw [←HXO.out,Kn O L (k+1) hk2];rfl))
    go_wp2
    rw [G9]
    go_roundw
    case rel=>exact ⟨k+1,P.set k (x/2^n % 4294967296),by omega,by go_num,HP.out.set k _,HPL.out.set _ _ (Nat.mod_lt _ (by omega)),by rw [List.length_set];exact HPl.out,HST.out,Ce HPd.out _,K1.setCell _ _⟩
    case measure=>simp [intOf];omega
  ·obtain rfl:k=L:=by omega
   have hfin:val (P.take k)=val (O.take k)/2^n:=by
    rw [HPt.out,List.take_of_length_le (by rw [Hj,List.length_take];exact Nat.min_le_left _ _),Mw hn (HL.out.take k)]
   have HF:=Yt hfin
   clear hfin
   go_wp2
   go_end0
   exact ⟨rfl,P,HP.out,HPL.out,HPl.out,HPd.out,HF.out,K1⟩
theorem WT {P:List Nat} {X q p:Nat} {xs:List Nat} (hX:xs.length=X) (hl:P.length=X+q+1) (ht:P.take q=(List.replicate (X+q+1) 0).take q) (hv:val ((P.drop q).take (X+1))=val xs*p):val P=val xs*(4294967296^q*p):=by
 subst hX
 rw [List.take_of_length_le (by rw [List.length_drop];omega)] at hv
 conv=>lhs;rw [←List.take_append_drop q P,Cb,hv,ht,List.length_take,Nat.min_eq_left (by simp;omega)]
 rw [List.take_replicate,DT,Nat.zero_add,Nat.mul_left_comm]
set_option maxRecDepth 20000 in
theorem Nq (a:Value) (X:List Nat) (n:Nat) (w:World) (ha:Rd w a X) (hl:X.length≤549755813888) (hn:n≤549755813888):
  Calls Tryz.prog 285 #[a,.int .i64 (n:Nat)] w fun e w'=> ∃v',e= .returned v'∧Rd w' v' (toL (val X*2^n))∧Kp w w':=by
 obtain ⟨i0,hi,hz0,hz1,hz2⟩:=info_parts BT
 obtain ⟨ao,ac,rfl,a1,a2,a3,a4⟩:=ha
 have a2':=a2
 have A3:=Yt a3
 have A4:=Yt a4
 have HP2:=Yt (Ig n)
 unfold maxLen at a2
 obtain ⟨q,hq⟩: ∃q,q=n/32:=⟨_,rfl⟩
 obtain ⟨r,hr⟩: ∃r,r=n % 32:=⟨_,rfl⟩
 rw [←hq,←hr] at HP2
 have hqi:(n:Int)/32=(q:Int):=by omega
 have hri:(n:Int) % 32=(r:Int):=by omega
 have hr32:r<32:=by omega
 have hqb:q≤17179869184:=by omega
 rw [HP2.out]
 clear a3 a4 hq hr
 go_enter Tryz.func285,Tryz.ntmps285
 go_wp2_with (at_make;refine wpList_make_full _ rfl _ _ 32 rfl w.heap.size 31 i0 (.int .u32 0) 1 AZ hi hz0 hz1 _ _ _ _ (X.length+q+1) rfl rfl (by omega) (by omega) (by rw [hz2];omega) (by unfold maxLen;omega) (Yu _) ?_;intro w1 hown hg;have O1:=Yt (Own.of_make hown);have K1:=(Below.refl w.heap.size w).grown hg (Yu _) (by intro j hj;cases hj);clear hown hg;refine Hid.out ?_)
 refine Yt ?_
 have HRA:=Yt (fun L C=>Id w.heap.size q L C ao ac r (List.replicate (X.length+q+1) 0) X w1 O1.out (Ai.replicate _) A3.out (fun w' ho=>A4.out.kp (ho.kp K1 (Yu _))))
 go_wp2_with (go_at_call 296;refine (HRA.out _ _ (by omega) (by simp;omega) (by simp;omega) a1 a2' hr32).mono ?_;rintro e w2 ⟨rfl,P,hP,hPL,hPl,hPt,_,hPv,hon⟩;refine Hid.out ?_)
 refine Yt ?_
 have hPl2:P.length=X.length+q+1:=by rw [hPl,List.length_replicate]
 have HP:=Yt hP
 have HPL:=Yt hPL
 have HPl:=Yt hPl2
 have HF:=Yt (WT rfl hPl2 hPt hPv)
 have K2:Kp w w2:=hon.kp K1 (Yu _)
 have HTR:=Yt (Cg (some ⟨w.heap.size,0,none⟩) (X.length+q+1) (X.length+q+1) P w2 hPl2 (Yu _) (by unfold maxLen;omega) hP.sl)
 clear hP hPL hPl hPt hPv hPl2 hon
 go_wp2_with (go_at_call 267;refine HTR.out.mono ?_;rintro e w3 ⟨rfl,rfl⟩)
 go_ret
 exact ⟨_,rfl,HP.out.mag HPL.out _ _ HF.out (by rw [HPl.out];exact Yu _) (by unfold maxLen;omega),K2⟩
theorem Pb {w:World} {a:Value} {m:Nat} (ha:M w a m) {k:Nat} (hs:Sz k m) (hk:k≤549755813888) (n:Nat) (hn:n≤549755813888):
  Calls Tryz.prog 285 #[a,.int .i64 (n:Nat)] w fun e w'=> ∃v',e= .returned v'∧M w' v' (m*2^n)∧Kp w w':=by
 have:=Nq a _ n w ha (Nat.le_trans hs hk) hn
 rw [Ar] at this
 exact this
theorem T8 {d:Nat} (h:d≤9223372036854775808):IntKind.u64.wrap (wrap64 (d:Int))=(d:Int):=by
 unfold wrap64
 rw [IntKind.wrap_u64]
 omega
theorem Sl.drop {w:World} {b off:Nat} {X:List Nat} (h:Sl w (some ⟨b,off,none⟩) X) (q:Nat):Sl w (some ⟨b,off+q,none⟩) (X.drop q):=by
 intro hne
 obtain ⟨b',off',he,hc⟩:=h (by intro e;simp [e] at hne)
 obtain ⟨rfl,rfl⟩:b=b'∧off=off':=by simpa using he
 refine ⟨b,off+q,rfl,fun i hi=>?_⟩
 rw [List.length_drop] at hi
 rw [Nat.add_assoc,hc (q+i) (by omega)]
 simp [List.getD,List.getElem?_drop]
def Row (w:World) (base:Nat) (v:Value) (n:Nat):Prop:=
 ∃g P cap,v= .slice (some ⟨g,0,none⟩) (toL n).length cap∧base≤g∧Own w 31 g P∧Ai P∧(toL n).length≤P.length∧P.length≤cap∧cap≤maxLen∧P.take (toL n).length=toL n
theorem Row.m {w:World} {base:Nat} {v:Value} {n:Nat} (h:Row w base v n):M w v n:=by
 obtain ⟨g,P,cap,rfl,_,hO,hL,h1,h2,h3,h4⟩:=h
 have:=hO.rd hL (toL n).length h1 cap (by omega) h3
 rw [h4] at this
 exact this
theorem Row.mono {w:World} {base base':Nat} {v:Value} {n:Nat} (h:Row w base v n) (hb:base'≤base):Row w base' v n:=by
 obtain ⟨g,P,cap,rfl,h0,h⟩:=h
 exact ⟨g,P,cap,rfl,Nat.le_trans hb h0,h⟩
theorem Row.kp {w w':World} {base:Nat} {v:Value} {n:Nat} (h:Row w base v n) (k:Kp w w'):Row w' base v n:=by
 obtain ⟨g,P,cap,rfl,h0,hO,h⟩:=h
 exact ⟨g,P,cap,rfl,h0,hO.kp k,h⟩
theorem Own.row {w:World} {g:Nat} {P:List Nat} (h:Own w 31 g P) (hL:Ai P) {base:Nat} (hb:base≤g) {cap:Nat} (hc:P.length=cap) {n:Nat} (hv:val P=n) (hm:cap≤maxLen):
  Row w base (.slice (some ⟨g,0,none⟩) (Aq P).length cap) n:=by
 subst hv
 have e:=BY hL
 refine ⟨g,P,cap,by rw [e],hb,h,hL,by rw [e];exact AC P,by omega,hm,by rw [e];exact A6 P⟩
set_option maxRecDepth 20000 in
theorem L9 (a:Value) (X:List Nat) (d:Nat) (w:World) (ha:Rd w a X) (hl:X.length≤549755813888) (hd2:d≤9223372036854775808):
  Calls Tryz.prog 287 #[a,.int .u64 (d:Nat)] w fun e w'=> ∃v',e= .returned v'∧Rd w' v' (toL (val X/2^d))∧Kp w w'∧(val X/2^d≠0→Row w' w.heap.size v' (val X/2^d)):=by
 obtain ⟨ao,ac,rfl,a1,a2,a3,a4⟩:=ha
 have A3:=Yt a3
 have HP2:=Yt (E6 (val X) d)
 unfold maxLen at a2
 obtain ⟨q,hq⟩: ∃q,q=d/32:=⟨_,rfl⟩
 obtain ⟨r,hr⟩: ∃r,r=d % 32:=⟨_,rfl⟩
 rw [←hq,←hr,←CF a3] at HP2
 have hqi:((d:Int)/32)=(q:Int):=by omega
 have hqw:IntKind.u64.wrap (q:Int)=(q:Int):=IntWalk.u64_in _ (by omega)
 have hri:(d:Int) % 32=(r:Int):=by omega
 have hr32:r<32:=by omega
 rw [HP2.out]
 clear hd2 hq hr
 by_cases hqx:q<X.length
 ·obtain ⟨b,off,rfl,_⟩:=a4.cell (by omega)
  have hlt:=AC (X.drop q)
  rw [List.length_drop] at hlt
  have HRd:=Yt (show Rd w (.slice (some ⟨b,off+q,none⟩) (X.length-q) (ac-q)) (X.drop q) from
   ⟨some ⟨b,off+q,none⟩,ac-q,by rw [List.length_drop],by rw [List.length_drop];omega,by unfold maxLen;omega,a3.drop q,a4.drop q⟩)
  have HCP:=Yt (DP _ _ w HRd.out (by rw [List.length_drop];omega))
  have HVT:=Yt (BK (X.drop q))
  have HLT:=Yt (AP (a3.drop q))
  obtain ⟨T,hT⟩: ∃T,T=Aq (X.drop q):=⟨_,rfl⟩
  rw [←hT] at HCP HVT HLT hlt
  rw [←HVT.out]
  clear hT a3 a4
  go_enter Tryz.func287,Tryz.ntmps287
  go_wp2_with (go_at_call 280;refine HCP.out.mono ?_;rintro e w1 ⟨g,hg,rfl,hO,K1⟩;refine Hid.out ?_)
  refine Yt ?_
  have HLW:=Yt (fun C=>KR g T.length C r T w1 hO HLT.out (Yu _) (by omega) hr32)
  clear hO
  go_wp2_with (go_at_call 298;refine (HLW.out _).mono ?_;rintro e w2 ⟨rfl,P,hP,hPL,hPl,_,hPv,hon⟩;refine Hid.out ?_)
  refine Yt ?_
  have HP:=Yt hP
  have HPL:=Yt hPL
  have HPl:=Yt hPl
  rw [List.take_length,List.take_of_length_le (by rw [hPl];exact Yu _)] at hPv
  have HPv:=Yt hPv
  have K2:Kp w w2:=hon.kp K1 hg
  have HTR:=Yt (Cg (some ⟨g,0,none⟩) T.length T.length P w2 hPl (Yu _) (by unfold maxLen;omega) hP.sl)
  clear hP hPL hPl hPv hon
  go_wp2_with (go_at_call 267;refine HTR.out.mono ?_;rintro e w3 ⟨rfl,rfl⟩)
  go_ret
  exact ⟨_,rfl,HP.out.mag HPL.out _ _ HPv.out (by rw [HPl.out];exact Yu _) (by unfold maxLen;omega),K2,fun _=>HP.out.row HPL.out hg HPl.out HPv.out (by unfold maxLen;omega)⟩
 ·rw [List.drop_of_length_le (by omega)]
  have hz:val ([]:List Nat)/2^r=0:=Nat.zero_div _
  rw [hz,Az]
  clear a3 a4
  go_enter Tryz.func287,Tryz.ntmps287
  go_wp2
  go_ret
  exact ⟨_,rfl,⟨none,0,rfl,Yu _,Nat.zero_le _,Ai.nil,fun h=>absurd rfl h⟩,Below.refl _ _,fun h=>absurd rfl h⟩
theorem IC {w:World} {a:Value} {m:Nat} (ha:M w a m) {k:Nat} (hs:Sz k m) (hk:k≤549755813888) (d:Nat) (hd:d≤9223372036854775808):
  Calls Tryz.prog 287 #[a,.int .u64 (d:Nat)] w fun e w'=> ∃v',e= .returned v'∧M w' v' (m/2^d)∧Kp w w'∧(m/2^d≠0→Row w' w.heap.size v' (m/2^d)):=by
 have:=L9 a _ d w ha (Nat.le_trans hs hk) hd
 rw [Ar] at this
 exact this
theorem Ie {q Q n y:Nat} (hy:0<y) (hQ:Q=n/y) (h1:Q≤q) (h2:q*y≤n):q=Q:=by
 have:q≤Q:=by rw [hQ];exact (Nat.le_div_iff_mul_le hy).2 h2
 omega
theorem GU {q h y1 y0 N d:Nat} (hN:q*y1+h=N):q*(y1*4294967296+y0)≤N*4294967296+d↔q*y0≤4294967296*h+d:=by
 have e1:q*(y1*4294967296+y0)=q*y1*4294967296+q*y0:=by rw [Nat.mul_add,←Nat.mul_assoc]
 have e2:N*4294967296=q*y1*4294967296+4294967296*h:=by rw [←hN,Nat.add_mul,Nat.mul_comm h]
 rw [e1,e2]
 generalize q*y1*4294967296=a
 generalize q*y0=b
 generalize 4294967296*h=c
 omega
theorem JS {q Q n y:Nat} (_hy:0<y) (hQ:Q=n/y) (_h1:Q≤q) (h2: ¬q*y≤n):Q≤q-1∧0<q:=by
 have:Q<q:=by rw [hQ];exact Nat.div_lt_of_lt_mul (by rw [Nat.mul_comm];omega)
 omega
theorem Yk {y:Nat} (h1:9223372036854775808≤y) (h2:y<18446744073709551616):(64-(Lib.bitLen y:Int))=0:=by
 have h3:=Lib.bitLen_shift 63 y h1 h2
 have h4:y/2^63=1:=by
  rw [show (2^63:Nat)=9223372036854775808 from rfl]
  omega
 rw [h4] at h3
 rw [h3]
 rfl
theorem LJ {k:IntKind} {a b r:Int} (h:a=b):Ending.returned (.tuple #[.int k a,.int k r])= .returned (.tuple #[.int k b,.int k r]):=by rw [h]
theorem QR {y:Nat} (h:y<18446744073709551616):bits .and .u64 (y:Int) 4294967295=((y % 4294967296:Nat):Int):=by
 have h1:=bits_and_u64_nat y 4294967295 h (by omega)
 rw [show ((4294967295:Nat):Int)=4294967295 from rfl] at h1
 rw [h1,show (4294967295:Nat)=2^32-1 from rfl,Nat.and_two_pow_sub_one_eq_mod]
theorem or_zero {h:Nat} (hh:h<18446744073709551616) {lo:Nat} (hl:lo<18446744073709551616):bits .or .u64 (h:Int) ((lo:Int)/18446744073709551616)=(h:Int):=by
 rw [show ((lo:Int)/18446744073709551616)=((0:Nat):Int) by omega,bits_or_u64_nat h 0 hh (by omega),Nat.or_zero]
theorem GH (a b:Nat):(a:Int).tdiv (b:Int)=((a/b:Nat):Int):=rfl
theorem IF {N y1 y0 d Q:Nat} (hy:2147483648≤y1) (hN:N<y1*4294967296+y0) (h0:y0<4294967296) (hd:d<4294967296) (hQ:Q=(N*4294967296+d)/(y1*4294967296+y0)):
  Q≤N/y1∧N/y1≤4294967297∧Q<4294967296:=by
 have hyp:0<y1*4294967296+y0:=by omega
 have h1:=Nat.div_add_mod N y1
 have h2:=Nat.mod_lt N (show 0<y1 by omega)
 generalize N/y1=q at*
 generalize N % y1=r at*
 refine ⟨?_,?_,?_⟩
 ·rw [hQ]
  refine Nat.le_of_lt_succ (Nat.div_lt_of_lt_mul ?_)
  have e1:(y1*4294967296+y0)*(q+1)=y1*q*4294967296+y1*4294967296+y0*(q+1):=by
   rw [Nat.add_mul,Nat.mul_add,Nat.mul_one,Nat.mul_right_comm]
  have e2:N*4294967296=y1*q*4294967296+r*4294967296:=by rw [←h1,Nat.add_mul]
  rw [e2,Nat.succ_eq_add_one,e1]
  obtain ⟨a,ha⟩: ∃a,a=y1*q*4294967296:=⟨_,rfl⟩
  obtain ⟨b,hb⟩: ∃b,b=y0*(q+1):=⟨_,rfl⟩
  rw [←ha,←hb]
  clear ha hb e1 e2 h1 hQ hN
  omega
 ·rcases Nat.lt_or_ge 4294967297 q with h|h
  ·have:=Nat.mul_le_mul_left y1 (show 4294967298≤q from h)
   omega
  ·exact h
 ·rw [hQ]
  refine Nat.div_lt_of_lt_mul ?_
  obtain ⟨y,hy⟩: ∃y,y=y1*4294967296+y0:=⟨_,rfl⟩
  rw [←hy] at hN⊢
  clear hy hQ hyp h1 h2
  omega
theorem TK {hi lo y u1 u0 q N Q0:Nat} (hy:0<y) (hlo:lo=u1*4294967296+u0) (hq:q=(hi*4294967296+u1)/y) (hN:N=(hi*4294967296+u1) % y) (hQ:Q0=(N*4294967296+u0)/y):
  (hi*18446744073709551616+lo)/y=q*4294967296+Q0:=by
 have h1:=Nat.div_add_mod (hi*4294967296+u1) y
 rw [←hq,←hN] at h1
 have e:hi*18446744073709551616+lo=(N*4294967296+u0)+y*(q*4294967296):=by
  rw [hlo,←Nat.mul_assoc]
  generalize y*q=a at*
  omega
 rw [e,Nat.add_mul_div_left _ _ hy,←hQ,Nat.add_comm]
set_option maxRecDepth 20000 in
theorem Sk (hi lo y:Nat) (w:World) (hh:hi<4294967296) (hl:lo<18446744073709551616) (hy1:9223372036854775808≤y) (hy2:y<18446744073709551616):
  Calls Tryz.prog 308 #[.int .u64 (hi:Nat),.int .u64 (lo:Nat),.int .u64 (y:Nat)] w fun e w'=> ∃r,e= .returned (.tuple #[.int .u64 ((hi*18446744073709551616+lo)/y:Nat),.int .u64 r])∧Kp w w':=by
 by_cases hh0:hi=0
 ·have hz:((hi:Int)==0)=true:=beq_iff_eq.2 (by omega)
  obtain ⟨q,hq⟩: ∃q,q=lo/y:=⟨_,rfl⟩
  have hqb:q≤lo:=by rw [hq];exact Nat.div_le_self _ _
  have hqt:(lo:Int).tdiv (y:Int)=(q:Int):=by rw [GH,hq]
  have HE:Hid ((hi*18446744073709551616+lo)/y=q):=by rw [hh0,hq,Nat.zero_mul,Nat.zero_add];exact Lib.hid rfl
  clear hq hh0
  go_enter Tryz.func308,Tryz.ntmps308
  go_wp2
  go_quiet (fail)
  go_wp2
  go_ret2
  rw [HE.out]
  exact ⟨_,rfl,Kp.drewN (Below.refl _ _) _⟩
 ·have hlz: ∀W:World,Calls Tryz.prog 311 #[.int .u64 (y:Nat)] W fun e w'=>e= .returned (.int .i64 0)∧w'=W:=by
   intro W
   refine (Tryz.bits_LeadingZeros64 (y:Int) W (by omega) (by omega)).mono ?_
   rintro e w1 ⟨rfl,rfl⟩
   exact ⟨BS (Yk hy1 hy2),rfl⟩
  have HLZ:=Yt hlz
  clear hlz
  obtain ⟨y1,hy1e⟩: ∃y1,y1=y/4294967296:=⟨_,rfl⟩
  obtain ⟨y0,hy0e⟩: ∃y0,y0=y % 4294967296:=⟨_,rfl⟩
  obtain ⟨u1,hu1e⟩: ∃u1,u1=lo/4294967296:=⟨_,rfl⟩
  obtain ⟨u0,hu0e⟩: ∃u0,u0=lo % 4294967296:=⟨_,rfl⟩
  have hye:y=y1*4294967296+y0:=by omega
  have hlo:lo=u1*4294967296+u0:=by omega
  have a1:((y:Int)/4294967296)=(y1:Int):=by omega
  have aa:=QR hy2
  have a3:((lo:Int)/4294967296)=(u1:Int):=by omega
  have a4:=QR hl
  have a5:=or_zero (show hi<18446744073709551616 by omega) hl
  rw [←hy0e] at aa
  rw [←hu0e] at a4
  have b1:2147483648≤y1:=by omega
  have b2:y1<4294967296:=by omega
  have b3:y0<4294967296:=by omega
  have b4:u1<4294967296:=by omega
  have b5:u0<4294967296:=by omega
  obtain ⟨q1,hq1⟩: ∃q1,q1=hi/y1:=⟨_,rfl⟩
  obtain ⟨h1,hh1⟩: ∃h1,h1=hi % y1:=⟨_,rfl⟩
  obtain ⟨m1,hm1⟩: ∃m1,m1=q1*y1:=⟨_,rfl⟩
  have hqh:m1+h1=hi:=by rw [hm1,hq1,hh1,Nat.mul_comm];exact Nat.div_add_mod _ _
  have c1:(hi:Int).tdiv (y1:Int)=(q1:Int):=by rw [GH,hq1]
  have c2:(q1:Int)*(y1:Int)=(m1:Int):=by rw [hm1,Int.natCast_mul]
  have c3:q1≤1:=by
   rw [hq1]
   exact Nat.le_of_lt_succ (Nat.div_lt_of_lt_mul (by omega))
  obtain ⟨Q1,hQ1⟩: ∃Q1,Q1=(hi*4294967296+u1)/y:=⟨_,rfl⟩
  obtain ⟨N,hN⟩: ∃N,N=(hi*4294967296+u1) % y:=⟨_,rfl⟩
  obtain ⟨Q0,hQ0⟩: ∃Q0,Q0=(N*4294967296+u0)/y:=⟨_,rfl⟩
  have hNy:N<y:=by rw [hN];exact Nat.mod_lt _ (by omega)
  obtain ⟨Z,hZ⟩: ∃Z,Z=(hi*18446744073709551616+lo)/y:=⟨_,rfl⟩
  have hJ:=Yt (TK (show 0<y by omega) hlo hQ1 hN hQ0)
  have hQ1':Q1=(hi*4294967296+u1)/(y1*4294967296+y0):=by rw [←hye];exact hQ1
  have hQ0':Q0=(N*4294967296+u0)/(y1*4294967296+y0):=by rw [←hye];exact hQ0
  rw [←hZ] at hJ⊢
  clear hZ
  have hF1:=IF b1 (show hi<y1*4294967296+y0 by omega) b3 b4 hQ1'
  have hF0:=IF b1 (show N<y1*4294967296+y0 by omega) b3 b5 hQ0'
  rw [←hq1] at hF1
  have HQ1:=Yt hQ1
  have HQ0:=Yt hQ0
  have HYE:=Yt hye
  have HL1:=Yt hF1.1
  have HN:=Yt (Nat.div_add_mod (hi*4294967296+u1) y)
  rw [←hQ1,←hN] at HN
  have HF0:=Yt hF0
  have HH1:Hid (q1*y1+h1=hi):=Yt (by omega)
  have hh1b:h1≤hi:=by omega
  clear hQ1' hQ0' hy1e hy0e hu1e hu0e hq1 hh1 hm1 hQ1 hN hQ0 hF1 hF0 hye hlo
  go_enter Tryz.func308,Tryz.ntmps308
  go_wp2_with (go_at_call 311;refine (HLZ.out _).mono ?_;rintro e w1 ⟨rfl,rfl⟩)
  go_loop [15,16] (fun a b=> ∃q h:Nat,a= .int .u64 q∧b= .int .u64 h∧q≤1∧h≤hi∧q*y1+h=hi∧Q1≤q) (fun a _=>(intOf a).toNat)
  case atStart=>exact ⟨q1,h1,by go_num,by go_num,c3,hh1b,HH1.out,HL1.out⟩
  case round=>
   obtain ⟨q,h,rfl,rfl,hq,hhi,hqh',hQ⟩:=hrel
   have T:=GU (y0:=y0) (d:=u1) hqh'
   rw [←HYE.out] at T
   obtain ⟨p,hp⟩: ∃p,p=q*y0:=⟨_,rfl⟩
   obtain ⟨H,hH⟩: ∃H,H=4294967296*h:=⟨_,rfl⟩
   have hpb:p≤1*y0:=by rw [hp];exact Nat.mul_le_mul_right _ hq
   have hpi:(q:Int)*(y0:Int)=(p:Int):=by rw [hp,Int.natCast_mul]
   have hHi:(4294967296:Int)*(h:Int)=(H:Int):=by omega
   have hHb:H+u1≤18446744073709551615:=by omega
   rw [←hp,←hH] at T
   have hA:decide ((4294967296:Int)≤(q:Int))=false:=decide_eq_false (by omega)
   have hC:(4294967296≤q)=False:=eq_false (by omega)
   by_cases ht:p≤H+u1
   ·have hqQ:=Ie (by omega) HQ1.out hQ (T.2 ht)
    subst hqQ
    obtain ⟨m2,hm2⟩: ∃m2,m2=q*y:=⟨_,rfl⟩
    have g1:(q:Int)*(y:Int)=(m2:Int):=by rw [hm2,Int.natCast_mul]
    have hm2':y*q=m2:=by rw [hm2,Nat.mul_comm]
    have g2:m2≤18446744073709551615:=by have:=HN.out;omega
    have g3:IntKind.u64.wrap ((hi:Int)*4294967296+(u1:Int)-(m2:Int))=(N:Int):=by
     have:=HN.out
     rw [hm2'] at this
     rw [IntWalk.u64_in _ (by omega)]
     omega
    obtain ⟨a2,ha2⟩: ∃a2,a2=N/y1:=⟨_,rfl⟩
    obtain ⟨m3,hm3⟩: ∃m3,m3=a2*y1:=⟨_,rfl⟩
    obtain ⟨h2,hh2⟩: ∃h2,h2=N % y1:=⟨_,rfl⟩
    have hdm:m3+h2=N:=by rw [hm3,ha2,hh2,Nat.mul_comm];exact Nat.div_add_mod _ _
    have hh2b:h2<y1:=by rw [hh2];exact Nat.mod_lt _ (by omega)
    have g4:(N:Int).tdiv (y1:Int)=(a2:Int):=by rw [GH,ha2]
    have hF:=HF0.out
    rw [←ha2] at hF
    have g5:a2≤4294967297:=hF.2.1
    have g6:(a2:Int)*(y1:Int)=(m3:Int):=by rw [hm3,Int.natCast_mul]
    have g7:m3≤18446744073709551615:=by omega
    have g8:IntKind.u64.wrap ((N:Int)-(m3:Int))=(h2:Int):=by
     rw [IntWalk.u64_in _ (by omega)]
     omega
    have HD:Hid (a2*y1+h2=N):=Yt (by rw [←hm3];exact hdm)
    have HF:=Yt hF
    have hNb:N<18446744073709551616:=by omega
    clear hqh' hp T hQ hqh c1 c2 c3 hh1b a1 a3 a4 a5 hy1 hhi hh0 hH hm2 hm2' ha2 hm3 hh2 hdm hF
    go_wp2
    go_loop [16,18] (fun a b=> ∃q h:Nat,a= .int .u64 h∧b= .int .u64 q∧q≤4294967297∧h<4294967296∧q*y1+h=N∧Q0≤q) (fun _ b=>(intOf b).toNat)
    case atStart=>exact ⟨a2,h2,by go_num,by go_num,g5,by omega,HD.out,HF.out.1⟩
    case round=>
     clear hA hC g1 g2 g3 g4 g5 g6 g7 g8 hpb hpi hHi hHb ht
     obtain ⟨q',h',rfl,rfl,hq',hh',hqh',hQ'⟩:=hrel
     have T:=GU (y0:=y0) (d:=u0) hqh'
     rw [←HYE.out] at T
     obtain ⟨p',hp'⟩: ∃p,p=q'*y0:=⟨_,rfl⟩
     obtain ⟨H',hH'⟩: ∃H,H=4294967296*h':=⟨_,rfl⟩
     have hpb:p'≤18446744073709551615:=by
      have:=Nat.mul_le_mul hq' (show y0≤4294967295 by omega)
      omega
     have hpi:(q':Int)*(y0:Int)=(p':Int):=by rw [hp',Int.natCast_mul]
     have hHi:(4294967296:Int)*(h':Int)=(H':Int):=by omega
     have hHb:H'+u0≤18446744073709551615:=by omega
     rw [←hp',←hH'] at T
     by_cases hx:q'<4294967296∧p'≤H'+u0
     ·have hA:decide ((4294967296:Int)≤(q':Int))=false:=decide_eq_false (by omega)
      have hC:(4294967296≤q')=False:=eq_false (by omega)
      have hqQ:=Ie (by omega) HQ0.out hQ' (T.2 hx.2)
      have hx2:=hx.2
      subst hqQ
      clear hqh' hp' T hQ' hH' hx hNy
      go_wp2
      go_ret2
      exact ⟨⟨_,LJ (by have:=hJ.out;omega)⟩,Below.refl _ _⟩
     ·have hdn:Q0≤q'-1∧0<q':=by
       by_cases hc:q'<4294967296
       ·exact JS (show 0<y by omega) HQ0.out hQ' (fun e=>hx ⟨hc,T.1 e⟩)
       ·have:=HF.out.2.2
        omega
      have hHN:(q'-1)*y1+(h'+y1)=N:=by
       obtain ⟨r,rfl⟩: ∃r,q'=r+1:=⟨q'-1,by omega⟩
       rw [Nat.add_sub_cancel,←hqh',Nat.add_mul,Nat.one_mul]
       omega
      have HHN:=Yt hHN
      have HDN:=Yt hdn.1
      have hq0:=hdn.2
      by_cases hy':h'+y1<4294967296
      ·have hB:decide ((4294967296:Int)≤(h':Int)+(y1:Int))=false:=decide_eq_false (by omega)
       have hD:(4294967296≤h'+y1)=False:=eq_false (by omega)
       clear T hHN hdn hqh' hp' hH' hQ' hNy
       by_cases hc:q'<4294967296
       ·have hA:decide ((4294967296:Int)≤(q':Int))=false:=decide_eq_false (by omega)
        have hC:(4294967296≤q')=False:=eq_false (by omega)
        have hx2: ¬p'≤H'+u0:=fun e=>hx ⟨hc,e⟩
        clear hx
        go_wp2
        go_round
        case rel=>exact ⟨q'-1,h'+y1,by go_num,by go_num,by omega,hy',HHN.out,HDN.out⟩
        case measure=>simp [intOf];omega
       ·have hA:decide ((4294967296:Int)≤(q':Int))=true:=decide_eq_true (by omega)
        have hC:(4294967296≤q')=True:=eq_true (by omega)
        clear hx
        go_wp2
        go_round
        case rel=>exact ⟨q'-1,h'+y1,by go_num,by go_num,by omega,hy',HHN.out,HDN.out⟩
        case measure=>simp [intOf];omega
      ·have hB:decide ((4294967296:Int)≤(h':Int)+(y1:Int))=true:=decide_eq_true (by omega)
       have hD:(4294967296≤h'+y1)=True:=eq_true (by omega)
       have hfin:q'-1=Q0:=by
        refine Ie (by omega) HQ0.out hdn.1 ?_
        rw [HYE.out]
        refine (GU hHN).2 ?_
        have:=Nat.mul_le_mul (show q'-1≤4294967296 by omega) (show y0≤4294967295 by omega)
        omega
       have HFIN:=Yt hfin
       clear T hHN hdn hqh' hp' hH' hQ' hNy hfin
       by_cases hc:q'<4294967296
       ·have hA:decide ((4294967296:Int)≤(q':Int))=false:=decide_eq_false (by omega)
        have hC:(4294967296≤q')=False:=eq_false (by omega)
        have hx2: ¬p'≤H'+u0:=fun e=>hx ⟨hc,e⟩
        clear hx
        go_wp2
        go_ret2
        exact ⟨⟨_,LJ (by have h1:=hJ.out;have h2:=HFIN.out;omega)⟩,Below.refl _ _⟩
       ·have hA:decide ((4294967296:Int)≤(q':Int))=true:=decide_eq_true (by omega)
        have hC:(4294967296≤q')=True:=eq_true (by omega)
        clear hx
        go_wp2
        go_ret2
        exact ⟨⟨_,LJ (by have h1:=hJ.out;have h2:=HFIN.out;omega)⟩,Below.refl _ _⟩
   ·have hd:=JS (show 0<y by omega) HQ1.out hQ (fun e=>ht (T.1 e))
    obtain ⟨hd1,hd2⟩:=hd
    have hhy:h+y1=hi:=by
     have e:q=1:=by omega
     rw [e] at hqh'
     omega
    have hB:decide ((4294967296:Int)≤(h:Int)+(y1:Int))=false:=decide_eq_false (by omega)
    have hD:(4294967296≤h+y1)=False:=eq_false (by omega)
    have HY:=Yt hhy
    have HQD:Hid (Q1≤0):=Yt (by omega)
    clear T hQ hqh' hp hH hd1 hqh c1 c2 c3 hh1b hhy hy1 hh0
    go_wp2
    go_round
    case rel=>exact ⟨0,h+y1,by go_num,by go_num,by omega,Nat.le_of_eq HY.out,by rw [Nat.zero_mul,Nat.zero_add];exact HY.out,HQD.out⟩
    case measure=>simp [intOf];omega
theorem Yj {c x y:Nat} (hc:c<4294967296) (hx:x<4294967296) (hy:y<4294967296):
  IntKind.u64.wrap ((c:Int)+IntKind.u64.wrap ((x:Int)*(y:Int)))=((c+x*y:Nat):Int)∧c+x*y≤18446744073709551615:=by
 have h:x*y≤4294967295*4294967295:=Nat.mul_le_mul (by omega) (by omega)
 rw [←Int.natCast_mul]
 generalize x*y=p at*
 refine ⟨?_,by omega⟩
 rw [IntWalk.u64_in (p:Int) (by omega),IntWalk.u64_in _ (by omega)]
 omega
theorem NG {P O V:List Nat} {o k c b x y p t b' d:Nat} (hk:o+k<P.length) (hd:P.drop (o+k)=O.drop (o+k)) (hp:p=P.getD (o+k) 0) (hy:y=V.getD k 0)
  (hv:val ((P.drop o).take k)+x*val (V.take k)=val ((O.drop o).take k)+(c+b)*4294967296^k) (ht:t=c+x*y) (hs:p+4294967296*b'=d+(t % 4294967296+b)):
  val (((P.set (o+k) d).drop o).take (k+1))+x*val (V.take (k+1))=val ((O.drop o).take (k+1))+(t/4294967296+b')*4294967296^(k+1):=by
 have e0:(O.drop o).getD k 0=p:=by
  rw [hp]
  simp only [List.getD,List.getElem?_drop]
  have h1:(P.drop (o+k))[0]?=(O.drop (o+k))[0]?:=by rw [hd]
  simp only [List.getElem?_drop,Nat.add_zero] at h1
  rw [h1]
 rw [ER,BX _ _ _ (by rw [List.length_drop];omega),Au V,Au (O.drop o),e0,←hy,JE k,Nat.mul_add,Nat.add_mul]
 have h2:=Nat.div_add_mod t 4294967296
 have e1:d+x*y+c+b=p+4294967296*b'+4294967296*(t/4294967296):=by omega
 generalize t/4294967296=T at*
 generalize t % 4294967296=R at*
 generalize val ((P.drop o).take k)=A at*
 generalize val ((O.drop o).take k)=B at*
 generalize val (V.take k)=C at*
 generalize (4294967296:Nat)^k=K at*
 have e2:K*(d+x*y+c+b)=K*(p+4294967296*b'+4294967296*T):=by rw [e1]
 rw [Nat.mul_add,Nat.mul_add,Nat.mul_add,Nat.mul_add,Nat.mul_add] at e2
 have e3:x*(K*y)=K*(x*y):=Nat.mul_left_comm _ _ _
 have e4:T*(K*4294967296)=K*(4294967296*T):=by rw [Nat.mul_comm T,Nat.mul_assoc]
 have e5:b'*(K*4294967296)=K*(4294967296*b'):=by rw [Nat.mul_comm b',Nat.mul_assoc]
 have e6:(c+b)*K=K*c+K*b:=by rw [Nat.mul_comm,Nat.mul_add]
 rw [e3,e4,e5]
 rw [e6] at hv
 omega
set_option maxRecDepth 20000 in
theorem Lu (g o C D h x:Nat) (da:Option Addr) (O V:List Nat) (w:World) (hO:Own w 31 g O) (hL:Ai O) (hV:Ai V) (hs: ∀w',Ci g w w'→Sl w' da V)
  (hl2:o+V.length≤O.length) (hl3:O.length≤1099511627776) (_hcap:V.length≤D) (_hcm:D≤maxLen) (hh:h<4294967296) (hx:x<4294967296):
  Calls Tryz.prog 302 #[.int .u32 (h:Nat),.slice (some ⟨g,o,none⟩) V.length C,.slice da V.length D,.int .u32 (x:Nat)] w fun e w'=> ∃(P:List Nat) (c:Nat),e= .returned (.bool (decide (h<c)))∧Own w' 31 g P∧Ai P∧P.length=O.length∧P.take o=O.take o∧
   P.drop (o+V.length)=O.drop (o+V.length)∧val ((P.drop o).take V.length)+x*val V=val ((O.drop o).take V.length)+c*4294967296^V.length∧Ci g w w':=by
 have HO:=Yt hO
 have HL:=Yt hL
 have HX:=Yt hV
 have HS:=Yt hs
 clear hO hL hV hs
 go_enter Tryz.func302,Tryz.ntmps302
 go_wp2
 go_loopw [9,10,16] (fun cv bv i wr=> ∃(k c b:Nat) (P:List Nat),k≤V.length∧i= .int .i64 k∧cv= .int .u64 c∧bv= .int .u64 b∧c<4294967296∧b≤1∧Own wr 31 g P∧Ai P∧P.length=O.length∧P.take o=O.take o∧P.drop (o+k)=O.drop (o+k)∧
  val ((P.drop o).take k)+x*val (V.take k)=val ((O.drop o).take k)+(c+b)*4294967296^k∧Ci g w wr) (fun _ _ i _=>V.length-(intOf i).toNat)
 case atStart=>exact ⟨0,0,0,O,Nat.zero_le _,rfl,rfl,rfl,by omega,by omega,HO.out,HL.out,rfl,rfl,rfl,by simp [val],Ci.refl _ _⟩
 case round=>
  obtain ⟨k,c,b,P,hk,rfl,rfl,rfl,hc,hb,hP,hPL,hPl,hPt,hPd,hPv,K1⟩:=hrel
  have HP:=Yt hP
  have HPL:=Yt hPL
  have HPl:=Yt hPl
  have HPt:=Yt hPt
  have HPd:=Yt hPd
  have HPv:=Yt hPv
  clear hP hPL hPl hPt hPd hPv
  by_cases hk1:k<V.length
  ·obtain ⟨ab,aoff,y,rfl,hcell,hy,HY⟩:=(HS.out wr K1).at HX.out k hk1
   obtain ⟨p,hcl,hp,HPp⟩:=HP.out.at HPL.out (o+k) (by rw [HPl.out];omega)
   have hfz:=HP.out.frozen (o+k)
   have HB:=Yt (Yj hc hx hy)
   obtain ⟨t,ht⟩: ∃t,t=c+x*y:=⟨_,rfl⟩
   rw [←ht] at HB
   have HT:=Yt ht
   clear ht
   have HSW:=Yt (Xb (s:=t % 4294967296+b) hp (by omega))
   have HS2:=Yt (@Wx p (t % 4294967296) b)
   have ht1:((t:Int) % 4294967296)=((t % 4294967296:Nat):Int):=by omega
   have ht2:((t:Int)/4294967296)=((t/4294967296:Nat):Int):=by omega
   have HT1:=Yt ht1
   have HT2:=Yt ht2
   clear ht1 ht2
   go_wp2
   rw [HB.out.1,HT1.out,HT2.out,HS2.out,HSW.out.1,HSW.out.2.1]
   go_roundw
   case rel=>exact ⟨k+1,t/4294967296,bor p (t % 4294967296+b),P.set (o+k) (p+4294967296*bor p (t % 4294967296+b)-(t % 4294967296+b)),by omega,by go_num,rfl,rfl,by have:=HB.out.2;omega,PO _ _,HP.out.set (o+k) _,HPL.out.set _ _ HSW.out.2.2.1,by rw [List.length_set];exact HPl.out,by rw [List.take_set_of_le (Nat.le_add_right o k)];exact HPt.out,Ce HPd.out _,NG (by rw [HPl.out];omega) HPd.out HPp.out HY.out HPv.out HT.out HSW.out.2.2.2,K1.setCell _ _⟩
   case measure=>simp [intOf];omega
  ·obtain rfl:k=V.length:=by omega
   have hfin:=HPv.out
   rw [List.take_of_length_le (Yu V.length)] at hfin
   have HF:=Yt hfin
   clear hfin
   have hdec:decide ((h:Int)<(c:Int)+(b:Int))=decide (h<c+b):=decide_eq_decide.2 (by omega)
   have HDEC:=Yt hdec
   clear hdec
   go_wp2
   go_ret
   exact ⟨P,c+b,Er HDEC.out,HP.out,HPL.out,HPl.out,HPt.out,HPd.out,HF.out,K1⟩
theorem Mp {P O V:List Nat} {o k c y p t:Nat} (hk:o+k<P.length) (hd:P.drop (o+k)=O.drop (o+k)) (hp:p=P.getD (o+k) 0) (hy:y=V.getD k 0)
  (hv:val ((P.drop o).take k)+c*4294967296^k=val ((O.drop o).take k)+val (V.take k)) (ht:t=c+(p+y)):
  val (((P.set (o+k) (t % 4294967296)).drop o).take (k+1))+t/4294967296*4294967296^(k+1)=val ((O.drop o).take (k+1))+val (V.take (k+1)):=by
 have e0:(O.drop o).getD k 0=p:=by
  rw [hp]
  simp only [List.getD,List.getElem?_drop]
  have h1:(P.drop (o+k))[0]?=(O.drop (o+k))[0]?:=by rw [hd]
  simp only [List.getElem?_drop,Nat.add_zero] at h1
  rw [h1]
 rw [ER,BX _ _ _ (by rw [List.length_drop];omega),Au V,Au (O.drop o),e0,←hy,JE k]
 have h2:=Nat.div_add_mod t 4294967296
 have e1:t % 4294967296+4294967296*(t/4294967296)=c+p+y:=by omega
 generalize t/4294967296=T at*
 generalize t % 4294967296=R at*
 generalize val ((P.drop o).take k)=A at*
 generalize val ((O.drop o).take k)=B at*
 generalize val (V.take k)=C at*
 generalize (4294967296:Nat)^k=K at*
 have e2:K*(R+4294967296*T)=K*(c+p+y):=by rw [e1]
 rw [Nat.mul_add,Nat.mul_add,Nat.mul_add] at e2
 have e4:T*(K*4294967296)=K*(4294967296*T):=by rw [Nat.mul_comm T,Nat.mul_assoc]
 have e6:c*K=K*c:=Nat.mul_comm _ _
 rw [e4]
 rw [e6] at hv
 omega
set_option maxRecDepth 20000 in
theorem Oj (g o C D:Nat) (da:Option Addr) (O V:List Nat) (w:World) (hO:Own w 31 g O) (hL:Ai O) (hV:Ai V) (hs: ∀w',Ci g w w'→Sl w' da V)
  (hl2:o+V.length≤O.length) (hl3:O.length≤1099511627776) (_hcap:V.length≤D) (_hcm:D≤maxLen):
  Calls Tryz.prog 303 #[.slice (some ⟨g,o,none⟩) V.length C,.slice da V.length D] w fun e w'=> ∃(P:List Nat) (c:Nat),e= .returned (.tuple #[])∧Own w' 31 g P∧Ai P∧P.length=O.length∧P.take o=O.take o∧
   P.drop (o+V.length)=O.drop (o+V.length)∧val ((P.drop o).take V.length)+c*4294967296^V.length=val ((O.drop o).take V.length)+val V∧Ci g w w':=by
 have HO:=Yt hO
 have HL:=Yt hL
 have HX:=Yt hV
 have HS:=Yt hs
 clear hO hL hV hs
 go_enter Tryz.func303,Tryz.ntmps303
 go_wp2
 go_loopw [4,9] (fun cv i wr=> ∃(k c:Nat) (P:List Nat),k≤V.length∧i= .int .i64 k∧cv= .int .u64 c∧c<4294967296∧Own wr 31 g P∧Ai P∧P.length=O.length∧P.take o=O.take o∧P.drop (o+k)=O.drop (o+k)∧
  val ((P.drop o).take k)+c*4294967296^k=val ((O.drop o).take k)+val (V.take k)∧Ci g w wr) (fun _ i _=>V.length-(intOf i).toNat)
 case atStart=>exact ⟨0,0,O,Nat.zero_le _,rfl,rfl,by omega,HO.out,HL.out,rfl,rfl,rfl,by simp [val],Ci.refl _ _⟩
 case round=>
  obtain ⟨k,c,P,hk,rfl,rfl,hc,hP,hPL,hPl,hPt,hPd,hPv,K1⟩:=hrel
  have HP:=Yt hP
  have HPL:=Yt hPL
  have HPl:=Yt hPl
  have HPt:=Yt hPt
  have HPd:=Yt hPd
  have HPv:=Yt hPv
  clear hP hPL hPl hPt hPd hPv
  by_cases hk1:k<V.length
  ·obtain ⟨ab,aoff,y,rfl,hcell,hy,HY⟩:=(HS.out wr K1).at HX.out k hk1
   obtain ⟨p,hcl,hp,HPp⟩:=HP.out.at HPL.out (o+k) (by rw [HPl.out];omega)
   have hfz:=HP.out.frozen (o+k)
   go_wp2
   go_roundw
   case rel=>exact ⟨k+1,(c+(p+y))/4294967296,P.set (o+k) ((c+(p+y)) % 4294967296),by omega,by go_num,by go_num,by omega,HP.out.set (o+k) _,HPL.out.set _ _ (by omega),by rw [List.length_set];exact HPl.out,by rw [List.take_set_of_le (Nat.le_add_right o k)];exact HPt.out,Ce HPd.out _,Mp (by rw [HPl.out];omega) HPd.out HPp.out HY.out HPv.out rfl,K1.setCell _ _⟩
   case measure=>simp [intOf];omega
  ·obtain rfl:k=V.length:=by omega
   have hfin:=HPv.out
   rw [List.take_of_length_le (Yu V.length)] at hfin
   have HF:=Yt hfin
   clear hfin
   go_wp2
   go_end0
   exact ⟨P,c,rfl,HP.out,HPL.out,HPl.out,HPt.out,HPd.out,HF.out,K1⟩
theorem WA {x y:Nat} (hx:x<4294967296) (hy:y<4294967296):
  bits .or .u64 ((x:Int)*4294967296) (y:Int)=((x*4294967296+y:Nat):Int):=by
 have h1:=bits_or_u64_nat (x*4294967296) y (by omega) (by omega)
 rw [Int.natCast_mul] at h1
 rw [show ((x:Int)*4294967296)=(x:Int)*((4294967296:Nat):Int) from rfl,h1]
 congr 1
 have h2:=Nat.two_pow_add_eq_or_of_lt (i:=32) (b:=y) (by omega) x
 rw [Nat.mul_comm x]
 exact h2.symm
def Gc (h:Nat) (P V:List Nat):Nat:=
 min ((h*18446744073709551616+(P.getD (V.length-1) 0*4294967296+P.getD (V.length-2) 0))/(V.getD (V.length-1) 0*4294967296+V.getD (V.length-2) 0)) 4294967295
theorem Se (h:Nat) (P V:List Nat):Gc h P V<4294967296:=Nat.lt_succ_of_le (Nat.min_le_right _ _)
set_option maxRecDepth 20000 in
theorem Sd (C D h:Nat) (pa da:Option Addr) (P V:List Nat) (w:World) (hP:Sl w pa P) (hL:Ai P) (hD:Sl w da V) (hV:Ai V) (hl:P.length=V.length) (h2:2≤V.length) (hm:V.length≤1099511627776)
  (htop:2147483648≤V.getD (V.length-1) 0) (hh:h<4294967296):
  Calls Tryz.prog 301 #[.int .u32 (h:Nat),.slice pa V.length C,.slice da V.length D] w fun e w'=>e= .returned (.int .u32 (Gc h P V:Nat))∧Kp w w':=by
 obtain ⟨pb,po,p1,rfl,c1,b1,e1⟩:=hP.at hL (V.length-1) (by omega)
 obtain ⟨pb',po',p0,he0,c0,b0,e0⟩:=hP.at hL (V.length-2) (by omega)
 obtain ⟨rfl,rfl⟩:pb=pb'∧po=po':=by simpa using he0
 obtain ⟨db,dof,v1,rfl,f1,g1,q1⟩:=hD.at hV (V.length-1) (by omega)
 obtain ⟨db',dof',v0,he1,f0,g0,q0⟩:=hD.at hV (V.length-2) (by omega)
 obtain ⟨rfl,rfl⟩:db=db'∧dof=dof':=by simpa using he1
 have HG:Hid (Gc h P V=min ((h*18446744073709551616+(p1*4294967296+p0))/(v1*4294967296+v0)) 4294967295):=by
  unfold Gc
  rw [←e1.out,←e0.out,←q1.out,←q0.out]
  exact Yt rfl
 have hv1:2147483648≤v1:=by rw [q1.out];exact htop
 have ho1:=WA b1 b0
 have ho2:=WA g1 g0
 obtain ⟨lo,hlo⟩: ∃lo,lo=p1*4294967296+p0:=⟨_,rfl⟩
 obtain ⟨dy,hdy⟩: ∃dy,dy=v1*4294967296+v0:=⟨_,rfl⟩
 rw [←hlo] at ho1 HG
 rw [←hdy] at ho2 HG
 have HD64:=Yt (fun w1=>Sk h lo dy w1 hh (by omega) (by omega) (by omega))
 obtain ⟨q,hq⟩: ∃q,q=(h*18446744073709551616+lo)/dy:=⟨_,rfl⟩
 rw [←hq] at HG HD64
 have hqb:q<18446744073709551616:=by
  rw [hq]
  refine Nat.div_lt_of_lt_mul ?_
  omega
 clear hlo hdy
 obtain ⟨n,hn⟩: ∃n,n=V.length:=⟨_,rfl⟩
 rw [←hn] at c1 c0 f1 f0 h2 hm⊢
 clear he0 he1 hP hL hD hV htop hl hq hn e1 e0 q1 q0
 go_enter Tryz.func301,Tryz.ntmps301
 go_wp2
 go_quiet (fail)
 go_wp2
 go_quiet (fail)
 go_wp2_with (go_at_call 308;refine (HD64.out _).mono ?_;rintro e w1 ⟨r,rfl,K1⟩)
 go_ret
 exact ⟨BS (by have:=HG.out;omega),(Kp.drewN (Below.refl _ _) _).tr K1⟩
theorem Yl {x:Nat} (h:x<4294967296) (h0:x≠0): ∃up:Nat,(32-(Lib.bitLen x:Int))=(up:Int)∧up<32∧2147483648≤x*2^up∧(x+1)*2^up≤4294967296:=by
 obtain ⟨h1,h2,h3,h4⟩:=Iw h h0
 refine ⟨32-Lib.bitLen x,by omega,by omega,?_,?_⟩
 ·have:=Nat.mul_le_mul_right (2^(32-Lib.bitLen x)) h2
  rw [←Nat.pow_add,show Lib.bitLen x-1+(32-Lib.bitLen x)=31 by omega] at this
  exact this
 ·have:=Nat.mul_le_mul_right (2^(32-Lib.bitLen x)) (show x+1≤2^Lib.bitLen x from h3)
  rw [←Nat.pow_add,show Lib.bitLen x+(32-Lib.bitLen x)=32 by omega] at this
  exact this
theorem Gq (n:Nat) (hn:n≤1099511627776) (L:Int) (hL:L=(n:Int)) (W:World):
  (Instr.makeSlice 32 (.int .i64 L) (.int .i64 L)).run Tryz.prog W= .ok (.slice (some ⟨W.heap.size,0,none⟩) n n) (W.alloc (.cells (cellsOf (List.replicate n 0)).toArray 31)):=by
 obtain ⟨i0,hi,hz0,hz1,hz2⟩:=info_parts BT
 subst hL
 have hr:=run_make (P:=Tryz.prog) W 32 31 i0 (.int .u32 0) AZ hi hz0 .i64 .i64 n n (by omega) (Int.le_refl _) (by rw [hz2];omega) (by omega)
 simp only [Int.toNat_natCast] at hr
 have e:madeCells (Value.int .u32 0).cells n=(cellsOf (List.replicate n 0)).toArray:=by
  apply Array.ext'
  rw [show (Value.int .u32 0).cells= #[Value.int .u32 0] from rfl,toList_madeCells_one]
  simp [cellsOf,Py]
 rw [hr,hz1,Nat.mul_one,e]
theorem Own.rowTake {w:World} {g:Nat} {P:List Nat} (h:Own w 31 g P) (hL:Ai P) {base:Nat} (hb:base≤g) {k cap:Nat} (hk:k≤P.length) (hc:P.length≤cap) {n:Nat} (hv:val (P.take k)=n) (hm:cap≤maxLen):
  Row w base (.slice (some ⟨g,0,none⟩) (Aq (P.take k)).length cap) n:=by
 subst hv
 have e:=BY (hL.take k)
 have hl:=AC (P.take k)
 rw [List.length_take,Nat.min_eq_left hk] at hl
 refine ⟨g,P,cap,by rw [e],hb,h,hL,by rw [e];omega,hc,hm,?_⟩
 rw [e]
 have:=A6 (P.take k)
 rwa [List.take_take,Nat.min_eq_left hl] at this
theorem N4 {P0 V:List Nat} {h W q:Nat} (hP:Ai P0) (hV:Ai V) (hl:P0.length=V.length) (h2:2≤V.length) (htop:2147483648≤V.getD (V.length-1) 0)
  (hW:W=h*4294967296^V.length+val P0) (hq:q=W/val V) (hqB:q<4294967296):q≤Gc h P0 V∧Gc h P0 V≤q+1:=by
 obtain ⟨v,hv,eV⟩:=PU hV h2
 obtain ⟨l,hlt,eP⟩:=PU hP (by omega)
 rw [hl] at hlt eP
 have hv0:=hV.getD (V.length-2)
 unfold Gc
 have eK:(4294967296:Nat)^V.length=18446744073709551616*4294967296^(V.length-2):=by
  obtain ⟨k,hk⟩: ∃k,V.length=k+2:=⟨V.length-2,by omega⟩
  rw [hk,show k+2-2=k by omega,Nat.pow_succ,Nat.pow_succ,Nat.mul_assoc,Nat.mul_comm]
 refine NS eV hv (l:=l) ?_ hlt ?_ hq hqB rfl
 ·rw [hW,eK,eP,←Nat.mul_assoc,←Nat.add_assoc,←Nat.add_mul]
 ·rw [Nat.mul_comm,Nat.mul_add_div (by omega),Nat.div_eq_of_lt hv0,Nat.add_zero]
  exact htop
theorem Own.only {w w':World} {e:TypeId} {g g':Nat} {xs:List Nat} (h:Own w e g xs) (ho:Ci g' w w') (hne:g≠g'):Own w' e g xs:=by
 unfold Own
 rw [ho.block g hne]
 exact h
theorem MG (w:World) (xs ys:List Nat):
  Own ((w.alloc (.cells (cellsOf xs).toArray 31)).alloc (.cells (cellsOf ys).toArray 31)).drew 31 w.heap.size xs∧
  Own ((w.alloc (.cells (cellsOf xs).toArray 31)).alloc (.cells (cellsOf ys).toArray 31)).drew 31 (w.heap.size+1) ys∧
  Kp w ((w.alloc (.cells (cellsOf xs).toArray 31)).alloc (.cells (cellsOf ys).toArray 31)).drew:=by
 have e:(w.alloc (.cells (cellsOf xs).toArray 31)).heap.size=w.heap.size+1:=by simp
 have h1:=(Own.alloc_new w 31 xs).alloc (.cells (cellsOf ys).toArray 31)
 have h2:=Own.alloc_new (w.alloc (.cells (cellsOf xs).toArray 31)) 31 ys
 rw [e] at h2
 exact ⟨h1,h2,((Kp.alloc w _).tr (Kp.alloc _ _)).drew⟩
set_option maxRecDepth 20000 in
theorem JX (a b:Value) (X Y:List Nat) (w:World) (ha:Rd w a X) (hb:Rd w b Y) (hl:X.length≤549755813888) (h2:2≤Y.length) (hYX:Y.length≤X.length) (htop:Y.getD (Y.length-1) 0≠0):
  Calls Tryz.prog 290 #[a,b] w fun e w'=> ∃q r,e= .returned (.tuple #[q,r])∧M w' q (val X/val Y)∧Row w' w.heap.size r (val X % val Y)∧Kp w w':=by
 obtain ⟨i0,hi,hz0,hz1,hz2⟩:=info_parts BT
 obtain ⟨ao,ac,rfl,a1,a2,a3,a4⟩:=ha
 obtain ⟨bo,bc,rfl,b1,b2,b3,b4⟩:=hb
 have a2':=a2
 have b2':=b2
 unfold maxLen at a2 b2
 obtain ⟨bb,bof,t,rfl,hct,ht,HT⟩:=b4.at b3 (Y.length-1) (by omega)
 rw [←HT.out] at htop
 obtain ⟨up,hup,hup32,hs1,hs2⟩:=Yl ht htop
 have hlz: ∀W:World,Calls Tryz.prog 300 #[.int .u32 (t:Nat)] W fun e w'=>e= .returned (.int .i64 (up:Nat))∧w'=W:=by
  intro W
  refine (Tryz.bits_LeadingZeros32 (t:Int) W (by omega) (by omega)).mono ?_
  rintro e w1 ⟨rfl,rfl⟩
  exact ⟨BS hup,rfl⟩
 have HLZ:=Yt hlz
 rw [HT.out] at hs1 hs2
 have HTS:=Yt (Rh b3 (by omega) hs1 hs2 rfl)
 obtain ⟨p,hp⟩: ∃p,p=2^up:=⟨_,rfl⟩
 have hp0:0<p:=by rw [hp];exact Nat.pow_pos (by omega)
 have hpb:p≤2147483648:=by rw [hp];exact Nat.pow_le_pow_right (by omega) (show up≤31 by omega)
 rw [←hp] at HTS
 have HP:=Yt hp
 have HP0:=Yt hp0
 have HPB:=Yt hpb
 have A3:=Yt a3
 have A4:=Yt a4
 have B3:=Yt b3
 have B4:=Yt b4
 obtain ⟨n,hn⟩: ∃n,n=Y.length:=⟨_,rfl⟩
 obtain ⟨l,hle⟩: ∃l,l=X.length:=⟨_,rfl⟩
 rw [←hn] at b1 hct h2 HTS
 rw [←hle] at a1 hl
 rw [←hn,←hle] at hYX
 rw [←hn,←hle]
 have HN:=Yt hn
 have HLX:=Yt hle
 have hmk1:=Gq (n+1) (by omega) ((n:Int)+1) (by omega)
 have hwn:IntKind.i64.wrap ((n:Int)+1)=(n:Int)+1:=by rw [IntKind.wrap_i64];omega
 have hwl:IntKind.i64.wrap ((l:Int)+1)=(l:Int)+1:=by rw [IntKind.wrap_i64];omega
 have hmk2:=Gq (l+1) (by omega) ((l:Int)+1) (by omega)
 clear hlz hs1 hs2 hup hp hp0 hpb a3 a4 b3 b4 hn hle htop
 go_enter Tryz.func290,Tryz.ntmps290
 go_upto_region 3 with (go_at_call 300;refine (HLZ.out _).mono ?_;rintro e w1 ⟨rfl,rfl⟩)
 go_cut [8,9] (fun s8 s9 wx=> ∃gd gr:Nat,s8= .slice (some ⟨gd,0,none⟩) (n+1) (n+1)∧s9= .slice (some ⟨gr,0,none⟩) (l+1) (l+1)∧gd≠gr∧w1.heap.size≤gd∧w1.heap.size≤gr∧
  Own wx 31 gd (List.replicate (n+1) 0)∧Own wx 31 gr (List.replicate (l+1) 0)∧Kp w1 wx)
 case first=>
  go_region_with (fail)
  ·go_wp2_with fail
   go_meet
   have h:=MG w1 (List.replicate (n+1) 0) (List.replicate (l+1) 0)
   exact ⟨w1.heap.size,w1.heap.size+1,rfl,rfl,by omega,Yu _,by omega,h.1,h.2.1,h.2.2⟩
  ·go_wp2_with fail
   go_meet
   have h:=MG w1 (List.replicate (l+1) 0) (List.replicate (n+1) 0)
   exact ⟨w1.heap.size+1,w1.heap.size,rfl,rfl,by omega,by omega,Yu _,h.2.1,h.1,h.2.2⟩
 case rest=>
  obtain ⟨gd,gr,rfl,rfl,hne,hgd,hgr,hOd,hOr,K1⟩:=hcut
  obtain ⟨w2,rfl⟩: ∃w,w=wc:=⟨_,rfl⟩
  have HOd:=Yt hOd
  have HOr:=Yt hOr
  have HP1:=Yt (fun C=>Id gd 0 (n+1) C (some ⟨bb,bof,none⟩) bc up (List.replicate (n+1) 0) Y w2 hOd (Ai.replicate _) B3.out (fun w' ho=>B4.out.kp (ho.kp K1 hgd)) (by rw [←HN.out];exact Yu _) (by simp) (by simp;omega) (by rw [←HN.out];exact b1) b2' hup32)
  rw [←HN.out] at HP1
  clear hOd hOr
  go_wp2_with (go_at_call 296;refine (HP1.out _).mono ?_;rintro e w3 ⟨rfl,D,hD,hDL,hDl,_,_,hDv,hon⟩;refine Hid.out ?_)
  refine Yt ?_
  have hDl2:D.length=n+1:=by rw [hDl,List.length_replicate]
  have hDv2:val D=val Y*p:=by
   rw [List.drop_zero,List.take_of_length_le (by omega)] at hDv
   rw [hDv,HP.out]
  have K2:Kp w1 w3:=hon.kp K1 hgd
  have HOr3:=Yt (HOr.out.only hon hne.symm)
  have HD:=Yt hD
  have HDL:=Yt hDL
  have HDl:=Yt hDl2
  have HDv:=Yt hDv2
  clear hD hDL hDl hDv hDl2 hDv2 hon
  have HP2:=Yt (fun C=>Id gr 0 (l+1) C ao ac up (List.replicate (l+1) 0) X w3 HOr3.out (Ai.replicate _) A3.out (fun w' ho=>A4.out.kp (ho.kp K2 hgr)) (by rw [←HLX.out];exact Yu _) (by simp) (by simp;omega) (by rw [←HLX.out];exact a1) a2' hup32)
  rw [←HLX.out] at HP2
  go_wp2_with (go_at_call 296;refine (HP2.out _).mono ?_;rintro e w4 ⟨rfl,R,hR,hRL,hRl,_,_,hRv,hon⟩;refine Hid.out ?_)
  refine Yt ?_
  have hRl2:R.length=l+1:=by rw [hRl,List.length_replicate]
  have hRv2:val R=val X*p:=by
   rw [List.drop_zero,List.take_of_length_le (by omega)] at hRv
   rw [hRv,HP.out]
  have K3:Kp w1 w4:=hon.kp K2 hgr
  have HD4:=Yt (HD.out.only hon hne)
  have HR:=Yt hR
  have HRL:=Yt hRL
  have HRl:=Yt hRl2
  have HRv:=Yt hRv2
  clear hR hRL hRl hRv hRl2 hRv2 hon
  obtain ⟨V,hV⟩: ∃V,V=D.take n:=⟨_,rfl⟩
  have hVl:V.length=n:=by rw [hV,List.length_take,HDl.out];omega
  have hVL:Ai V:=by rw [hV];exact HDL.out.take n
  have hVv:val V=val Y*p:=by
   rw [hV,Ri (by rw [HDl.out];omega) (by rw [HDv.out];exact HTS.out.2),HDv.out]
  have hVt:2147483648≤V.getD (V.length-1) 0:=W4 hVL (by omega) (by rw [hVl,hVv];exact HTS.out.1)
  have HVd:=Yt hV
  have HVl:=Yt hVl
  have HVL:=Yt hVL
  have HVv:=Yt hVv
  have HVt:=Yt hVt
  clear hV hVl hVL hVv hVt
  obtain ⟨m,hm⟩: ∃m,m=l-n+1:=⟨_,rfl⟩
  have hmk3:=Gq m (by omega) (((l-n:Nat):Int)+1) (by omega)
  have hmk4:=Gq m (by omega) ((l:Int)-(n:Int)+1) (by omega)
  have HF:=Yt (PE (R:=R) (n:=n) (V:=val V) A3.out HRL.out (by rw [HRl.out,HLX.out]) (by omega) (by rw [←HLX.out];exact hYX) HRv.out HPB.out HP0.out (by rw [HVv.out];exact HTS.out.1))
  rw [←HLX.out,←hm] at HF
  have HM:=Yt hm
  have hm1:1≤m:=by omega
  have hml:m+n=l+1:=by omega
  have hgqd:gd<w4.heap.size:=HD4.out.lt
  have hgqr:gr<w4.heap.size:=HR.out.lt
  have hgqw:w1.heap.size≤w4.heap.size:=K3.size
  have HQ0:=Yt (Own.alloc_new w4 31 (List.replicate m 0))
  have HD5:=Yt (HD4.out.alloc (.cells (cellsOf (List.replicate m 0)).toArray 31))
  have HR5:=Yt (HR.out.alloc (.cells (cellsOf (List.replicate m 0)).toArray 31))
  have K5:Kp w1 (w4.alloc (.cells (cellsOf (List.replicate m 0)).toArray 31)):=K3.tr (Kp.alloc _ _)
  clear hm HD4 HR
  go_wp2
  obtain ⟨gq,hgq⟩: ∃gq,gq=w4.heap.size:=⟨_,rfl⟩
  obtain ⟨w5,hw5⟩: ∃w5,w5=w4.alloc (.cells (cellsOf (List.replicate m 0)).toArray 31):=⟨_,rfl⟩
  rw [←hgq] at hgqd hgqr hgqw HQ0⊢
  rw [←hw5] at HQ0 HD5 HR5 K5⊢
  clear hgq hw5
  go_loopw [10] (fun i wr=> ∃(j:Nat) (Q R':List Nat),j≤m∧i= .int .i64 ((j:Int)-1)∧Own wr 31 gq Q∧Q.length=m∧Ai Q∧Own wr 31 gr R'∧R'.length=l+1∧Ai R'∧Own wr 31 gd D∧R'.take j=R.take j∧
   val (R.drop j)=val (Q.drop j)*val V+val ((R'.drop j).take n)∧val ((R'.drop j).take n)<val V∧Kp w1 wr) (fun i _=>(intOf i+1).toNat)
  case atStart=>exact ⟨m,List.replicate m 0,R,Yu _,rfl,HQ0.out,by simp,Ai.replicate _,HR5.out,HRl.out,HRL.out,HD5.out,rfl,by have h:=HF.out.1;rw [Nat.zero_mul] at h;simpa [val] using h,HF.out.2,K5⟩
  case round=>
   obtain ⟨j,Q,R',hj,rfl,hQ,hQl,hQL,hR',hRl',hRL',hD',hRt,hRv',hRb,K6⟩:=hrel
   have HQ:=Yt hQ
   have HQl:=Yt hQl
   have HQL:=Yt hQL
   have HR':=Yt hR'
   have HRl':=Yt hRl'
   have HRL':=Yt hRL'
   have HD':=Yt hD'
   have HRt:=Yt hRt
   have HRv':=Yt hRv'
   have HRb:=Yt hRb
   clear hQ hQl hQL hR' hRl' hRL' hD' hRt hRv' hRb
   by_cases hj0:0<j
   ·obtain ⟨i,rfl⟩: ∃i,j=i+1:=⟨j-1,by omega⟩
    obtain ⟨h,hch,hh,HH⟩:=HR'.out.at HRL'.out (i+n) (by rw [HRl'.out];omega)
    obtain ⟨q0,hcq,_,_⟩:=HQ.out.at HQL.out i (by rw [HQl.out];omega)
    have hfq:=HQ.out.frozen i
    go_wp2
    go_quiet (fail)
    have KN:Kp wr (wr.drewN nq):=Kp.drewN (Below.refl _ _) _
    have HVs:=Yt (show Sl (wr.drewN nq) (some ⟨gd,0,none⟩) V by rw [HVd.out];exact ((HD'.out.kp KN).sl.take n))
    have HPs:=Yt (show Sl (wr.drewN nq) (some ⟨gr,i,none⟩) ((R'.drop i).take n) by have:=((HR'.out.kp KN).sl.drop i).take n;rwa [Nat.zero_add] at this)
    have HPl:=Yt (show ((R'.drop i).take n).length=n by rw [List.length_take,List.length_drop,HRl'.out];omega)
    have HG:=Yt (fun C D'=>Sd C D' h (some ⟨gr,i,none⟩) (some ⟨gd,0,none⟩) ((R'.drop i).take n) V (wr.drewN nq) HPs.out ((HRL'.out.drop i).take n) HVs.out HVL.out (by rw [HPl.out,HVl.out]) (by rw [HVl.out];exact h2) (by rw [HVl.out];omega) HVt.out hh)
    rw [HVl.out] at HG
    obtain ⟨g,hg⟩: ∃g,g=Gc h ((R'.drop i).take n) V:=⟨_,rfl⟩
    rw [←hg] at HG
    have HGG:=Yt hg
    have hgb:g<4294967296:=by rw [hg];exact Se _ _ _
    clear hg
    go_wp2_with (go_at_call 301;refine (HG.out _ _).mono ?_;rintro e wg ⟨rfl,KG⟩;refine Hid.out ?_)
    refine Yt ?_
    have KG2:Kp wr wg:=KN.tr KG
    have HQg:=Yt (HQ.out.kp KG2)
    have HRg:=Yt (HR'.out.kp KG2)
    have HDg:=Yt (HD'.out.kp KG2)
    have hcq2:=(KG2.cell (p:=⟨gq,i,none⟩) HQ.out.lt).trans hcq
    have hfq2:=HQg.out.frozen i
    have HQs:=Yt (HQg.out.set i g)
    have HOs:Ci gq wg (wg.setCell ⟨gq,i,none⟩ (.int .u32 (g:Nat))):=(Ci.refl gq wg).setCell i _
    have HRs:=Yt (HRg.out.only HOs (by omega))
    have HDs:=Yt (HDg.out.only HOs (by omega))
    have KS:Kp w1 (wg.setCell ⟨gq,i,none⟩ (.int .u32 (g:Nat))):=HOs.kp (K6.tr KG2) hgqw
    have HSB:=Yt (fun C D'=>Lu gr i C D' h g (some ⟨gd,0,none⟩) R' V (wg.setCell ⟨gq,i,none⟩ (.int .u32 (g:Nat))) HRs.out HRL'.out HVL.out
     (fun w' ho=>by rw [HVd.out];exact ((HDs.out.only ho hne).sl.take n)) (by rw [HVl.out,HRl'.out];omega) (by rw [HRl'.out];omega))
    rw [HVl.out] at HSB
    have HKS:=Yt KS
    clear KS HOs
    go_wp2_with (go_at_call 302;refine (HSB.out _ _ ?_ ?_ hh hgb).mono ?_;(omega);(unfold maxLen;omega);rintro e w6 ⟨P,c,rfl,hP,hPL,hPl,hPt,hPd,hPv,hon⟩;refine Hid.out ?_)
    refine Yt ?_
    obtain ⟨W,hW⟩: ∃W,W=R'.getD (i+n) 0*4294967296^n+val ((R'.drop i).take n):=⟨_,rfl⟩
    have hqB:W/val V<4294967296:=N5 HRL'.out (by rw [HRl'.out];omega) HRb.out hW
    have hgg:=N4 (h:=h) ((HRL'.out.drop i).take n) HVL.out (by rw [HPl.out,HVl.out]) (by rw [HVl.out];exact h2) HVt.out (by rw [HVl.out,HH.out];exact hW) rfl hqB
    rw [←HGG.out] at hgg
    have hVn:val V<4294967296^n:=by have:=Cf HVL.out;rwa [HVl.out] at this
    have hP1n:val ((P.drop i).take n)<4294967296^n:=by
     have:=Cf ((hPL.drop i).take n)
     rwa [List.length_take,List.length_drop,hPl,HRl'.out,Nat.min_eq_left (by omega)] at this
    have hks:=Sc (h:=h) (by rw [HH.out];exact hW) hP1n hVn (Nat.lt_of_le_of_lt (Nat.zero_le _) HRb.out) rfl hgg.1 hgg.2 hPv
    have HW:=Yt hW
    have HKS2:=Yt hks
    have HPt:=Yt (hPt.trans (Ky HRt.out (show i≤i+1 by omega)))
    have HP6:=Yt hP
    have HPL:=Yt hPL
    have HPL2:=Yt (hPl.trans HRl'.out)
    have HQ6:=Yt (HQs.out.only hon (by omega))
    have HD6:=Yt (HDs.out.only hon hne)
    have K7:Kp w1 w6:=hon.kp HKS.out hgr
    have HQB:=Yt hqB
    clear hW hgg hPv hVn hP1n hks hP hPL hPl hPt hPd hon hqB
    by_cases hc:h<c
    ·have HC:=Yt (HKS2.out.2 hc)
     rw [decide_eq_true hc]
     have HAB:=Yt (fun C D'=>Oj gr i C D' (some ⟨gd,0,none⟩) P V w6 HP6.out HPL.out HVL.out
      (fun w' ho=>by rw [HVd.out];exact ((HD6.out.only ho hne).sl.take n)) (by rw [HVl.out,HPL2.out];omega) (by rw [HPL2.out];omega))
     rw [HVl.out] at HAB
     clear hc
     go_wp2_with (go_at_call 303;refine (HAB.out _ _ ?_ ?_).mono ?_;(omega);(unfold maxLen;omega);rintro e w7 ⟨P2,c2,rfl,hP,hPL,hPl,hPt,hPd,hPv,hon⟩;refine Hid.out ?_)
     refine Yt ?_
     have hP2n:val ((P2.drop i).take n)<4294967296^n:=by
      have:=Cf ((hPL.drop i).take n)
      rwa [List.length_take,List.length_drop,hPl,HPL2.out,Nat.min_eq_left (by omega)] at this
     have hrem:val ((P2.drop i).take n)=W % val V:=HC.out.2 _ c2 hP2n hPv
     have HREM:=Yt hrem
     have HP7:=Yt hP
     have HPL7:=Yt hPL
     have HPl7:=Yt (hPl.trans HPL2.out)
     have HPt7:=Yt (hPt.trans HPt.out)
     have HQ7:=Yt (HQ6.out.only hon (by omega))
     have HD7:=Yt (HD6.out.only hon hne)
     have K8:Kp w1 w7:=hon.kp K7 hgr
     have hc7:w7.cell? ⟨gq,i,none⟩=some (.int .u32 (g:Nat)):=by
      have:=HQ7.out.cell i (by rw [List.length_set,HQl.out];omega)
      rwa [show (Q.set i g).getD i 0=g by simp [List.getD,show i<Q.length by rw [HQl.out];omega]] at this
     have hf7:=HQ7.out.frozen i
     have hg1:0<g:=by rw [HC.out.1];exact Nat.succ_pos _
     have HGI:=Yt (show ((g:Int)-1)=((g-1:Nat):Int) by omega)
     have HG1:=Yt (show g-1=W/val V by rw [HC.out.1];exact Nat.add_sub_cancel _ _)
     clear hP hPL hPl hPt hPd hPv hon hP2n hrem
     go_wp2
     rw [HGI.out]
     go_roundw
     case rel=>exact ⟨i,(Q.set i g).set i (g-1),P2,by omega,by go_num,HQ7.out.set i _,by rw [List.length_set,List.length_set];exact HQl.out,(HQL.out.set _ _ hgb).set _ _ (by omega),(HP7.out.only ((Ci.refl gq w7).setCell i _) (by omega)),HPl7.out,HPL7.out,HD7.out.only ((Ci.refl gq w7).setCell i _) (by omega),HPt7.out,by rw [List.set_set,HG1.out];exact JY (by rw [HQl.out];omega) (by rw [HRl'.out];omega) (by rw [HRl'.out,HRl.out]) HRt.out HRv'.out HW.out HREM.out,by rw [HREM.out];exact Nat.mod_lt _ (Nat.lt_of_le_of_lt (Nat.zero_le _) HRb.out),((Ci.refl gq w7).setCell i _).kp K8 hgqw⟩
     case measure=>simp [intOf]
    ·have HC:=Yt (HKS2.out.1 hc)
     rw [decide_eq_false hc]
     clear hc
     go_wp2
     go_roundw
     case rel=>exact ⟨i,Q.set i g,P,by omega,by go_num,HQ6.out,by rw [List.length_set];exact HQl.out,HQL.out.set _ _ hgb,HP6.out,HPL2.out,HPL.out,HD6.out,HPt.out,by rw [HC.out.1];exact JY (by rw [HQl.out];omega) (by rw [HRl'.out];omega) (by rw [HRl'.out,HRl.out]) HRt.out HRv'.out HW.out HC.out.2,by rw [HC.out.2];exact Nat.mod_lt _ (Nat.lt_of_le_of_lt (Nat.zero_le _) HRb.out),K7⟩
     case measure=>simp [intOf]
   ·obtain rfl:j=0:=by omega
    have hRv0:=HRv'.out
    rw [List.drop_zero,List.drop_zero,List.drop_zero] at hRv0
    have hRb0:=HRb.out
    rw [List.drop_zero] at hRb0
    have HLO:=Yt (fun C=>KR gr n C up R' wr HR'.out HRL'.out (by rw [HRl'.out];omega) (by rw [HRl'.out];omega) hup32)
    have HRv0:=Yt hRv0
    have HRb0:=Yt hRb0
    clear hRv0 hRb0
    go_wp2_with (go_at_call 298;refine (HLO.out _).mono ?_;rintro e w6 ⟨rfl,P,hP,hPL,hPl,hPd,hPv,hon⟩;refine Hid.out ?_)
    refine Yt ?_
    have hfin:=Ub (r:=val (P.take n)) HP0.out HRv.out (by rw [←HVv.out];exact HRv0.out) (by rw [←HVv.out];exact HRb0.out) (by rw [HP.out];exact hPv)
    have HQ6:=Yt (HQ.out.only hon (by omega))
    have K7:Kp w1 w6:=hon.kp K6 hgr
    have HFIN:=Yt hfin
    have HP6:=Yt hP
    have HPL:=Yt hPL
    have HPl:=Yt (hPl.trans HRl'.out)
    have HTQ:=Yt (fun w' (ho:Own w' 31 gq Q)=>Cg (some ⟨gq,0,none⟩) m m Q w' HQl.out (Yu _) (by unfold maxLen;omega) ho.sl)
    have HTR:=Yt (fun w' (ho:Own w' 31 gr P)=>Cg (some ⟨gr,0,none⟩) n (l+1) (P.take n) w' (by rw [List.length_take,HPl.out];omega) (by omega) (by unfold maxLen;omega) (ho.sl.take n))
    clear hP hPL hPl hPd hPv hon hfin
    go_wp2_with (go_at_call 267;first
     | ((with_reducible refine (HTQ.out _ HQ6.out).mono ?_);rintro e w8 ⟨rfl,rfl⟩)
     | ((with_reducible refine (HTR.out _ HP6.out).mono ?_);rintro e w8 ⟨rfl,rfl⟩))
    go_ret2
    exact ⟨_,_,rfl,HQ6.out.mag HQL.out _ m HFIN.out.1 (by rw [HQl.out];exact Yu _) (by unfold maxLen;omega),HP6.out.rowTake HPL.out hgr (by rw [HPl.out];omega) (by rw [HPl.out];exact Yu _) HFIN.out.2 (by unfold maxLen;omega),K7⟩
end Go.Proofs.YtfineedhebhpaaaGreatDoor
