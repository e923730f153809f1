/-
  Several texts in one: Tz, GcdS, Lead, Window, Concat.
-/
import Derived.Test.YtfineedhebhpaaaGreatDoorBc
import Derived.Test.YtfineedhebhpaaaGreatDoorBa
import Derived.Shelf.Spec.TrailingZeros
import Derived.Shelf.Spec.SlicesGrow
namespace Go.Proofs.YtfineedhebhpaaaGreatDoor
open Lib renaming hid→Yt
open Nat renaming le_refl→Yu
set_option maxHeartbeats 16000000
open Go.RowKit
structure Tz (w:World):Prop where
 t32:TabAt 1 Lib.deBruijn32tab w
 t64:TabAt 0 Lib.deBruijn64tab w
theorem TabAt.kp {g:Nat} {tab:List Nat} {w w':World} (h:TabAt g tab w) (k:Kp w w'):TabAt g tab w':=fun j hj=>
 (k.cell (World.block_lt_of_cell? w _ (h j hj))).trans (h j hj)
theorem Tz.kp {w w':World} (h:Tz w) (k:Kp w w'):Tz w':=⟨TabAt.kp h.t32 k,TabAt.kp h.t64 k⟩
theorem Ra (x k idx:Nat) (w:World) (hx0:((x:Int)==0)=false)
  (key:IntKind.u64.wrap (bits BinOp.and IntKind.u64 (x:Int) (IntKind.u64.wrap (-(x:Int)))*285870213051353865)/288230376151711744=(idx:Int))
  (hi:idx<64) (hk:k<64) (hcell:w.cell? ⟨0,idx,none⟩=some (.int .u8 k)):
  Calls Tryz.prog 278 #[.int .u64 x] w fun e w'=>e= .returned (.int .i64 k)∧w'=w:=by
 go_enter Tryz.func278,Tryz.ntmps278
 go_wp2_with (simp only [key])
 go_ret
 exact ⟨rfl,rfl⟩
theorem Rb (x k idx:Nat) (w:World) (hx0:((x:Int)==0)=false)
  (key:bits BinOp.and IntKind.u32 (x:Int) (-(x:Int) % 4294967296)*125613361 % 4294967296/134217728=(idx:Int))
  (hi:idx<32) (hk:k<32) (hcell:w.cell? ⟨1,idx,none⟩=some (.int .u8 k)):
  Calls Tryz.prog 295 #[.int .u32 x] w fun e w'=>e= .returned (.int .i64 k)∧w'=w:=by
 go_enter Tryz.func295,Tryz.ntmps295
 go_wp2_with (simp only [key])
 go_ret
 exact ⟨rfl,rfl⟩
theorem Fd (x:Nat) (hx:x<18446744073709551616) (h0:x≠0) (w:World) (hT:Tz w):
  ∃t m:Nat,x=2^t*(2*m+1)∧t<64∧Calls Tryz.prog 278 #[.int .u64 x] w fun e w'=>e= .returned (.int .i64 t)∧w'=w:=by
 obtain ⟨hlow,hk⟩:=Lib.lowest_bit 64 x h0 hx
 obtain ⟨hi,htab⟩:=Lib.deBruijn64_at _ hk
 have hcell:=hT.t64 _ hi
 rw [htab] at hcell
 obtain ⟨m,hm,hlt⟩:=Lib.ctzFrom_spec 64 x (by omega) hx
 have e:Lib.ctz 64 x=Lib.ctzFrom 64 x:=if_neg h0
 rw [e] at hk hcell
 rw [e] at hi
 refine ⟨_,m,hm,hlt,?_⟩
 refine Ra x _ _ w (by simp;omega) (tz64_key x _ hx h0 (by rw [hlow,e])) ?_ hk ?_
 ·exact hi
 ·exact hcell
theorem SP (x:Nat) (hx:x<4294967296) (h0:x≠0) (w:World) (hT:Tz w):
  ∃t m:Nat,x=2^t*(2*m+1)∧t<32∧Calls Tryz.prog 295 #[.int .u32 x] w fun e w'=>e= .returned (.int .i64 t)∧w'=w:=by
 obtain ⟨hlow,hk⟩:=Lib.lowest_bit 32 x h0 hx
 obtain ⟨hi,htab⟩:=Lib.deBruijn32_at _ hk
 have hcell:=hT.t32 _ hi
 rw [htab] at hcell
 obtain ⟨m,hm,hlt⟩:=Lib.ctzFrom_spec 32 x (by omega) hx
 have e:Lib.ctz 32 x=Lib.ctzFrom 32 x:=if_neg h0
 rw [e] at hk hcell
 rw [e] at hi
 refine ⟨_,m,hm,hlt,?_⟩
 refine Rb x _ _ w (by simp;omega) (tz32_key x _ hx h0 (by rw [hlow,e])) ?_ hk ?_
 ·exact hi
 ·exact hcell
theorem NB {n x:Nat} (hn:n<4294967296) (hx:x<4294967296):bits .or .u64 (n:Int) ((x:Int)*4294967296)=((n+4294967296*x:Nat):Int):=L0 hn hx
theorem Eh (v:Value) (X:List Nat) (w:World) (h:Rd w v X) (h2:X.length≤2):
  Calls Tryz.prog 283 #[v] w fun e w'=>e= .returned (.int .u64 (val X:Nat))∧w'=w:=by
 obtain ⟨ao,ac,rfl,a1,a2,a3,a4⟩:=h
 have A3:=Yt a3
 have hvl:=Cf a3
 have A4:=Yt a4
 clear a3 a4
 go_enter Tryz.func283,Tryz.ntmps283
 go_wp2
 go_loop [3,8] (fun nv i=> ∃k n:Nat,k≤X.length∧i= .int .i64 k∧nv= .int .u64 n∧n=val (X.take k)) (fun _ i=>X.length-(intOf i).toNat)
 case atStart=>exact ⟨0,0,Nat.zero_le _,rfl,rfl,rfl⟩
 case round=>
  obtain ⟨k,n,hk,rfl,rfl,hn⟩:=hrel
  have HN:=Yt hn
  clear hn
  by_cases hk1:k<X.length
  ·obtain ⟨ab,aoff,x,rfl,hcell,hx,HX⟩:=A4.out.at A3.out k hk1
   have hst:=Au X k
   rw [←HX.out,←HN.out] at hst
   have HST:=Yt hst
   clear hst
   rcases k with _|_|k
   ·have hn0:n=0:=HN.out
    subst hn0
    have hc0:w.cell? ⟨ab,aoff,none⟩=some (.int .u32 (x:Nat)):=hcell
    have hor:bits .or .u64 0 (x:Int)=(x:Int):=by
     have:=bits_or_u64_nat 0 x (by omega) (by omega)
     rw [Nat.zero_or] at this
     exact this
    clear hcell
    go_wp2
    go_round
    case rel=>exact ⟨1,x,hk1,by go_num,by go_num,by have:=HST.out;simp at this;simp [this]⟩
    case measure=>simp [intOf];omega
   ·have hn32:n<4294967296:=by
     have:=Cf (A3.out.take 1)
     rw [List.length_take,Nat.min_eq_left (by omega)] at this
     rw [HN.out]
     exact this
    have hor:=NB hn32 hx
    have hc1:w.cell? ⟨ab,aoff+1,none⟩=some (.int .u32 (x:Nat)):=hcell
    clear hcell
    go_wp2
    go_round
    case rel=>exact ⟨2,n+4294967296*x,hk1,by go_num,by go_num,by have:=HST.out;simpa using this.symm⟩
    case measure=>simp [intOf];omega
   ·omega
  ·obtain rfl:k=X.length:=by omega
   have hf:=HN.out
   rw [List.take_of_length_le (Yu _)] at hf
   have HF:=Yt hf
   clear hf
   go_wp2
   go_ret
   exact ⟨BS (by rw [HF.out]),rfl⟩
theorem MO (X:List Nat) (k:Nat):val (X.take k)≤val X:=by
 have:=Cb (X.take k) (X.drop k)
 rw [List.take_append_drop] at this
 omega
theorem SI {X:List Nat} {k t m:Nat} (hk:k<X.length) (hz:val (X.take k)=0) (hx:X.getD k 0=2^t*(2*m+1)) (_ht:t<32): ∃m',val X=2^(32*k+t)*(2*m'+1):=by
 have h1:val X=val (X.take k)+4294967296^k*val (X.drop k):=by
  have:=Cb (X.take k) (X.drop k)
  rwa [List.take_append_drop,List.length_take,Nat.min_eq_left (by omega)] at this
 have h2:val (X.drop k)=X.getD k 0+4294967296*val (X.drop (k+1)):=by
  rw [Cm X k hk]
  rfl
 have h3:(4294967296:Nat)^k=2^(32*k):=by rw [show (4294967296:Nat)=2^32 from rfl,←Nat.pow_mul]
 have h4:(4294967296:Nat)=2^t*(2*2^(31-t)):=by
  rw [Nat.mul_comm 2,←Nat.pow_succ,←Nat.pow_add,show t+(31-t+1)=32 by omega]
 refine ⟨m+2^(31-t)*val (X.drop (k+1)),?_⟩
 rw [h1,hz,Nat.zero_add,h2,hx,h3,Nat.pow_add,Nat.mul_assoc]
 congr 1
 rw [h4,Nat.mul_assoc,←Nat.mul_add]
 congr 1
 rw [Nat.mul_add,Nat.mul_assoc]
 omega
theorem Jf (v:Value) (X:List Nat) (w:World) (h:Rd w v X) (h0:val X≠0) (hl:X.length≤1099511627776) (hT:Tz w):
  ∃k t m:Nat,k<X.length∧t<32∧val X=2^(32*k+t)*(2*m+1)∧val (X.take k)=0∧X.getD k 0≠0∧
   Calls Tryz.prog 284 #[v] w fun e w'=>e= .returned (.int .i64 (32*k+t:Nat))∧w'=w:=by
 have hex: ∃k,k<X.length∧val (X.take k)=0∧X.getD k 0≠0:=by
  clear h hl hT
  induction X with
  | nil=>exact absurd rfl h0
  | cons x X ih=>
    by_cases hx:x=0
    ·have:val X≠0:=by
      intro e
      apply h0
      simp [val,e,hx]
     obtain ⟨k,h1,h2,h3⟩:=ih this
     exact ⟨k+1,by simpa using h1,by simp [val,hx,h2],by simpa using h3⟩
    ·exact ⟨0,by simp,rfl,by simpa using hx⟩
 obtain ⟨k,hk,hz,hne⟩:=hex
 obtain ⟨ao,ac,rfl,a1,a2,a3,a4⟩:=h
 have hzs: ∀j,j<k→X.getD j 0=0:=by
  intro j hj
  rcases Nat.eq_zero_or_pos (X.getD j 0) with e|e
  ·exact e
  ·exfalso
   have h1:=Au X j
   have h2:val (X.take (j+1))≤val (X.take k):=by
    have:=MO (X.take k) (j+1)
    rwa [List.take_take,Nat.min_eq_left (by omega)] at this
   have h3:=Nat.mul_le_mul (Nat.pow_pos (n:=j) (show 0<4294967296 by omega)) e
   omega
 obtain ⟨b,off,x,rfl,hcell,hx,HX⟩:=a4.at a3 k hk
 obtain ⟨t,m,hxm,ht,hc⟩:=SP x hx (by rw [HX.out];exact hne) w hT
 obtain ⟨m',hm'⟩:=SI hk hz (by rw [←HX.out];exact hxm) ht
 refine ⟨k,t,m',hk,ht,hm',hz,hne,?_⟩
 have HC:=Yt hc
 have hx0:((x:Int)==0)=false:=beq_eq_false_iff_ne.2 (by rw [HX.out];omega)
 have HZS:=Yt hzs
 have A3:=Yt a3
 have A4:=Yt a4
 clear hc hzs a3 a4 hm' hxm hz hne
 go_enter Tryz.func284,Tryz.ntmps284
 go_wp2
 go_loop [3] (fun i=> ∃j:Nat,j≤k∧i= .int .i64 j) (fun i=>k-(intOf i).toNat)
 case atStart=>exact ⟨0,Nat.zero_le _,rfl⟩
 case round=>
  obtain ⟨j,hj,rfl⟩:=hrel
  by_cases hj1:j<k
  ·obtain ⟨b',off',y,he,hcy,_,HY⟩:=A4.out.at A3.out j (by omega)
   obtain ⟨rfl,rfl⟩:b=b'∧off=off':=by simpa using he
   have hy0:y=0:=by rw [HY.out];exact HZS.out j hj1
   subst hy0
   clear he
   go_wp2
   go_round
   case rel=>exact ⟨j+1,hj1,by go_num⟩
   case measure=>simp [intOf];omega
  ·obtain rfl:j=k:=by omega
   go_wp2_with (go_at_call 295;refine HC.out.mono ?_;rintro e w1 ⟨rfl,rfl⟩)
   go_ret
   exact ⟨BS (by omega),rfl⟩
theorem IV {x a u:Nat} (h:x=2^a*u):(x:Int)/2^a=(u:Int):=by
 have h1:x/2^a=u:=by rw [h,Nat.mul_comm,Nat.mul_div_cancel _ (Nat.pow_pos (by omega))]
 rw [←h1,Int.natCast_ediv,Int.natCast_pow]
 rfl
theorem Hc {X t g:Nat} (h:g=2^t*X) (hg:g<18446744073709551616):IntKind.u64.wrap ((X:Int)*2^t)=(g:Int):=by
 have h1:(X:Int)*2^t=(g:Int):=by
  rw [h,Int.natCast_mul,Int.natCast_pow,Int.mul_comm]
  rfl
 rw [h1,IntWalk.u64_in _ (by omega)]
set_option maxRecDepth 20000 in
theorem Hl (x y:Nat) (hx:x<18446744073709551616) (hy:y<18446744073709551616) (h0:x≠0) (w:World) (hT:Tz w):
  Calls Tryz.prog 282 #[.int .u64 (x:Nat),.int .u64 (y:Nat)] w fun e w'=>e= .returned (.int .u64 (Nat.gcd x y:Nat))∧Kp w w':=by
 have hor:=bits_or_u64_nat x y hx hy
 have hob:x ||| y<18446744073709551616:=Nat.or_lt_two_pow (n:=64) hx hy
 have ho0:x ||| y≠0:=by
  intro e
  apply h0
  apply Nat.eq_of_testBit_eq
  intro i
  have:=congrArg (fun z=>Nat.testBit z i) e
  simp at this
  simp [this.1]
 obtain ⟨z,hz⟩: ∃z,z=x ||| y:=⟨_,rfl⟩
 rw [←hz] at hor hob ho0
 obtain ⟨t,m,hzt,ht,hc1⟩:=Fd z hob ho0 w hT
 obtain ⟨a,u',hxa,ha,hc2⟩:=Fd x hx h0 w hT
 obtain ⟨u,hu⟩: ∃u,u=2*u'+1:=⟨_,rfl⟩
 rw [←hu] at hxa
 have hodd:u % 2=1:=by omega
 have hst:=La hxa hodd (hz▸hzt)
 have hxu:=IV hxa
 have hul:u≤x:=by rw [hxa];exact Nat.le_mul_of_pos_left _ (Nat.pow_pos (by omega))
 obtain ⟨g,hg⟩: ∃g,g=Nat.gcd x y:=⟨_,rfl⟩
 have hgx:g≤x:=by rw [hg];exact Nat.le_of_dvd (by omega) (Nat.gcd_dvd_left _ _)
 rw [←hg] at hst
 rw [←hg]
 have HST:=Yt hst
 have HC1:=Yt hc1
 have HC2:=Yt hc2
 have HT:=Yt hT
 have HOD:=Yt hodd
 have hu0:0<u:=by omega
 clear hst hc1 hc2 hT hodd hxa hzt hz hu hg
 go_enter Tryz.func282,Tryz.ntmps282
 go_wp2_with (go_at_call 278;first|((with_reducible refine HC1.out.mono ?_);rintro e w1 ⟨rfl,rfl⟩)|((with_reducible refine HC2.out.mono ?_);rintro e w1 ⟨rfl,rfl⟩))
 obtain ⟨w0,rfl⟩: ∃w0,w0=w1:=⟨_,rfl⟩
 go_loopw [0,1] (fun xv yv wr=> ∃X Y:Nat,xv= .int .u64 X∧yv= .int .u64 Y∧X<18446744073709551616∧Y<18446744073709551616∧0<X∧Hid (X % 2=1)∧Hid (Nat.gcd X Y=Nat.gcd u y)∧Kp w0 wr) (fun xv yv _=>(intOf xv+intOf yv).toNat)
 case atStart=>exact ⟨u,y,rfl,rfl,by omega,hy,hu0,HOD,Yt rfl,Below.refl _ _⟩
 case round=>
  obtain ⟨X,Y,rfl,rfl,hX,hY,hX0,HXo,HXg,K1⟩:=hrel
  by_cases hY0:Y=0
  ·have hfin:g=2^t*X:=by
    have h1:=HXg.out
    rw [hY0,Nat.gcd_zero_right] at h1
    rw [HST.out,←h1]
   have hsh:=Hc hfin (by omega)
   subst hY0
   clear hfin
   go_wp2
   go_ret
   exact ⟨rfl,K1⟩
  ·by_cases hX1:X=1
   ·have hfin:g=2^t*X:=by
     have h1:=HXg.out
     rw [hX1,Nat.gcd_one_left] at h1
     rw [HST.out,←h1,hX1]
    have hsh:=Hc hfin (by omega)
    have hy1:((Y:Int)==0)=false:=beq_eq_false_iff_ne.2 (by omega)
    have hx1:((X:Int)==1)=true:=beq_iff_eq.2 (by omega)
    have hy2:((Y:Int) !=0)=true:=by rw [bne_iff_ne];omega
    have hx2:((X:Int) !=1)=false:=by rw [hX1];rfl
    clear hfin hX1
    go_wp2
    go_ret
    exact ⟨rfl,K1⟩
   ·obtain ⟨b,v',hYb,hb,hc⟩:=Fd Y hY hY0 wr (HT.out.kp K1)
    obtain ⟨v,hv⟩: ∃v,v=2*v'+1:=⟨_,rfl⟩
    rw [←hv] at hYb
    have hvo:v % 2=1:=by omega
    have hvY:v≤Y:=by rw [hYb];exact Nat.le_mul_of_pos_left _ (Nat.pow_pos (by omega))
    have hsv:=IV hYb
    have hr:=Lb HXo.out hYb hvo
    have hv0:0<v:=by omega
    obtain ⟨mn,hmn⟩: ∃mn,mn=min X v:=⟨_,rfl⟩
    obtain ⟨mx,hmx⟩: ∃mx,mx=max X v:=⟨_,rfl⟩
    have hmn1:min (X:Int) (v:Int)=(mn:Int):=by omega
    have hmx1:max (X:Int) (v:Int)=(mx:Int):=by omega
    have hle:mn≤mx:=by omega
    have hmb:mx<18446744073709551616:=by omega
    have hm0:0<mn:=by omega
    rw [←hmn,←hmx] at hr
    have hlt:=hr.2.2
    have HR:=Yt hr
    have HC:=Yt hc
    have hy1:((Y:Int)==0)=false:=beq_eq_false_iff_ne.2 (by omega)
    have hx1:((X:Int)==1)=false:=beq_eq_false_iff_ne.2 (by omega)
    have hy2:((Y:Int) !=0)=true:=by rw [bne_iff_ne];omega
    have hx2:((X:Int) !=1)=true:=by rw [bne_iff_ne];omega
    clear hYb hvo hr hc hv hmn hmx
    go_wp2_with (go_at_call 278;refine HC.out.mono ?_;rintro e w1 ⟨rfl,rfl⟩)
    go_roundw
    case rel=>exact ⟨mn,mx-mn,by go_num,by go_num,by omega,by omega,hm0,Yt HR.out.2.1,Yt (HR.out.1.trans HXg.out),K1⟩
    case measure=>simp [intOf];omega
theorem MY (n:Int) (w:World) (h1: -9223372036854775808<n) (h2:n≤9223372036854775807):
  Calls Tryz.prog 309 #[.int .i64 n] w fun e w'=>e= .returned (.int .i64 (n.natAbs:Nat))∧w'=w:=by
 have h3:max n (-n)=(n.natAbs:Int):=by omega
 have h4:wrap64 (-n)= -n:=by unfold wrap64;omega
 go_enter Tryz.func309,Tryz.ntmps309
 go_wp2
 go_ret
 exact ⟨rfl,rfl⟩
theorem GG (w:World):
  Calls Tryz.prog 306 #[] w fun e w'=>e= .returned (.agg #[.int .i64 1,.int .i64 0,.int .i64 0,.int .i64 1])∧Kp w w':=by
 go_enter Tryz.func306,Tryz.ntmps306
 go_wp2
 refine bodyPost_ret (v:= .agg #[.int .i64 1,.int .i64 0,.int .i64 0,.int .i64 1]) (by simp [results,Tryz.results306,go_sem]) rfl ⟨rfl,Kp.alloc _ _⟩
def mat (σ:Int) (p q r s:Nat):Array Value:= #[.int .i64 (σ*p),.int .i64 (-σ*q),.int .i64 (-σ*r),.int .i64 (σ*s)]
theorem IY {w:World} {g:Nat} {cs:Array Value} {e:TypeId} (h:w.heap[g]?=some (.cells cs e (0,0))) (j:Nat) (v:Value):(w.setCell ⟨g,j,none⟩ v).heap[g]?=some (.cells (cs.setIfInBounds j v) e (0,0)):=
 heap_setCell_same w g j cs e v h
theorem JT {w0 w:World} {g h:Nat} {a0 a1 a2 a3 b0 b1 b2 b3:Int} {e:TypeId} {R:Obj} (hg:w.heap[g]?=some (.cells #[.int .i64 a0,.int .i64 a1,.int .i64 a2,.int .i64 a3] e (0,0))) (hh:w.heap[h]?=some R) (hne:h≠g)
  (k:Kp w0 w) (hk:w0.heap.size≤g) (o:Obj):
  (((((w.setCell ⟨g,0,none⟩ (.int .i64 b0)).setCell ⟨g,1,none⟩ (.int .i64 b1)).setCell ⟨g,2,none⟩ (.int .i64 b2)).setCell ⟨g,3,none⟩ (.int .i64 b3)).alloc o).heap[g]?=some (.cells #[.int .i64 b0,.int .i64 b1,.int .i64 b2,.int .i64 b3] e (0,0))∧
  (((((w.setCell ⟨g,0,none⟩ (.int .i64 b0)).setCell ⟨g,1,none⟩ (.int .i64 b1)).setCell ⟨g,2,none⟩ (.int .i64 b2)).setCell ⟨g,3,none⟩ (.int .i64 b3)).alloc o).heap[h]?=some R∧
  Kp w0 (((((w.setCell ⟨g,0,none⟩ (.int .i64 b0)).setCell ⟨g,1,none⟩ (.int .i64 b1)).setCell ⟨g,2,none⟩ (.int .i64 b2)).setCell ⟨g,3,none⟩ (.int .i64 b3)).alloc o):=by
 have h0:=IY hg 0 (.int .i64 b0)
 have h1:=IY h0 1 (.int .i64 b1)
 have h2:=IY h1 2 (.int .i64 b2)
 have h3:=IY h2 3 (.int .i64 b3)
 have on:Ci g w ((((w.setCell ⟨g,0,none⟩ (.int .i64 b0)).setCell ⟨g,1,none⟩ (.int .i64 b1)).setCell ⟨g,2,none⟩ (.int .i64 b2)).setCell ⟨g,3,none⟩ (.int .i64 b3)):=
  ((((Ci.refl g w).setCell 0 _).setCell 1 _).setCell 2 _).setCell 3 _
 have hh2:=(on.block h hne).trans hh
 have k2:=on.kp k hk
 obtain ⟨w',hw'⟩: ∃w',w'=((((w.setCell ⟨g,0,none⟩ (.int .i64 b0)).setCell ⟨g,1,none⟩ (.int .i64 b1)).setCell ⟨g,2,none⟩ (.int .i64 b2)).setCell ⟨g,3,none⟩ (.int .i64 b3)):=⟨_,rfl⟩
 rw [←hw'] at h3 hh2 k2⊢
 refine ⟨?_,?_,k2.tr (Kp.alloc _ _)⟩
 ·rw [(Kp.alloc w' o).block g (Array.getElem?_eq_some_iff.1 h3).1,h3]
  simp
 ·rw [(Kp.alloc w' o).block h (Array.getElem?_eq_some_iff.1 hh2).1,hh2]
set_option maxRecDepth 20000 in
theorem Ud (x0 y0:Nat) (w:World) (hx:x0<4611686018427387904) (hy:y0≤x0):
  Calls Tryz.prog 304 #[.int .i64 (x0:Nat),.int .i64 (y0:Nat)] w fun e w'=> ∃(σ:Int) (p q r s x y:Nat),e= .returned (.agg (mat σ p q r s))∧Steps x0 y0 σ p q r s x y∧Kp w w':=by
 have HU:=Yt GG
 go_enter Tryz.func304,Tryz.ntmps304
 go_wp2_with (go_at_call 306;refine (HU.out _).mono ?_;rintro e w1 ⟨rfl,K1⟩;refine Hid.out ?_)
 refine Yt ?_
 go_wp2_with fail
 have hres:w.heap.size<w1.heap.size:=by
  have:=K1.size
  simp at this
  omega
 obtain ⟨g,hg⟩: ∃g,g=w1.heap.size:=⟨_,rfl⟩
 obtain ⟨w2,hw2⟩: ∃w2,w2=w1.alloc (Obj.cells #[Value.int IntKind.i64 1,Value.int IntKind.i64 0,Value.int IntKind.i64 0,Value.int IntKind.i64 1] 238):=⟨_,rfl⟩
 have hH2:w2.heap[g]?=some (.cells #[.int .i64 1,.int .i64 0,.int .i64 0,.int .i64 1] 238 (0,0)):=by rw [hw2,hg];exact heap_alloc_new w1 _
 rw [←hg,←hw2]
 rw [←hg] at hres
 have K2:Kp w w2:=by
  rw [hw2]
  exact ((Kp.alloc w _).tr K1).tr (Kp.alloc _ _)
 have hR2:w2.heap[w.heap.size]?=some (.cells #[.int .i64 0,.int .i64 0,.int .i64 0,.int .i64 0] 238 (0,0)):=by
  rw [hw2,(Kp.alloc w1 _).block _ (by rw [←hg];exact hres),K1.block _ (by simp),heap_alloc_new w _]
 have HR2:=Yt hR2
 have HH2:=Yt hH2
 have HK2:=Yt K2
 clear hw2 hg hH2 hR2 K2
 go_loopw [0,1] (fun xv yv wr=> ∃(σ:Int) (p q r s x y:Nat),xv= .int .i64 x∧yv= .int .i64 y∧Hid (Steps x0 y0 σ p q r s x y)∧Hid (wr.heap[g]?=some (.cells (mat σ p q r s) 238 (0,0)))∧Hid (wr.heap[w.heap.size]?=some (.cells #[.int .i64 0,.int .i64 0,.int .i64 0,.int .i64 0] 238 (0,0)))∧Kp w wr) (fun _ yv _=>(intOf yv).toNat)
 case atStart=>exact ⟨1,1,0,0,1,x0,y0,rfl,rfl,Yt (Steps.start hy),HH2,HR2,HK2.out⟩
 case round=>
  obtain ⟨σ,p,q,r,s,x,y,rfl,rfl,HS,HM,HRS,K3⟩:=hrel
  have hxs:x≤x0:=by
   have:=HS.out.hx
   have h2:=Nat.le_mul_of_pos_left x HS.out.s1
   omega
  have hyx:y≤x:=HS.out.le
  have hsb:=HS.out.short hx
  obtain ⟨M0,hM0⟩: ∃M:Int,M=σ*p:=⟨_,rfl⟩
  obtain ⟨M1,hM1⟩: ∃M:Int,M= -σ*q:=⟨_,rfl⟩
  obtain ⟨M2,hM2⟩: ∃M:Int,M= -σ*r:=⟨_,rfl⟩
  obtain ⟨M3,hM3⟩: ∃M:Int,M=σ*s:=⟨_,rfl⟩
  have hmat:mat σ p q r s= #[.int .i64 M0,.int .i64 M1,.int .i64 M2,.int .i64 M3]:=by unfold mat;rw [←hM0,←hM1,←hM2,←hM3]
  have hm:=HM.out
  rw [hmat] at hm
  by_cases hy0:y=0
  ·subst hy0
   clear hM0 hM1 hM2 hM3 hsb
   have c0:wr.cell? ⟨g,0,none⟩=some (.int .i64 M0):=cell_of_row wr g 0 _ _ _ hm
   have c1:wr.cell? ⟨g,1,none⟩=some (.int .i64 M1):=cell_of_row wr g 1 _ _ _ hm
   have c2:wr.cell? ⟨g,2,none⟩=some (.int .i64 M2):=cell_of_row wr g 2 _ _ _ hm
   have c3:wr.cell? ⟨g,3,none⟩=some (.int .i64 M3):=cell_of_row wr g 3 _ _ _ hm
   have f0:=frozen_of_row wr g 0 _ _ hm
   have f1:=frozen_of_row wr g 1 _ _ hm
   have f2:=frozen_of_row wr g 2 _ _ hm
   have f3:=frozen_of_row wr g 3 _ _ hm
   clear hm
   have d0:wr.cell? ⟨w.heap.size,0,none⟩=some (.int .i64 0):=cell_of_row wr _ 0 _ _ _ HRS.out
   have d1:wr.cell? ⟨w.heap.size,1,none⟩=some (.int .i64 0):=cell_of_row wr _ 1 _ _ _ HRS.out
   have d2:wr.cell? ⟨w.heap.size,2,none⟩=some (.int .i64 0):=cell_of_row wr _ 2 _ _ _ HRS.out
   have d3:wr.cell? ⟨w.heap.size,3,none⟩=some (.int .i64 0):=cell_of_row wr _ 3 _ _ _ HRS.out
   have e0:=frozen_of_row wr w.heap.size 0 _ _ HRS.out
   have e1:=frozen_of_row wr w.heap.size 1 _ _ HRS.out
   have e2:=frozen_of_row wr w.heap.size 2 _ _ HRS.out
   have e3:=frozen_of_row wr w.heap.size 3 _ _ HRS.out
   go_wp2
   refine bodyPost_ret (v:= .agg #[.int .i64 M0,.int .i64 M1,.int .i64 M2,.int .i64 M3]) (by simp [results,Tryz.results304,go_sem,d0,d1,d2,d3]) rfl ⟨σ,p,q,r,s,x,0,by rw [hmat],HS.out,(((K3.setCell (Yu _) _).setCell (Yu _) _).setCell (Yu _) _).setCell (Yu _) _⟩
  ·have hyp:0<y:=Nat.pos_of_ne_zero hy0
   have hrow:=HS.out.row hyp
   obtain ⟨t,ht⟩: ∃t,t=x/y:=⟨_,rfl⟩
   obtain ⟨z,hz⟩: ∃z,z=x % y:=⟨_,rfl⟩
   have hnext:=HS.out.next hyp
   rw [←ht] at hrow
   rw [←ht,←hz] at hnext
   obtain ⟨f,hf⟩: ∃f,f=q+t*s:=⟨_,rfl⟩
   obtain ⟨e,he⟩: ∃e,e=p+t*r:=⟨_,rfl⟩
   rw [←hf,←he] at hrow hnext
   have hzy:z<y:=by rw [hz];exact Nat.mod_lt _ hyp
   have hps:p≤s∧q≤s∧r≤s:=by
    have h1:=HS.out.rs
    have h2:=HS.out.qs
    rcases HS.out.st with ⟨h3,_,_,h4,_⟩|⟨_,_,h3,_⟩<;>omega
   have htx:(x:Int).tdiv (y:Int)=(t:Int):=by rw [GH,ht]
   have htz:(x:Int).tmod (y:Int)=(z:Int):=by rw [hz];rfl
   have htb:t≤x:=by rw [ht];exact Nat.div_le_self _ _
   obtain ⟨N2,hN2⟩: ∃N:Int,N=(t:Int)*M2:=⟨_,rfl⟩
   obtain ⟨N3,hN3⟩: ∃N:Int,N=(t:Int)*M3:=⟨_,rfl⟩
   obtain ⟨R0,hR0⟩: ∃N:Int,N=M0-N2:=⟨_,rfl⟩
   obtain ⟨R1,hR1⟩: ∃N:Int,N=M1-N3:=⟨_,rfl⟩
   have hei:(e:Int)=p+t*r:=by rw [he];simp
   have hfi:(f:Int)=q+t*s:=by rw [hf];simp
   have eN2:N2= -σ*(t*r):=by rw [hN2,hM2];grind
   have eN3:N3=σ*(t*s):=by rw [hN3,hM3];grind
   have eR0:R0=σ*e:=by rw [hR0,hM0,eN2,hei];grind
   have eR1:R1= -σ*f:=by rw [hR1,hM1,eN3,hfi];grind
   obtain ⟨tr,htr⟩: ∃z,z=t*r:=⟨_,rfl⟩
   obtain ⟨ts,hts⟩: ∃z,z=t*s:=⟨_,rfl⟩
   have eN2':N2= -σ*(tr:Int):=by rw [eN2,htr];simp
   have eN3':N3=σ*(ts:Int):=by rw [eN3,hts];simp
   rw [←htr] at he
   rw [←hts] at hf
   have hb:(-4611686018427387904<N2∧N2<4611686018427387904)∧(-4611686018427387904<N3∧N3<4611686018427387904)∧(-4611686018427387904<R0∧R0<4611686018427387904)∧(-4611686018427387904<R1∧R1<4611686018427387904)∧
     (-2147483648<M0∧M0<2147483648)∧(-2147483648<M1∧M1<2147483648)∧(-2147483648<M2∧M2<2147483648)∧(-2147483648<M3∧M3<2147483648)∧R1.natAbs=f∧M3.natAbs=s:=by
    rcases HS.out.sign with e1|e1<;>rw [e1] at eN2' eN3' eR0 eR1 hM0 hM1 hM2 hM3<;>omega
   obtain ⟨⟨b1,b2⟩,⟨b3,b4⟩,⟨b5,b6⟩,⟨b7,b8⟩,⟨b9,b10⟩,⟨b11,b12⟩,⟨b13,b14⟩,⟨b15,b16⟩,hab1,hab2⟩:=hb
   have hz1:=fun w=>MY R1 w (by omega) (by omega)
   have hz2:=fun w=>MY M3 w (by omega) (by omega)
   rw [hab1] at hz1
   rw [hab2] at hz2
   have HZ1:=Yt hz1
   have HZ2:=Yt hz2
   have hfb:f<4611686018427387904:=by omega
   have HMAT:Hid (mat (-σ) r s e f= #[.int .i64 M2,.int .i64 M3,.int .i64 R0,.int .i64 R1]):=by
    refine Yt ?_
    unfold mat
    rw [hM2,hM3,eR0,eR1]
    simp
   have HNX:=Yt hnext
   have hN2':=hN2.symm
   have hN3':=hN3.symm
   have hR0':=hR0.symm
   have hR1':=hR1.symm
   clear hz1 hz2 hM0 hM1 hM2 hM3 hN2 hN3 hR0 hR1 eN2 eN3 eR0 eR1 hei hfi htr hts eN2' eN3' he hf hab1 hab2 hnext ht hz hrow
   by_cases hbr:z<f∨y<z+f+s
   ·have HMA:=Yt hmat
    have HSN:=HS
    clear hmat HNX HMAT
    have HMM:=Yt hm
    clear hm
    go_wp2
    go_quiet (fail)
    have hm:(wr.drewN nq).heap[g]?=some (.cells #[.int .i64 M0,.int .i64 M1,.int .i64 M2,.int .i64 M3] 238 (0,0)):=HMM.out
    have HRN:Hid ((wr.drewN nq).heap[w.heap.size]?=some (.cells #[.int .i64 0,.int .i64 0,.int .i64 0,.int .i64 0] 238 (0,0))):=HRS
    have K4:Kp w (wr.drewN nq):=K3.drewN nq
    obtain ⟨wn,hwn⟩: ∃wn,wn=wr.drewN nq:=⟨_,rfl⟩
    rw [←hwn] at hm HRN K4⊢
    clear hwn HRS HM HMM K3
    have c0:wn.cell? ⟨g,0,none⟩=some (.int .i64 M0):=cell_of_row wn g 0 _ _ _ hm
    have c1:wn.cell? ⟨g,1,none⟩=some (.int .i64 M1):=cell_of_row wn g 1 _ _ _ hm
    have c2:wn.cell? ⟨g,2,none⟩=some (.int .i64 M2):=cell_of_row wn g 2 _ _ _ hm
    have c3:wn.cell? ⟨g,3,none⟩=some (.int .i64 M3):=cell_of_row wn g 3 _ _ _ hm
    have f0:=frozen_of_row wn g 0 _ _ hm
    have f1:=frozen_of_row wn g 1 _ _ hm
    have f2:=frozen_of_row wn g 2 _ _ hm
    have f3:=frozen_of_row wn g 3 _ _ hm
    have hgn:g<wn.heap.size:=(Array.getElem?_eq_some_iff.1 hm).1
    have HMN:=Yt hm
    clear hm
    have d0:wn.cell? ⟨w.heap.size,0,none⟩=some (.int .i64 0):=cell_of_row wn _ 0 _ _ _ HRN.out
    have e0:=frozen_of_row wn w.heap.size 0 _ _ HRN.out
    have d1:wn.cell? ⟨w.heap.size,1,none⟩=some (.int .i64 0):=cell_of_row wn _ 1 _ _ _ HRN.out
    have e1:=frozen_of_row wn w.heap.size 1 _ _ HRN.out
    have d2:wn.cell? ⟨w.heap.size,2,none⟩=some (.int .i64 0):=cell_of_row wn _ 2 _ _ _ HRN.out
    have e2:=frozen_of_row wn w.heap.size 2 _ _ HRN.out
    have d3:wn.cell? ⟨w.heap.size,3,none⟩=some (.int .i64 0):=cell_of_row wn _ 3 _ _ _ HRN.out
    have e3:=frozen_of_row wn w.heap.size 3 _ _ HRN.out
    have hwn2:w.heap.size<wn.heap.size:=by omega
    have nd0:=World.new_ne wn ⟨w.heap.size,0,none⟩ d0
    by_cases hz1:z<f
    ·clear hbr
     go_wp2_with (go_at_call 309;first|((with_reducible refine (HZ1.out _).mono ?_);rintro e w5 ⟨rfl,rfl⟩)|((with_reducible refine (HZ2.out _).mono ?_);rintro e w5 ⟨rfl,rfl⟩))
     have H4:=JT (b0:=M0) (b1:=M1) (b2:=M2) (b3:=M3) HRN.out HMN.out (show g≠w.heap.size by omega) K4 (Yu _) (Obj.cells #[Value.int IntKind.i64 R0,Value.int IntKind.i64 R1] 236)
     obtain ⟨W,hW⟩: ∃W,W=(((((wn.setCell ⟨w.heap.size,0,none⟩ (.int .i64 M0)).setCell ⟨w.heap.size,1,none⟩ (.int .i64 M1)).setCell ⟨w.heap.size,2,none⟩ (.int .i64 M2)).setCell ⟨w.heap.size,3,none⟩ (.int .i64 M3)).alloc (Obj.cells #[Value.int IntKind.i64 R0,Value.int IntKind.i64 R1] 236)):=⟨_,rfl⟩
     rw [←hW] at H4⊢
     have C0:W.cell? ⟨w.heap.size,0,none⟩=some (.int .i64 M0):=cell_of_row W _ 0 _ _ _ H4.1
     have C1:W.cell? ⟨w.heap.size,1,none⟩=some (.int .i64 M1):=cell_of_row W _ 1 _ _ _ H4.1
     have C2:W.cell? ⟨w.heap.size,2,none⟩=some (.int .i64 M2):=cell_of_row W _ 2 _ _ _ H4.1
     have C3:W.cell? ⟨w.heap.size,3,none⟩=some (.int .i64 M3):=cell_of_row W _ 3 _ _ _ H4.1
     exact bodyPost_ret (v:= .agg #[.int .i64 M0,.int .i64 M1,.int .i64 M2,.int .i64 M3]) (by simp [results,Tryz.results304,go_sem,C0,C1,C2,C3]) rfl ⟨σ,p,q,r,s,x,y,by rw [HMA.out],HSN.out,H4.2.2⟩
    ·have hz2:y<z+f+s:=by omega
     clear hbr
     go_wp2_with (go_at_call 309;first|((with_reducible refine (HZ1.out _).mono ?_);rintro e w5 ⟨rfl,rfl⟩)|((with_reducible refine (HZ2.out _).mono ?_);rintro e w5 ⟨rfl,rfl⟩))
     have H4:=JT (b0:=M0) (b1:=M1) (b2:=M2) (b3:=M3) HRN.out HMN.out (show g≠w.heap.size by omega) K4 (Yu _) (Obj.cells #[Value.int IntKind.i64 R0,Value.int IntKind.i64 R1] 236)
     obtain ⟨W,hW⟩: ∃W,W=(((((wn.setCell ⟨w.heap.size,0,none⟩ (.int .i64 M0)).setCell ⟨w.heap.size,1,none⟩ (.int .i64 M1)).setCell ⟨w.heap.size,2,none⟩ (.int .i64 M2)).setCell ⟨w.heap.size,3,none⟩ (.int .i64 M3)).alloc (Obj.cells #[Value.int IntKind.i64 R0,Value.int IntKind.i64 R1] 236)):=⟨_,rfl⟩
     rw [←hW] at H4⊢
     have C0:W.cell? ⟨w.heap.size,0,none⟩=some (.int .i64 M0):=cell_of_row W _ 0 _ _ _ H4.1
     have C1:W.cell? ⟨w.heap.size,1,none⟩=some (.int .i64 M1):=cell_of_row W _ 1 _ _ _ H4.1
     have C2:W.cell? ⟨w.heap.size,2,none⟩=some (.int .i64 M2):=cell_of_row W _ 2 _ _ _ H4.1
     have C3:W.cell? ⟨w.heap.size,3,none⟩=some (.int .i64 M3):=cell_of_row W _ 3 _ _ _ H4.1
     exact bodyPost_ret (v:= .agg #[.int .i64 M0,.int .i64 M1,.int .i64 M2,.int .i64 M3]) (by simp [results,Tryz.results304,go_sem,C0,C1,C2,C3]) rfl ⟨σ,p,q,r,s,x,y,by rw [HMA.out],HSN.out,H4.2.2⟩
   ·have hn:=HNX.out (by omega) (by omega)
    have HN:=Yt hn
    have hz1: ¬z<f:=by omega
    have hz2: ¬y<z+f+s:=by omega
    clear hn hbr
    have HMM:=Yt hm
    clear hm
    go_wp2
    go_quiet (fail)
    have hm:(wr.drewN nq).heap[g]?=some (.cells #[.int .i64 M0,.int .i64 M1,.int .i64 M2,.int .i64 M3] 238 (0,0)):=HMM.out
    have HRN:Hid ((wr.drewN nq).heap[w.heap.size]?=some (.cells #[.int .i64 0,.int .i64 0,.int .i64 0,.int .i64 0] 238 (0,0))):=HRS
    have K4:Kp w (wr.drewN nq):=K3.drewN nq
    obtain ⟨wn,hwn⟩: ∃wn,wn=wr.drewN nq:=⟨_,rfl⟩
    rw [←hwn] at hm HRN K4⊢
    clear hwn HRS HM HMM K3
    have c0:wn.cell? ⟨g,0,none⟩=some (.int .i64 M0):=cell_of_row wn g 0 _ _ _ hm
    have c1:wn.cell? ⟨g,1,none⟩=some (.int .i64 M1):=cell_of_row wn g 1 _ _ _ hm
    have c2:wn.cell? ⟨g,2,none⟩=some (.int .i64 M2):=cell_of_row wn g 2 _ _ _ hm
    have c3:wn.cell? ⟨g,3,none⟩=some (.int .i64 M3):=cell_of_row wn g 3 _ _ _ hm
    have f0:=frozen_of_row wn g 0 _ _ hm
    have f1:=frozen_of_row wn g 1 _ _ hm
    have f2:=frozen_of_row wn g 2 _ _ hm
    have f3:=frozen_of_row wn g 3 _ _ hm
    have hgn:g<wn.heap.size:=(Array.getElem?_eq_some_iff.1 hm).1
    have HMN:=Yt hm
    clear hm
    go_wp2_with (go_at_call 309;first|((with_reducible refine (HZ1.out _).mono ?_);rintro e w5 ⟨rfl,rfl⟩)|((with_reducible refine (HZ2.out _).mono ?_);rintro e w5 ⟨rfl,rfl⟩))
    have H4:=Yt (fun o=>JT (b0:=M2) (b1:=M3) (b2:=R0) (b3:=R1) HMN.out HRN.out (by omega) K4 (by omega) o)
    go_roundw
    case rel=>exact ⟨-σ,r,s,e,f,y,z,rfl,rfl,HN,Yt (by rw [HMAT.out];exact (H4.out _).1),Yt (H4.out _).2.1,(H4.out _).2.2⟩
    case measure=>simp [intOf];omega
theorem CP (X:List Nat) (i:Nat):val (X.drop i)=X.getD i 0+4294967296*val (X.drop (i+1)):=by
 by_cases h:i<X.length
 ·rw [Cm X i h]
  rfl
 ·rw [List.drop_of_length_le (by omega),List.drop_of_length_le (by omega)]
  simp [val,List.getD,List.getElem?_eq_none (Nat.le_of_not_lt h)]
theorem Ot {X:List Nat} {i r u v:Nat} (hX:Ai X) (hr:r<32) (hu:u=32-r) (hv:v=64-r) (hlt:val X/2^(32*i+r)<4611686018427387904):
  val X/2^(32*i+r)=X.getD i 0/2^r+X.getD (i+1) 0*2^u+X.getD (i+2) 0*2^v:=by
 have e0:val X/2^(32*i+r)=val (X.drop i)/2^r:=by
  rw [E6,show (32*i+r)/32=i by omega,show (32*i+r) % 32=r by omega,CF hX]
 rw [e0] at hlt⊢
 rw [CP X i,CP X (i+1),CP X (i+1+1)] at hlt⊢
 have hB:(4294967296:Nat)=2^r*2^u:=by rw [←Nat.pow_add,hu,show r+(32-r)=32 by omega]
 have hV:(2:Nat)^v=2^u*4294967296:=by rw [show (4294967296:Nat)=2^32 from rfl,←Nat.pow_add,hu,hv];congr 1;omega
 have hu0:2≤(2:Nat)^u:=by
  have:=Nat.pow_le_pow_right (show 0<2 by omega) (show 1≤u by omega)
  simpa using this
 have hp:0<(2:Nat)^r:=Nat.pow_pos (by omega)
 rw [show i+1+1=i+2 by omega] at hlt⊢
 generalize val (X.drop (i+2+1))=c at*
 generalize X.getD i 0=l0 at*
 generalize X.getD (i+1) 0=l1 at*
 generalize X.getD (i+2) 0=l2 at*
 have e1:l0+4294967296*(l1+4294967296*(l2+4294967296*c))=l0+2^r*(2^u*(l1+4294967296*(l2+4294967296*c))):=by
  rw [←Nat.mul_assoc (2^r),←hB]
 rw [e1,Nat.add_mul_div_left _ _ hp] at hlt⊢
 rw [hV]
 generalize (2:Nat)^u=U at*
 generalize l0/2^r=a at*
 have e2:U*(l1+4294967296*(l2+4294967296*c))=l1*U+l2*(U*4294967296)+U*(18446744073709551616*c):=by
  clear hlt e1 hB hV hu0 e0
  grind
 rw [e2] at hlt⊢
 rcases Nat.eq_zero_or_pos c with h|h
 ·rw [h];omega
 ·exfalso
  have h1:=Nat.mul_le_mul hu0 (show 18446744073709551616≤18446744073709551616*c by omega)
  omega
theorem Mu {l0 l1 l2 r u v n:Nat} (b0:l0<4294967296) (b1:l1<4294967296) (hr:r<32) (hu:u=32-r) (hv:v=64-r) (hn:n=l0/2^r+l1*2^u+l2*2^v) (hlt:n<4611686018427387904):
  wrap64 (bits .or .u64 (bits .or .u64 ((l0:Int)/2^r) (IntKind.u64.wrap ((l1:Int)*2^min u 64))) (IntKind.u64.wrap ((l2:Int)*2^min v 64)))=(n:Int):=by
 rw [Nat.min_eq_left (by omega),Nat.min_eq_left (by omega)]
 have hB:(4294967296:Nat)=2^r*2^u:=by rw [←Nat.pow_add,hu,show r+(32-r)=32 by omega]
 have hV:(2:Nat)^v=4294967296*2^u:=by rw [show (4294967296:Nat)=2^32 from rfl,←Nat.pow_add,hu,hv];congr 1;omega
 have e0:((l0:Int)/2^r)=((l0/2^r:Nat):Int):=by rw [Int.natCast_ediv,Int.natCast_pow];rfl
 have e1:((l1:Int)*2^u)=((l1*2^u:Nat):Int):=by rw [Int.natCast_mul,Int.natCast_pow];rfl
 have e2:((l2:Int)*2^v)=((l2*2^v:Nat):Int):=by rw [Int.natCast_mul,Int.natCast_pow];rfl
 have h0:l0/2^r<2^u:=Nat.div_lt_of_lt_mul (by omega)
 have o1:=JI (x:=l1) h0
 have h1:l0/2^r+l1*2^u<2^v:=by
  rw [hV]
  have:=Nat.mul_le_mul_right (2^u) (show l1+1≤4294967296 from b1)
  rw [Nat.add_mul,Nat.one_mul] at this
  omega
 have o2:=JI (x:=l2) h1
 rw [e0,e1,e2]
 generalize l0/2^r=a at*
 generalize l1*2^u=b at*
 generalize l2*2^v=c at*
 rw [IntWalk.u64_in (b:Int) (by omega),IntWalk.u64_in (c:Int) (by omega),bits_or_u64_nat a b (by omega) (by omega),o1,bits_or_u64_nat (a+b) c (by omega) (by omega),o2,←hn]
 unfold wrap64
 omega
theorem GQ {P:Program} {f:FuncId} {args:Array Value} {v:Value} {W:World} (c: ∀n,Calls P f args (W.drewN n) fun e w'=>e= .returned v∧w'=W.drewN n) (n:Nat):
  Calls P f args (W.drewN n) fun e w''=>e= .returned v∧ ∃m,w''=W.drewN m:=by
 refine (c n).mono ?_
 rintro e w' ⟨he,hw⟩
 exact ⟨he,n,hw⟩
theorem Uc (g:Nat) (ao:Option Addr) (ac i:Nat) (X:List Nat) (w:World) (hg:w.cell? ⟨g,0,none⟩=some (.slice ao X.length ac)) (hs:Sl w ao X) (hx:Ai X) (_hi:i<4611686018427387904) (_hl:X.length≤1099511627776):
  Calls Tryz.prog 310 #[.int .i64 (i:Nat),.pointer (some ⟨g,0,none⟩)] w fun e w'=>e= .returned (.int .u64 (X.getD i 0:Nat))∧w'=w:=by
 by_cases h:i<X.length
 ·obtain ⟨b,off,x,rfl,hcell,hxb,HX⟩:=hs.at hx i h
  have HE:=Yt HX.out
  clear hs hx HX
  go_enter Tryz.func310,Tryz.ntmps310
  go_wp2
  go_ret
  exact ⟨BS (by rw [HE.out]),rfl⟩
 ·have e:X.getD i 0=0:=by simp [List.getD,List.getElem?_eq_none (Nat.le_of_not_lt h)]
  rw [e]
  clear hs hx e
  go_enter Tryz.func310,Tryz.ntmps310
  go_wp2
  go_ret
  exact ⟨rfl,rfl⟩
set_option maxRecDepth 20000 in
theorem Jd (a:Value) (X:List Nat) (i r:Nat) (w:World) (ha:Rd w a X) (hr:r<32) (hi:32*i+r≤1099511627776) (hl:X.length≤1099511627776) (hlt:val X/2^(32*i+r)<4611686018427387904):
  Calls Tryz.prog 305 #[a,.int .i64 (32*i+r:Nat)] w fun e w'=>e= .returned (.int .i64 (val X/2^(32*i+r):Nat))∧Kp w w':=by
 obtain ⟨ao,ac,rfl,a1,a2,a3,a4⟩:=ha
 obtain ⟨F,hF⟩: ∃F,F=32*i+r:=⟨_,rfl⟩
 have hd:(F:Int)/32=(i:Int):=by omega
 have hd2:(F:Int).tdiv 32=(i:Int):=by rw [show (32:Int)=((32:Nat):Int) from rfl,GH];omega
 have hm:(F:Int) % 32=(r:Int):=by omega
 obtain ⟨n,hn⟩: ∃n,n=val X/2^(32*i+r):=⟨_,rfl⟩
 have hsum:=fun hu hv=>Ot (u:=32-r) (v:=64-r) a3 hr hu hv hlt
 have hsum:=hsum rfl rfl
 rw [←hn] at hsum hlt⊢
 rw [←hF]
 obtain ⟨W,hW⟩: ∃W,W=w.alloc (Obj.cells #[Value.slice ao X.length ac] 32):=⟨_,rfl⟩
 have KW:Kp w W:=by rw [hW];exact Kp.alloc _ _
 have hg:W.cell? ⟨w.heap.size,0,none⟩=some (.slice ao X.length ac):=by rw [hW];simp [World.cell?_alloc_new]
 have hL: ∀(n j:Nat),j<4611686018427387904→Calls Tryz.prog 310 #[.int .i64 (j:Nat),.pointer (some ⟨w.heap.size,0,none⟩)] (W.drewN n) fun e w'=>e= .returned (.int .u64 (X.getD j 0:Nat))∧w'=W.drewN n:=
  fun n j hj=>Uc w.heap.size ao ac j X (W.drewN n) hg (a4.kp (KW.drewN n)) a3 hj (by omega)
 have h0:=fun n=>hL n i (by omega)
 have h1:=fun n=>hL n (i+1) (by omega)
 have h2:=fun n=>hL n (i+2) (by omega)
 rw [show ((i+1:Nat):Int)=(i:Int)+1 by omega] at h1
 rw [show ((i+2:Nat):Int)=(i:Int)+2 by omega] at h2
 obtain ⟨l0,hl0⟩: ∃l,l=X.getD i 0:=⟨_,rfl⟩
 obtain ⟨l1,hl1⟩: ∃l,l=X.getD (i+1) 0:=⟨_,rfl⟩
 obtain ⟨l2,hl2⟩: ∃l,l=X.getD (i+2) 0:=⟨_,rfl⟩
 rw [←hl0] at h0
 rw [←hl1] at h1
 rw [←hl2] at h2
 rw [hW] at h0 h1 h2
 have H0:=Yt h0
 have H1:=Yt h1
 have H2:=Yt h2
 have b0:l0<4294967296:=by rw [hl0];exact a3.getD _
 have b1:l1<4294967296:=by rw [hl1];exact a3.getD _
 have b2:l2<4294967296:=by rw [hl2];exact a3.getD _
 have hw1:IntKind.i64.wrap ((i:Int)+1)=(i:Int)+1:=by rw [IntKind.wrap_i64];omega
 have hw2:IntKind.i64.wrap ((i:Int)+2)=(i:Int)+2:=by rw [IntKind.wrap_i64];omega
 have hw3:IntKind.i64.wrap (32-(r:Int))=((32-r:Nat):Int):=by rw [IntKind.wrap_i64];omega
 have hw4:IntKind.i64.wrap (64-(r:Int))=((64-r:Nat):Int):=by rw [IntKind.wrap_i64];omega
 obtain ⟨u,hu⟩: ∃u,u=32-r:=⟨_,rfl⟩
 obtain ⟨v,hv⟩: ∃v,v=64-r:=⟨_,rfl⟩
 rw [←hu] at hw3
 rw [←hv] at hw4
 rw [←hl0,←hl1,←hl2,←hu,←hv] at hsum
 have HB:=Yt (Mu b0 b1 hr hu hv hsum hlt)
 have HL0:=Yt hl0
 have HL1:=Yt hl1
 have HL2:=Yt hl2
 have HU:=Yt hu
 have HV:=Yt hv
 clear hF hL h0 h1 h2 hW hg KW hl0 hl1 hl2 hu hv hsum hn
 go_enter Tryz.func305,Tryz.ntmps305
 go_wp2
 try rw [hm]
 go_quiet (first
  | (with_reducible exact GQ H0.out _)
  | (with_reducible exact GQ H1.out _)
  | (with_reducible exact GQ H2.out _))
 go_wp2
 go_ret
 exact ⟨BS HB.out,Kp.drewN (Kp.alloc _ _) _⟩
end Go.Proofs.YtfineedhebhpaaaGreatDoor
namespace Go.Proofs.YtfineedhebhpaaaGreatDoor
open Nat renaming le_refl→Yu
open Lib renaming hid→Yt
set_option maxHeartbeats 16000000
open Go.RowKit Go.Shelf
def VY:Go.Shelf.Ren:=⟨fun|4=>299|n=>n,fun|20=>20|22=>32|25=>31|0=>0|3=>3|4=>4|9=>9|n=>n,fun|n=>n⟩
theorem Ui:Lays8.n4 Tryz.prog VY:= {
 mixed:=by kernel_rfl
 f4:=⟨"slices.Grow[[]uint32,uint32]",by decide,Tryz.func299.trans (congrArg some (by kernel_rfl))⟩
 t0:=Tryz.underlying0
 a0:=Tryz.isAgg0
 z0:=Tryz.sizeOf0
 v0:=Tryz.zeroValue0
 t3:=Tryz.underlying3
 a3:=Tryz.isAgg3
 z3:=Tryz.sizeOf3
 v3:=Tryz.zeroValue3
 t4:=Tryz.underlying4
 a4:=Tryz.isAgg4
 z4:=Tryz.sizeOf4
 v4:=Tryz.zeroValue4
 t9:=Tryz.underlying9
 a9:=Tryz.isAgg9
 z9:=Tryz.sizeOf9
 v9:=Tryz.zeroValue9
 t20:=Tryz.underlying20
 a20:=Tryz.isAgg20
 z20:=Tryz.sizeOf20
 v20:=Tryz.zeroValue20
 t22:=Tryz.underlying32
 a22:=Tryz.isAgg32
 z22:=Tryz.sizeOf32
 v22:=Tryz.zeroValue32 }
theorem I9 (n:Nat):(Builtin.zeroCells (Value.int .u32 0).cells n).toList=cellsOf (List.replicate n 0):=by
 apply List.ext_getElem?
 intro i
 rw [show (Value.int .u32 0).cells= #[Value.int .u32 0] from rfl]
 simp only [Builtin.zeroCells,Array.toList_map,List.getElem?_map,cellsOf,Array.toList_range,List.getElem?_replicate]
 by_cases h:i<n
 ·simp [h,Nat.mod_one]
  rfl
 ·simp [h]
theorem Uh (n:Nat) (h0:0<n) (hn:n≤1099511627776) (w:World):
  Calls Tryz.prog 299 #[.slice none 0 0,.int .i64 (n:Nat)] w fun e w'=> ∃g c,e= .returned (.slice (some ⟨g,0,none⟩) 0 c)∧n≤c∧c≤maxLen∧w.heap.size≤g∧Own w' 31 g (List.replicate c 0)∧Kp w w':=by
 obtain ⟨i0,hi,hz0,hz1,hz2⟩:=info_parts BT
 refine (Any8.slices_Grow_grow Ui i0 (.int .u32 0) hi hz0 (by rw [hz1];omega) none 0 0 n [] w (Yu _) (by omega) (by rw [hz2];omega) (by omega) (by simp) (fun _=>rfl) (fun a h=>by cases h)).mono ?_
 rintro e w1 ⟨rfl,rfl⟩
 have hge:=grownCap_ge w (0+n) 0 31
 have hle:=grownCap_le_maxLen w (0+n) 0 31 (by unfold maxLen;omega)
 refine ⟨w.heap.size,grownCap w (0+n) 0 31,rfl,by omega,hle,Yu _,?_,(show Kp w w.drew from (Below.refl _ _).drew).tr (Kp.alloc _ _)⟩
 show Own (w.drew.alloc (.cells ((([]:List Value).toArray)++Builtin.zeroCells (Value.int .u32 0).cells (0+n-0)++Builtin.zeroCells (Value.int .u32 0).cells (grownCap w (0+n) 0 31-(0+n))) 31)) 31 w.heap.size _
 obtain ⟨c,hc⟩: ∃c,c=grownCap w (0+n) 0 31:=⟨_,rfl⟩
 rw [←hc] at hge⊢
 clear hc hle
 have e:(([]:List Value).toArray)++Builtin.zeroCells (Value.int .u32 0).cells (0+n-0)++Builtin.zeroCells (Value.int .u32 0).cells (c-(0+n))=(cellsOf (List.replicate c 0)).toArray:=by
  apply Array.ext'
  rw [Array.toList_append,Array.toList_append,I9,I9]
  simp only [cellsOf,List.nil_append,List.map_replicate,List.replicate_append_replicate]
  rw [show 0+n-0+(c-(0+n))=c by omega]
 rw [e]
 exact Own.alloc_new w.drew 31 (List.replicate c 0)
def lay (xs:List Nat) (k:Nat):List Nat→List Nat
 | []=>xs
 | t::ts=>lay (xs.set k t) (k+1) ts
theorem JO (xs:List Nat) (k:Nat) (ts:List Nat):(lay xs k ts).length=xs.length:=by
 induction ts generalizing xs k with
 | nil=>rfl
 | cons t ts ih=>rw [lay,ih,List.length_set]
theorem KX {xs ts:List Nat} (k:Nat) (h:Ai xs) (ht:Ai ts):Ai (lay xs k ts):=by
 induction ts generalizing xs k with
 | nil=>exact h
 | cons t ts ih=>exact ih _ (h.set _ _ ht.head) ht.tail
theorem NR (xs:List Nat) (k:Nat) (ts:List Nat) (h:k+ts.length≤xs.length):(lay xs k ts).take (k+ts.length)=xs.take k++ts:=by
 induction ts generalizing xs k with
 | nil=>simp [lay]
 | cons t ts ih=>
   rw [List.length_cons] at h⊢
   rw [lay,show k+(ts.length+1)=k+1+ts.length by omega,ih _ _ (by rw [List.length_set];omega),CT _ _ (by rw [List.length_set];omega),List.take_set_of_le (Yu _)]
   simp [List.getD,show k<xs.length by omega]
theorem Own.setCells {w:World} {e:TypeId} {g:Nat} {xs:List Nat} (h:Own w e g xs) (k:Nat) (ts:List Nat):Own (w.setCells g k (cellsOf ts)) e g (lay xs k ts)∧Ci g w (w.setCells g k (cellsOf ts)):=by
 induction ts generalizing w xs k with
 | nil=>exact ⟨h,Ci.refl _ _⟩
 | cons t ts ih=>
   obtain ⟨h1,h2⟩:=ih (h.set k t) (k+1)
   exact ⟨h1,((Ci.refl g w).setCell k _).trans h2⟩
theorem E8 {P:Program} {w:World} {ops:Array Oper} {rest:List Oper} {o:Oper} {a:Act} {Q:Exit→Act→World→Prop} (hgd:o.guard=none) (s x:Operand) (t:TypeId)
  (ho:o.op= .call { callee:= .builtin .append,args:= #[s,x],argTypes:= #[t,t] }) (v u v':Value) (w':World) (hs:a.eval s=v) (hx:a.eval x=u)
  (hr:(Builtin.append_ #[t,t] o.type #[v,u]).run P w= .ok v' w') (h:wpList P ops Q rest (a.put o.dst v') w'):wpList P ops Q (o::rest) a w:=by
 refine wpList_plain hgd fun K hK=>?_
 unfold Oper.wp execOp
 simp only [ho,resolve,invoke,builtin,Sem.run_bind,Sem.run_pure,Result.andThen_ok,List.map_toArray,List.map_cons,List.map_nil,hs,hx,hr]
 exact hK _ _ h
theorem Kg (ty:TypeId) {w:World} {g:Nat} {P:List Nat} (h:Own w 31 g P) {k cap b o m c:Nat} {B:List Nat} (hm:B.length=m) (hs:Sl w (some ⟨b,o,none⟩) B) (hr:k+m≤cap) (hP:k+m≤P.length):
  (Builtin.append_ #[32,32] ty #[.slice (some ⟨g,0,none⟩) k cap,.slice (some ⟨b,o,none⟩) m c]).run Tryz.prog w= .ok (.slice (some ⟨g,0,none⟩) (k+m) cap) (w.setCells g k (cellsOf B)):=by
 obtain ⟨i0,hi,hz0,hz1,hz2⟩:=info_parts BT
 have hl:(cellsOf B).length=m*i0.size:=by rw [Du,hm,hz1,Nat.mul_one]
 have:=run_append_room_cells (P:=Tryz.prog) w 32 ty 31 i0 AZ hi g 0 k cap ⟨b,o,none⟩ m c (cellsOf B) hl (by
   intro j u hj
   obtain ⟨a',ha',hc'⟩:=hs.news (by rcases Nat.eq_zero_or_pos (cellsOf B).length with e|e;(rw [List.length_eq_zero_iff.1 e] at hj;simp at hj);exact e)
   obtain rfl:=Option.some.inj ha'
   exact hc' j u hj) (A9 _) hr
  (by
   intro j hj
   rw [hz1,Nat.mul_one,Nat.zero_add,h.cell (k+j) (by rw [hl,hz1,Nat.mul_one] at hj;omega)]
   rfl)
  (by
   intro j hj
   rw [hz1,Nat.mul_one,Nat.zero_add]
   exact h.frozen (k+j))
 rw [hz1,Nat.mul_one,Nat.zero_add] at this
 exact this
def FK (k a b:Nat):Nat:=match k with
 | 0=>0
 | 1=>a
 | _=>a+b
def Ym (k:Nat) (A B:List Nat):List Nat:=match k with
 | 0=> []
 | 1=>A
 | _=>A++B
set_option maxRecDepth 20000 in
theorem PI (gs ba oa ca bb ob cb:Nat) (A B:List Nat) (w:World) (h0:w.cell? ⟨gs,0,none⟩=some (.slice (some ⟨ba,oa,none⟩) A.length ca)) (h1:w.cell? ⟨gs,1,none⟩=some (.slice (some ⟨bb,ob,none⟩) B.length cb))
  (hA:Sl w (some ⟨ba,oa,none⟩) A) (hB:Sl w (some ⟨bb,ob,none⟩) B) (ha:Ai A) (hb:Ai B) (hA0:0<A.length) (hl:A.length+B.length≤1099511627776):
  Calls Tryz.prog 289 #[.slice (some ⟨gs,0,none⟩) 2 2] w fun e w'=> ∃g c P,e= .returned (.slice (some ⟨g,0,none⟩) (A.length+B.length) c)∧w.heap.size≤g∧Own w' 31 g P∧Ai P∧P.length=c∧A.length+B.length≤c∧c≤maxLen∧
   P.take (A.length+B.length)=A++B∧Kp w w':=by
 obtain ⟨la,hla⟩: ∃la,la=A.length:=⟨_,rfl⟩
 obtain ⟨lb,hlb⟩: ∃lb,lb=B.length:=⟨_,rfl⟩
 rw [←hla] at h0 hA0
 rw [←hlb] at h1
 rw [←hla,←hlb] at hl⊢
 have HA:=Yt hA
 have HB:=Yt hB
 have HLA:=Yt ha
 have HLB:=Yt hb
 have Hla:=Yt hla
 have Hlb:=Yt hlb
 have HG:=Yt (Uh (la+lb) (by omega) hl w)
 have hb0:=World.block_lt_of_cell? w _ h0
 clear hA hB ha hb hla hlb
 go_enter Tryz.func289,Tryz.ntmps289
 go_wp2
 go_loop [3,11] (fun sv i=> ∃k:Nat,k≤2∧i= .int .i64 k∧sv= .int .i64 (FK k la lb:Nat)) (fun _ i=>2-(intOf i).toNat)
 case atStart=>exact ⟨0,by omega,rfl,rfl⟩
 case round=>
  obtain ⟨k,hk,rfl,rfl⟩:=hrel
  rcases k with _|_|_|k
  ·have hc:FK 0 la lb=0:=rfl
   rw [hc]
   go_wp2
   go_round
   case rel=>exact ⟨1,by omega,by go_num,by go_num⟩
   case measure=>simp [intOf]
  ·have hc:FK (0+1) la lb=la:=rfl
   rw [hc]
   go_wp2
   go_round
   case rel=>exact ⟨2,by omega,by go_num,by go_num⟩
   case measure=>simp [intOf]
  ·have hc:FK (0+1+1) la lb=la+lb:=rfl
   rw [hc]
   go_wp2_with (go_at_call 299;refine HG.out.mono ?_;rintro e w1 ⟨g,c,rfl,hc1,hc2,hg,hO,K1⟩;refine Hid.out ?_)
   refine Yt ?_
   have HO:=Yt hO
   have hgw:g≠gs:=by omega
   clear hO
   go_wp2_with fail
   go_loopw [6,27] (fun v i wr=> ∃(k:Nat) (P:List Nat),k≤2∧i= .int .i64 k∧v= .slice (some ⟨g,0,none⟩) (FK k la lb) c∧Own wr 31 g P∧Ai P∧P.length=c∧P.take (FK k la lb)=Ym k A B∧Kp w wr) (fun _ i _=>2-(intOf i).toNat)
   case atStart=>exact ⟨0,List.replicate c 0,by omega,rfl,rfl,HO.out,Ai.replicate _,by simp,rfl,K1⟩
   case round=>
    obtain ⟨k,P,hk,rfl,rfl,hP,hPL,hPl,hPt,K2⟩:=hrel
    have HP:=Yt hP
    have HPL:=Yt hPL
    have HPl:=Yt hPl
    have HPt:=Yt hPt
    clear hP hPL hPl hPt
    have h0':=(K2.cell (p:=⟨gs,0,none⟩) hb0).trans h0
    have h1':=(K2.cell (p:=⟨gs,1,none⟩) hb0).trans h1
    rcases k with _|_|_|k
    ·have hc:FK 0 la lb=0:=rfl
     rw [hc]
     have HE:=Yt (Kg 32 HP.out (k:=0) (cap:=c) (c:=ca) Hla.out.symm (HA.out.kp K2) (by omega) (by rw [HPl.out];omega))
     have HSC:=Yt (HP.out.setCells 0 A)
     have HLT:=Yt (NR P 0 A (by rw [HPl.out,←Hla.out];omega))
     go_wp2_with (at_builtin;refine E8 rfl _ _ _ (by rfl) _ _ _ _ (by rfl) (by rfl) HE.out ?_)
     go_roundw
     case rel=>exact ⟨1,lay P 0 A,by omega,by go_num,rfl,HSC.out.1,KX 0 HPL.out HLA.out,by rw [JO];exact HPl.out,by have h:=HLT.out;rw [Nat.zero_add,←Hla.out,List.take_zero,List.nil_append] at h;exact h,HSC.out.2.kp K2 hg⟩
     case measure=>simp [intOf]
    ·have hc:FK (0+1) la lb=la:=rfl
     rw [hc]
     have HE:=Yt (Kg 32 HP.out (k:=la) (cap:=c) (c:=cb) Hlb.out.symm (HB.out.kp K2) (by omega) (by rw [HPl.out];omega))
     have HSC:=Yt (HP.out.setCells la B)
     have HLT:=Yt (NR P la B (by rw [HPl.out,←Hlb.out];omega))
     go_wp2_with (at_builtin;refine E8 rfl _ _ _ (by rfl) _ _ _ _ (by rfl) (by rfl) HE.out ?_)
     go_roundw
     case rel=>exact ⟨2,lay P la B,by omega,by go_num,rfl,HSC.out.1,KX la HPL.out HLB.out,by rw [JO];exact HPl.out,by have h:=HLT.out;have h2:=HPt.out;rw [hc] at h2;rw [←Hlb.out,h2] at h;exact h,HSC.out.2.kp K2 hg⟩
     case measure=>simp [intOf]
    ·have hc:FK (0+1+1) la lb=la+lb:=rfl
     rw [hc]
     go_wp2
     go_ret
     exact ⟨g,c,P,rfl,hg,HP.out,HPL.out,HPl.out,hc1,hc2,HPt.out,K2⟩
    ·omega
  ·omega
end Go.Proofs.YtfineedhebhpaaaGreatDoor
