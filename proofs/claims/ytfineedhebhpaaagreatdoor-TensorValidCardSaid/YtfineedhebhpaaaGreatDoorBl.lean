/-
  Several texts in one: Qs, Qw, Qr.
-/
import Derived.Test.YtfineedhebhpaaaGreatDoorBb
import Derived.Test.YtfineedhebhpaaaGreatDoorBa
import Derived.Test.YtfineedhebhpaaaGreatDoorBd
import Derived.Test.YtfineedhebhpaaaGreatDoorBj
import Derived.Test.YtfineedhebhpaaaGreatDoorShelf
namespace Go.Proofs.YtfineedhebhpaaaGreatDoor
open Lib renaming hid→Yt
open Nat renaming le_refl→Yu
set_option maxHeartbeats 16000000
open Go.RowKit
theorem TD {k:IntKind} {a b:Int} {p q:Bool} (h:a=b) (h2:p=q):Ending.returned (.tuple #[.int k a,.bool p])= .returned (.tuple #[.int k b,.bool q]):=by rw [h,h2]
set_option maxRecDepth 20000 in
theorem DC (x y:Nat) (hx:x<18446744073709551616) (hy:y<18446744073709551616) (w:World):
  Calls Tryz.prog 260 #[.int .u64 (x:Nat),.int .u64 (y:Nat)] w fun e w'=>e= .returned (.tuple #[.int .u64 (x*y % 18446744073709551616:Nat),.bool (decide (x*y<18446744073709551616))])∧w'=w:=by
 have HM:=Yt (Tryz.bits_Mul64 x y hx hy w)
 obtain ⟨p,hp⟩: ∃p,p=x*y:=⟨_,rfl⟩
 rw [←hp] at HM⊢
 obtain ⟨h,hh⟩: ∃h,h=p/18446744073709551616:=⟨_,rfl⟩
 obtain ⟨l,hl⟩: ∃l,l=p % 18446744073709551616:=⟨_,rfl⟩
 rw [←hh,←hl] at HM
 rw [←hl]
 have hd:((h:Int)==0)=decide (p<18446744073709551616):=by
  by_cases e:p<18446744073709551616
  ·rw [decide_eq_true e];exact beq_iff_eq.2 (by omega)
  ·rw [decide_eq_false e];exact beq_eq_false_iff_ne.2 (by omega)
 have HD:=Yt hd
 clear hd hp hh hl
 go_enter Tryz.func260,Tryz.ntmps260
 go_wp2_with (go_at_call 264;(with_reducible refine HM.out.mono ?_);rintro e w1 ⟨rfl,rfl⟩)
 go_wp2
 go_ret2
 exact ⟨TD rfl HD.out,rfl⟩
def Cx (neg:Bool) (n d:Nat):Value:= .agg #[.bool neg,.int .u64 (n:Nat),.int .u64 (d:Nat)]
set_option maxRecDepth 20000 in
theorem Km (a b:Bool) (n d m e:Nat) (hn:n<18446744073709551616) (hd:d<18446744073709551616) (hm:m<18446744073709551616) (he:e<18446744073709551616) (w:World):
  Calls Tryz.prog 223 #[Cx a n d,Cx b m e] w fun ex w'=> ∃k l:Nat,∃ok:Bool,ex= .returned (.tuple #[Cx false k l,.bool ok])∧k<18446744073709551616∧l<18446744073709551616∧(ok=true→k=n*m∧l=d*e)∧Kp w w':=by
 have HM1:=Yt (DC n m hn hm)
 have HM2:=Yt (DC d e hd he)
 unfold Cx
 obtain ⟨p,hp⟩: ∃p,p=n*m:=⟨_,rfl⟩
 obtain ⟨q,hq⟩: ∃q,q=d*e:=⟨_,rfl⟩
 rw [←hp] at HM1⊢
 rw [←hq] at HM2⊢
 clear hp hq
 obtain ⟨p1,hp1⟩: ∃z,z=decide (p<18446744073709551616):=⟨_,rfl⟩
 obtain ⟨q1,hq1⟩: ∃z,z=decide (q<18446744073709551616):=⟨_,rfl⟩
 obtain ⟨p2,hp2⟩: ∃z,z=p % 18446744073709551616:=⟨_,rfl⟩
 obtain ⟨q2,hq2⟩: ∃z,z=q % 18446744073709551616:=⟨_,rfl⟩
 rw [←hp1,←hp2] at HM1
 rw [←hq1,←hq2] at HM2
 have HP:=Yt (And.intro hp1 hp2)
 have HQ:=Yt (And.intro hq1 hq2)
 clear hp1 hq1 hp2 hq2
 have KA: ∀o1 o2 o3:Obj,Kp w (((w.alloc o1).alloc o2).alloc o3):=fun o1 o2 o3=>((Kp.alloc w o1).tr (Kp.alloc _ o2)).tr (Kp.alloc _ o3)
 have HKA:=Yt KA
 have hp2:p2<18446744073709551616:=by rw [HP.out.2];exact Nat.mod_lt _ (by omega)
 have hq2:q2<18446744073709551616:=by rw [HQ.out.2];exact Nat.mod_lt _ (by omega)
 have HP2:=Yt hp2
 have HQ2:=Yt hq2
 clear KA
 cases p1
 ·go_enter Tryz.func223,Tryz.ntmps223
  go_wp2_with (go_at_call 260;first|((with_reducible refine (HM1.out _).mono ?_);rintro e w1 ⟨rfl,rfl⟩)|((with_reducible refine (HM2.out _).mono ?_);rintro e w1 ⟨rfl,rfl⟩))
  go_wp2
  refine bodyPost_ret (v:= .tuple #[.agg #[.bool false,.int .u64 p2,.int .u64 q2],.bool false]) (by simp [results,Tryz.results223,go_sem]) rfl ⟨p2,q2,false,rfl,HP2.out,HQ2.out,fun h=>(by cases h),HKA.out _ _ _⟩
 ·go_enter Tryz.func223,Tryz.ntmps223
  go_wp2_with (go_at_call 260;first|((with_reducible refine (HM1.out _).mono ?_);rintro e w1 ⟨rfl,rfl⟩)|((with_reducible refine (HM2.out _).mono ?_);rintro e w1 ⟨rfl,rfl⟩))
  go_wp2
  refine bodyPost_ret (v:= .tuple #[.agg #[.bool false,.int .u64 p2,.int .u64 q2],.bool q1]) (by simp [results,Tryz.results223,go_sem]) rfl ⟨p2,q2,q1,rfl,HP2.out,HQ2.out,fun h=>?_,HKA.out _ _ _⟩
  have e1:=of_decide_eq_true HP.out.1.symm
  have e2:=of_decide_eq_true ((h▸HQ.out.1).symm)
  exact ⟨by rw [HP.out.2,Nat.mod_eq_of_lt e1],by rw [HQ.out.2,Nat.mod_eq_of_lt e2]⟩
theorem Rk {a b neg:Bool} {n d m e k l:Nat} (hd:d≠0) (he:e≠0) (hl:l=d*e) (hk:sg neg k=sg a (n*e)+sg b (m*d)):AE neg k l=AE a n d+AE b m e:=by
 unfold AE
 rw [Rat.mkRat_add_mkRat _ _ hd he,←Dj,←Dj,←hk,hl]
set_option maxRecDepth 20000 in
theorem J7 (y x:Nat) (hy:y<18446744073709551616) (hx:x<18446744073709551616) (h0:x≠0) (w:World) (hT:Tz w):
  Calls Tryz.prog 253 #[.int .u64 (y:Nat),.int .u64 (x:Nat)] w fun e w'=>e= .returned (.int .u64 (Nat.gcd x y:Nat))∧Kp w w':=by
 have hor:=bits_or_u64_nat y x hy hx
 rw [Nat.or_comm] at hor
 have hob:x ||| y<18446744073709551616:=Nat.or_lt_two_pow (n:=64) hx hy
 have ho0:x ||| y≠0:=by
  intro e
  apply h0
  apply Nat.eq_of_testBit_eq
  intro i
  have:=congrArg (fun z=>Nat.testBit z i) e
  simp at this
  simp [this.1]
 obtain ⟨z,hz⟩: ∃z,z=x ||| y:=⟨_,rfl⟩
 rw [←hz] at hor hob ho0
 obtain ⟨t,m,hzt,ht,hc1⟩:=Fd z hob ho0 w hT
 obtain ⟨a,u',hxa,ha,hc2⟩:=Fd x hx h0 w hT
 obtain ⟨u,hu⟩: ∃u,u=2*u'+1:=⟨_,rfl⟩
 rw [←hu] at hxa
 have hodd:u % 2=1:=by omega
 have hst:=La hxa hodd (hz▸hzt)
 have hxu:=IV hxa
 have hul:u≤x:=by rw [hxa];exact Nat.le_mul_of_pos_left _ (Nat.pow_pos (by omega))
 obtain ⟨g,hg⟩: ∃g,g=Nat.gcd x y:=⟨_,rfl⟩
 have hgx:g≤x:=by rw [hg];exact Nat.le_of_dvd (by omega) (Nat.gcd_dvd_left _ _)
 rw [←hg] at hst
 rw [←hg]
 have HST:=Yt hst
 have HC1:=Yt hc1
 have HC2:=Yt hc2
 have HT:=Yt hT
 have HOD:=Yt hodd
 have hu0:0<u:=by omega
 clear hst hc1 hc2 hT hodd hxa hzt hz hu hg
 go_enter Tryz.func253,Tryz.ntmps253
 go_wp2_with (go_at_call 278;first|((with_reducible refine HC1.out.mono ?_);rintro e w1 ⟨rfl,rfl⟩)|((with_reducible refine HC2.out.mono ?_);rintro e w1 ⟨rfl,rfl⟩))
 obtain ⟨w0,rfl⟩: ∃w0,w0=w1:=⟨_,rfl⟩
 go_loopw [0,1] (fun yv xv wr=> ∃X Y:Nat,xv= .int .u64 X∧yv= .int .u64 Y∧X<18446744073709551616∧Y<18446744073709551616∧0<X∧Hid (X % 2=1)∧Hid (Nat.gcd X Y=Nat.gcd u y)∧Kp w0 wr) (fun xv yv _=>(intOf xv+intOf yv).toNat)
 case atStart=>exact ⟨u,y,rfl,rfl,by omega,hy,hu0,HOD,Yt rfl,Below.refl _ _⟩
 case round=>
  obtain ⟨X,Y,rfl,rfl,hX,hY,hX0,HXo,HXg,K1⟩:=hrel
  by_cases hY0:Y=0
  ·have hfin:g=2^t*X:=by
    have h1:=HXg.out
    rw [hY0,Nat.gcd_zero_right] at h1
    rw [HST.out,←h1]
   have hsh:=Hc hfin (by omega)
   subst hY0
   clear hfin
   go_wp2
   go_ret
   exact ⟨rfl,K1⟩
  ·by_cases hX1:X=1
   ·have hfin:g=2^t*X:=by
     have h1:=HXg.out
     rw [hX1,Nat.gcd_one_left] at h1
     rw [HST.out,←h1,hX1]
    have hsh:=Hc hfin (by omega)
    have hy1:((Y:Int)==0)=false:=beq_eq_false_iff_ne.2 (by omega)
    have hx1:((X:Int)==1)=true:=beq_iff_eq.2 (by omega)
    have hy2:((Y:Int) !=0)=true:=by rw [bne_iff_ne];omega
    have hx2:((X:Int) !=1)=false:=by rw [hX1];rfl
    clear hfin hX1
    go_wp2
    go_ret
    exact ⟨rfl,K1⟩
   ·obtain ⟨b,v',hYb,hb,hc⟩:=Fd Y hY hY0 wr (HT.out.kp K1)
    obtain ⟨v,hv⟩: ∃v,v=2*v'+1:=⟨_,rfl⟩
    rw [←hv] at hYb
    have hvo:v % 2=1:=by omega
    have hvY:v≤Y:=by rw [hYb];exact Nat.le_mul_of_pos_left _ (Nat.pow_pos (by omega))
    have hsv:=IV hYb
    have hr:=Lb HXo.out hYb hvo
    have hv0:0<v:=by omega
    obtain ⟨mn,hmn⟩: ∃mn,mn=min X v:=⟨_,rfl⟩
    obtain ⟨mx,hmx⟩: ∃mx,mx=max X v:=⟨_,rfl⟩
    have hmn1:min (v:Int) (X:Int)=(mn:Int):=by omega
    have hmx1:max (v:Int) (X:Int)=(mx:Int):=by omega
    have hle:mn≤mx:=by omega
    have hmb:mx<18446744073709551616:=by omega
    have hm0:0<mn:=by omega
    rw [←hmn,←hmx] at hr
    have hlt:=hr.2.2
    have HR:=Yt hr
    have HC:=Yt hc
    have hy1:((Y:Int)==0)=false:=beq_eq_false_iff_ne.2 (by omega)
    have hx1:((X:Int)==1)=false:=beq_eq_false_iff_ne.2 (by omega)
    have hy2:((Y:Int) !=0)=true:=by rw [bne_iff_ne];omega
    have hx2:((X:Int) !=1)=true:=by rw [bne_iff_ne];omega
    clear hYb hvo hr hc hv hmn hmx
    go_wp2_with (go_at_call 278;refine HC.out.mono ?_;rintro e w1 ⟨rfl,rfl⟩)
    go_roundw
    case rel=>exact ⟨mn,mx-mn,by go_num,by go_num,by omega,by omega,hm0,Yt HR.out.2.1,Yt (HR.out.1.trans HXg.out),K1⟩
    case measure=>simp [intOf];omega
theorem G0 (v:Value) (X:List Nat) (w:World) (h:Rd w v X) (h2:X.length≤2):
  Calls Tryz.prog 259 #[v] w fun e w'=>e= .returned (.int .u64 (val X:Nat))∧w'=w:=by
 obtain ⟨ao,ac,rfl,a1,a2,a3,a4⟩:=h
 have A3:=Yt a3
 have hvl:=Cf a3
 have A4:=Yt a4
 clear a3 a4
 go_enter Tryz.func259,Tryz.ntmps259
 go_wp2
 go_loop [3,8] (fun nv i=> ∃k n:Nat,k≤X.length∧i= .int .i64 k∧nv= .int .u64 n∧n=val (X.take k)) (fun _ i=>X.length-(intOf i).toNat)
 case atStart=>exact ⟨0,0,Nat.zero_le _,rfl,rfl,rfl⟩
 case round=>
  obtain ⟨k,n,hk,rfl,rfl,hn⟩:=hrel
  have HN:=Yt hn
  clear hn
  by_cases hk1:k<X.length
  ·obtain ⟨ab,aoff,x,rfl,hcell,hx,HX⟩:=A4.out.at A3.out k hk1
   have hst:=Au X k
   rw [←HX.out,←HN.out] at hst
   have HST:=Yt hst
   clear hst
   rcases k with _|_|k
   ·have hn0:n=0:=HN.out
    subst hn0
    have hc0:w.cell? ⟨ab,aoff,none⟩=some (.int .u32 (x:Nat)):=hcell
    have hor:bits .or .u64 0 (x:Int)=(x:Int):=by
     have:=bits_or_u64_nat 0 x (by omega) (by omega)
     rw [Nat.zero_or] at this
     exact this
    clear hcell
    go_wp2
    go_round
    case rel=>exact ⟨1,x,hk1,by go_num,by go_num,by have:=HST.out;simp at this;simp [this]⟩
    case measure=>simp [intOf];omega
   ·have hn32:n<4294967296:=by
     have:=Cf (A3.out.take 1)
     rw [List.length_take,Nat.min_eq_left (by omega)] at this
     rw [HN.out]
     exact this
    have hor:=NB hn32 hx
    have hc1:w.cell? ⟨ab,aoff+1,none⟩=some (.int .u32 (x:Nat)):=hcell
    clear hcell
    go_wp2
    go_round
    case rel=>exact ⟨2,n+4294967296*x,hk1,by go_num,by go_num,by have:=HST.out;simpa using this.symm⟩
    case measure=>simp [intOf];omega
   ·omega
  ·obtain rfl:k=X.length:=by omega
   have hf:=HN.out
   rw [List.take_of_length_le (Yu _)] at hf
   have HF:=Yt hf
   clear hf
   go_wp2
   go_ret
   exact ⟨BS (by rw [HF.out]),rfl⟩
theorem L6 (ao:Option Addr) (l cap:Nat) (xs:List Nat) (w:World) (hl:xs.length=l) (hc1:l≤cap) (hm:cap≤maxLen) (hs:Sl w ao xs):
  Calls Tryz.prog 279 #[.slice ao l cap] w fun e w'=>e= .returned (.slice ao (Aq xs).length cap)∧w=w':=by
 subst hl
 unfold maxLen at hm
 go_enter Tryz.func279,Tryz.ntmps279
 go_wp2
 go_loop [3] (fun i=> ∃k:Nat,k≤xs.length∧i= .int .i64 k∧Aq (xs.take k)=Aq xs) (fun i=>(intOf i).toNat)
 case atStart=>exact ⟨xs.length,Yu _,rfl,by simp⟩
 case round=>
  obtain ⟨k,hk,rfl,ht⟩:=hrel
  have HT:=Yt ht
  clear ht
  by_cases hk0:0<k
  ·obtain ⟨b,off,rfl,hc⟩:=hs.cell (by omega)
   have hcell:=hc (k-1) (by omega)
   clear hc hs
   by_cases hz:xs.getD (k-1) 0=0
   ·have hzb:((((xs[k-1]?.getD 0:Nat):Int))==0)=true:=by simpa [List.getD] using hz
    have HZ:=Yt hz
    clear hz
    go_wp2
    go_round
    case rel=>exact ⟨k-1,by omega,by go_num,by rw [←Em xs k hk0 hk HZ.out];exact HT.out⟩
    case measure=>simp [intOf];omega
   ·have hzb:((((xs[k-1]?.getD 0:Nat):Int))==0)=false:=by simpa [List.getD] using hz
    have hl:(Aq xs).length=k:=by rw [←HT.out,FA xs k hk0 hk hz];simp;omega
    have HZ:=Yt hl
    clear hz hl
    go_wp2
    go_ret
    exact ⟨Gv HZ.out.symm,rfl⟩
  ·obtain rfl:k=0:=by omega
   have hl:(Aq xs).length=0:=by rw [←HT.out];rfl
   have HZ:=Yt hl
   clear hl
   go_wp2
   go_ret
   exact ⟨Gv HZ.out.symm,rfl⟩
set_option maxRecDepth 20000 in
theorem Jk (g o cap n:Nat) (e:TypeId) (P:List Nat) (w:World) (hO:Own w e g P) (hP:o+2≤P.length) (hc:2≤cap) (hm:cap≤maxLen) (hn:n<18446744073709551616):
  Calls Tryz.prog 254 #[.slice (some ⟨g,o,none⟩) 2 cap,.int .u64 (n:Nat)] w fun ex w'=>ex= .returned (.slice (some ⟨g,o,none⟩) (toL n).length cap)∧Own w' e g ((P.set o (n % 4294967296)).set (o+1) (n/4294967296))∧Ci g w w':=by
 have h0:=hO.cell o (by omega)
 have h1:=hO.cell (o+1) (by omega)
 have f0:=hO.frozen o
 have f1:=hO.frozen (o+1)
 obtain ⟨x0,hx0⟩: ∃x,x=P.getD o 0:=⟨_,rfl⟩
 obtain ⟨x1,hx1⟩: ∃x,x=P.getD (o+1) 0:=⟨_,rfl⟩
 rw [←hx0] at h0
 rw [←hx1] at h1
 have HO:=Yt ((hO.set o (n % 4294967296)).set (o+1) (n/4294967296))
 have HON:=Yt (((Ci.refl g w).setCell o (.int .u32 ((n % 4294967296:Nat):Int))).setCell (o+1) (.int .u32 ((n/4294967296:Nat):Int)))
 have hv:val [n % 4294967296,n/4294967296]=n:=by simp [val];omega
 have hL:Ai [n % 4294967296,n/4294967296]:=Ai.cons (by omega) (Ai.cons (by omega) Ai.nil)
 have ht:=BY hL
 rw [hv] at ht
 have HT:=Yt ht
 obtain ⟨a,ha⟩: ∃a,a=n % 4294967296:=⟨_,rfl⟩
 obtain ⟨b,hb⟩: ∃b,b=n/4294967296:=⟨_,rfl⟩
 rw [←ha,←hb] at HO HON HT
 have e1:(n:Int) % 4294967296=(a:Int):=by omega
 have e2:(n:Int)/4294967296=(b:Int):=by omega
 have e3:(b:Int) % 4294967296=(b:Int):=by omega
 obtain ⟨W,hW⟩: ∃W,W=(w.setCell ⟨g,o,none⟩ (.int .u32 (a:Int))).setCell ⟨g,o+1,none⟩ (.int .u32 (b:Int)):=⟨_,rfl⟩
 have HSL:Hid (Sl W (some ⟨g,o,none⟩) [a,b]):=by
  refine Yt (fun _=>⟨g,o,rfl,fun i hi=>?_⟩)
  have hOW:=HO.out
  rw [←hW] at hOW
  have hi2:i=0∨i=1:=by simp at hi;omega
  rcases hi2 with rfl|rfl
  ·rw [Nat.add_zero,hOW.cell o (by simp;omega)]
   simp [List.getD,show o<P.length by omega]
  ·rw [hOW.cell (o+1) (by simp;omega)]
   simp [List.getD,show o+1<P.length by omega]
 rw [←ha,←hb]
 have HM:=Yt (L6 (some ⟨g,o,none⟩) 2 cap [a,b] W rfl hc hm HSL.out)
 rw [←HT.out] at HM
 rw [hW] at HM
 unfold maxLen at hm
 clear hO hx0 hx1 ha hb hW HSL hv hL ht hn
 go_enter Tryz.func254,Tryz.ntmps254
 go_wp2_with (go_at_call 279;(with_reducible refine HM.out.mono ?_);rintro e w5 ⟨rfl,rfl⟩)
 go_wp2
 go_ret
 exact ⟨rfl,HO.out,HON.out⟩
theorem I0 {n:Nat} (hn:n<18446744073709551616):(toL n).length≤2:=Al n 2 (by simpa using hn)
theorem Vp {n:Nat} (hn:n<18446744073709551616) (i:Nat) (hi:i<(toL n).length):(i=0∧(toL n).getD i 0=n % 4294967296)∨(i=1∧(toL n).getD i 0=n/4294967296):=by
 have h2:=I0 hn
 have hn0:n≠0:=by rintro rfl;rw [Az] at hi;simp at hi
 have hi2:i=0∨i=1:=by omega
 rcases hi2 with rfl|rfl
 ·left
  rw [Dl n hn0]
  simp
 ·right
  refine ⟨rfl,?_⟩
  rw [Dl n hn0] at hi⊢
  have h3:n/4294967296≠0:=by
   intro e
   rw [e,Az] at hi
   simp at hi
  rw [Dl _ h3]
  simp
  omega
theorem Wy {w:World} {e:TypeId} {g o cap n:Nat} {P:List Nat} (hO:Own w e g P) (ho:o+2≤P.length) (h0:P.getD o 0=n % 4294967296) (h1:P.getD (o+1) 0=n/4294967296) (hn:n<18446744073709551616) (hc:2≤cap) (hm:cap≤maxLen):M w (.slice (some ⟨g,o,none⟩) (toL n).length cap) n:=by
 have h2:=I0 hn
 refine ⟨some ⟨g,o,none⟩,cap,rfl,by omega,hm,BG n,fun _=>⟨g,o,rfl,fun i hi=>?_⟩⟩
 rcases Vp hn i hi with ⟨rfl,e⟩|⟨rfl,e⟩
 ·rw [e,Nat.add_zero,hO.cell o (by omega),h0]
 ·rw [e,hO.cell (o+1) (by omega),h1]
set_option maxRecDepth 20000 in
theorem LM (neg:Bool) (n d:Nat) (hn:n<18446744073709551616) (hd:d<18446744073709551616) (h0:d≠0) (w:World) (hT:Tz w):
  Calls Tryz.prog 209 #[Cx neg n d] w fun e w'=> ∃v,e= .returned v∧Ax w' v (AE neg n d)∧Kp w w':=by
 unfold Cx
 have hcw:=J7 n d hn hd h0
 rw [Nat.gcd_comm] at hcw
 obtain ⟨G,hG⟩: ∃G,G=Nat.gcd n d:=⟨_,rfl⟩
 have hG0:G≠0:=by rw [hG];exact Nat.ne_of_gt (Nat.gcd_pos_of_pos_right _ (Nat.pos_of_ne_zero h0))
 have hGd:G∣d:=by rw [hG];exact Nat.gcd_dvd_right _ _
 have hcop:=F9 (n:=n) h0
 have hlow:=Ic neg (show G∣n by rw [hG];exact Nat.gcd_dvd_left _ _) hGd h0
 have hGl:G<18446744073709551616:=Nat.lt_of_le_of_lt (Nat.le_of_dvd (Nat.pos_of_ne_zero h0) hGd) hd
 rw [←hG] at hcw hcop
 have HCW:=Yt (fun w' (k:Kp w w')=>hcw w' (hT.kp k))
 obtain ⟨p,hp⟩: ∃p,p=n/G:=⟨_,rfl⟩
 obtain ⟨q,hq⟩: ∃q,q=d/G:=⟨_,rfl⟩
 have hpn:p≤n:=by rw [hp];exact Nat.div_le_self _ _
 have hqd:q≤d:=by rw [hq];exact Nat.div_le_self _ _
 have hq0:q≠0:=by rw [hq];exact Nat.ne_of_gt (Nat.div_pos (Nat.le_of_dvd (Nat.pos_of_ne_zero h0) hGd) (Nat.pos_of_ne_zero hG0))
 have htp:(n:Int).tdiv (G:Int)=(p:Int):=by rw [GH,hp]
 have htq:(d:Int).tdiv (G:Int)=(q:Int):=by rw [GH,hq]
 rw [←hp,←hq] at hcop hlow
 have hwp:IntKind.u64.wrap (p:Int)=(p:Int):=IntWalk.u64_in _ (by omega)
 have hwq:IntKind.u64.wrap (q:Int)=(q:Int):=IntWalk.u64_in _ (by omega)
 rw [←hlow]
 have HCOP:=Yt (And.intro hq0 hcop)
 obtain ⟨o1,ho1⟩: ∃o,o=Obj.cells #[Value.bool neg,Value.int IntKind.u64 (n:Int),Value.int IntKind.u64 (d:Int)] 170:=⟨_,rfl⟩
 obtain ⟨o2,ho2⟩: ∃o,o=Obj.cells #[Value.bool false,Value.slice none 0 0,Value.slice none 0 0] 34:=⟨_,rfl⟩
 have KW:Kp w ((w.alloc o1).alloc o2):=(Kp.alloc w o1).tr (Kp.alloc _ o2)
 have hX:((w.alloc o1).alloc o2).heap[w.heap.size]?=some (.cells #[Value.bool neg,Value.int IntKind.u64 (n:Int),Value.int IntKind.u64 (d:Int)] 170 (0,0)):=by
  rw [(Kp.alloc (w.alloc o1) o2).block _ (by simp),ho1]
  exact heap_alloc_new w _
 have HXB:=Yt (fun w' (k:Kp ((w.alloc o1).alloc o2) w')=>(show w'.cell? ⟨w.heap.size,0,none⟩=some (.bool neg)∧w'.cell? ⟨w.heap.size,1,none⟩=some (.int .u64 (n:Int))∧w'.cell? ⟨w.heap.size,2,none⟩=some (.int .u64 (d:Int)) from by
  have h:=(k.block _ (Array.getElem?_eq_some_iff.1 hX).1).trans hX
  exact ⟨cell_of_row w' _ 0 _ _ _ h,cell_of_row w' _ 1 _ _ _ h,cell_of_row w' _ 2 _ _ _ h⟩))
 have hR:=Res.new (w.alloc o1) (Value.bool false) (Value.slice none 0 0) (Value.slice none 0 0)
 rw [←ho2,show (w.alloc o1).heap.size=w.heap.size+1 by simp] at hR
 have HRES:=Yt hR
 have hWs:((w.alloc o1).alloc o2).heap.size=w.heap.size+2:=by simp
 have HCW1:=Yt (HCW.out _ KW)
 have HKW:=Yt KW
 rw [ho1,ho2] at HXB HRES hWs HCW1 HKW
 have HS:=Yt (fun w' g e P (hO:Own w' e g P) o cap (h1:o+2≤P.length) (h2:2≤cap) (h3:cap≤maxLen)=>And.intro (Jk g o cap p e P w' hO h1 h2 h3 (by omega)) (Jk g o cap q e P w' hO h1 h2 h3 (by omega)))
 have hplt:p<18446744073709551616:=by omega
 have hqlt:q<18446744073709551616:=by omega
 clear hcw hG hGd hcop hlow hGl HCW hp hq hpn hqd hq0 ho1 ho2 KW hX hR hT hn hd h0
 go_enter Tryz.func209,Tryz.ntmps209
 go_wp2_with (go_at_call 253;(with_reducible refine HCW1.out.mono ?_);rintro e w1 ⟨rfl,K1⟩;refine Hid.out ?_)
 refine Yt ?_
 obtain ⟨x0,x1,x2⟩:=HXB.out w1 K1
 have HK1:=Yt K1
 clear K1
 go_wp2_with fail
 obtain ⟨oa,hoa⟩: ∃o,o=Obj.cells #[Value.int IntKind.u32 0,Value.int IntKind.u32 0,Value.int IntKind.u32 0,Value.int IntKind.u32 0] 200:=⟨_,rfl⟩
 have hOA:Own (w1.alloc oa).drew 200 w1.heap.size [0,0,0,0]:=by rw [hoa];exact heap_alloc_new w1 _
 have HS1:=Yt (HS.out _ _ _ _ hOA 0 4 (by simp) (by omega) (by unfold maxLen;omega)).1
 have KA:Kp w1 (w1.alloc oa).drew:=(Kp.alloc w1 oa).drew
 rw [hoa] at HS1 KA
 have HKA:=Yt KA
 clear hOA hoa KA
 have hg3:w.heap.size+2≤w1.heap.size:=by have:=HK1.out.size;rw [hWs] at this;exact this
 have hG0i:((G:Int)==0)=false:=beq_eq_false_iff_ne.2 (by omega)
 obtain ⟨y0,y1,y2⟩:=HXB.out _ (HK1.out.tr HKA.out)
 go_region_with (go_at_call 254;(with_reducible refine HS1.out.mono ?_);rintro e w3 ⟨rfl,hO3,hN3⟩)
 have HK3:=Yt (hN3.kp (HK1.out.tr HKA.out) HK1.out.size)
 have HO3:=Yt hO3
 have HS2:=Yt (HS.out _ _ _ _ (show Own w3.drew 200 w1.heap.size _ from hO3) 2 2 (by simp) (by omega) (by unfold maxLen;omega)).2
 have hc3:w3.cell? ⟨w1.heap.size,2,none⟩=some (.int .u32 ((0:Nat):Int))∧w3.cell? ⟨w1.heap.size,3,none⟩=some (.int .u32 ((0:Nat):Int)):=⟨hO3.cell 2 (by simp),hO3.cell 3 (by simp)⟩
 obtain ⟨z0,z1,z2⟩:=HXB.out _ HK3.out
 clear hO3 hN3 y0 y1 y2 x0 x1 x2
 go_wp2_with fail
 go_region_with (go_at_call 254;(with_reducible refine HS2.out.mono ?_);rintro e w4 ⟨rfl,hO4,hN4⟩)
 have K4:=hN4.kp (HK3.out.drew) HK1.out.size
 have HK4:=Yt K4
 have MP:M w4 (.slice (some ⟨w1.heap.size,0,none⟩) (toL p).length 4) p:=Wy hO4 (by simp) (by simp) (by simp) hplt (by omega) (by unfold maxLen;omega)
 have MQ:M w4 (.slice (some ⟨w1.heap.size,2,none⟩) (toL q).length 2) q:=Wy hO4 (by simp) (by simp) (by simp) hqlt (by omega) (by unfold maxLen;omega)
 have HOO:=Yt (Gx (neg:=neg) MP MQ HCOP.out.1 HCOP.out.2 (Nat.le_trans (I0 hplt) (by omega)) (Nat.le_trans (I0 hqlt) (by omega)))
 obtain ⟨y0,y1,y2⟩:=HXB.out _ K4
 clear hO4 hN4 MP MQ z0 z1 z2 hc3 K4
 go_wp2_with (go_at_call 224;(with_reducible refine HOO.out.mono ?_);rintro e w5 ⟨vr,rfl,hvr,K5⟩;refine Hid.out ?_)
 refine Yt ?_
 obtain ⟨sgn,o3,l1,c1,o4,l2,c2,rfl⟩:=hvr.lit
 obtain ⟨⟨d0,d1,d2,f0,f1,f2⟩,HP,HV,HKF⟩:=Bz HRES.out HKW.out (HK4.out.tr K5) hvr (by omega)
 clear hvr K5
 go_wp2
 obtain ⟨k0,k1,k2⟩:=HP.out
 exact bodyPost_ret (v:= .agg #[.bool sgn,.slice o3 l1 c1,.slice o4 l2 c2]) (by simp [results,Tryz.results209,go_sem,k0,k1,k2]) rfl ⟨_,rfl,HV.out,HKF.out⟩
end Go.Proofs.YtfineedhebhpaaaGreatDoor
