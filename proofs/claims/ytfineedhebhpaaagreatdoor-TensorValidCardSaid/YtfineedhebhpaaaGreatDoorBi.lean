/-
  Several texts in one: RDivM, RSmall, RDiv, RDiv2, RGcd.
-/
import Derived.Test.YtfineedhebhpaaaGreatDoorBd
import Derived.Test.YtfineedhebhpaaaGreatDoorBg
import Derived.Test.YtfineedhebhpaaaGreatDoorBe
import Derived.Test.YtfineedhebhpaaaGreatDoorBf
namespace Go.Proofs.YtfineedhebhpaaaGreatDoor
open Nat renaming le_refl→Yu
open Lib renaming hid→Yt
set_option maxHeartbeats 16000000
theorem Vo {X:List Nat} (hX:Ai X) {m:Nat} (hlt:val X<4294967296^(m+2)):X.getD (m+1) 0*4294967296+X.getD m 0=val X/4294967296^m:=by
 have h:val (X.drop (m+1+1))=0:=by rw [CF hX];exact Nat.div_eq_of_lt hlt
 rw [←CF hX m,CP X m,CP X (m+1),h]
 omega
theorem SU (B:Nat):(toL B).getD ((toL B).length-1) 0=B/4294967296^((toL B).length-1):=by
 have e:=CF (BG B) ((toL B).length-1)
 rw [Ar] at e
 rw [←e,CP]
 have h:val ((toL B).drop ((toL B).length-1+1))=0:=by
  rw [List.drop_of_length_le (by omega)]
  rfl
 rw [h]
 omega
theorem Ug {R B k j v:Nat} (hv:v=B/4294967296^j) (hv0:0<v):R/(B*4294967296^k)≤R/4294967296^(k+j)/v:=by
 rw [Nat.div_div_eq_div_mul]
 refine Nat.div_le_div_left ?_ (Nat.mul_pos (Nat.pow_pos (by omega)) hv0)
 have h1:v*4294967296^j≤B:=by rw [hv];exact Nat.div_mul_le_self _ _
 have h2:=Nat.mul_le_mul_right (4294967296^k) h1
 rw [Nat.pow_add]
 generalize (4294967296:Nat)^k=K at*
 generalize (4294967296:Nat)^j=J at*
 have e:K*J*v=v*J*K:=by grind
 omega
theorem UB {R B k:Nat} (h:R<B*4294967296^(k+1)):R/(B*4294967296^k)<4294967296:=by
 refine Nat.div_lt_of_lt_mul ?_
 rw [Nat.mul_assoc,←Nat.pow_succ]
 exact h
theorem Fx (Q:List Nat) (k d:Nat) (hk:k<Q.length):val ((Q.set k d).drop k)=d+4294967296*val (Q.drop (k+1)):=by
 rw [Cm _ k (by rw [List.length_set];exact hk),EQ _ _ _ _ (by omega)]
 simp [val,List.getD,hk]
theorem Iv {R0 R B k V d:Nat} (hB:0<B) (hd:d=R/(B*4294967296^k)) (hv:R0=R+B*(4294967296^(k+1)*V)):
  R-B*d*4294967296^k<B*4294967296^k∧R0=(R-B*d*4294967296^k)+B*(4294967296^k*(d+4294967296*V))∧B*d*4294967296^k≤R:=by
 have hK:0<B*4294967296^k:=Nat.mul_pos hB (Nat.pow_pos (by omega))
 have h1:=Nat.div_add_mod R (B*4294967296^k)
 have h2:=Nat.mod_lt R hK
 rw [←hd] at h1
 have e1:B*4294967296^k*d=B*d*4294967296^k:=by rw [Nat.mul_right_comm]
 rw [e1] at h1
 refine ⟨by omega,?_,by omega⟩
 rw [hv,Nat.pow_succ]
 generalize (4294967296:Nat)^k=K at*
 have e2:B*(K*(d+4294967296*V))=B*d*K+B*(K*4294967296*V):=by grind
 omega
theorem JR {R B k d:Nat} (hB:0<B):R<B*d*4294967296^k↔R/(B*4294967296^k)<d:=by
 rw [Nat.div_lt_iff_lt_mul (Nat.mul_pos hB (Nat.pow_pos (by omega)))]
 rw [show d*(B*4294967296^k)=B*d*4294967296^k by grind]
theorem GV {B d K:Nat} :B*(d+1)*K-B*K=B*d*K:=by
 rw [Nat.mul_add,Nat.mul_one,Nat.add_mul,Nat.add_sub_cancel]
theorem PG {A B s R V:Nat} (hB:0<B) (h:A*2^s=R+B*2^s*V) (hR:R<B*2^s):V=A/B∧R/2^s=A % B:=by
 have hp:0<(2:Nat)^s:=Nat.pow_pos (by omega)
 have h1:A*2^s/(B*2^s)=V:=by
  rw [h,Nat.add_mul_div_left _ _ (Nat.mul_pos hB hp),Nat.div_eq_of_lt hR,Nat.zero_add]
 have h2:A*2^s % (B*2^s)=R:=by
  rw [h,Nat.add_mul_mod_self_left,Nat.mod_eq_of_lt hR]
 rw [Nat.mul_div_mul_right _ _ hp] at h1
 rw [Nat.mul_mod_mul_right] at h2
 exact ⟨h1.symm,by rw [←h2,Nat.mul_div_cancel _ hp]⟩
open Go.RowKit
theorem Rg {Z X:List Nat} (hX:Aq X=X) (h0:0<X.length):Aq (Z++X)=Z++X:=by
 have h1:=CT X (X.length-1) (by omega)
 rw [show X.length-1+1=X.length by omega,List.take_of_length_le (Yu _)] at h1
 rw [h1,←List.append_assoc,Jg _ _ (G4 hX h0)]
def New (base:Nat) (v:Value):Prop:= ∀b off sp l c,v= .slice (some ⟨b,off,sp⟩) l c→base≤b
def GK (g:Nat) (v:Value):Prop:= ∀b off sp l c,v= .slice (some ⟨b,off,sp⟩) l c→b≠g
theorem New.mono {a b:Nat} {v:Value} (h:New b v) (hab:a≤b):New a v:=fun x off sp l c e=>Nat.le_trans hab (h x off sp l c e)
theorem New.notIn {a g:Nat} {v:Value} (h:New a v) (hg:g<a):GK g v:=fun x off sp l c e=>by
 have:=h x off sp l c e
 omega
theorem Qo (base n c:Nat):New base (.slice none n c):=fun _ _ _ _ _ e=>by cases e
theorem JG {w:World} {base:Nat} {e:TypeId} {s:Nat} {v:Value} {n:Nat} {xs:List Value} (h:w.ownsRow base e s v n xs):New base v:=by
 rcases h.2 with ⟨rfl,_⟩|⟨g,cap,cur,rfl,hb,_⟩
 ·exact Qo _ _ _
 ·intro b off sp l c e
  obtain ⟨⟨rfl,_⟩,_⟩:(g=b∧_)∧_:=by simpa using e
  exact hb
theorem Rd.put {w:World} {v:Value} {xs:List Nat} {g:Nat} (h:Rd w v xs) (hn:GK g v) (j:Nat) (x:Value):Rd (w.setCell ⟨g,j,none⟩ x) v xs:=by
 obtain ⟨ao,cap,rfl,h1,h2,h3,h4⟩:=h
 refine ⟨ao,cap,rfl,h1,h2,h3,fun hne=>?_⟩
 obtain ⟨b,off,rfl,hc⟩:=h4 hne
 refine ⟨b,off,rfl,fun i hi=>?_⟩
 have hb:=hn b off none _ _ rfl
 have e:=((Ci.refl g w).setCell j x).block b hb
 have h5:=hc i hi
 rw [←h5]
 exact World.cell?_of_block e
theorem ST (v:Value) (xs:List Nat) (w:World) (hs:Rd w v xs) (hl:xs.length≤1099511627776):
  Calls Tryz.prog 194 #[v] w fun e w'=> ∃v',e= .returned v'∧Rd w' v' (Aq xs)∧New w.heap.size v'∧Kp w w':=by
 have hx:Ai xs:=by obtain ⟨_,_,_,_,_,h,_⟩:=hs;exact h
 refine (MI v xs w hs hl).mono ?_
 rintro e w' ⟨v',k,he,hO,K⟩
 exact ⟨v',he,Rd.owned hO (AP hx),JG hO,K⟩
set_option maxRecDepth 20000 in
theorem R7 (a b:Value) (X ys:List Nat) (w:World) (ha:Rd w a X) (hb:Rd w b ys) (hl:X.length≤1099511627776) (hyl:ys.length≤X.length) (hle:val ys≤val X):
  Calls Tryz.prog 228 #[a,b] w fun e w'=> ∃v',e= .returned v'∧Rd w' v' (toL (val X-val ys))∧New w.heap.size v'∧Kp w w':=by
 obtain ⟨i0,hi,hz0,hz1,hz2⟩:=info_parts BT
 obtain ⟨ao,ac,rfl,a1,a2,a3,a4⟩:=ha
 obtain ⟨bo,bc,rfl,b1,b2,b3,b4⟩:=hb
 have A3:=Yt a3
 have B3:=Yt b3
 have HLE:=Yt hle
 unfold maxLen at a2 b2
 clear a3 b3 hle
 go_enter Tryz.func228,Tryz.ntmps228
 go_wp2_with (at_make;refine wpList_make_full _ rfl _ _ 32 rfl w.heap.size 31 i0 (.int .u32 0) 1 AZ hi hz0 hz1 _ _ _ _ X.length rfl rfl rfl rfl (by rw [hz2];omega) (by unfold maxLen;omega) (Yu _) ?_;intro w1 hown hg;have O1:=Yt (Own.of_make hown);have K1:=(Below.refl w.heap.size w).grown hg (Yu _) (by intro j hj;cases hj);clear hown hg)
 go_loopw [6,7] (fun cv i wr=> ∃(k c:Nat) (O:List Nat),k≤X.length∧i= .int .i64 k∧cv= .int .u64 c∧c≤1∧Own wr 31 w.heap.size O∧O.length=X.length∧Ai O∧
  val (X.take k)+4294967296^k*c=val (O.take k)+val (ys.take k)∧Kp w wr) (fun _ i _=>X.length-(intOf i).toNat)
 case atStart=>exact ⟨0,0,List.replicate X.length 0,Nat.zero_le _,rfl,rfl,by omega,O1.out,by simp,Ai.replicate _,by simp [val],K1⟩
 case round=>
  obtain ⟨k,c,O,hk,rfl,rfl,hc,hO,hOl,hOL,hval,K3⟩:=hrel
  have HO:=Yt hO
  have HOl:=Yt hOl
  have HOL:=Yt hOL
  have HV:=Yt hval
  clear hO hOl hOL hval
  by_cases hk1:k<X.length
  ·obtain ⟨ab,aoff,x,rfl,hcell,hx,HX⟩:=(a4.kp K3).at A3.out k hk1
   obtain ⟨o,hcl,_,_⟩:=HO.out.at HOL.out k (by rw [HOl.out];exact hk1)
   have hfz:=HO.out.frozen k
   by_cases hk2:k<ys.length
   ·obtain ⟨bb,boff,y,rfl,hcell2,hy,HY⟩:=(b4.kp K3).at B3.out k hk2
    by_cases hlt:x<c+y
    ·go_wp2
     go_roundw
     case rel=>exact ⟨k+1,1,O.set k (x+4294967296-(c+y)),by omega,by go_num,rfl,by omega,by
      have h:=HO.out.set k (x+4294967296-(c+y))
      rw [show (((x+4294967296-(c+y):Nat)):Int)=(x:Int)+4294967296-((c:Int)+y) by omega] at h
      exact h,by rw [List.length_set];exact HOl.out,HOL.out.set _ _ (by omega),Di (by rw [HOl.out];exact hk1) HV.out HX.out HY.out (by omega),K3.setCell (Yu _) _⟩
     case measure=>simp [intOf];omega
    ·go_wp2
     go_roundw
     case rel=>exact ⟨k+1,0,O.set k (x-(c+y)),by omega,by go_num,rfl,by omega,by
      have h:=HO.out.set k (x-(c+y))
      rw [show (((x-(c+y):Nat)):Int)=(x:Int)-((c:Int)+y) by omega] at h
      exact h,by rw [List.length_set];exact HOl.out,HOL.out.set _ _ (by omega),Di (by rw [HOl.out];exact hk1) HV.out HX.out HY.out (by omega),K3.setCell (Yu _) _⟩
     case measure=>simp [intOf];omega
   ·have hy0:=Yt (CU ys k hk2)
    by_cases hlt:x<c
    ·go_wp2
     go_roundw
     case rel=>exact ⟨k+1,1,O.set k (x+4294967296-c),by omega,by go_num,rfl,by omega,by
      have h:=HO.out.set k (x+4294967296-c)
      rw [show (((x+4294967296-c:Nat)):Int)=(x:Int)+4294967296-(c:Int) by omega] at h
      exact h,by rw [List.length_set];exact HOl.out,HOL.out.set _ _ (by omega),Di (by rw [HOl.out];exact hk1) HV.out HX.out hy0.out (by omega),K3.setCell (Yu _) _⟩
     case measure=>simp [intOf];omega
    ·go_wp2
     go_roundw
     case rel=>exact ⟨k+1,0,O.set k (x-c),by omega,by go_num,rfl,by omega,by
      have h:=HO.out.set k (x-c)
      rw [show (((x-c:Nat)):Int)=(x:Int)-(c:Int) by omega] at h
      exact h,by rw [List.length_set];exact HOl.out,HOL.out.set _ _ (by omega),Di (by rw [HOl.out];exact hk1) HV.out HX.out hy0.out (by omega),K3.setCell (Yu _) _⟩
     case measure=>simp [intOf];omega
  ·obtain rfl:k=X.length:=by omega
   have HF:=Yt (Lv HOl.out HOL.out hyl HLE.out HV.out)
   have HRd:=HO.out.rd HOL.out X.length (by rw [HOl.out];exact Yu _) X.length (Yu _) (by unfold maxLen;omega)
   rw [List.take_of_length_le (by rw [HOl.out];exact Yu _)] at HRd
   have HTR:=Yt (ST _ O wr HRd (by rw [HOl.out];exact hl))
   have ht:=BY HOL.out
   rw [HF.out] at ht
   rw [←ht] at HTR
   clear ht HRd
   go_wp2_with (go_at_call 194;refine HTR.out.mono ?_;rintro e w4 ⟨v4,rfl,h4,hn4,K4⟩)
   go_ret
   exact ⟨_,rfl,h4,hn4.mono K3.size,K3.tr K4⟩
theorem Ei {w:World} {a b:Value} {m n:Nat} (ha:M w a m) (hb:M w b n) (hl:(toL m).length≤1099511627776) (hmn:n≤m):
  Calls Tryz.prog 228 #[a,b] w fun e w'=> ∃v',e= .returned v'∧M w' v' (m-n)∧New w.heap.size v'∧Kp w w':=by
 have:=R7 a b _ _ w ha hb hl (AM _ _ hmn) (by rw [Ar,Ar];exact hmn)
 rwa [Ar,Ar] at this
theorem TE {a b:Int} (h:a=b):Ending.returned (.tuple #[.int .u64 a,.bool true])= .returned (.tuple #[.int .u64 b,.bool true]):=by rw [h]
set_option maxRecDepth 20000 in
theorem DJ {w:World} {v:Value} {n:Nat} (h:M w v n) (h2:(toL n).length≤2):
  Calls Tryz.prog 231 #[v] w fun e w'=>e= .returned (.tuple #[.int .u64 (n:Nat),.bool true])∧Kp w w':=by
 obtain ⟨ao,ac,rfl,a1,a2,a3,a4⟩:=h
 have hv:=Ar n
 unfold maxLen at a2
 obtain ⟨X,hX⟩: ∃X,X=toL n:=⟨_,rfl⟩
 rw [←hX] at h2 a1 a3 a4 hv⊢
 clear hX
 match X,h2,a1,a3,a4,hv with
 | [],_,_,_,_,hv=>
   obtain rfl:n=0:=by simpa [val] using hv.symm
   clear hv
   go_enter Tryz.func231,Tryz.ntmps231
   go_wp2
   go_ret2
   exact ⟨rfl,Below.refl _ _⟩
 | [x],_,a1,a3,a4,hv=>
   obtain rfl:n=x:=by simpa [val] using hv.symm
   obtain ⟨b,off,y,rfl,hc,hy,HY⟩:=a4.at a3 0 (by simp)
   obtain rfl:y=n:=by have:=HY.out;simpa using this
   rw [Nat.add_zero] at hc
   clear hv a4 HY a3
   go_enter Tryz.func231,Tryz.ntmps231
   go_wp2
   go_ret2
   exact ⟨rfl,Below.refl _ _⟩
 | [x,y],_,a1,a3,a4,hv=>
   have hn:n=x+4294967296*y:=by simpa [val] using hv.symm
   obtain ⟨b,off,x',rfl,hc0,hx,HX⟩:=a4.at a3 0 (by simp)
   obtain rfl:x'=x:=by have:=HX.out;simpa using this
   obtain ⟨b2,off2,y',e2,hc1,hy,HY⟩:=a4.at a3 1 (by simp)
   obtain rfl:y'=y:=by have:=HY.out;simpa using this
   obtain ⟨rfl,rfl⟩:b=b2∧off=off2:=by simpa using e2
   rw [Nat.add_zero] at hc0
   have HB:=Yt (L0 hx hy)
   rw [←hn] at HB
   clear hv a4 HX HY a3 e2 hn
   go_enter Tryz.func231,Tryz.ntmps231
   go_wp2
   go_quiet (fail)
   go_wp2
   go_ret2
   exact ⟨TE HB.out,Kp.drewN (Below.refl _ _) _⟩
set_option maxRecDepth 20000 in
theorem Fi {w:World} {v:Value} {n:Nat} (h:M w v n) (h2:2<(toL n).length):
  Calls Tryz.prog 231 #[v] w fun e w'=>e= .returned (.tuple #[.int .u64 0,.bool false])∧w=w':=by
 obtain ⟨ao,ac,rfl,a1,a2,a3,a4⟩:=h
 unfold maxLen at a2
 obtain ⟨l,hl⟩: ∃l,l=(toL n).length:=⟨_,rfl⟩
 rw [←hl] at h2 a1⊢
 have e0:((l:Int)==0)=false:=beq_eq_false_iff_ne.2 (by omega)
 have e1:((l:Int)==1)=false:=beq_eq_false_iff_ne.2 (by omega)
 have e2:((l:Int)==2)=false:=beq_eq_false_iff_ne.2 (by omega)
 clear hl a3 a4
 go_enter Tryz.func231,Tryz.ntmps231
 go_wp2
 go_ret2
 exact ⟨rfl,rfl⟩
theorem Qa {d:Nat} (h:d<4294967296):Sz 1 d:=Al d 1 (by simpa using h)
set_option maxRecDepth 20000 in
theorem Lr {w:World} {a:Value} {m d:Nat} (ha:M w a m) {k:Nat} (hs:Sz k m) (hk:k≤549755813888) (hd:d<4294967296):
  Calls Tryz.prog 235 #[a,.int .u32 (d:Nat)] w fun e w'=> ∃v,e= .returned v∧M w' v (m*d)∧Kp w w':=by
 have HO:=Yt (Gt d w (by omega))
 have HM:=Yt (fun w' v (k:Kp w w') (hv:M w' v d)=>Co (ha.kp k) hv hs (Qa hd) hk (by omega))
 clear ha hs
 go_enter Tryz.func235,Tryz.ntmps235
 go_wp2_with (go_at_call 198;(with_reducible refine HO.out.mono ?_);rintro e w1 ⟨v1,rfl,h1,K1⟩;refine Hid.out ?_)
 refine Yt ?_
 have HM1:=Yt (HM.out w1 v1 K1 h1)
 clear h1
 go_wp2_with (go_at_call 127;(with_reducible refine HM1.out.mono ?_);rintro e w2 ⟨v2,rfl,h2,K2⟩;refine Hid.out ?_)
 refine Yt ?_
 go_wp2
 go_ret
 exact ⟨_,rfl,h2,K1.tr K2⟩
set_option maxRecDepth 20000 in
theorem Rq {w:World} {a:Value} {m q:Nat} (ha:M w a m) (hl:(toL m).length≤549755813888) (hq:q≤549755813888) (h0:m≠0):
  Calls Tryz.prog 234 #[a,.int .i64 (q:Nat)] w fun e w'=> ∃v,e= .returned v∧M w' v (m*4294967296^q)∧New w.heap.size v∧Kp w w':=by
 obtain ⟨i0,hi,hz0,hz1,hz2⟩:=info_parts BT
 obtain ⟨ao,ac,rfl,a1,a2,a3,a4⟩:=ha
 have hl0:0<(toL m).length:=by
  rcases Nat.eq_zero_or_pos (toL m).length with h|h
  ·exact absurd ((AU m).1 (List.length_eq_zero_iff.1 h)) h0
  ·exact h
 have hv:=Ar m
 have A3:=Yt a3
 have A4:=Yt a4
 unfold maxLen at a2
 obtain ⟨X,hX⟩: ∃X,X=toL m:=⟨_,rfl⟩
 rw [←hX] at A3 A4 a1 hl hl0 hv⊢
 have HV:=Yt hv
 have HX:=Yt hX
 have hne:((X.length:Int)==0)=false:=beq_eq_false_iff_ne.2 (by omega)
 clear a3 a4 hX hv
 go_enter Tryz.func234,Tryz.ntmps234
 go_wp2_with (first
  | (at_make;refine wpList_make_full _ rfl _ _ 32 rfl w.heap.size 31 i0 (.int .u32 0) 1 AZ hi hz0 hz1 _ _ _ _ q rfl rfl rfl rfl (by rw [hz2];omega) (by unfold maxLen;omega) (Yu _) ?_;intro w1 hown hg;have O1:=Yt (Iz hown);have K1:=(Below.refl w.heap.size w).grown hg (Yu _) (by intro j hj;cases hj);have HSRC:=Yt ((A4.out.kp K1).news);clear hown hg)
  | (at_builtin;refine AJ _ rfl (.tmp 9) (.tmp 10) 32 rfl w.heap.size 31 i0 (.int .u32 0) 1 4 AZ hi hz0 hz1 hz2 rfl (by decide) (.slice (some ⟨w.heap.size,0,none⟩) q q) q (cellsOf (List.replicate q 0)) rfl O1.out ao X.length ac (cellsOf X) rfl (by simp [cellsOf]) HSRC.out (A9 _) (by unfold maxLen;omega) (by omega) (by have:=K1.size;omega) ?_;intro v' w3 hown' hg3 _;refine Hid.out ?_))
 refine Yt ?_
 have K3:Kp w w3:=K1.grown hg3 (by have:=K1.size;omega) (fun b hb=>(O1.out.lt b hb).1)
 have HNW:=Yt (JG hown')
 have hr:M w3 v' (m*4294967296^q):=by
  rw [show cellsOf (List.replicate q 0)++cellsOf X=cellsOf (List.replicate q 0++X) by simp [cellsOf]] at hown'
  have hLL:Ai (List.replicate q 0++X):=(Ai.replicate q).append A3.out
  have h1:=Rd.owned hown' hLL
  have h2:=BY hLL
  rw [Rg (by rw [HX.out];exact Ca m) hl0,E9,HV.out,Nat.mul_comm] at h2
  unfold M
  rw [h2]
  exact h1
 have HR:=Yt hr
 clear hr hown' hg3
 go_wp2
 go_ret
 exact ⟨_,rfl,HR.out,HNW.out,K3⟩
theorem LA {w:World} {a:Value} {m q:Nat} (ha:M w a m) (h0:m=0):
  Calls Tryz.prog 234 #[a,.int .i64 (q:Nat)] w fun e w'=> ∃v,e= .returned v∧M w' v (m*4294967296^q)∧New w.heap.size v∧Kp w w':=by
 subst h0
 obtain ⟨ao,ac,rfl,a1,a2,a3,a4⟩:=ha
 rw [Az,Nat.zero_mul]
 clear a1 a2 a3 a4
 go_enter Tryz.func234,Tryz.ntmps234
 go_wp2
 go_ret
 exact ⟨_,rfl,m_nil _,Qo _ _ _,Below.refl _ _⟩
theorem Ds {w:World} {a:Value} {m q:Nat} (ha:M w a m) (hl:(toL m).length≤549755813888) (hq:q≤549755813888):
  Calls Tryz.prog 234 #[a,.int .i64 (q:Nat)] w fun e w'=> ∃v,e= .returned v∧M w' v (m*4294967296^q)∧New w.heap.size v∧Kp w w':=by
 by_cases h0:m=0
 ·exact LA ha h0
 ·exact Rq ha hl hq h0
theorem G6 {x:Nat} (hx:x<4294967296) (h0:x≠0):toL x= [x]:=by
 rw [Dl x h0,Nat.mod_eq_of_lt hx,Nat.div_eq_of_lt hx,Az]
theorem XZ {w:World} {b off c x:Nat} (hc:w.cell? ⟨b,off,none⟩=some (.int .u32 (x:Nat))) (hx:x<4294967296) (h0:x≠0) (h1:1≤c) (hm:c≤maxLen):M w (.slice (some ⟨b,off,none⟩) 1 c) x:=by
 unfold M
 rw [G6 hx h0]
 refine ⟨some ⟨b,off,none⟩,c,rfl,h1,hm,Ai.cons hx Ai.nil,fun _=>⟨b,off,rfl,fun i hi=>?_⟩⟩
 have:i=0:=by simpa using hi
 subst this
 simpa using hc
theorem XE {w:World} {a:Value} {m:Nat} (ha:M w a m) (hl:(toL m).length≤549755813888) (n:Nat) (hn:n≤1099511627776):
  Calls Tryz.prog 233 #[a,.int .i64 (n:Nat)] w fun e w'=> ∃v',e= .returned v'∧M w' v' (m*2^n)∧Kp w w':=by
 have h:=Ve a _ n w ha hl hn
 rwa [Ar] at h
theorem Xr {w:World} {a:Value} {m:Nat} (ha:M w a m) (hl:(toL m).length≤549755813888) (n:Nat) (hn:n≤35184372088832):
  Calls Tryz.prog 236 #[a,.int .i64 (n:Nat)] w fun e w'=> ∃v',e= .returned v'∧M w' v' (m/2^n)∧Kp w w':=by
 have h:=Si a _ n w ha hl hn
 rwa [Ar] at h
theorem LI {w:World} {a:Value} {m:Nat} (ha:M w a m) (hl:(toL m).length≤1099511627776):
  Calls Tryz.prog 194 #[a] w fun e w'=> ∃v',e= .returned v'∧M w' v' m∧Kp w w':=by
 have:=DW a _ w ha hl
 rwa [Ca] at this
theorem Mh {m n:Nat} (h:n≤m):decide (BZ m n<0)=false:=by
 apply decide_eq_false
 unfold BZ
 rw [if_neg (by omega)]
 split<;>omega
theorem J9 {m n:Nat} :(0<BZ m n)↔n<m:=by
 unfold BZ
 split
 ·omega
 ·split<;>omega
theorem Sx {x:Nat} (hx:x<4294967296) (h0:x≠0):C6 x≤32:=by
 rw [GE x (by rw [G6 hx h0];simp),G6 hx h0]
 have:=EU hx
 simpa using this
theorem XW {r x:Nat} (hr:r<4294967296) (hx:x<4294967296):bits .or .u64 ((r:Int)*4294967296) (x:Int)=((r*4294967296+x:Nat):Int):=by
 have h1:=bits_or_u64_nat (r*4294967296) x (by omega) (by omega)
 have h2:=JI (c:=x) (x:=r) (n:=32) (by omega)
 rw [Nat.or_comm] at h2
 rw [Int.natCast_mul] at h1
 rw [show (4294967296:Int)=((4294967296:Nat):Int) from rfl,h1,show (4294967296:Nat)=2^32 from rfl,h2,Nat.add_comm]
theorem OE {A' B':Nat} (hB:B'≠0) (hn:(toL B').length≤(toL A').length):A'<B'*4294967296^((toL A').length-(toL B').length+1):=by
 have h1:=Cw A'
 have h2:=ML B' hB
 have h3:=Nat.mul_le_mul_right (4294967296^((toL A').length-(toL B').length+1)) h2
 rw [←Nat.pow_add] at h3
 have h0:0<(toL B').length:=by
  rcases Nat.eq_zero_or_pos (toL B').length with h|h
  ·exact absurd ((AU B').1 (List.length_eq_zero_iff.1 h)) hB
  ·exact h
 rw [show (toL B').length-1+((toL A').length-(toL B').length+1)=(toL A').length by omega] at h3
 omega
set_option maxRecDepth 20000 in
theorem RO {w:World} {a b:Value} {A B:Nat} (ha:M w a A) (hb:M w b B) (hlA:(toL A).length≤1073741824) (h2:2≤(toL B).length) (h3:2<(toL A).length) (hBA:B≤A):
  Calls Tryz.prog 196 #[a,b] w fun e w'=> ∃q r,e= .returned (.tuple #[q,r,.int .i64 0])∧M w' q (A/B)∧M w' r (A % B)∧Kp w w':=by
 obtain ⟨i0,hi,hz0,hz1,hz2⟩:=info_parts BT
 have hlB:=Nat.le_trans (AM B A hBA) hlA
 have HC:=Yt (CO a b A B w ha hb)
 have hcv:=Mh hBA
 obtain ⟨cv,hcv0⟩: ∃cv,cv=BZ A B:=⟨_,rfl⟩
 rw [←hcv0] at HC hcv
 have HSA:=Yt (fun w' (k:Kp w w')=>Fi (ha.kp k) h3)
 have hB0:0<B:=by
  rcases Nat.eq_zero_or_pos B with h|h
  ·rw [h,Az] at h2;simp at h2
  ·exact h
 have htop:=G4 (Ca B) (by omega)
 have mA:=Yt ha
 have mB:=Yt hb
 obtain ⟨ao,ac,rfl,a1,a2,a3,a4⟩:=ha
 obtain ⟨bo,bc,rfl,b1,b2,b3,b4⟩:=hb
 obtain ⟨bb,boff,x,rfl,hcx,hx,HX⟩:=b4.at b3 ((toL B).length-1) (by omega)
 rw [←HX.out] at htop
 obtain ⟨la,hla⟩: ∃l,l=(toL A).length:=⟨_,rfl⟩
 obtain ⟨lb,hlb⟩: ∃l,l=(toL B).length:=⟨_,rfl⟩
 unfold maxLen at a2 b2
 rw [←hla] at a1 h3 HC HSA mA hlA⊢
 rw [←hlb] at b1 h2 HC mB hlB hcx⊢
 have MX:M w (.slice (some ⟨bb,boff+(lb-1),none⟩) (lb-(lb-1)) (bc-(lb-1))) x:=by
  rw [show lb-(lb-1)=1 by omega]
  exact XZ hcx hx htop (by omega) (by unfold maxLen;omega)
 have hbits:=Sx hx htop
 have HBI:=Yt (fun w' (k:Kp w w')=>RR _ x w' (MX.kp k) (by rw [G6 hx htop];simp))
 obtain ⟨bx,hbx⟩: ∃n,n=C6 x:=⟨_,rfl⟩
 rw [←hbx] at HBI hbits
 obtain ⟨s,hs⟩: ∃s,s=32-bx:=⟨_,rfl⟩
 have hsi:(32:Int)-(bx:Int)=(s:Int):=by omega
 have hs32:s≤32:=by omega
 have HUB:=Yt (fun w' (k:Kp w w')=>XE (mB.out.kp k) (by rw [←hlb];omega) s (by omega))
 have HUA:=Yt (fun w' (k:Kp w w')=>XE (mA.out.kp k) (by rw [←hla];omega) s (by omega))
 have hp2:0<(2:Nat)^s:=Nat.pow_pos (by omega)
 have hs2:Sz 2 (2^s):=by
  apply Al
  have:=Nat.pow_le_pow_right (show 0<2 by omega) hs32
  omega
 have hBs:B≤B*2^s:=Nat.le_mul_of_pos_right _ hp2
 have hAB:B*2^s≤A*2^s:=Nat.mul_le_mul_right _ hBA
 have hlR:(toL (A*2^s)).length≤la+2:=by rw [hla];exact Sz.mul (Nat.le_refl _) hs2
 have HEND:=Yt (fun R V=> @PG A B s R V hB0)
 obtain ⟨Q0,hQ0⟩: ∃q,q=A/B:=⟨_,rfl⟩
 obtain ⟨R1,hR1⟩: ∃q,q=A % B:=⟨_,rfl⟩
 rw [←hQ0,←hR1] at HEND⊢
 obtain ⟨B',hB'⟩: ∃q,q=B*2^s:=⟨_,rfl⟩
 obtain ⟨A',hA'⟩: ∃q,q=A*2^s:=⟨_,rfl⟩
 rw [←hB'] at HUB hBs hAB HEND
 rw [←hA'] at HUA hAB hlR HEND
 have hn2:lb≤(toL B').length:=by rw [hlb];exact AM _ _ hBs
 have hnl:=AM _ _ hAB
 have HST:=Yt (OE (A':=A') (B':=B') (by omega) hnl)
 have hB'0:0<B':=by omega
 have hnl2:(toL B').length≤(toL A').length:=hnl
 have hvt:=G4 (Ca B') (by omega)
 have hvd:=SU B'
 obtain ⟨lr,hlr⟩: ∃l,l=(toL A').length:=⟨_,rfl⟩
 obtain ⟨n,hn⟩: ∃l,l=(toL B').length:=⟨_,rfl⟩
 rw [←hlr,←hn] at HST hnl2
 rw [←hlr] at hlR
 rw [←hn] at hn2 hvt hvd
 have HLR:=Yt hlr
 have HLN:=Yt hn
 obtain ⟨cnt,hcnt⟩: ∃l,l=lr-n+1:=⟨_,rfl⟩
 rw [←hcnt] at HST
 clear hnl hla hlb hcv0 hs2 hBs hAB hBA hQ0 hR1 hB' hA' hbx hs hp2 a3 a4 b3 b4 HX hcx MX hlr hn mA mB hB0 htop
 go_enter Tryz.func196,Tryz.ntmps196
 go_wp2_with (go_at_call 88;(with_reducible refine HC.out.mono ?_);rintro e w1 ⟨rfl,K1⟩;refine Hid.out ?_)
 refine Yt ?_
 have HS1:=Yt (HSA.out w1 K1)
 go_wp2_with (go_at_call 231;(with_reducible refine HS1.out.mono ?_);rintro e w2 ⟨rfl,rfl⟩;refine Hid.out ?_)
 refine Yt ?_
 have HB1:=Yt (HBI.out w1 K1)
 go_wp2_with (go_at_call 232;(with_reducible refine HB1.out.mono ?_);rintro e w2 ⟨rfl,rfl⟩;refine Hid.out ?_)
 refine Yt ?_
 have HU1:=Yt (HUB.out w1 K1)
 go_wp2_with (go_at_call 233;(with_reducible refine HU1.out.mono ?_);rintro e w3 ⟨vb,rfl,hvb,K3⟩;refine Hid.out ?_)
 refine Yt ?_
 have HU2:=Yt (HUA.out w3 (K1.tr K3))
 go_wp2_with (go_at_call 233;(with_reducible refine HU2.out.mono ?_);rintro e w4 ⟨vr,rfl,hvr,K4⟩;refine Hid.out ?_)
 refine Yt ?_
 have MB4:=Yt (hvb.kp K4)
 have MA4:=Yt hvr
 have K0:=Yt ((K1.tr K3).tr K4)
 clear hvb hvr K1 K3 K4
 obtain ⟨vo,vc,eb,c1,c2,c3,c4⟩:=MB4.out
 obtain ⟨b2,off2,v,rfl,hcv2,hv32,HV⟩:=c4.at c3 ((toL B').length-1) (by rw [←HLN.out];omega)
 rw [←HLN.out] at eb c1 hcv2 HV
 rw [←HV.out] at hvt hvd
 have HVD:=Yt hvd
 have HCV:=Yt (fun w' (k:Kp w4 w')=>(k.cell (World.block_lt_of_cell? w4 _ hcv2)).trans hcv2)
 subst eb
 obtain ⟨ro,rc,er,r1,r2,r3,r4⟩:=MA4.out
 rw [←HLR.out] at er r1
 subst er
 unfold maxLen at c2 r2
 have hrs:=r4
 clear c3 c4 r3 r4 hcv2 HV hvd
 have hci:(lr:Int)-(n:Int)+1=(cnt:Int):=by omega
 go_wp2_with (at_make;refine wpList_make_full _ rfl _ _ 32 rfl w4.heap.size 31 i0 (.int .u32 0) 1 AZ hi hz0 hz1 _ _ _ _ cnt rfl rfl (by omega) (by omega) (by rw [hz2];omega) (by unfold maxLen;omega) (Yu _) ?_;intro w5 hown hg;have O1:=Yt (Own.of_make hown);have K5:=Yt ((Below.refl w4.heap.size w4).grown hg (Yu _) (by intro j hj;cases hj));clear hown hg)
 have HB2w:=Yt (fun w' (k:Kp w4 w')=>MB4.out.kp k)
 have HA2:=Yt (MA4.out.kp K5.out)
 clear MB4 MA4
 have HNI:Hid (GK w4.heap.size (.slice ro lr rc)):=by
  refine Yt ?_
  have h0:0<(toL A').length:=by rw [←HLR.out];omega
  obtain ⟨b9,off9,_,e9,hc9,_,_⟩:=hrs.at (BG A') 0 h0
  have h9:=World.block_lt_of_cell? w4 _ hc9
  intro b off sp l c e
  rw [e9] at e
  obtain ⟨⟨rfl,_⟩,_⟩:(b9=b∧_)∧_:=by simpa using e
  exact Nat.ne_of_lt h9
 clear hrs
 go_loopw [5,15] (fun rv kv wr=> ∃(j R:Nat) (Q:List Nat),j≤cnt∧kv= .int .i64 ((j:Int)-1)∧Hid (M wr rv R)∧Hid (R<B'*4294967296^j)∧Hid (Own wr 31 w4.heap.size Q)∧Hid (Ai Q)∧Hid (Q.length=cnt)∧
  Hid (A'=R+B'*(4294967296^j*val (Q.drop j)))∧Hid (GK w4.heap.size rv)∧Hid (Kp w4 wr)) (fun _ kv _=>(intOf kv+1).toNat)
 case atStart=>exact ⟨cnt,A',List.replicate cnt 0,Yu _,by go_num,HA2,HST,O1,Yt (Ai.replicate _),Yt (by simp),Yt (by simp [val]),HNI,K5⟩
 case round=>
  obtain ⟨j,R,Q,hj,rfl,HR,HRL,HQ,HQL,HQl,HRA,HRN,K6⟩:=hrel
  by_cases hj0:0<j
  ·obtain ⟨i,rfl⟩: ∃i,j=i+1:=⟨j-1,by omega⟩
   have hii:((i+1:Nat):Int)-1=(i:Int):=by omega
   rw [hii]
   obtain ⟨vo2,vc2,x1,x2,x3,x4,x5⟩:=HR.out
   subst x1
   have hRb:R<4294967296^(i+n-1+2):=by
    have h1:=HRL.out
    have h2:=Cw B'
    rw [←HLN.out] at h2
    have h3:=Nat.mul_lt_mul_of_pos_right h2 (Nat.pow_pos (show 0<4294967296 by omega):0<4294967296^(i+1))
    rw [←Nat.pow_add,show n+(i+1)=i+n-1+2 by omega] at h3
    omega
   have hT:=Vo (BG R) (m:=i+n-1) (by rw [Ar];exact hRb)
   rw [Ar,show i+n-1+1=i+n by omega] at hT
   have hg1:=Ug (R:=R) (k:=i) HVD.out (by omega)
   rw [show i+(n-1)=i+n-1 by omega] at hg1
   have hdl:=UB HRL.out
   obtain ⟨T,hTT⟩: ∃T,T=R/4294967296^(i+n-1):=⟨_,rfl⟩
   obtain ⟨dt,hdt⟩: ∃d,d=R/(B'*4294967296^i):=⟨_,rfl⟩
   rw [←hTT] at hT hg1
   rw [←hdt] at hg1 hdl
   obtain ⟨q0,hq0⟩: ∃d,d=T/v:=⟨_,rfl⟩
   rw [←hq0] at hg1
   obtain ⟨d0,hd0⟩: ∃d,d=min q0 4294967295:=⟨_,rfl⟩
   have hd0t:dt≤d0:=by omega
   have hd0l:d0<4294967296:=by omega
   have hTb:T<18446744073709551616:=by rw [←hT];have h1:=(BG R).getD (i+n);have h2:=(BG R).getD (i+n-1);omega
   have hmin:min (q0:Int) 4294967295=(d0:Int):=by omega
   have hib:i<cnt:=by omega
   have hcb:cnt≤1073741827:=by omega
   have hszk:(toL (4294967296^i)).length≤i+1:=Al _ _ (Nat.pow_lt_pow_right (by omega) (by omega))
   have hqT:q0≤T:=by rw [hq0];exact Nat.div_le_self _ _
   have hwq:IntKind.u64.wrap (q0:Int)=(q0:Int):=IntWalk.u64_in _ (by omega)
   have hdm:(d0:Int) % 4294967296=(d0:Int):=by omega
   have htd:(T:Int).tdiv (v:Int)=(q0:Int):=by rw [GH,hq0]
   obtain ⟨t1,ht1⟩: ∃t,t=(toL R).getD (i+n) 0:=⟨_,rfl⟩
   obtain ⟨t0,ht0⟩: ∃t,t=(toL R).getD (i+n-1) 0:=⟨_,rfl⟩
   have ht1b:t1<4294967296:=by rw [ht1];exact (BG R).getD _
   have ht0b:t0<4294967296:=by rw [ht0];exact (BG R).getD _
   rw [←ht1,←ht0] at hT
   have horT:=XW ht1b ht0b
   rw [hT] at horT
   obtain ⟨lx,hlx⟩: ∃l,l=(toL R).length:=⟨_,rfl⟩
   obtain ⟨wg,rfl⟩: ∃wg,wg=wr:=⟨_,rfl⟩
   have HCV2:=HCV.out wg K6.out
   unfold maxLen at x3
   have HDT:=Yt hdt
   have HB6:=Yt (HB2w.out wg K6.out)
   have hszd:(toL d0).length≤1:=Qa hd0l
   have hszp:=Es B' d0
   rw [←HLN.out] at hszp
   have HSZ:=Yt (show (toL (B'*d0)).length≤549755813888 by omega)
   have hszq:=Es (B'*d0) (4294967296^i)
   have HSZ2:=Yt (fun d (h:d≤d0)=>Nat.le_trans (AM (B'*d*4294967296^i) _ (Nat.mul_le_mul_right _ (Nat.mul_le_mul_left _ h))) (show (toL (B'*d0*4294967296^i)).length≤1099511627776 by omega))
   have HSZB:=Yt (show (toL B').length≤549755813888 by rw [←HLN.out];omega)
   clear hszd hszp hszq hszk
   have HX5:=Yt x5
   have HX4:=Yt x4
   have hlx2:=Yt hlx
   have hlxb:lx≤1099511627776:=by
    have h1:(toL R).length≤i+n-1+2:=Al _ _ hRb
    omega
   rw [←hlx] at x2 HR HRN⊢
   have hcases:(i+n<lx)∨(¬i+n<lx∧i+n-1<lx)∨(¬i+n<lx∧ ¬i+n-1<lx):=by omega
   rcases hcases with c1|⟨c1,c2⟩|⟨c1,c2⟩
   ·obtain ⟨rb,ro2,y1,e1,hc1,hy1,HY1⟩:=HX5.out.at HX4.out (i+n) (by rw [←hlx];exact c1)
    obtain ⟨rb',ro',y0,e0,hc0,hy0,HY0⟩:=HX5.out.at HX4.out (i+n-1) (by rw [←hlx];omega)
    subst e1
    obtain ⟨rfl,rfl⟩:rb=rb'∧ro2=ro':=by simpa using e0
    obtain rfl:y1=t1:=by rw [HY1.out,ht1]
    obtain rfl:y0=t0:=by rw [HY0.out,ht0]
    clear hj hii hRb hT hTT hg1 hq0 hd0 ht1 ht0 x4 x5 hlx HY1 HY0 e0 hdt hqT
    have HTM:=Yt (Lr HB6.out (k:=n) (by rw [HLN.out];exact Yu _) (by omega) hd0l)
    go_wp2_with (go_at_call 235;(with_reducible refine HTM.out.mono ?_);rintro e w7 ⟨v7,rfl,h7,K7⟩;refine Hid.out ?_)
    refine Yt ?_
    have HSH:=Yt (Ds (q:=i) h7 HSZ.out (by omega))
    go_wp2_with (go_at_call 234;(with_reducible refine HSH.out.mono ?_);rintro e w8 ⟨v8,rfl,h8,hn8,K8⟩;refine Hid.out ?_)
    refine Yt ?_
    have HP8:=Yt h8
    have HN8:=Yt (hn8.notIn (Nat.lt_of_lt_of_le HQ.out.lt K7.size))
    have HK8:=Yt (K7.tr K8)
    clear h7 h8 hn8 K7 K8
    have HD0:=Yt hd0t
    clear hd0t
    go_wp2_with fail
    go_loopw [17,18] (fun dv pv wr=> ∃d:Nat,dv= .int .u64 (d:Nat)∧d≤d0∧Hid (dt≤d)∧Hid (M wr pv (B'*d*4294967296^i))∧Hid (GK w4.heap.size pv)∧Hid (Kp wg wr)) (fun dv _ _=>(intOf dv).toNat)
    case atStart=>exact ⟨d0,rfl,Yu _,HD0,HP8,HN8,HK8⟩
    case round=>
     obtain ⟨d,rfl,hdd,HDD,HPV,HPN,HK9⟩:=hrel
     have HRW:=Yt (HR.out.kp HK9.out)
     have HCM:=Yt (CO _ _ (B'*d*4294967296^i) R wr HPV.out HRW.out)
     obtain ⟨c2,hc2⟩: ∃c,c=BZ (B'*d*4294967296^i) R:=⟨_,rfl⟩
     rw [←hc2] at HCM
     have hgt:0<c2↔dt<d:=by rw [hc2,J9,JR hB'0,←HDT.out]
     clear hc2
     by_cases hdt:dt<d
     ·have hc3:0<c2:=hgt.2 hdt
      obtain ⟨d',rfl⟩: ∃d',d=d'+1:=⟨d-1,by omega⟩
      have hdd':((d'+1:Nat):Int)-1=(d':Int):=by omega
      have hdw:IntKind.u64.wrap (d':Int)=(d':Int):=IntWalk.u64_in _ (by omega)
      have hd'd:d'<d0:=by omega
      have HDD':=Yt (show dt≤d' by omega)
      have HSF:=Yt (fun w' (k:Kp wr w')=>Ds (q:=i) ((HB6.out.kp HK9.out).kp k) HSZB.out (by omega))
      have HMI:=Yt (fun w' v (k:Kp wr w') (hv:M w' v (B'*4294967296^i))=>Ei (HPV.out.kp k) hv (HSZ2.out _ hdd) (Nat.mul_le_mul_right _ (Nat.le_mul_of_pos_right _ (Nat.succ_pos _))))
      rw [GV] at HMI
      clear hgt hdt
      go_wp2_with (go_at_call 88;(with_reducible refine HCM.out.mono ?_);rintro e w10 ⟨rfl,K10⟩;refine Hid.out ?_)
      refine Yt ?_
      have HSF1:=Yt (HSF.out w10 K10)
      go_wp2_with (go_at_call 234;(with_reducible refine HSF1.out.mono ?_);rintro e w11 ⟨v11,rfl,h11,_,K11⟩;refine Hid.out ?_)
      refine Yt ?_
      have HMI1:=Yt (HMI.out w11 v11 (K10.tr K11) h11)
      clear h11
      go_wp2_with (go_at_call 228;(with_reducible refine HMI1.out.mono ?_);rintro e w12 ⟨v12,rfl,h12,hn12,K12⟩;refine Hid.out ?_)
      refine Yt ?_
      have HM12:=Yt h12
      have HN12:=Yt (hn12.notIn (Nat.lt_of_lt_of_le HQ.out.lt (HK9.out.tr (K10.tr K11)).size))
      have HK12:=Yt (HK9.out.tr ((K10.tr K11).tr K12))
      clear h12 hn12 K10 K11 K12
      go_wp2_with fail
      go_roundw
      case rel=>exact ⟨d',by go_num,by omega,HDD',HM12,HN12,HK12⟩
      case measure=>simp [intOf]
     ·have hc3: ¬0<c2:=fun h=>hdt (hgt.1 h)
      obtain rfl:d=dt:=by have:=HDD.out;omega
      clear hgt hdt
      go_wp2_with (go_at_call 88;(with_reducible refine HCM.out.mono ?_);rintro e w10 ⟨rfl,K10⟩;refine Hid.out ?_)
      refine Yt ?_
      have K11:=K6.out.tr (HK9.out.tr K10)
      have HQ2:=Yt (HQ.out.kp (HK9.out.tr K10))
      have hqc:=HQ2.out.cell i (by rw [HQl.out];exact hib)
      have hqf:=HQ2.out.frozen i
      obtain ⟨oq,hoq⟩: ∃o,o=Q.getD i 0:=⟨_,rfl⟩
      rw [←hoq] at hqc
      have hoff:=Iv hB'0 HDT.out HRA.out
      have HW:Kp w4 (w10.setCell ⟨w4.heap.size,i,none⟩ (.int .u32 (d:Nat))):=K11.setCell (Yu _) _
      have HRX:=Yt ((HR.out.kp (HK9.out.tr K10)).put HRN.out i (.int .u32 (d:Nat)))
      have HPX:=Yt ((HPV.out.kp K10).put HPN.out i (.int .u32 (d:Nat)))
      have HQX:=Yt (HQ2.out.set i d)
      have HWX:=Yt HW
      have HKX:=Yt K10
      have hlR2:(toL R).length≤1099511627776:=by rw [←hlx2.out];exact hlxb
      have HMX:=Yt (Ei HRX.out HPX.out hlR2 hoff.2.2)
      have HOFF:=Yt hoff
      have hdm2:(d:Int) % 4294967296=(d:Int):=by omega
      clear K10 K11 HW hoff hlR2
      go_wp2_with (go_at_call 228;(with_reducible refine HMX.out.mono ?_);rintro e w12 ⟨v12,rfl,h12,hn12,K12⟩;refine Hid.out ?_)
      refine Yt ?_
      go_wp2_with fail
      go_roundw
      case rel=>exact ⟨i,R-B'*d*4294967296^i,Q.set i d,Nat.le_of_lt hib,rfl,Yt h12,Yt HOFF.out.1,Yt (HQX.out.kp K12),Yt (HQL.out.set _ _ (by omega)),Yt (by rw [List.length_set];exact HQl.out),
       Yt (by rw [Fx Q i d (by rw [HQl.out];exact hib)];exact HOFF.out.2.1),Yt (hn12.notIn (Nat.lt_of_lt_of_le HQ.out.lt (by have:=(HK9.out).size;have:=HKX.out.size;simp at*;omega))),Yt (HWX.out.tr K12)⟩
      case measure=>simp [intOf]
   ·obtain ⟨rb',ro',y0,e0,hc0,hy0,HY0⟩:=HX5.out.at HX4.out (i+n-1) (by rw [←hlx];omega)
    subst e0
    obtain rfl:y0=t0:=by rw [HY0.out,ht0]
    have ht10:t1=0:=by rw [ht1];exact (CU _ _ (by rw [←hlx];exact c1)).symm
    have hor0:bits .or .u64 0 (y0:Int)=(T:Int):=by rw [←horT,ht10];rfl
    clear hj hii hRb hT hTT hg1 hq0 hd0 ht1 ht0 x4 x5 hlx HY0 hdt hqT ht10 horT
    have HTM:=Yt (Lr HB6.out (k:=n) (by rw [HLN.out];exact Yu _) (by omega) hd0l)
    go_wp2_with (go_at_call 235;(with_reducible refine HTM.out.mono ?_);rintro e w7 ⟨v7,rfl,h7,K7⟩;refine Hid.out ?_)
    refine Yt ?_
    have HSH:=Yt (Ds (q:=i) h7 HSZ.out (by omega))
    go_wp2_with (go_at_call 234;(with_reducible refine HSH.out.mono ?_);rintro e w8 ⟨v8,rfl,h8,hn8,K8⟩;refine Hid.out ?_)
    refine Yt ?_
    have HP8:=Yt h8
    have HN8:=Yt (hn8.notIn (Nat.lt_of_lt_of_le HQ.out.lt K7.size))
    have HK8:=Yt (K7.tr K8)
    clear h7 h8 hn8 K7 K8
    have HD0:=Yt hd0t
    clear hd0t
    go_wp2_with fail
    go_loopw [17,18] (fun dv pv wr=> ∃d:Nat,dv= .int .u64 (d:Nat)∧d≤d0∧Hid (dt≤d)∧Hid (M wr pv (B'*d*4294967296^i))∧Hid (GK w4.heap.size pv)∧Hid (Kp wg wr)) (fun dv _ _=>(intOf dv).toNat)
    case atStart=>exact ⟨d0,rfl,Yu _,HD0,HP8,HN8,HK8⟩
    case round=>
     obtain ⟨d,rfl,hdd,HDD,HPV,HPN,HK9⟩:=hrel
     have HRW:=Yt (HR.out.kp HK9.out)
     have HCM:=Yt (CO _ _ (B'*d*4294967296^i) R wr HPV.out HRW.out)
     obtain ⟨c2,hc2⟩: ∃c,c=BZ (B'*d*4294967296^i) R:=⟨_,rfl⟩
     rw [←hc2] at HCM
     have hgt:0<c2↔dt<d:=by rw [hc2,J9,JR hB'0,←HDT.out]
     clear hc2
     by_cases hdt:dt<d
     ·have hc3:0<c2:=hgt.2 hdt
      obtain ⟨d',rfl⟩: ∃d',d=d'+1:=⟨d-1,by omega⟩
      have hdd':((d'+1:Nat):Int)-1=(d':Int):=by omega
      have hdw:IntKind.u64.wrap (d':Int)=(d':Int):=IntWalk.u64_in _ (by omega)
      have hd'd:d'<d0:=by omega
      have HDD':=Yt (show dt≤d' by omega)
      have HSF:=Yt (fun w' (k:Kp wr w')=>Ds (q:=i) ((HB6.out.kp HK9.out).kp k) HSZB.out (by omega))
      have HMI:=Yt (fun w' v (k:Kp wr w') (hv:M w' v (B'*4294967296^i))=>Ei (HPV.out.kp k) hv (HSZ2.out _ hdd) (Nat.mul_le_mul_right _ (Nat.le_mul_of_pos_right _ (Nat.succ_pos _))))
      rw [GV] at HMI
      clear hgt hdt
      go_wp2_with (go_at_call 88;(with_reducible refine HCM.out.mono ?_);rintro e w10 ⟨rfl,K10⟩;refine Hid.out ?_)
      refine Yt ?_
      have HSF1:=Yt (HSF.out w10 K10)
      go_wp2_with (go_at_call 234;(with_reducible refine HSF1.out.mono ?_);rintro e w11 ⟨v11,rfl,h11,_,K11⟩;refine Hid.out ?_)
      refine Yt ?_
      have HMI1:=Yt (HMI.out w11 v11 (K10.tr K11) h11)
      clear h11
      go_wp2_with (go_at_call 228;(with_reducible refine HMI1.out.mono ?_);rintro e w12 ⟨v12,rfl,h12,hn12,K12⟩;refine Hid.out ?_)
      refine Yt ?_
      have HM12:=Yt h12
      have HN12:=Yt (hn12.notIn (Nat.lt_of_lt_of_le HQ.out.lt (HK9.out.tr (K10.tr K11)).size))
      have HK12:=Yt (HK9.out.tr ((K10.tr K11).tr K12))
      clear h12 hn12 K10 K11 K12
      go_wp2_with fail
      go_roundw
      case rel=>exact ⟨d',by go_num,by omega,HDD',HM12,HN12,HK12⟩
      case measure=>simp [intOf]
     ·have hc3: ¬0<c2:=fun h=>hdt (hgt.1 h)
      obtain rfl:d=dt:=by have:=HDD.out;omega
      clear hgt hdt
      go_wp2_with (go_at_call 88;(with_reducible refine HCM.out.mono ?_);rintro e w10 ⟨rfl,K10⟩;refine Hid.out ?_)
      refine Yt ?_
      have K11:=K6.out.tr (HK9.out.tr K10)
      have HQ2:=Yt (HQ.out.kp (HK9.out.tr K10))
      have hqc:=HQ2.out.cell i (by rw [HQl.out];exact hib)
      have hqf:=HQ2.out.frozen i
      obtain ⟨oq,hoq⟩: ∃o,o=Q.getD i 0:=⟨_,rfl⟩
      rw [←hoq] at hqc
      have hoff:=Iv hB'0 HDT.out HRA.out
      have HW:Kp w4 (w10.setCell ⟨w4.heap.size,i,none⟩ (.int .u32 (d:Nat))):=K11.setCell (Yu _) _
      have HRX:=Yt ((HR.out.kp (HK9.out.tr K10)).put HRN.out i (.int .u32 (d:Nat)))
      have HPX:=Yt ((HPV.out.kp K10).put HPN.out i (.int .u32 (d:Nat)))
      have HQX:=Yt (HQ2.out.set i d)
      have HWX:=Yt HW
      have HKX:=Yt K10
      have hlR2:(toL R).length≤1099511627776:=by rw [←hlx2.out];exact hlxb
      have HMX:=Yt (Ei HRX.out HPX.out hlR2 hoff.2.2)
      have HOFF:=Yt hoff
      have hdm2:(d:Int) % 4294967296=(d:Int):=by omega
      clear K10 K11 HW hoff hlR2
      go_wp2_with (go_at_call 228;(with_reducible refine HMX.out.mono ?_);rintro e w12 ⟨v12,rfl,h12,hn12,K12⟩;refine Hid.out ?_)
      refine Yt ?_
      go_wp2_with fail
      go_roundw
      case rel=>exact ⟨i,R-B'*d*4294967296^i,Q.set i d,Nat.le_of_lt hib,rfl,Yt h12,Yt HOFF.out.1,Yt (HQX.out.kp K12),Yt (HQL.out.set _ _ (by omega)),Yt (by rw [List.length_set];exact HQl.out),
       Yt (by rw [Fx Q i d (by rw [HQl.out];exact hib)];exact HOFF.out.2.1),Yt (hn12.notIn (Nat.lt_of_lt_of_le HQ.out.lt (by have:=(HK9.out).size;have:=HKX.out.size;simp at*;omega))),Yt (HWX.out.tr K12)⟩
      case measure=>simp [intOf]
   ·have ht10:t1=0:=by rw [ht1];exact (CU _ _ (by rw [←hlx];exact c1)).symm
    have ht00:t0=0:=by rw [ht0];exact (CU _ _ (by rw [←hlx];exact c2)).symm
    have hT0:T=0:=by rw [←hT,ht10,ht00]
    subst hT0
    have hq00:q0=0:=by rw [hq0];exact Nat.zero_div _
    subst hq00
    have hmin0:min (0:Int) 4294967295=(d0:Int):=by omega
    have HTM:=Yt (Lr HB6.out (k:=n) (by rw [HLN.out];exact Yu _) (by omega) hd0l)
    clear hj hii hRb hT hTT hg1 hq0 hd0 ht1 ht0 x4 x5 hlx hdt hqT ht10 ht00 horT htd hwq hmin
    go_wp2_with (go_at_call 235;(with_reducible refine HTM.out.mono ?_);rintro e w7 ⟨v7,rfl,h7,K7⟩;refine Hid.out ?_)
    refine Yt ?_
    have HSH:=Yt (Ds (q:=i) h7 HSZ.out (by omega))
    go_wp2_with (go_at_call 234;(with_reducible refine HSH.out.mono ?_);rintro e w8 ⟨v8,rfl,h8,hn8,K8⟩;refine Hid.out ?_)
    refine Yt ?_
    have HP8:=Yt h8
    have HN8:=Yt (hn8.notIn (Nat.lt_of_lt_of_le HQ.out.lt K7.size))
    have HK8:=Yt (K7.tr K8)
    clear h7 h8 hn8 K7 K8
    have HD0:=Yt hd0t
    clear hd0t
    go_wp2_with fail
    go_loopw [17,18] (fun dv pv wr=> ∃d:Nat,dv= .int .u64 (d:Nat)∧d≤d0∧Hid (dt≤d)∧Hid (M wr pv (B'*d*4294967296^i))∧Hid (GK w4.heap.size pv)∧Hid (Kp wg wr)) (fun dv _ _=>(intOf dv).toNat)
    case atStart=>exact ⟨d0,rfl,Yu _,HD0,HP8,HN8,HK8⟩
    case round=>
     obtain ⟨d,rfl,hdd,HDD,HPV,HPN,HK9⟩:=hrel
     have HRW:=Yt (HR.out.kp HK9.out)
     have HCM:=Yt (CO _ _ (B'*d*4294967296^i) R wr HPV.out HRW.out)
     obtain ⟨c2,hc2⟩: ∃c,c=BZ (B'*d*4294967296^i) R:=⟨_,rfl⟩
     rw [←hc2] at HCM
     have hgt:0<c2↔dt<d:=by rw [hc2,J9,JR hB'0,←HDT.out]
     clear hc2
     by_cases hdt:dt<d
     ·have hc3:0<c2:=hgt.2 hdt
      obtain ⟨d',rfl⟩: ∃d',d=d'+1:=⟨d-1,by omega⟩
      have hdd':((d'+1:Nat):Int)-1=(d':Int):=by omega
      have hdw:IntKind.u64.wrap (d':Int)=(d':Int):=IntWalk.u64_in _ (by omega)
      have hd'd:d'<d0:=by omega
      have HDD':=Yt (show dt≤d' by omega)
      have HSF:=Yt (fun w' (k:Kp wr w')=>Ds (q:=i) ((HB6.out.kp HK9.out).kp k) HSZB.out (by omega))
      have HMI:=Yt (fun w' v (k:Kp wr w') (hv:M w' v (B'*4294967296^i))=>Ei (HPV.out.kp k) hv (HSZ2.out _ hdd) (Nat.mul_le_mul_right _ (Nat.le_mul_of_pos_right _ (Nat.succ_pos _))))
      rw [GV] at HMI
      clear hgt hdt
      go_wp2_with (go_at_call 88;(with_reducible refine HCM.out.mono ?_);rintro e w10 ⟨rfl,K10⟩;refine Hid.out ?_)
      refine Yt ?_
      have HSF1:=Yt (HSF.out w10 K10)
      go_wp2_with (go_at_call 234;(with_reducible refine HSF1.out.mono ?_);rintro e w11 ⟨v11,rfl,h11,_,K11⟩;refine Hid.out ?_)
      refine Yt ?_
      have HMI1:=Yt (HMI.out w11 v11 (K10.tr K11) h11)
      clear h11
      go_wp2_with (go_at_call 228;(with_reducible refine HMI1.out.mono ?_);rintro e w12 ⟨v12,rfl,h12,hn12,K12⟩;refine Hid.out ?_)
      refine Yt ?_
      have HM12:=Yt h12
      have HN12:=Yt (hn12.notIn (Nat.lt_of_lt_of_le HQ.out.lt (HK9.out.tr (K10.tr K11)).size))
      have HK12:=Yt (HK9.out.tr ((K10.tr K11).tr K12))
      clear h12 hn12 K10 K11 K12
      go_wp2_with fail
      go_roundw
      case rel=>exact ⟨d',by go_num,by omega,HDD',HM12,HN12,HK12⟩
      case measure=>simp [intOf]
     ·have hc3: ¬0<c2:=fun h=>hdt (hgt.1 h)
      obtain rfl:d=dt:=by have:=HDD.out;omega
      clear hgt hdt
      go_wp2_with (go_at_call 88;(with_reducible refine HCM.out.mono ?_);rintro e w10 ⟨rfl,K10⟩;refine Hid.out ?_)
      refine Yt ?_
      have K11:=K6.out.tr (HK9.out.tr K10)
      have HQ2:=Yt (HQ.out.kp (HK9.out.tr K10))
      have hqc:=HQ2.out.cell i (by rw [HQl.out];exact hib)
      have hqf:=HQ2.out.frozen i
      obtain ⟨oq,hoq⟩: ∃o,o=Q.getD i 0:=⟨_,rfl⟩
      rw [←hoq] at hqc
      have hoff:=Iv hB'0 HDT.out HRA.out
      have HW:Kp w4 (w10.setCell ⟨w4.heap.size,i,none⟩ (.int .u32 (d:Nat))):=K11.setCell (Yu _) _
      have HRX:=Yt ((HR.out.kp (HK9.out.tr K10)).put HRN.out i (.int .u32 (d:Nat)))
      have HPX:=Yt ((HPV.out.kp K10).put HPN.out i (.int .u32 (d:Nat)))
      have HQX:=Yt (HQ2.out.set i d)
      have HWX:=Yt HW
      have HKX:=Yt K10
      have hlR2:(toL R).length≤1099511627776:=by rw [←hlx2.out];exact hlxb
      have HMX:=Yt (Ei HRX.out HPX.out hlR2 hoff.2.2)
      have HOFF:=Yt hoff
      have hdm2:(d:Int) % 4294967296=(d:Int):=by omega
      clear K10 K11 HW hoff hlR2
      go_wp2_with (go_at_call 228;(with_reducible refine HMX.out.mono ?_);rintro e w12 ⟨v12,rfl,h12,hn12,K12⟩;refine Hid.out ?_)
      refine Yt ?_
      go_wp2_with fail
      go_roundw
      case rel=>exact ⟨i,R-B'*d*4294967296^i,Q.set i d,Nat.le_of_lt hib,rfl,Yt h12,Yt HOFF.out.1,Yt (HQX.out.kp K12),Yt (HQL.out.set _ _ (by omega)),Yt (by rw [List.length_set];exact HQl.out),
       Yt (by rw [Fx Q i d (by rw [HQl.out];exact hib)];exact HOFF.out.2.1),Yt (hn12.notIn (Nat.lt_of_lt_of_le HQ.out.lt (by have:=(HK9.out).size;have:=HKX.out.size;simp at*;omega))),Yt (HWX.out.tr K12)⟩
      case measure=>simp [intOf]
  ·obtain rfl:j=0:=by omega
   have hv:=HRA.out
   rw [Nat.pow_zero,Nat.one_mul,List.drop_zero] at hv
   have hl:=HRL.out
   rw [Nat.pow_zero,Nat.mul_one] at hl
   obtain ⟨e1,e2⟩:=HEND.out R (val Q) hv hl
   have hlr2:(toL R).length≤549755813888:=by
    have:=AM R B' (Nat.le_of_lt hl)
    rw [←HLN.out] at this
    omega
   have hrd:=HQ.out.rd HQL.out cnt (by rw [HQl.out];exact Yu _) cnt (Yu _) (by unfold maxLen;omega)
   rw [List.take_of_length_le (by rw [HQl.out];exact Yu _),hcnt] at hrd
   have htl:=BY HQL.out
   rw [e1] at htl
   have HTR:=Yt (fun w' (k:Kp wr w')=>DW _ Q w' (hrd.kp k) (by rw [HQl.out];omega))
   rw [←htl] at HTR
   have HDN:=Yt (fun w' (k:Kp wr w')=>Xr (HR.out.kp k) hlr2 s (by omega))
   rw [e2] at HDN
   clear hv hl e1 e2 hlr2 hrd htl
   have HTR1:=Yt (HTR.out wr (Below.refl _ _))
   go_wp2_with (go_at_call 194;(with_reducible refine HTR1.out.mono ?_);rintro e w20 ⟨vq,rfl,hq,K20⟩;refine Hid.out ?_)
   refine Yt ?_
   have HDN1:=Yt (HDN.out w20 K20)
   have HVQ:=Yt hq
   clear hq
   go_wp2_with (go_at_call 236;(with_reducible refine HDN1.out.mono ?_);rintro e w21 ⟨vr2,rfl,hr2,K21⟩;refine Hid.out ?_)
   refine Yt ?_
   go_wp2
   go_ret3
   exact ⟨_,_,rfl,HVQ.out.kp K21,hr2,(K0.out.tr K6.out).tr (K20.tr K21)⟩
set_option maxRecDepth 20000 in
theorem RQ {w:World} {a b:Value} {A B:Nat} (ha:M w a A) (hb:M w b B) (hlA:(toL A).length≤1073741824) (h:A<B):
  Calls Tryz.prog 196 #[a,b] w fun e w'=> ∃q r,e= .returned (.tuple #[q,r,.int .i64 0])∧M w' q (A/B)∧M w' r (A % B)∧Kp w w':=by
 have HC:=Yt (CO a b A B w ha hb)
 rw [CY h] at HC
 rw [Nat.div_eq_of_lt h,Nat.mod_eq_of_lt h]
 have HT:=Yt (fun w' (k:Kp w w')=>LI (ha.kp k) (by omega))
 have hB0:0<(toL B).length:=by
  rcases Nat.eq_zero_or_pos (toL B).length with e|e
  ·have:=(AU B).1 (List.length_eq_zero_iff.1 e)
   omega
  ·exact e
 obtain ⟨bo,bc,rfl,b1,b2,b3,b4⟩:=hb
 unfold maxLen at b2
 obtain ⟨lb,hlb⟩: ∃l,l=(toL B).length:=⟨_,rfl⟩
 rw [←hlb] at HC b1 hB0⊢
 have hne:((lb:Int)==0)=false:=beq_eq_false_iff_ne.2 (by omega)
 clear hlb b3 b4 h ha
 go_enter Tryz.func196,Tryz.ntmps196
 go_wp2_with (go_at_call 88;(with_reducible refine HC.out.mono ?_);rintro e w1 ⟨rfl,K1⟩;refine Hid.out ?_)
 refine Yt ?_
 have HT1:=Yt (HT.out w1 K1)
 go_wp2_with (go_at_call 194;(with_reducible refine HT1.out.mono ?_);rintro e w2 ⟨v2,rfl,h2,K2⟩;refine Hid.out ?_)
 refine Yt ?_
 go_wp2
 go_ret3
 exact ⟨_,_,rfl,m_nil _,h2,K1.tr K2⟩
set_option maxRecDepth 20000 in
theorem O7 {w:World} {a b:Value} {A B:Nat} (ha:M w a A) (hb:M w b B) (hlA:(toL A).length≤2) (hB:0<B) (h:B≤A):
  Calls Tryz.prog 196 #[a,b] w fun e w'=> ∃q r,e= .returned (.tuple #[q,r,.int .i64 0])∧M w' q (A/B)∧M w' r (A % B)∧Kp w w':=by
 have HC:=Yt (CO a b A B w ha hb)
 have hcv:=Mh h
 obtain ⟨cv,hcv0⟩: ∃cv,cv=BZ A B:=⟨_,rfl⟩
 rw [←hcv0] at HC hcv
 have hlB:=Nat.le_trans (AM _ _ h) hlA
 have HSA:=Yt (fun w' (k:Kp w w')=>DJ (ha.kp k) hlA)
 have HSB:=Yt (fun w' (k:Kp w w')=>DJ (hb.kp k) hlB)
 have hAlt:=FJ hlA
 have hB0:0<(toL B).length:=by
  rcases Nat.eq_zero_or_pos (toL B).length with e|e
  ·have:=(AU B).1 (List.length_eq_zero_iff.1 e)
   omega
  ·exact e
 obtain ⟨q,hq⟩: ∃q,q=A/B:=⟨_,rfl⟩
 obtain ⟨r,hr⟩: ∃r,r=A % B:=⟨_,rfl⟩
 have hqA:q≤A:=by rw [hq];exact Nat.div_le_self _ _
 have hrA:r<B:=by rw [hr];exact Nat.mod_lt _ hB
 rw [←hq,←hr]
 have htd:(A:Int).tdiv (B:Int)=(q:Int):=by rw [GH,hq]
 have htm:(A:Int).tmod (B:Int)=(r:Int):=by rw [hr];rfl
 have hqw:IntKind.u64.wrap (q:Int)=(q:Int):=IntWalk.u64_in _ (by omega)
 have hrw:IntKind.u64.wrap (r:Int)=(r:Int):=IntWalk.u64_in _ (by omega)
 have HOQ:=Yt (fun w'=>Gt q w' (by omega))
 have HOR:=Yt (fun w'=>Gt r w' (by omega))
 obtain ⟨bo,bc,rfl,b1,b2,b3,b4⟩:=hb
 unfold maxLen at b2
 obtain ⟨lb,hlb⟩: ∃l,l=(toL B).length:=⟨_,rfl⟩
 rw [←hlb] at HC HSB b1 hB0⊢
 have hne:((lb:Int)==0)=false:=beq_eq_false_iff_ne.2 (by omega)
 clear hlb b3 b4 h ha hq hr hcv0
 go_enter Tryz.func196,Tryz.ntmps196
 go_wp2_with (go_at_call 88;(with_reducible refine HC.out.mono ?_);rintro e w1 ⟨rfl,K1⟩;refine Hid.out ?_)
 refine Yt ?_
 have HS1:=Yt (HSA.out w1 K1)
 go_wp2_with (go_at_call 231;(with_reducible refine HS1.out.mono ?_);rintro e w2 ⟨rfl,K2⟩;refine Hid.out ?_)
 refine Yt ?_
 have HS2:=Yt (HSB.out w2 (K1.tr K2))
 go_wp2_with (go_at_call 231;(with_reducible refine HS2.out.mono ?_);rintro e w3 ⟨rfl,K3⟩;refine Hid.out ?_)
 refine Yt ?_
 go_wp2_with fail
 go_region_with (first
  | (go_at_call_of 198 (Value.int .u64 (q:Int));refine (HOQ.out _).mono ?_;rintro e w5 ⟨v5,rfl,h5,K5⟩)
  | (go_at_call_of 198 (Value.int .u64 (r:Int));refine (HOR.out _).mono ?_;rintro e w6 ⟨v6,rfl,h6,K6⟩))
 all_goals go_wp2_with fail
 all_goals go_ret3
 all_goals have K3d:Kp w w3.drew:=((K1.tr K2).tr K3).drew
 all_goals first
  | exact ⟨v5,v6,rfl,h5.kp K6,h6,(K3d.tr K5).tr K6⟩
  | exact ⟨v5,v6,rfl,h5,h6.kp K5,(K3d.tr K6).tr K5⟩
set_option maxRecDepth 20000 in
theorem RP {w:World} {a b:Value} {A B:Nat} (ha:M w a A) (hb:M w b B) (hlA:(toL A).length≤1073741824) (h3:2<(toL A).length) (h1:(toL B).length=1) (h:B≤A):
  Calls Tryz.prog 196 #[a,b] w fun e w'=> ∃q r,e= .returned (.tuple #[q,r,.int .i64 0])∧M w' q (A/B)∧M w' r (A % B)∧Kp w w':=by
 have HC:=Yt (CO a b A B w ha hb)
 have hcv:=Mh h
 obtain ⟨cv,hcv0⟩: ∃cv,cv=BZ A B:=⟨_,rfl⟩
 rw [←hcv0] at HC hcv
 have HSA:=Yt (fun w' (k:Kp w w')=>Fi (ha.kp k) h3)
 have hBl:B<4294967296:=by
  have:=Cw B
  rw [h1] at this
  simpa using this
 have hB0:0<B:=by
  rcases Nat.eq_zero_or_pos B with e|e
  ·rw [e,Az] at h1;simp at h1
  ·exact e
 have HBL:=Yt (fun w' (k:Kp w w')=>Kf a A B w' (ha.kp k) (by omega) hB0 hBl)
 have hr:A % B<4294967296:=Nat.lt_trans (Nat.mod_lt _ hB0) hBl
 have HOR:=Yt (fun w'=>Gt (A % B) w' (by omega))
 obtain ⟨q,hq⟩: ∃q,q=A/B:=⟨_,rfl⟩
 obtain ⟨r,hrr⟩: ∃r,r=A % B:=⟨_,rfl⟩
 rw [←hq,←hrr] at HBL⊢
 rw [←hrr] at HOR hr
 obtain ⟨bo,bc,rfl,b1,b2,b3,b4⟩:=hb
 have ho:=Ea h1
 obtain ⟨bb,boff,x,rfl,hcx,hx,HX⟩:=b4.at b3 0 (by omega)
 rw [ho] at HX
 obtain rfl:x=B:=HX.out
 rw [Nat.add_zero] at hcx
 have HCX:=Yt (fun w' (k:Kp w w')=>(k.cell (World.block_lt_of_cell? w _ hcx)).trans hcx)
 unfold maxLen at b2
 rw [h1] at HC b1⊢
 clear b3 b4 h ha hq hrr hcv0 ho HX hcx
 go_enter Tryz.func196,Tryz.ntmps196
 go_wp2_with (go_at_call 88;(with_reducible refine HC.out.mono ?_);rintro e w1 ⟨rfl,K1⟩;refine Hid.out ?_)
 refine Yt ?_
 have HS1:=Yt (HSA.out w1 K1)
 have hcw:=HCX.out w1 K1
 go_wp2_with (go_at_call 231;(with_reducible refine HS1.out.mono ?_);rintro e w2 ⟨rfl,rfl⟩;refine Hid.out ?_)
 refine Yt ?_
 have HB1:=Yt (HBL.out w1 K1)
 go_wp2_with (go_at_call 210;(with_reducible refine HB1.out.mono ?_);rintro e w3 ⟨v3,k3,rfl,h3',K3⟩;refine Hid.out ?_)
 refine Yt ?_
 have hm:M w3 v3 q:=Rd.owned h3' (BG q)
 have HQ:=Yt hm
 clear hm h3'
 go_wp2_with (go_at_call 198;(with_reducible refine (HOR.out w3).mono ?_);rintro e w4 ⟨v4,rfl,h4,K4⟩;refine Hid.out ?_)
 refine Yt ?_
 go_wp2
 go_ret3
 exact ⟨_,_,rfl,HQ.out.kp K4,h4,(K1.tr K3).tr K4⟩
theorem Hg {w:World} {a b:Value} {A B:Nat} (ha:M w a A) (hb:M w b B) (hlA:(toL A).length≤1073741824) (hB:B≠0):
  Calls Tryz.prog 196 #[a,b] w fun e w'=> ∃q r,e= .returned (.tuple #[q,r,.int .i64 0])∧M w' q (A/B)∧M w' r (A % B)∧Kp w w':=by
 by_cases h:A<B
 ·exact RQ ha hb hlA h
 ·by_cases h2:(toL A).length≤2
  ·exact O7 ha hb h2 (by omega) (by omega)
  ·have hne:(toL B).length≠0:=fun e=>hB ((AU B).1 (List.length_eq_zero_iff.1 e))
   by_cases h1:(toL B).length=1
   ·exact RP ha hb hlA (by omega) h1 (by omega)
   ·exact RO ha hb hlA (by omega) (by omega) (by omega)
theorem OP {w:World} {v:Value} {n:Nat} (h:M w v n):
  Calls Tryz.prog 231 #[v] w fun e w'=> ∃x:Nat,∃ok:Bool,e= .returned (.tuple #[.int .u64 (x:Nat),.bool ok])∧Kp w w':=by
 by_cases h2:(toL n).length≤2
 ·refine (DJ h h2).mono ?_
  rintro e w' ⟨he,k⟩
  exact ⟨n,true,he,k⟩
 ·refine (Fi h (by omega)).mono ?_
  rintro e w' ⟨he,rfl⟩
  exact ⟨0,false,he,Below.refl _ _⟩
def Ws (w0 wr:World) (G L k:Nat) (va vb:Value):Prop:= ∃A':Nat,M wr va A'∧M wr vb k∧Nat.gcd A' k=G∧(toL A').length≤L∧(toL k).length≤L∧Kp w0 wr
set_option maxRecDepth 20000 in
theorem Jw {w:World} {a b:Value} {A B:Nat} (ha:M w a A) (hb:M w b B) (hlA:(toL A).length≤1073741824) (hlB:(toL B).length≤1073741824):
  Calls Tryz.prog 195 #[a,b] w fun e w'=> ∃v,e= .returned v∧M w' v (Nat.gcd A B)∧Kp w w':=by
 have HTA:=Yt (LI ha (by omega))
 have HTB:=Yt (fun w' (k:Kp w w')=>LI (hb.kp k) (by omega))
 obtain ⟨G,hG⟩: ∃G,G=Nat.gcd A B:=⟨_,rfl⟩
 rw [←hG]
 have HG:=Yt hG
 clear hG ha hb
 go_enter Tryz.func195,Tryz.ntmps195
 go_wp2_with (go_at_call 194;(with_reducible refine HTA.out.mono ?_);rintro e w1 ⟨va,rfl,mva,K1⟩;refine Hid.out ?_)
 refine Yt ?_
 have HTB1:=Yt (HTB.out w1 K1)
 have MVA:=Yt mva
 clear mva
 go_wp2_with (go_at_call 194;(with_reducible refine HTB1.out.mono ?_);rintro e w2 ⟨vb,rfl,mvb,K2⟩;refine Hid.out ?_)
 refine Yt ?_
 have HST:Hid (Ws w w2 G 1073741824 B va vb):=Yt ⟨A,MVA.out.kp K2,mvb,HG.out.symm,hlA,hlB,K1.tr K2⟩
 clear mvb K1 K2
 go_wp2_with fail
 go_loopg [0,1] B (fun k av bv wr=>Hid (Ws w wr G 1073741824 k av bv))
 case atStart=>exact HST
 case round=>
  obtain ⟨A',mA,mB,hg,hla,hlb,K3⟩:=hrel.out
  obtain ⟨bo,bc,rfl,b1,b2,b3,b4⟩:=id mB
  obtain ⟨ao,ac,rfl,a1,a2,a3,a4⟩:=id mA
  unfold maxLen at b2 a2
  have HMA:=Yt mA
  have HMB:=Yt mB
  have HGG:=Yt hg
  have HK3:=Yt K3
  have hz:(toL gk).length=0→gk=0:=fun h=>(AU gk).1 (List.length_eq_zero_iff.1 h)
  obtain ⟨lb,hlb'⟩: ∃l,l=(toL gk).length:=⟨_,rfl⟩
  have HLB:=Yt hlb'
  obtain ⟨la,hla'⟩: ∃l,l=(toL A').length:=⟨_,rfl⟩
  have HLA:=Yt hla'
  rw [←hlb'] at b1 hz HMB hlb⊢
  rw [←hla'] at a1 HMA hla⊢
  clear hrel mA mB hg b3 b4 a3 a4 K3 hlb' hla'
  by_cases h0:lb=0
  ·have hgk:=hz h0
   have hGA:G=A':=by rw [←HGG.out,hgk];exact Nat.gcd_zero_right _
   have HR:=Yt (show M wr (.slice ao la ac) G by rw [hGA];exact HMA.out)
   subst h0
   clear hz hgk hGA
   go_wp2
   go_ret
   exact ⟨_,rfl,HR.out,HK3.out⟩
  ·have hgk0:gk≠0:=by
    intro e
    apply h0
    rw [HLB.out,e,Az]
    rfl
   have HGK:=Yt hgk0
   clear hz
   by_cases h1:la≤2
   ·by_cases h2:lb≤2
    ·have HSA:=Yt (DJ HMA.out (by rw [←HLA.out];exact h1))
     have HSB:=Yt (fun w' (k:Kp wr w')=>DJ (HMB.out.kp k) (by rw [←HLB.out];exact h2))
     have hAlt:=FJ (n:=A') (by rw [←HLA.out];exact h1)
     have hBlt:=FJ (n:=gk) (by rw [←HLB.out];exact h2)
     clear hgk0 h1 hla
     go_wp2_with (go_at_call 231;(with_reducible refine HSA.out.mono ?_);rintro e w4 ⟨rfl,K4⟩;refine Hid.out ?_)
     refine Yt ?_
     have HSB1:=Yt (HSB.out w4 K4)
     go_wp2_with (go_at_call 231;(with_reducible refine HSB1.out.mono ?_);rintro e w5 ⟨rfl,K5⟩;refine Hid.out ?_)
     refine Yt ?_
     have HK5:=Yt (HK3.out.tr (K4.tr K5))
     clear K4 K5
     go_wp2_with fail
     go_loopw [5,7] (fun xv yv wr=> ∃x y:Nat,xv= .int .u64 x∧yv= .int .u64 y∧x<18446744073709551616∧y<18446744073709551616∧Hid (Nat.gcd x y=G)∧Hid (Kp w wr)) (fun _ yv _=>(intOf yv).toNat)
     case atStart=>exact ⟨A',gk,rfl,rfl,hAlt,hBlt,HGG,HK5⟩
     case round=>
      obtain ⟨x,y,rfl,rfl,hx,hy,HXY,HK6⟩:=hrel
      by_cases hy0:y=0
      ·have hGx:G=x:=by rw [←HXY.out,hy0];exact Nat.gcd_zero_right _
       have HOF:=Yt (Gt x wr hx)
       rw [←hGx] at HOF
       have HXG:=Yt hGx
       subst hy0
       subst hGx
       go_wp2_with (go_at_call 198;(with_reducible refine HOF.out.mono ?_);rintro e w7 ⟨v7,rfl,h7,K7⟩;refine Hid.out ?_)
       refine Yt ?_
       go_wp2
       go_ret
       exact ⟨_,rfl,h7,HK6.out.tr K7⟩
      ·have hyi:((y:Int) !=0)=true:=by rw [bne_iff_ne];omega
       obtain ⟨r,hr⟩: ∃r,r=x % y:=⟨_,rfl⟩
       have hry:r<y:=by rw [hr];exact Nat.mod_lt _ (by omega)
       have htm:(x:Int).tmod (y:Int)=(r:Int):=by rw [hr];rfl
       have hrw:IntKind.u64.wrap (r:Int)=(r:Int):=IntWalk.u64_in _ (by omega)
       have HN:=Yt (show Nat.gcd y r=G by rw [hr,←HXY.out,Nat.gcd_comm x,Nat.gcd_rec y x,Nat.gcd_comm])
       clear hr
       go_wp2
       go_quiet (fail)
       go_wp2
       go_roundw
       case rel=>exact ⟨y,r,rfl,rfl,hy,by omega,HN,Yt (HK6.out.drewN _)⟩
       case measure=>simp [intOf];omega
    ·have HSA:=Yt (DJ HMA.out (by rw [←HLA.out];exact h1))
     have HSB:=Yt (fun w' (k:Kp wr w')=>Fi (HMB.out.kp k) (by rw [←HLB.out];omega))
     have HDV:=Yt (fun w' (k:Kp wr w')=>Hg (HMA.out.kp k) (HMB.out.kp k) (by rw [←HLA.out];exact hla) hgk0)
     clear hgk0 h1
     go_wp2_with (go_at_call 231;(with_reducible refine HSA.out.mono ?_);rintro e w4 ⟨rfl,K4⟩;refine Hid.out ?_)
     refine Yt ?_
     have HSB1:=Yt (HSB.out w4 K4)
     have HDV1:=Yt (HDV.out w4 K4)
     go_wp2_with (first
      | (go_at_call 231;(with_reducible refine HSB1.out.mono ?_);rintro e w5 ⟨rfl,rfl⟩)
      | (go_at_call 196;(with_reducible refine HDV1.out.mono ?_);rintro e w6 ⟨q6,r6,rfl,_,hr6,K6⟩;refine Hid.out ?_))
     refine Yt ?_
     have HN:Hid (Ws w w6 G 1073741824 (A' % gk) (.slice bo lb bc) r6):=Yt ⟨gk,HMB.out.kp (K4.tr K6),hr6,by rw [←HGG.out,Nat.gcd_comm A',Nat.gcd_rec gk A',Nat.gcd_comm],by rw [←HLB.out];exact hlb,Nat.le_trans (AM _ _ (Nat.mod_le _ _)) (by rw [←HLA.out];exact hla),HK3.out.tr (K4.tr K6)⟩
     clear K4 K6 hr6
     go_wp2_with fail
     go_roundg (A' % gk)
     case measure=>exact Nat.mod_lt _ (Nat.pos_of_ne_zero HGK.out)
     case rel=>exact HN
   ·have HSA:=Yt (Fi HMA.out (by rw [←HLA.out];omega))
    have HSB:=Yt (OP HMB.out)
    have HDV:=Yt (fun w' (k:Kp wr w')=>Hg (HMA.out.kp k) (HMB.out.kp k) (by rw [←HLA.out];exact hla) hgk0)
    clear hgk0 h1
    go_wp2_with (go_at_call 231;first
     | ((with_reducible refine HSA.out.mono ?_);rintro e w4 ⟨rfl,rfl⟩)
     | ((with_reducible refine HSB.out.mono ?_);rintro e w5 ⟨x5,ok5,rfl,K5⟩;refine Hid.out ?_))
    refine Yt ?_
    have HDV1:=Yt (HDV.out w5 K5)
    go_wp2_with (go_at_call 196;(with_reducible refine HDV1.out.mono ?_);rintro e w6 ⟨q6,r6,rfl,_,hr6,K6⟩;refine Hid.out ?_)
    refine Yt ?_
    have HN:Hid (Ws w w6 G 1073741824 (A' % gk) (.slice bo lb bc) r6):=Yt ⟨gk,HMB.out.kp (K5.tr K6),hr6,by rw [←HGG.out,Nat.gcd_comm A',Nat.gcd_rec gk A',Nat.gcd_comm],by rw [←HLB.out];exact hlb,Nat.le_trans (AM _ _ (Nat.mod_le _ _)) (by rw [←HLA.out];exact hla),HK3.out.tr (K5.tr K6)⟩
    clear K5 K6 hr6
    go_wp2_with fail
    go_roundg (A' % gk)
    case measure=>exact Nat.mod_lt _ (Nat.pos_of_ne_zero HGK.out)
    case rel=>exact HN
end Go.Proofs.YtfineedhebhpaaaGreatDoor
