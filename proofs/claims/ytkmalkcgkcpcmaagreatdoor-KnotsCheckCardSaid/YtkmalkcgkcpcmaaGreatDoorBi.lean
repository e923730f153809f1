/-
  Several texts in one: RDivM, RSmall, RDiv, RDiv2, RGcd.
-/
import Derived.Test.YtkmalkcgkcpcmaaGreatDoorBd
import Derived.Test.YtkmalkcgkcpcmaaGreatDoorBg
import Derived.Test.YtkmalkcgkcpcmaaGreatDoorBe
import Derived.Test.YtkmalkcgkcpcmaaGreatDoorBf
namespace Go.Proofs.YtkmalkcgkcpcmaaGreatDoor
theorem top_two {X:List Nat} (hX:Limbs X) {m:Nat} (hlt:val X<4294967296^(m+2)):X.getD (m+1) 0*4294967296+X.getD m 0=val X/4294967296^m:=by
 have h:val (X.drop (m+1+1))=0:=by rw [val_drop_div hX];exact Nat.div_eq_of_lt hlt
 rw [←val_drop_div hX m,val_drop_next X m,val_drop_next X (m+1),h]
 omega
theorem top_limb (B:Nat):(toL B).getD ((toL B).length-1) 0=B/4294967296^((toL B).length-1):=by
 have e:=val_drop_div (limbs_toL B) ((toL B).length-1)
 rw [val_toL] at e
 rw [←e,val_drop_next]
 have h:val ((toL B).drop ((toL B).length-1+1))=0:=by
  rw [List.drop_of_length_le (by omega)]
  rfl
 rw [h]
 omega
theorem guess_ge {R B k j v:Nat} (hv:v=B/4294967296^j) (hv0:0<v):R/(B*4294967296^k)≤R/4294967296^(k+j)/v:=by
 rw [Nat.div_div_eq_div_mul]
 refine Nat.div_le_div_left ?_ (Nat.mul_pos (Nat.pow_pos (by omega)) hv0)
 have h1:v*4294967296^j≤B:=by rw [hv];exact Nat.div_mul_le_self _ _
 have h2:=Nat.mul_le_mul_right (4294967296^k) h1
 rw [Nat.pow_add]
 generalize (4294967296:Nat)^k=K at*
 generalize (4294967296:Nat)^j=J at*
 have e:K*J*v=v*J*K:=by grind
 omega
theorem digit_lt {R B k:Nat} (h:R<B*4294967296^(k+1)):R/(B*4294967296^k)<4294967296:=by
 refine Nat.div_lt_of_lt_mul ?_
 rw [Nat.mul_assoc,←Nat.pow_succ]
 exact h
theorem val_set_drop (Q:List Nat) (k d:Nat) (hk:k<Q.length):val ((Q.set k d).drop k)=d+4294967296*val (Q.drop (k+1)):=by
 rw [drop_cons _ k (by rw [List.length_set];exact hk),drop_set_lt _ _ _ _ (by omega)]
 simp [val,List.getD,hk]
theorem digit_off {R0 R B k V d:Nat} (hB:0<B) (hd:d=R/(B*4294967296^k)) (hv:R0=R+B*(4294967296^(k+1)*V)):
  R-B*d*4294967296^k<B*4294967296^k∧R0=(R-B*d*4294967296^k)+B*(4294967296^k*(d+4294967296*V))∧B*d*4294967296^k≤R:=by
 have hK:0<B*4294967296^k:=Nat.mul_pos hB (Nat.pow_pos (by omega))
 have h1:=Nat.div_add_mod R (B*4294967296^k)
 have h2:=Nat.mod_lt R hK
 rw [←hd] at h1
 have e1:B*4294967296^k*d=B*d*4294967296^k:=by rw [Nat.mul_right_comm]
 rw [e1] at h1
 refine ⟨by omega,?_,by omega⟩
 rw [hv,Nat.pow_succ]
 generalize (4294967296:Nat)^k=K at*
 have e2:B*(K*(d+4294967296*V))=B*d*K+B*(K*4294967296*V):=by grind
 omega
theorem guess_gt {R B k d:Nat} (hB:0<B):R<B*d*4294967296^k↔R/(B*4294967296^k)<d:=by
 rw [Nat.div_lt_iff_lt_mul (Nat.mul_pos hB (Nat.pow_pos (by omega)))]
 rw [show d*(B*4294967296^k)=B*d*4294967296^k by grind]
theorem guess_less {B d K:Nat} :B*(d+1)*K-B*K=B*d*K:=by
 rw [Nat.mul_add,Nat.mul_one,Nat.add_mul,Nat.add_sub_cancel]
theorem digits_end {A B s R V:Nat} (hB:0<B) (h:A*2^s=R+B*2^s*V) (hR:R<B*2^s):V=A/B∧R/2^s=A % B:=by
 have hp:0<(2:Nat)^s:=Nat.pow_pos (by omega)
 have h1:A*2^s/(B*2^s)=V:=by
  rw [h,Nat.add_mul_div_left _ _ (Nat.mul_pos hB hp),Nat.div_eq_of_lt hR,Nat.zero_add]
 have h2:A*2^s % (B*2^s)=R:=by
  rw [h,Nat.add_mul_mod_self_left,Nat.mod_eq_of_lt hR]
 rw [Nat.mul_div_mul_right _ _ hp] at h1
 rw [Nat.mul_mod_mul_right] at h2
 exact ⟨h1.symm,by rw [←h2,Nat.mul_div_cancel _ hp]⟩
end Go.Proofs.YtkmalkcgkcpcmaaGreatDoor
namespace Go.Proofs.YtkmalkcgkcpcmaaGreatDoor
open Go.RowKit
theorem trimL_app {Z X:List Nat} (hX:trimL X=X) (h0:0<X.length):trimL (Z++X)=Z++X:=by
 have h1:=take_snoc X (X.length-1) (by omega)
 rw [show X.length-1+1=X.length by omega,List.take_of_length_le (Nat.le_refl _)] at h1
 rw [h1,←List.append_assoc,trimL_snoc _ _ (trim_top hX h0)]
def New (base:Nat) (v:Value):Prop:= ∀b off sp l c,v= .slice (some ⟨b,off,sp⟩) l c→base≤b
def NotIn (g:Nat) (v:Value):Prop:= ∀b off sp l c,v= .slice (some ⟨b,off,sp⟩) l c→b≠g
theorem New.mono {a b:Nat} {v:Value} (h:New b v) (hab:a≤b):New a v:=fun x off sp l c e=>Nat.le_trans hab (h x off sp l c e)
theorem New.notIn {a g:Nat} {v:Value} (h:New a v) (hg:g<a):NotIn g v:=fun x off sp l c e=>by
 have:=h x off sp l c e
 omega
theorem new_nil (base n c:Nat):New base (.slice none n c):=fun _ _ _ _ _ e=>by cases e
theorem owns_new {w:World} {base:Nat} {e:TypeId} {s:Nat} {v:Value} {n:Nat} {xs:List Value} (h:w.ownsRow base e s v n xs):New base v:=by
 rcases h.2 with ⟨rfl,_⟩ | ⟨g,cap,cur,rfl,hb,_⟩
 ·exact new_nil _ _ _
 ·intro b off sp l c e
  obtain ⟨⟨rfl,_⟩,_⟩:(g=b∧_)∧_:=by simpa using e
  exact hb
theorem Rd.put {w:World} {v:Value} {xs:List Nat} {g:Nat} (h:Rd w v xs) (hn:NotIn g v) (j:Nat) (x:Value):Rd (w.setCell ⟨g,j,none⟩ x) v xs:=by
 obtain ⟨ao,cap,rfl,h1,h2,h3,h4⟩:=h
 refine ⟨ao,cap,rfl,h1,h2,h3,fun hne=>?_⟩
 obtain ⟨b,off,rfl,hc⟩:=h4 hne
 refine ⟨b,off,rfl,fun i hi=>?_⟩
 have hb:=hn b off none _ _ rfl
 have e:=((Only.refl g w).setCell j x).block b hb
 have h5:=hc i hi
 rw [←h5]
 exact World.cell?_of_block e
theorem trim_new (v:Value) (xs:List Nat) (w:World) (hs:Rd w v xs) (hl:xs.length≤1099511627776):
  Calls Tryz.prog 113 #[v] w fun e w'=> ∃v',e= .returned v'∧Rd w' v' (trimL xs)∧New w.heap.size v'∧Kp w w':=by
 have hx:Limbs xs:=by obtain ⟨_,_,_,_,_,h,_⟩:=hs;exact h
 refine (trim_own v xs w hs hl).mono ?_
 rintro e w' ⟨v',k,he,hO,K⟩
 exact ⟨v',he,Rd.owned hO (limbs_trimL hx),owns_new hO,K⟩
set_option maxRecDepth 20000 in
set_option maxHeartbeats 1000000 in
theorem minus_row (a b:Value) (X ys:List Nat) (w:World) (ha:Rd w a X) (hb:Rd w b ys) (hl:X.length≤1099511627776) (hyl:ys.length≤X.length) (hle:val ys≤val X):
  Calls Tryz.prog 121 #[a,b] w fun e w'=> ∃v',e= .returned v'∧Rd w' v' (toL (val X-val ys))∧New w.heap.size v'∧Kp w w':=by
 obtain ⟨i0,hi,hz0,hz1,hz2⟩:=info_parts infoU32
 obtain ⟨ao,ac,rfl,a1,a2,a3,a4⟩:=ha
 obtain ⟨bo,bc,rfl,b1,b2,b3,b4⟩:=hb
 have A3:=Lib.hid a3
 have B3:=Lib.hid b3
 have HLE:=Lib.hid hle
 unfold maxLen at a2 b2
 clear a3 b3 hle
 go_enter Tryz.func121,Tryz.ntmps121
 go_wp2_with (at_make;refine wpList_make_full _ rfl _ _ 31 rfl w.heap.size 112 i0 (.int .u32 0) 1 undU32s hi hz0 hz1 _ _ _ _ X.length rfl rfl rfl rfl (by rw [hz2];omega) (by unfold maxLen;omega) (Nat.le_refl _) ?_;intro w1 hown hg;have O1:=Lib.hid (Own.of_make hown);have K1:=(Below.refl w.heap.size w).grown hg (Nat.le_refl _) (by intro j hj;cases hj);clear hown hg)
 go_loopw [6,7] (fun cv i wr=> ∃(k c:Nat) (O:List Nat),k≤X.length∧i= .int .i64 k∧cv= .int .u64 c∧c≤1∧Own wr 112 w.heap.size O∧O.length=X.length∧Limbs O∧
  val (X.take k)+4294967296^k*c=val (O.take k)+val (ys.take k)∧Kp w wr) (fun _ i _=>X.length-(intOf i).toNat)
 case atStart=>exact ⟨0,0,List.replicate X.length 0,Nat.zero_le _,rfl,rfl,by omega,O1.out,by simp,Limbs.replicate _,by simp [val],K1⟩
 case round=>
  obtain ⟨k,c,O,hk,rfl,rfl,hc,hO,hOl,hOL,hval,K3⟩:=hrel
  have HO:=Lib.hid hO
  have HOl:=Lib.hid hOl
  have HOL:=Lib.hid hOL
  have HV:=Lib.hid hval
  clear hO hOl hOL hval
  by_cases hk1:k<X.length
  ·obtain ⟨ab,aoff,x,rfl,hcell,hx,HX⟩:=(a4.kp K3).at A3.out k hk1
   obtain ⟨o,hcl,_,_⟩:=HO.out.at HOL.out k (by rw [HOl.out];exact hk1)
   have hfz:=HO.out.frozen k
   by_cases hk2:k<ys.length
   ·obtain ⟨bb,boff,y,rfl,hcell2,hy,HY⟩:=(b4.kp K3).at B3.out k hk2
    by_cases hlt:x<c+y
    ·go_wp2
     go_roundw
     case rel=>exact ⟨k+1,1,O.set k (x+4294967296-(c+y)),by omega,by go_num,rfl,by omega,by
      have h:=HO.out.set k (x+4294967296-(c+y))
      rw [show (((x+4294967296-(c+y):Nat)):Int)=(x:Int)+4294967296-((c:Int)+y) by omega] at h
      exact h,by rw [List.length_set];exact HOl.out,HOL.out.set _ _ (by omega),sub_step (by rw [HOl.out];exact hk1) HV.out HX.out HY.out (by omega),K3.setCell (Nat.le_refl _) _⟩
     case measure=>simp [intOf];omega
    ·go_wp2
     go_roundw
     case rel=>exact ⟨k+1,0,O.set k (x-(c+y)),by omega,by go_num,rfl,by omega,by
      have h:=HO.out.set k (x-(c+y))
      rw [show (((x-(c+y):Nat)):Int)=(x:Int)-((c:Int)+y) by omega] at h
      exact h,by rw [List.length_set];exact HOl.out,HOL.out.set _ _ (by omega),sub_step (by rw [HOl.out];exact hk1) HV.out HX.out HY.out (by omega),K3.setCell (Nat.le_refl _) _⟩
     case measure=>simp [intOf];omega
   ·have hy0:=Lib.hid (getD_past ys k hk2)
    by_cases hlt:x<c
    ·go_wp2
     go_roundw
     case rel=>exact ⟨k+1,1,O.set k (x+4294967296-c),by omega,by go_num,rfl,by omega,by
      have h:=HO.out.set k (x+4294967296-c)
      rw [show (((x+4294967296-c:Nat)):Int)=(x:Int)+4294967296-(c:Int) by omega] at h
      exact h,by rw [List.length_set];exact HOl.out,HOL.out.set _ _ (by omega),sub_step (by rw [HOl.out];exact hk1) HV.out HX.out hy0.out (by omega),K3.setCell (Nat.le_refl _) _⟩
     case measure=>simp [intOf];omega
    ·go_wp2
     go_roundw
     case rel=>exact ⟨k+1,0,O.set k (x-c),by omega,by go_num,rfl,by omega,by
      have h:=HO.out.set k (x-c)
      rw [show (((x-c:Nat)):Int)=(x:Int)-(c:Int) by omega] at h
      exact h,by rw [List.length_set];exact HOl.out,HOL.out.set _ _ (by omega),sub_step (by rw [HOl.out];exact hk1) HV.out HX.out hy0.out (by omega),K3.setCell (Nat.le_refl _) _⟩
     case measure=>simp [intOf];omega
  ·obtain rfl:k=X.length:=by omega
   have HF:=Lib.hid (sub_fin HOl.out HOL.out hyl HLE.out HV.out)
   have HRd:=HO.out.rd HOL.out X.length (by rw [HOl.out];exact Nat.le_refl _) X.length (Nat.le_refl _) (by unfold maxLen;omega)
   rw [List.take_of_length_le (by rw [HOl.out];exact Nat.le_refl _)] at HRd
   have HTR:=Lib.hid (trim_new _ O wr HRd (by rw [HOl.out];exact hl))
   have ht:=toL_val HOL.out
   rw [HF.out] at ht
   rw [←ht] at HTR
   clear ht HRd
   go_wp2_with (go_at_call 113;refine HTR.out.mono ?_;rintro e w4 ⟨v4,rfl,h4,hn4,K4⟩)
   go_ret
   exact ⟨_,rfl,h4,hn4.mono K3.size,K3.tr K4⟩
theorem minus_new {w:World} {a b:Value} {m n:Nat} (ha:M w a m) (hb:M w b n) (hl:(toL m).length≤1099511627776) (hmn:n≤m):
  Calls Tryz.prog 121 #[a,b] w fun e w'=> ∃v',e= .returned v'∧M w' v' (m-n)∧New w.heap.size v'∧Kp w w':=by
 have:=minus_row a b _ _ w ha hb hl (length_mono _ _ hmn) (by rw [val_toL,val_toL];exact hmn)
 rwa [val_toL,val_toL] at this
theorem ret_sure {a b:Int} (h:a=b):Ending.returned (.tuple #[.int .u64 a,.bool true])= .returned (.tuple #[.int .u64 b,.bool true]):=by rw [h]
set_option maxRecDepth 20000 in
set_option maxHeartbeats 1000000 in
theorem rsmall_yes {w:World} {v:Value} {n:Nat} (h:M w v n) (h2:(toL n).length≤2):
  Calls Tryz.prog 150 #[v] w fun e w'=>e= .returned (.tuple #[.int .u64 (n:Nat),.bool true])∧Kp w w':=by
 obtain ⟨ao,ac,rfl,a1,a2,a3,a4⟩:=h
 have hv:=val_toL n
 unfold maxLen at a2
 obtain ⟨X,hX⟩: ∃X,X=toL n:=⟨_,rfl⟩
 rw [←hX] at h2 a1 a3 a4 hv⊢
 clear hX
 match X,h2,a1,a3,a4,hv with
 | [],_,_,_,_,hv=>
   obtain rfl:n=0:=by simpa [val] using hv.symm
   clear hv
   go_enter Tryz.func150,Tryz.ntmps150
   go_wp2
   go_ret2
   exact ⟨rfl,Below.refl _ _⟩
 | [x],_,a1,a3,a4,hv=>
   obtain rfl:n=x:=by simpa [val] using hv.symm
   obtain ⟨b,off,y,rfl,hc,hy,HY⟩:=a4.at a3 0 (by simp)
   obtain rfl:y=n:=by have:=HY.out;simpa using this
   rw [Nat.add_zero] at hc
   clear hv a4 HY a3
   go_enter Tryz.func150,Tryz.ntmps150
   go_wp2
   go_ret2
   exact ⟨rfl,Below.refl _ _⟩
 | [x,y],_,a1,a3,a4,hv=>
   have hn:n=x+4294967296*y:=by simpa [val] using hv.symm
   obtain ⟨b,off,x',rfl,hc0,hx,HX⟩:=a4.at a3 0 (by simp)
   obtain rfl:x'=x:=by have:=HX.out;simpa using this
   obtain ⟨b2,off2,y',e2,hc1,hy,HY⟩:=a4.at a3 1 (by simp)
   obtain rfl:y'=y:=by have:=HY.out;simpa using this
   obtain ⟨rfl,rfl⟩:b=b2∧off=off2:=by simpa using e2
   rw [Nat.add_zero] at hc0
   have HB:=Lib.hid (orpair hx hy)
   rw [←hn] at HB
   clear hv a4 HX HY a3 e2 hn
   go_enter Tryz.func150,Tryz.ntmps150
   go_wp2
   go_quiet (fail)
   go_wp2
   go_ret2
   exact ⟨ret_sure HB.out,Kp.drewN (Below.refl _ _) _⟩
set_option maxRecDepth 20000 in
set_option maxHeartbeats 1000000 in
theorem rsmall_no {w:World} {v:Value} {n:Nat} (h:M w v n) (h2:2<(toL n).length):
  Calls Tryz.prog 150 #[v] w fun e w'=>e= .returned (.tuple #[.int .u64 0,.bool false])∧w=w':=by
 obtain ⟨ao,ac,rfl,a1,a2,a3,a4⟩:=h
 unfold maxLen at a2
 obtain ⟨l,hl⟩: ∃l,l=(toL n).length:=⟨_,rfl⟩
 rw [←hl] at h2 a1⊢
 have e0:((l:Int)==0)=false:=beq_eq_false_iff_ne.2 (by omega)
 have e1:((l:Int)==1)=false:=beq_eq_false_iff_ne.2 (by omega)
 have e2:((l:Int)==2)=false:=beq_eq_false_iff_ne.2 (by omega)
 clear hl a3 a4
 go_enter Tryz.func150,Tryz.ntmps150
 go_wp2
 go_ret2
 exact ⟨rfl,rfl⟩
theorem sz_limb {d:Nat} (h:d<4294967296):Sz 1 d:=length_toL_le d 1 (by simpa using h)
set_option maxRecDepth 20000 in
set_option maxHeartbeats 1000000 in
theorem times_m {w:World} {a:Value} {m d:Nat} (ha:M w a m) {k:Nat} (hs:Sz k m) (hk:k≤549755813888) (hd:d<4294967296):
  Calls Tryz.prog 154 #[a,.int .u32 (d:Nat)] w fun e w'=> ∃v,e= .returned v∧M w' v (m*d)∧Kp w w':=by
 have HO:=Lib.hid (rof_any d w (by omega))
 have HM:=Lib.hid (fun w' v (k:Kp w w') (hv:M w' v d)=>rmul_any (ha.kp k) hv hs (sz_limb hd) hk (by omega))
 clear ha hs
 go_enter Tryz.func154,Tryz.ntmps154
 go_wp2_with (go_at_call 99;(with_reducible refine HO.out.mono ?_);rintro e w1 ⟨v1,rfl,h1,K1⟩;refine Hid.out ?_)
 refine Lib.hid ?_
 have HM1:=Lib.hid (HM.out w1 v1 K1 h1)
 clear h1
 go_wp2_with (go_at_call 81;(with_reducible refine HM1.out.mono ?_);rintro e w2 ⟨v2,rfl,h2,K2⟩;refine Hid.out ?_)
 refine Lib.hid ?_
 go_wp2
 go_ret
 exact ⟨_,rfl,h2,K1.tr K2⟩
set_option maxRecDepth 20000 in
set_option maxHeartbeats 1000000 in
theorem shifted_m {w:World} {a:Value} {m q:Nat} (ha:M w a m) (hl:(toL m).length≤549755813888) (hq:q≤549755813888) (h0:m≠0):
  Calls Tryz.prog 153 #[a,.int .i64 (q:Nat)] w fun e w'=> ∃v,e= .returned v∧M w' v (m*4294967296^q)∧New w.heap.size v∧Kp w w':=by
 obtain ⟨i0,hi,hz0,hz1,hz2⟩:=info_parts infoU32
 obtain ⟨ao,ac,rfl,a1,a2,a3,a4⟩:=ha
 have hl0:0<(toL m).length:=by
  rcases Nat.eq_zero_or_pos (toL m).length with h | h
  ·exact absurd ((toL_nil_iff m).1 (List.length_eq_zero_iff.1 h)) h0
  ·exact h
 have hv:=val_toL m
 have A3:=Lib.hid a3
 have A4:=Lib.hid a4
 unfold maxLen at a2
 obtain ⟨X,hX⟩: ∃X,X=toL m:=⟨_,rfl⟩
 rw [←hX] at A3 A4 a1 hl hl0 hv⊢
 have HV:=Lib.hid hv
 have HX:=Lib.hid hX
 have hne:((X.length:Int)==0)=false:=beq_eq_false_iff_ne.2 (by omega)
 clear a3 a4 hX hv
 go_enter Tryz.func153,Tryz.ntmps153
 go_wp2_with (first
  | (at_make;refine wpList_make_full _ rfl _ _ 31 rfl w.heap.size 112 i0 (.int .u32 0) 1 undU32s hi hz0 hz1 _ _ _ _ q rfl rfl rfl rfl (by rw [hz2];omega) (by unfold maxLen;omega) (Nat.le_refl _) ?_;intro w1 hown hg;have O1:=Lib.hid (owned_zeros hown);have K1:=(Below.refl w.heap.size w).grown hg (Nat.le_refl _) (by intro j hj;cases hj);have HSRC:=Lib.hid ((A4.out.kp K1).news);clear hown hg)
  | (at_builtin;refine wpList_append_src _ rfl (.tmp 9) (.tmp 10) 31 rfl w.heap.size 112 i0 (.int .u32 0) 1 4 undU32s hi hz0 hz1 hz2 rfl (by decide) (.slice (some ⟨w.heap.size,0,none⟩) q q) q (cellsOf (List.replicate q 0)) rfl O1.out ao X.length ac (cellsOf X) rfl (by simp [cellsOf]) HSRC.out (cellsOf_one _) (by unfold maxLen;omega) (by omega) (by have:=K1.size;omega) ?_;intro v' w3 hown' hg3 _;refine Hid.out ?_))
 refine Lib.hid ?_
 have K3:Kp w w3:=K1.grown hg3 (by have:=K1.size;omega) (fun b hb=>(O1.out.lt b hb).1)
 have HNW:=Lib.hid (owns_new hown')
 have hr:M w3 v' (m*4294967296^q):=by
  rw [show cellsOf (List.replicate q 0)++cellsOf X=cellsOf (List.replicate q 0++X) by simp [cellsOf]] at hown'
  have hLL:Limbs (List.replicate q 0++X):=(Limbs.replicate q).append A3.out
  have h1:=Rd.owned hown' hLL
  have h2:=toL_val hLL
  rw [trimL_app (by rw [HX.out];exact trimL_toL m) hl0,val_zeros_append,HV.out,Nat.mul_comm] at h2
  unfold M
  rw [h2]
  exact h1
 have HR:=Lib.hid hr
 clear hr hown' hg3
 go_wp2
 go_ret
 exact ⟨_,rfl,HR.out,HNW.out,K3⟩
theorem shifted_zero {w:World} {a:Value} {m q:Nat} (ha:M w a m) (h0:m=0):
  Calls Tryz.prog 153 #[a,.int .i64 (q:Nat)] w fun e w'=> ∃v,e= .returned v∧M w' v (m*4294967296^q)∧New w.heap.size v∧Kp w w':=by
 subst h0
 obtain ⟨ao,ac,rfl,a1,a2,a3,a4⟩:=ha
 rw [toL_zero,Nat.zero_mul]
 clear a1 a2 a3 a4
 go_enter Tryz.func153,Tryz.ntmps153
 go_wp2
 go_ret
 exact ⟨_,rfl,m_nil _,new_nil _ _ _,Below.refl _ _⟩
theorem shifted_any {w:World} {a:Value} {m q:Nat} (ha:M w a m) (hl:(toL m).length≤549755813888) (hq:q≤549755813888):
  Calls Tryz.prog 153 #[a,.int .i64 (q:Nat)] w fun e w'=> ∃v,e= .returned v∧M w' v (m*4294967296^q)∧New w.heap.size v∧Kp w w':=by
 by_cases h0:m=0
 ·exact shifted_zero ha h0
 ·exact shifted_m ha hl hq h0
end Go.Proofs.YtkmalkcgkcpcmaaGreatDoor
namespace Go.Proofs.YtkmalkcgkcpcmaaGreatDoor
open Go.RowKit
theorem toL_limb {x:Nat} (hx:x<4294967296) (h0:x≠0):toL x= [x]:=by
 rw [toL_pos x h0,Nat.mod_eq_of_lt hx,Nat.div_eq_of_lt hx,toL_zero]
theorem m_one {w:World} {b off c x:Nat} (hc:w.cell? ⟨b,off,none⟩=some (.int .u32 (x:Nat))) (hx:x<4294967296) (h0:x≠0) (h1:1≤c) (hm:c≤maxLen):M w (.slice (some ⟨b,off,none⟩) 1 c) x:=by
 unfold M
 rw [toL_limb hx h0]
 refine ⟨some ⟨b,off,none⟩,c,rfl,h1,hm,Limbs.cons hx Limbs.nil,fun _=>⟨b,off,rfl,fun i hi=>?_⟩⟩
 have:i=0:=by simpa using hi
 subst this
 simpa using hc
theorem up_m {w:World} {a:Value} {m:Nat} (ha:M w a m) (hl:(toL m).length≤549755813888) (n:Nat) (hn:n≤1099511627776):
  Calls Tryz.prog 152 #[a,.int .i64 (n:Nat)] w fun e w'=> ∃v',e= .returned v'∧M w' v' (m*2^n)∧Kp w w':=by
 have h:=up_core a _ n w ha hl hn
 rwa [val_toL] at h
theorem down_m {w:World} {a:Value} {m:Nat} (ha:M w a m) (hl:(toL m).length≤549755813888) (n:Nat) (hn:n≤35184372088832):
  Calls Tryz.prog 155 #[a,.int .i64 (n:Nat)] w fun e w'=> ∃v',e= .returned v'∧M w' v' (m/2^n)∧Kp w w':=by
 have h:=down_core a _ n w ha hl hn
 rwa [val_toL] at h
theorem rtrim_m {w:World} {a:Value} {m:Nat} (ha:M w a m) (hl:(toL m).length≤1099511627776):
  Calls Tryz.prog 113 #[a] w fun e w'=> ∃v',e= .returned v'∧M w' v' m∧Kp w w':=by
 have:=trim_any a _ w ha hl
 rwa [trimL_toL] at this
theorem cmpv_ge {m n:Nat} (h:n≤m):decide (cmpv m n<0)=false:=by
 apply decide_eq_false
 unfold cmpv
 rw [if_neg (by omega)]
 split<;>omega
theorem cmpv_pos {m n:Nat} :(0<cmpv m n)↔n<m:=by
 unfold cmpv
 split
 ·omega
 ·split<;>omega
theorem bits_limb {x:Nat} (hx:x<4294967296) (h0:x≠0):bitsN x≤32:=by
 rw [bitsN_toL x (by rw [toL_limb hx h0];simp),toL_limb hx h0]
 have:=bitLen_le32 hx
 simpa using this
theorem orsum {r x:Nat} (hr:r<4294967296) (hx:x<4294967296):bits .or .u64 ((r:Int)*4294967296) (x:Int)=((r*4294967296+x:Nat):Int):=by
 have h1:=bits_or_u64_nat (r*4294967296) x (by omega) (by omega)
 have h2:=or_low (c:=x) (x:=r) (n:=32) (by omega)
 rw [Nat.or_comm] at h2
 rw [Int.natCast_mul] at h1
 rw [show (4294967296:Int)=((4294967296:Nat):Int) from rfl,h1,show (4294967296:Nat)=2^32 from rfl,h2,Nat.add_comm]
theorem start_less {A' B':Nat} (hB:B'≠0) (hn:(toL B').length≤(toL A').length):A'<B'*4294967296^((toL A').length-(toL B').length+1):=by
 have h1:=toL_lt A'
 have h2:=toL_last B' hB
 have h3:=Nat.mul_le_mul_right (4294967296^((toL A').length-(toL B').length+1)) h2
 rw [←Nat.pow_add] at h3
 have h0:0<(toL B').length:=by
  rcases Nat.eq_zero_or_pos (toL B').length with h | h
  ·exact absurd ((toL_nil_iff B').1 (List.length_eq_zero_iff.1 h)) hB
  ·exact h
 rw [show (toL B').length-1+((toL A').length-(toL B').length+1)=(toL A').length by omega] at h3
 omega
set_option maxRecDepth 20000 in
set_option maxHeartbeats 2000000 in
theorem rdiv_long {w:World} {a b:Value} {A B:Nat} (ha:M w a A) (hb:M w b B) (hlA:(toL A).length≤1073741824) (h2:2≤(toL B).length) (h3:2<(toL A).length) (hBA:B≤A):
  Calls Tryz.prog 120 #[a,b] w fun e w'=> ∃q r,e= .returned (.tuple #[q,r,.int .i64 0])∧M w' q (A/B)∧M w' r (A % B)∧Kp w w':=by
 obtain ⟨i0,hi,hz0,hz1,hz2⟩:=info_parts infoU32
 have hlB:=Nat.le_trans (length_mono B A hBA) hlA
 have HC:=Lib.hid (rcmp_any a b A B w ha hb)
 have hcv:=cmpv_ge hBA
 obtain ⟨cv,hcv0⟩: ∃cv,cv=cmpv A B:=⟨_,rfl⟩
 rw [←hcv0] at HC hcv
 have HSA:=Lib.hid (fun w' (k:Kp w w')=>rsmall_no (ha.kp k) h3)
 have hB0:0<B:=by
  rcases Nat.eq_zero_or_pos B with h | h
  ·rw [h,toL_zero] at h2;simp at h2
  ·exact h
 have htop:=trim_top (trimL_toL B) (by omega)
 have mA:=Lib.hid ha
 have mB:=Lib.hid hb
 obtain ⟨ao,ac,rfl,a1,a2,a3,a4⟩:=ha
 obtain ⟨bo,bc,rfl,b1,b2,b3,b4⟩:=hb
 obtain ⟨bb,boff,x,rfl,hcx,hx,HX⟩:=b4.at b3 ((toL B).length-1) (by omega)
 rw [←HX.out] at htop
 obtain ⟨la,hla⟩: ∃l,l=(toL A).length:=⟨_,rfl⟩
 obtain ⟨lb,hlb⟩: ∃l,l=(toL B).length:=⟨_,rfl⟩
 unfold maxLen at a2 b2
 rw [←hla] at a1 h3 HC HSA mA hlA⊢
 rw [←hlb] at b1 h2 HC mB hlB hcx⊢
 have MX:M w (.slice (some ⟨bb,boff+(lb-1),none⟩) (lb-(lb-1)) (bc-(lb-1))) x:=by
  rw [show lb-(lb-1)=1 by omega]
  exact m_one hcx hx htop (by omega) (by unfold maxLen;omega)
 have hbits:=bits_limb hx htop
 have HBI:=Lib.hid (fun w' (k:Kp w w')=>rbits_any _ x w' (MX.kp k) (by rw [toL_limb hx htop];simp))
 obtain ⟨bx,hbx⟩: ∃n,n=bitsN x:=⟨_,rfl⟩
 rw [←hbx] at HBI hbits
 obtain ⟨s,hs⟩: ∃s,s=32-bx:=⟨_,rfl⟩
 have hsi:(32:Int)-(bx:Int)=(s:Int):=by omega
 have hs32:s≤32:=by omega
 have HUB:=Lib.hid (fun w' (k:Kp w w')=>up_m (mB.out.kp k) (by rw [←hlb];omega) s (by omega))
 have HUA:=Lib.hid (fun w' (k:Kp w w')=>up_m (mA.out.kp k) (by rw [←hla];omega) s (by omega))
 have hp2:0<(2:Nat)^s:=Nat.pow_pos (by omega)
 have hs2:Sz 2 (2^s):=by
  apply length_toL_le
  have:=Nat.pow_le_pow_right (show 0<2 by omega) hs32
  omega
 have hBs:B≤B*2^s:=Nat.le_mul_of_pos_right _ hp2
 have hAB:B*2^s≤A*2^s:=Nat.mul_le_mul_right _ hBA
 have hlR:(toL (A*2^s)).length≤la+2:=by rw [hla];exact Sz.mul (Nat.le_refl _) hs2
 have HEND:=Lib.hid (fun R V=> @digits_end A B s R V hB0)
 obtain ⟨Q0,hQ0⟩: ∃q,q=A/B:=⟨_,rfl⟩
 obtain ⟨R1,hR1⟩: ∃q,q=A % B:=⟨_,rfl⟩
 rw [←hQ0,←hR1] at HEND⊢
 obtain ⟨B',hB'⟩: ∃q,q=B*2^s:=⟨_,rfl⟩
 obtain ⟨A',hA'⟩: ∃q,q=A*2^s:=⟨_,rfl⟩
 rw [←hB'] at HUB hBs hAB HEND
 rw [←hA'] at HUA hAB hlR HEND
 have hn2:lb≤(toL B').length:=by rw [hlb];exact length_mono _ _ hBs
 have hnl:=length_mono _ _ hAB
 have HST:=Lib.hid (start_less (A':=A') (B':=B') (by omega) hnl)
 have hB'0:0<B':=by omega
 have hnl2:(toL B').length≤(toL A').length:=hnl
 have hvt:=trim_top (trimL_toL B') (by omega)
 have hvd:=top_limb B'
 obtain ⟨lr,hlr⟩: ∃l,l=(toL A').length:=⟨_,rfl⟩
 obtain ⟨n,hn⟩: ∃l,l=(toL B').length:=⟨_,rfl⟩
 rw [←hlr,←hn] at HST hnl2
 rw [←hlr] at hlR
 rw [←hn] at hn2 hvt hvd
 have HLR:=Lib.hid hlr
 have HLN:=Lib.hid hn
 obtain ⟨cnt,hcnt⟩: ∃l,l=lr-n+1:=⟨_,rfl⟩
 rw [←hcnt] at HST
 clear hnl hla hlb hcv0 hs2 hBs hAB hBA hQ0 hR1 hB' hA' hbx hs hp2 a3 a4 b3 b4 HX hcx MX hlr hn mA mB hB0 htop
 go_enter Tryz.func120,Tryz.ntmps120
 go_wp2_with (go_at_call 80;(with_reducible refine HC.out.mono ?_);rintro e w1 ⟨rfl,K1⟩;refine Hid.out ?_)
 refine Lib.hid ?_
 have HS1:=Lib.hid (HSA.out w1 K1)
 go_wp2_with (go_at_call 150;(with_reducible refine HS1.out.mono ?_);rintro e w2 ⟨rfl,rfl⟩;refine Hid.out ?_)
 refine Lib.hid ?_
 have HB1:=Lib.hid (HBI.out w1 K1)
 go_wp2_with (go_at_call 151;(with_reducible refine HB1.out.mono ?_);rintro e w2 ⟨rfl,rfl⟩;refine Hid.out ?_)
 refine Lib.hid ?_
 have HU1:=Lib.hid (HUB.out w1 K1)
 go_wp2_with (go_at_call 152;(with_reducible refine HU1.out.mono ?_);rintro e w3 ⟨vb,rfl,hvb,K3⟩;refine Hid.out ?_)
 refine Lib.hid ?_
 have HU2:=Lib.hid (HUA.out w3 (K1.tr K3))
 go_wp2_with (go_at_call 152;(with_reducible refine HU2.out.mono ?_);rintro e w4 ⟨vr,rfl,hvr,K4⟩;refine Hid.out ?_)
 refine Lib.hid ?_
 have MB4:=Lib.hid (hvb.kp K4)
 have MA4:=Lib.hid hvr
 have K0:=Lib.hid ((K1.tr K3).tr K4)
 clear hvb hvr K1 K3 K4
 obtain ⟨vo,vc,eb,c1,c2,c3,c4⟩:=MB4.out
 obtain ⟨b2,off2,v,rfl,hcv2,hv32,HV⟩:=c4.at c3 ((toL B').length-1) (by rw [←HLN.out];omega)
 rw [←HLN.out] at eb c1 hcv2 HV
 rw [←HV.out] at hvt hvd
 have HVD:=Lib.hid hvd
 have HCV:=Lib.hid (fun w' (k:Kp w4 w')=>(k.cell (World.block_lt_of_cell? w4 _ hcv2)).trans hcv2)
 subst eb
 obtain ⟨ro,rc,er,r1,r2,r3,r4⟩:=MA4.out
 rw [←HLR.out] at er r1
 subst er
 unfold maxLen at c2 r2
 have hrs:=r4
 clear c3 c4 r3 r4 hcv2 HV hvd
 have hci:(lr:Int)-(n:Int)+1=(cnt:Int):=by omega
 go_wp2_with (at_make;refine wpList_make_full _ rfl _ _ 31 rfl w4.heap.size 112 i0 (.int .u32 0) 1 undU32s hi hz0 hz1 _ _ _ _ cnt rfl rfl (by omega) (by omega) (by rw [hz2];omega) (by unfold maxLen;omega) (Nat.le_refl _) ?_;intro w5 hown hg;have O1:=Lib.hid (Own.of_make hown);have K5:=Lib.hid ((Below.refl w4.heap.size w4).grown hg (Nat.le_refl _) (by intro j hj;cases hj));clear hown hg)
 have HB2w:=Lib.hid (fun w' (k:Kp w4 w')=>MB4.out.kp k)
 have HA2:=Lib.hid (MA4.out.kp K5.out)
 clear MB4 MA4
 have HNI:Hid (NotIn w4.heap.size (.slice ro lr rc)):=by
  refine Lib.hid ?_
  have h0:0<(toL A').length:=by rw [←HLR.out];omega
  obtain ⟨b9,off9,_,e9,hc9,_,_⟩:=hrs.at (limbs_toL A') 0 h0
  have h9:=World.block_lt_of_cell? w4 _ hc9
  intro b off sp l c e
  rw [e9] at e
  obtain ⟨⟨rfl,_⟩,_⟩:(b9=b∧_)∧_:=by simpa using e
  exact Nat.ne_of_lt h9
 clear hrs
 go_loopw [5,15] (fun rv kv wr=> ∃(j R:Nat) (Q:List Nat),j≤cnt∧kv= .int .i64 ((j:Int)-1)∧Hid (M wr rv R)∧Hid (R<B'*4294967296^j)∧Hid (Own wr 112 w4.heap.size Q)∧Hid (Limbs Q)∧Hid (Q.length=cnt)∧
  Hid (A'=R+B'*(4294967296^j*val (Q.drop j)))∧Hid (NotIn w4.heap.size rv)∧Hid (Kp w4 wr)) (fun _ kv _=>(intOf kv+1).toNat)
 case atStart=>exact ⟨cnt,A',List.replicate cnt 0,Nat.le_refl _,by go_num,HA2,HST,O1,Lib.hid (Limbs.replicate _),Lib.hid (by simp),Lib.hid (by simp [val]),HNI,K5⟩
 case round=>
  obtain ⟨j,R,Q,hj,rfl,HR,HRL,HQ,HQL,HQl,HRA,HRN,K6⟩:=hrel
  by_cases hj0:0<j
  ·obtain ⟨i,rfl⟩: ∃i,j=i+1:=⟨j-1,by omega⟩
   have hii:((i+1:Nat):Int)-1=(i:Int):=by omega
   rw [hii]
   obtain ⟨vo2,vc2,x1,x2,x3,x4,x5⟩:=HR.out
   subst x1
   have hRb:R<4294967296^(i+n-1+2):=by
    have h1:=HRL.out
    have h2:=toL_lt B'
    rw [←HLN.out] at h2
    have h3:=Nat.mul_lt_mul_of_pos_right h2 (Nat.pow_pos (show 0<4294967296 by omega):0<4294967296^(i+1))
    rw [←Nat.pow_add,show n+(i+1)=i+n-1+2 by omega] at h3
    omega
   have hT:=top_two (limbs_toL R) (m:=i+n-1) (by rw [val_toL];exact hRb)
   rw [val_toL,show i+n-1+1=i+n by omega] at hT
   have hg1:=guess_ge (R:=R) (k:=i) HVD.out (by omega)
   rw [show i+(n-1)=i+n-1 by omega] at hg1
   have hdl:=digit_lt HRL.out
   obtain ⟨T,hTT⟩: ∃T,T=R/4294967296^(i+n-1):=⟨_,rfl⟩
   obtain ⟨dt,hdt⟩: ∃d,d=R/(B'*4294967296^i):=⟨_,rfl⟩
   rw [←hTT] at hT hg1
   rw [←hdt] at hg1 hdl
   obtain ⟨q0,hq0⟩: ∃d,d=T/v:=⟨_,rfl⟩
   rw [←hq0] at hg1
   obtain ⟨d0,hd0⟩: ∃d,d=min q0 4294967295:=⟨_,rfl⟩
   have hd0t:dt≤d0:=by omega
   have hd0l:d0<4294967296:=by omega
   have hTb:T<18446744073709551616:=by rw [←hT];have h1:=(limbs_toL R).getD (i+n);have h2:=(limbs_toL R).getD (i+n-1);omega
   have hmin:min (q0:Int) 4294967295=(d0:Int):=by omega
   have hib:i<cnt:=by omega
   have hcb:cnt≤1073741827:=by omega
   have hszk:(toL (4294967296^i)).length≤i+1:=length_toL_le _ _ (Nat.pow_lt_pow_right (by omega) (by omega))
   have hqT:q0≤T:=by rw [hq0];exact Nat.div_le_self _ _
   have hwq:IntKind.u64.wrap (q0:Int)=(q0:Int):=IntWalk.u64_in _ (by omega)
   have hdm:(d0:Int) % 4294967296=(d0:Int):=by omega
   have htd:(T:Int).tdiv (v:Int)=(q0:Int):=by rw [tdivN,hq0]
   obtain ⟨t1,ht1⟩: ∃t,t=(toL R).getD (i+n) 0:=⟨_,rfl⟩
   obtain ⟨t0,ht0⟩: ∃t,t=(toL R).getD (i+n-1) 0:=⟨_,rfl⟩
   have ht1b:t1<4294967296:=by rw [ht1];exact (limbs_toL R).getD _
   have ht0b:t0<4294967296:=by rw [ht0];exact (limbs_toL R).getD _
   rw [←ht1,←ht0] at hT
   have horT:=orsum ht1b ht0b
   rw [hT] at horT
   obtain ⟨lx,hlx⟩: ∃l,l=(toL R).length:=⟨_,rfl⟩
   obtain ⟨wg,rfl⟩: ∃wg,wg=wr:=⟨_,rfl⟩
   have HCV2:=HCV.out wg K6.out
   unfold maxLen at x3
   have HDT:=Lib.hid hdt
   have HB6:=Lib.hid (HB2w.out wg K6.out)
   have hszd:(toL d0).length≤1:=sz_limb hd0l
   have hszp:=length_toL_mul B' d0
   rw [←HLN.out] at hszp
   have HSZ:=Lib.hid (show (toL (B'*d0)).length≤549755813888 by omega)
   have hszq:=length_toL_mul (B'*d0) (4294967296^i)
   have HSZ2:=Lib.hid (fun d (h:d≤d0)=>Nat.le_trans (length_mono (B'*d*4294967296^i) _ (Nat.mul_le_mul_right _ (Nat.mul_le_mul_left _ h))) (show (toL (B'*d0*4294967296^i)).length≤1099511627776 by omega))
   have HSZB:=Lib.hid (show (toL B').length≤549755813888 by rw [←HLN.out];omega)
   clear hszd hszp hszq hszk
   have HX5:=Lib.hid x5
   have HX4:=Lib.hid x4
   have hlx2:=Lib.hid hlx
   have hlxb:lx≤1099511627776:=by
    have h1:(toL R).length≤i+n-1+2:=length_toL_le _ _ hRb
    omega
   rw [←hlx] at x2 HR HRN⊢
   have hcases:(i+n<lx)∨(¬i+n<lx∧i+n-1<lx)∨(¬i+n<lx∧ ¬i+n-1<lx):=by omega
   rcases hcases with c1 | ⟨c1,c2⟩ | ⟨c1,c2⟩
   ·obtain ⟨rb,ro2,y1,e1,hc1,hy1,HY1⟩:=HX5.out.at HX4.out (i+n) (by rw [←hlx];exact c1)
    obtain ⟨rb',ro',y0,e0,hc0,hy0,HY0⟩:=HX5.out.at HX4.out (i+n-1) (by rw [←hlx];omega)
    subst e1
    obtain ⟨rfl,rfl⟩:rb=rb'∧ro2=ro':=by simpa using e0
    obtain rfl:y1=t1:=by rw [HY1.out,ht1]
    obtain rfl:y0=t0:=by rw [HY0.out,ht0]
    clear hj hii hRb hT hTT hg1 hq0 hd0 ht1 ht0 x4 x5 hlx HY1 HY0 e0 hdt hqT
    have HTM:=Lib.hid (times_m HB6.out (k:=n) (by rw [HLN.out];exact Nat.le_refl _) (by omega) hd0l)
    go_wp2_with (go_at_call 154;(with_reducible refine HTM.out.mono ?_);rintro e w7 ⟨v7,rfl,h7,K7⟩;refine Hid.out ?_)
    refine Lib.hid ?_
    have HSH:=Lib.hid (shifted_any (q:=i) h7 HSZ.out (by omega))
    go_wp2_with (go_at_call 153;(with_reducible refine HSH.out.mono ?_);rintro e w8 ⟨v8,rfl,h8,hn8,K8⟩;refine Hid.out ?_)
    refine Lib.hid ?_
    have HP8:=Lib.hid h8
    have HN8:=Lib.hid (hn8.notIn (Nat.lt_of_lt_of_le HQ.out.lt K7.size))
    have HK8:=Lib.hid (K7.tr K8)
    clear h7 h8 hn8 K7 K8
    have HD0:=Lib.hid hd0t
    clear hd0t
    go_wp2_with fail
    go_loopw [17,18] (fun dv pv wr=> ∃d:Nat,dv= .int .u64 (d:Nat)∧d≤d0∧Hid (dt≤d)∧Hid (M wr pv (B'*d*4294967296^i))∧Hid (NotIn w4.heap.size pv)∧Hid (Kp wg wr)) (fun dv _ _=>(intOf dv).toNat)
    case atStart=>exact ⟨d0,rfl,Nat.le_refl _,HD0,HP8,HN8,HK8⟩
    case round=>
     obtain ⟨d,rfl,hdd,HDD,HPV,HPN,HK9⟩:=hrel
     have HRW:=Lib.hid (HR.out.kp HK9.out)
     have HCM:=Lib.hid (rcmp_any _ _ (B'*d*4294967296^i) R wr HPV.out HRW.out)
     obtain ⟨c2,hc2⟩: ∃c,c=cmpv (B'*d*4294967296^i) R:=⟨_,rfl⟩
     rw [←hc2] at HCM
     have hgt:0<c2↔dt<d:=by rw [hc2,cmpv_pos,guess_gt hB'0,←HDT.out]
     clear hc2
     by_cases hdt:dt<d
     ·have hc3:0<c2:=hgt.2 hdt
      obtain ⟨d',rfl⟩: ∃d',d=d'+1:=⟨d-1,by omega⟩
      have hdd':((d'+1:Nat):Int)-1=(d':Int):=by omega
      have hdw:IntKind.u64.wrap (d':Int)=(d':Int):=IntWalk.u64_in _ (by omega)
      have hd'd:d'<d0:=by omega
      have HDD':=Lib.hid (show dt≤d' by omega)
      have HSF:=Lib.hid (fun w' (k:Kp wr w')=>shifted_any (q:=i) ((HB6.out.kp HK9.out).kp k) HSZB.out (by omega))
      have HMI:=Lib.hid (fun w' v (k:Kp wr w') (hv:M w' v (B'*4294967296^i))=>minus_new (HPV.out.kp k) hv (HSZ2.out _ hdd) (Nat.mul_le_mul_right _ (Nat.le_mul_of_pos_right _ (Nat.succ_pos _))))
      rw [guess_less] at HMI
      clear hgt hdt
      go_wp2_with (go_at_call 80;(with_reducible refine HCM.out.mono ?_);rintro e w10 ⟨rfl,K10⟩;refine Hid.out ?_)
      refine Lib.hid ?_
      have HSF1:=Lib.hid (HSF.out w10 K10)
      go_wp2_with (go_at_call 153;(with_reducible refine HSF1.out.mono ?_);rintro e w11 ⟨v11,rfl,h11,_,K11⟩;refine Hid.out ?_)
      refine Lib.hid ?_
      have HMI1:=Lib.hid (HMI.out w11 v11 (K10.tr K11) h11)
      clear h11
      go_wp2_with (go_at_call 121;(with_reducible refine HMI1.out.mono ?_);rintro e w12 ⟨v12,rfl,h12,hn12,K12⟩;refine Hid.out ?_)
      refine Lib.hid ?_
      have HM12:=Lib.hid h12
      have HN12:=Lib.hid (hn12.notIn (Nat.lt_of_lt_of_le HQ.out.lt (HK9.out.tr (K10.tr K11)).size))
      have HK12:=Lib.hid (HK9.out.tr ((K10.tr K11).tr K12))
      clear h12 hn12 K10 K11 K12
      go_wp2_with fail
      go_roundw
      case rel=>exact ⟨d',by go_num,by omega,HDD',HM12,HN12,HK12⟩
      case measure=>simp [intOf]
     ·have hc3: ¬0<c2:=fun h=>hdt (hgt.1 h)
      obtain rfl:d=dt:=by have:=HDD.out;omega
      clear hgt hdt
      go_wp2_with (go_at_call 80;(with_reducible refine HCM.out.mono ?_);rintro e w10 ⟨rfl,K10⟩;refine Hid.out ?_)
      refine Lib.hid ?_
      have K11:=K6.out.tr (HK9.out.tr K10)
      have HQ2:=Lib.hid (HQ.out.kp (HK9.out.tr K10))
      have hqc:=HQ2.out.cell i (by rw [HQl.out];exact hib)
      have hqf:=HQ2.out.frozen i
      obtain ⟨oq,hoq⟩: ∃o,o=Q.getD i 0:=⟨_,rfl⟩
      rw [←hoq] at hqc
      have hoff:=digit_off hB'0 HDT.out HRA.out
      have HW:Kp w4 (w10.setCell ⟨w4.heap.size,i,none⟩ (.int .u32 (d:Nat))):=K11.setCell (Nat.le_refl _) _
      have HRX:=Lib.hid ((HR.out.kp (HK9.out.tr K10)).put HRN.out i (.int .u32 (d:Nat)))
      have HPX:=Lib.hid ((HPV.out.kp K10).put HPN.out i (.int .u32 (d:Nat)))
      have HQX:=Lib.hid (HQ2.out.set i d)
      have HWX:=Lib.hid HW
      have HKX:=Lib.hid K10
      have hlR2:(toL R).length≤1099511627776:=by rw [←hlx2.out];exact hlxb
      have HMX:=Lib.hid (minus_new HRX.out HPX.out hlR2 hoff.2.2)
      have HOFF:=Lib.hid hoff
      have hdm2:(d:Int) % 4294967296=(d:Int):=by omega
      clear K10 K11 HW hoff hlR2
      go_wp2_with (go_at_call 121;(with_reducible refine HMX.out.mono ?_);rintro e w12 ⟨v12,rfl,h12,hn12,K12⟩;refine Hid.out ?_)
      refine Lib.hid ?_
      go_wp2_with fail
      go_roundw
      case rel=>exact ⟨i,R-B'*d*4294967296^i,Q.set i d,Nat.le_of_lt hib,rfl,Lib.hid h12,Lib.hid HOFF.out.1,Lib.hid (HQX.out.kp K12),Lib.hid (HQL.out.set _ _ (by omega)),Lib.hid (by rw [List.length_set];exact HQl.out),
       Lib.hid (by rw [val_set_drop Q i d (by rw [HQl.out];exact hib)];exact HOFF.out.2.1),Lib.hid (hn12.notIn (Nat.lt_of_lt_of_le HQ.out.lt (by have:=(HK9.out).size;have:=HKX.out.size;simp at*;omega))),Lib.hid (HWX.out.tr K12)⟩
      case measure=>simp [intOf]
   ·obtain ⟨rb',ro',y0,e0,hc0,hy0,HY0⟩:=HX5.out.at HX4.out (i+n-1) (by rw [←hlx];omega)
    subst e0
    obtain rfl:y0=t0:=by rw [HY0.out,ht0]
    have ht10:t1=0:=by rw [ht1];exact (getD_past _ _ (by rw [←hlx];exact c1)).symm
    have hor0:bits .or .u64 0 (y0:Int)=(T:Int):=by rw [←horT,ht10];rfl
    clear hj hii hRb hT hTT hg1 hq0 hd0 ht1 ht0 x4 x5 hlx HY0 hdt hqT ht10 horT
    have HTM:=Lib.hid (times_m HB6.out (k:=n) (by rw [HLN.out];exact Nat.le_refl _) (by omega) hd0l)
    go_wp2_with (go_at_call 154;(with_reducible refine HTM.out.mono ?_);rintro e w7 ⟨v7,rfl,h7,K7⟩;refine Hid.out ?_)
    refine Lib.hid ?_
    have HSH:=Lib.hid (shifted_any (q:=i) h7 HSZ.out (by omega))
    go_wp2_with (go_at_call 153;(with_reducible refine HSH.out.mono ?_);rintro e w8 ⟨v8,rfl,h8,hn8,K8⟩;refine Hid.out ?_)
    refine Lib.hid ?_
    have HP8:=Lib.hid h8
    have HN8:=Lib.hid (hn8.notIn (Nat.lt_of_lt_of_le HQ.out.lt K7.size))
    have HK8:=Lib.hid (K7.tr K8)
    clear h7 h8 hn8 K7 K8
    have HD0:=Lib.hid hd0t
    clear hd0t
    go_wp2_with fail
    go_loopw [17,18] (fun dv pv wr=> ∃d:Nat,dv= .int .u64 (d:Nat)∧d≤d0∧Hid (dt≤d)∧Hid (M wr pv (B'*d*4294967296^i))∧Hid (NotIn w4.heap.size pv)∧Hid (Kp wg wr)) (fun dv _ _=>(intOf dv).toNat)
    case atStart=>exact ⟨d0,rfl,Nat.le_refl _,HD0,HP8,HN8,HK8⟩
    case round=>
     obtain ⟨d,rfl,hdd,HDD,HPV,HPN,HK9⟩:=hrel
     have HRW:=Lib.hid (HR.out.kp HK9.out)
     have HCM:=Lib.hid (rcmp_any _ _ (B'*d*4294967296^i) R wr HPV.out HRW.out)
     obtain ⟨c2,hc2⟩: ∃c,c=cmpv (B'*d*4294967296^i) R:=⟨_,rfl⟩
     rw [←hc2] at HCM
     have hgt:0<c2↔dt<d:=by rw [hc2,cmpv_pos,guess_gt hB'0,←HDT.out]
     clear hc2
     by_cases hdt:dt<d
     ·have hc3:0<c2:=hgt.2 hdt
      obtain ⟨d',rfl⟩: ∃d',d=d'+1:=⟨d-1,by omega⟩
      have hdd':((d'+1:Nat):Int)-1=(d':Int):=by omega
      have hdw:IntKind.u64.wrap (d':Int)=(d':Int):=IntWalk.u64_in _ (by omega)
      have hd'd:d'<d0:=by omega
      have HDD':=Lib.hid (show dt≤d' by omega)
      have HSF:=Lib.hid (fun w' (k:Kp wr w')=>shifted_any (q:=i) ((HB6.out.kp HK9.out).kp k) HSZB.out (by omega))
      have HMI:=Lib.hid (fun w' v (k:Kp wr w') (hv:M w' v (B'*4294967296^i))=>minus_new (HPV.out.kp k) hv (HSZ2.out _ hdd) (Nat.mul_le_mul_right _ (Nat.le_mul_of_pos_right _ (Nat.succ_pos _))))
      rw [guess_less] at HMI
      clear hgt hdt
      go_wp2_with (go_at_call 80;(with_reducible refine HCM.out.mono ?_);rintro e w10 ⟨rfl,K10⟩;refine Hid.out ?_)
      refine Lib.hid ?_
      have HSF1:=Lib.hid (HSF.out w10 K10)
      go_wp2_with (go_at_call 153;(with_reducible refine HSF1.out.mono ?_);rintro e w11 ⟨v11,rfl,h11,_,K11⟩;refine Hid.out ?_)
      refine Lib.hid ?_
      have HMI1:=Lib.hid (HMI.out w11 v11 (K10.tr K11) h11)
      clear h11
      go_wp2_with (go_at_call 121;(with_reducible refine HMI1.out.mono ?_);rintro e w12 ⟨v12,rfl,h12,hn12,K12⟩;refine Hid.out ?_)
      refine Lib.hid ?_
      have HM12:=Lib.hid h12
      have HN12:=Lib.hid (hn12.notIn (Nat.lt_of_lt_of_le HQ.out.lt (HK9.out.tr (K10.tr K11)).size))
      have HK12:=Lib.hid (HK9.out.tr ((K10.tr K11).tr K12))
      clear h12 hn12 K10 K11 K12
      go_wp2_with fail
      go_roundw
      case rel=>exact ⟨d',by go_num,by omega,HDD',HM12,HN12,HK12⟩
      case measure=>simp [intOf]
     ·have hc3: ¬0<c2:=fun h=>hdt (hgt.1 h)
      obtain rfl:d=dt:=by have:=HDD.out;omega
      clear hgt hdt
      go_wp2_with (go_at_call 80;(with_reducible refine HCM.out.mono ?_);rintro e w10 ⟨rfl,K10⟩;refine Hid.out ?_)
      refine Lib.hid ?_
      have K11:=K6.out.tr (HK9.out.tr K10)
      have HQ2:=Lib.hid (HQ.out.kp (HK9.out.tr K10))
      have hqc:=HQ2.out.cell i (by rw [HQl.out];exact hib)
      have hqf:=HQ2.out.frozen i
      obtain ⟨oq,hoq⟩: ∃o,o=Q.getD i 0:=⟨_,rfl⟩
      rw [←hoq] at hqc
      have hoff:=digit_off hB'0 HDT.out HRA.out
      have HW:Kp w4 (w10.setCell ⟨w4.heap.size,i,none⟩ (.int .u32 (d:Nat))):=K11.setCell (Nat.le_refl _) _
      have HRX:=Lib.hid ((HR.out.kp (HK9.out.tr K10)).put HRN.out i (.int .u32 (d:Nat)))
      have HPX:=Lib.hid ((HPV.out.kp K10).put HPN.out i (.int .u32 (d:Nat)))
      have HQX:=Lib.hid (HQ2.out.set i d)
      have HWX:=Lib.hid HW
      have HKX:=Lib.hid K10
      have hlR2:(toL R).length≤1099511627776:=by rw [←hlx2.out];exact hlxb
      have HMX:=Lib.hid (minus_new HRX.out HPX.out hlR2 hoff.2.2)
      have HOFF:=Lib.hid hoff
      have hdm2:(d:Int) % 4294967296=(d:Int):=by omega
      clear K10 K11 HW hoff hlR2
      go_wp2_with (go_at_call 121;(with_reducible refine HMX.out.mono ?_);rintro e w12 ⟨v12,rfl,h12,hn12,K12⟩;refine Hid.out ?_)
      refine Lib.hid ?_
      go_wp2_with fail
      go_roundw
      case rel=>exact ⟨i,R-B'*d*4294967296^i,Q.set i d,Nat.le_of_lt hib,rfl,Lib.hid h12,Lib.hid HOFF.out.1,Lib.hid (HQX.out.kp K12),Lib.hid (HQL.out.set _ _ (by omega)),Lib.hid (by rw [List.length_set];exact HQl.out),
       Lib.hid (by rw [val_set_drop Q i d (by rw [HQl.out];exact hib)];exact HOFF.out.2.1),Lib.hid (hn12.notIn (Nat.lt_of_lt_of_le HQ.out.lt (by have:=(HK9.out).size;have:=HKX.out.size;simp at*;omega))),Lib.hid (HWX.out.tr K12)⟩
      case measure=>simp [intOf]
   ·have ht10:t1=0:=by rw [ht1];exact (getD_past _ _ (by rw [←hlx];exact c1)).symm
    have ht00:t0=0:=by rw [ht0];exact (getD_past _ _ (by rw [←hlx];exact c2)).symm
    have hT0:T=0:=by rw [←hT,ht10,ht00]
    subst hT0
    have hq00:q0=0:=by rw [hq0];exact Nat.zero_div _
    subst hq00
    have hmin0:min (0:Int) 4294967295=(d0:Int):=by omega
    have HTM:=Lib.hid (times_m HB6.out (k:=n) (by rw [HLN.out];exact Nat.le_refl _) (by omega) hd0l)
    clear hj hii hRb hT hTT hg1 hq0 hd0 ht1 ht0 x4 x5 hlx hdt hqT ht10 ht00 horT htd hwq hmin
    go_wp2_with (go_at_call 154;(with_reducible refine HTM.out.mono ?_);rintro e w7 ⟨v7,rfl,h7,K7⟩;refine Hid.out ?_)
    refine Lib.hid ?_
    have HSH:=Lib.hid (shifted_any (q:=i) h7 HSZ.out (by omega))
    go_wp2_with (go_at_call 153;(with_reducible refine HSH.out.mono ?_);rintro e w8 ⟨v8,rfl,h8,hn8,K8⟩;refine Hid.out ?_)
    refine Lib.hid ?_
    have HP8:=Lib.hid h8
    have HN8:=Lib.hid (hn8.notIn (Nat.lt_of_lt_of_le HQ.out.lt K7.size))
    have HK8:=Lib.hid (K7.tr K8)
    clear h7 h8 hn8 K7 K8
    have HD0:=Lib.hid hd0t
    clear hd0t
    go_wp2_with fail
    go_loopw [17,18] (fun dv pv wr=> ∃d:Nat,dv= .int .u64 (d:Nat)∧d≤d0∧Hid (dt≤d)∧Hid (M wr pv (B'*d*4294967296^i))∧Hid (NotIn w4.heap.size pv)∧Hid (Kp wg wr)) (fun dv _ _=>(intOf dv).toNat)
    case atStart=>exact ⟨d0,rfl,Nat.le_refl _,HD0,HP8,HN8,HK8⟩
    case round=>
     obtain ⟨d,rfl,hdd,HDD,HPV,HPN,HK9⟩:=hrel
     have HRW:=Lib.hid (HR.out.kp HK9.out)
     have HCM:=Lib.hid (rcmp_any _ _ (B'*d*4294967296^i) R wr HPV.out HRW.out)
     obtain ⟨c2,hc2⟩: ∃c,c=cmpv (B'*d*4294967296^i) R:=⟨_,rfl⟩
     rw [←hc2] at HCM
     have hgt:0<c2↔dt<d:=by rw [hc2,cmpv_pos,guess_gt hB'0,←HDT.out]
     clear hc2
     by_cases hdt:dt<d
     ·have hc3:0<c2:=hgt.2 hdt
      obtain ⟨d',rfl⟩: ∃d',d=d'+1:=⟨d-1,by omega⟩
      have hdd':((d'+1:Nat):Int)-1=(d':Int):=by omega
      have hdw:IntKind.u64.wrap (d':Int)=(d':Int):=IntWalk.u64_in _ (by omega)
      have hd'd:d'<d0:=by omega
      have HDD':=Lib.hid (show dt≤d' by omega)
      have HSF:=Lib.hid (fun w' (k:Kp wr w')=>shifted_any (q:=i) ((HB6.out.kp HK9.out).kp k) HSZB.out (by omega))
      have HMI:=Lib.hid (fun w' v (k:Kp wr w') (hv:M w' v (B'*4294967296^i))=>minus_new (HPV.out.kp k) hv (HSZ2.out _ hdd) (Nat.mul_le_mul_right _ (Nat.le_mul_of_pos_right _ (Nat.succ_pos _))))
      rw [guess_less] at HMI
      clear hgt hdt
      go_wp2_with (go_at_call 80;(with_reducible refine HCM.out.mono ?_);rintro e w10 ⟨rfl,K10⟩;refine Hid.out ?_)
      refine Lib.hid ?_
      have HSF1:=Lib.hid (HSF.out w10 K10)
      go_wp2_with (go_at_call 153;(with_reducible refine HSF1.out.mono ?_);rintro e w11 ⟨v11,rfl,h11,_,K11⟩;refine Hid.out ?_)
      refine Lib.hid ?_
      have HMI1:=Lib.hid (HMI.out w11 v11 (K10.tr K11) h11)
      clear h11
      go_wp2_with (go_at_call 121;(with_reducible refine HMI1.out.mono ?_);rintro e w12 ⟨v12,rfl,h12,hn12,K12⟩;refine Hid.out ?_)
      refine Lib.hid ?_
      have HM12:=Lib.hid h12
      have HN12:=Lib.hid (hn12.notIn (Nat.lt_of_lt_of_le HQ.out.lt (HK9.out.tr (K10.tr K11)).size))
      have HK12:=Lib.hid (HK9.out.tr ((K10.tr K11).tr K12))
      clear h12 hn12 K10 K11 K12
      go_wp2_with fail
      go_roundw
      case rel=>exact ⟨d',by go_num,by omega,HDD',HM12,HN12,HK12⟩
      case measure=>simp [intOf]
     ·have hc3: ¬0<c2:=fun h=>hdt (hgt.1 h)
      obtain rfl:d=dt:=by have:=HDD.out;omega
      clear hgt hdt
      go_wp2_with (go_at_call 80;(with_reducible refine HCM.out.mono ?_);rintro e w10 ⟨rfl,K10⟩;refine Hid.out ?_)
      refine Lib.hid ?_
      have K11:=K6.out.tr (HK9.out.tr K10)
      have HQ2:=Lib.hid (HQ.out.kp (HK9.out.tr K10))
      have hqc:=HQ2.out.cell i (by rw [HQl.out];exact hib)
      have hqf:=HQ2.out.frozen i
      obtain ⟨oq,hoq⟩: ∃o,o=Q.getD i 0:=⟨_,rfl⟩
      rw [←hoq] at hqc
      have hoff:=digit_off hB'0 HDT.out HRA.out
      have HW:Kp w4 (w10.setCell ⟨w4.heap.size,i,none⟩ (.int .u32 (d:Nat))):=K11.setCell (Nat.le_refl _) _
      have HRX:=Lib.hid ((HR.out.kp (HK9.out.tr K10)).put HRN.out i (.int .u32 (d:Nat)))
      have HPX:=Lib.hid ((HPV.out.kp K10).put HPN.out i (.int .u32 (d:Nat)))
      have HQX:=Lib.hid (HQ2.out.set i d)
      have HWX:=Lib.hid HW
      have HKX:=Lib.hid K10
      have hlR2:(toL R).length≤1099511627776:=by rw [←hlx2.out];exact hlxb
      have HMX:=Lib.hid (minus_new HRX.out HPX.out hlR2 hoff.2.2)
      have HOFF:=Lib.hid hoff
      have hdm2:(d:Int) % 4294967296=(d:Int):=by omega
      clear K10 K11 HW hoff hlR2
      go_wp2_with (go_at_call 121;(with_reducible refine HMX.out.mono ?_);rintro e w12 ⟨v12,rfl,h12,hn12,K12⟩;refine Hid.out ?_)
      refine Lib.hid ?_
      go_wp2_with fail
      go_roundw
      case rel=>exact ⟨i,R-B'*d*4294967296^i,Q.set i d,Nat.le_of_lt hib,rfl,Lib.hid h12,Lib.hid HOFF.out.1,Lib.hid (HQX.out.kp K12),Lib.hid (HQL.out.set _ _ (by omega)),Lib.hid (by rw [List.length_set];exact HQl.out),
       Lib.hid (by rw [val_set_drop Q i d (by rw [HQl.out];exact hib)];exact HOFF.out.2.1),Lib.hid (hn12.notIn (Nat.lt_of_lt_of_le HQ.out.lt (by have:=(HK9.out).size;have:=HKX.out.size;simp at*;omega))),Lib.hid (HWX.out.tr K12)⟩
      case measure=>simp [intOf]
  ·obtain rfl:j=0:=by omega
   have hv:=HRA.out
   rw [Nat.pow_zero,Nat.one_mul,List.drop_zero] at hv
   have hl:=HRL.out
   rw [Nat.pow_zero,Nat.mul_one] at hl
   obtain ⟨e1,e2⟩:=HEND.out R (val Q) hv hl
   have hlr2:(toL R).length≤549755813888:=by
    have:=length_mono R B' (Nat.le_of_lt hl)
    rw [←HLN.out] at this
    omega
   have hrd:=HQ.out.rd HQL.out cnt (by rw [HQl.out];exact Nat.le_refl _) cnt (Nat.le_refl _) (by unfold maxLen;omega)
   rw [List.take_of_length_le (by rw [HQl.out];exact Nat.le_refl _),hcnt] at hrd
   have htl:=toL_val HQL.out
   rw [e1] at htl
   have HTR:=Lib.hid (fun w' (k:Kp wr w')=>trim_any _ Q w' (hrd.kp k) (by rw [HQl.out];omega))
   rw [←htl] at HTR
   have HDN:=Lib.hid (fun w' (k:Kp wr w')=>down_m (HR.out.kp k) hlr2 s (by omega))
   rw [e2] at HDN
   clear hv hl e1 e2 hlr2 hrd htl
   have HTR1:=Lib.hid (HTR.out wr (Below.refl _ _))
   go_wp2_with (go_at_call 113;(with_reducible refine HTR1.out.mono ?_);rintro e w20 ⟨vq,rfl,hq,K20⟩;refine Hid.out ?_)
   refine Lib.hid ?_
   have HDN1:=Lib.hid (HDN.out w20 K20)
   have HVQ:=Lib.hid hq
   clear hq
   go_wp2_with (go_at_call 155;(with_reducible refine HDN1.out.mono ?_);rintro e w21 ⟨vr2,rfl,hr2,K21⟩;refine Hid.out ?_)
   refine Lib.hid ?_
   go_wp2
   go_ret3
   exact ⟨_,_,rfl,HVQ.out.kp K21,hr2,(K0.out.tr K6.out).tr (K20.tr K21)⟩
end Go.Proofs.YtkmalkcgkcpcmaaGreatDoor
namespace Go.Proofs.YtkmalkcgkcpcmaaGreatDoor
open Go.RowKit
set_option maxRecDepth 20000 in
set_option maxHeartbeats 1000000 in
theorem rdiv_less {w:World} {a b:Value} {A B:Nat} (ha:M w a A) (hb:M w b B) (hlA:(toL A).length≤1073741824) (h:A<B):
  Calls Tryz.prog 120 #[a,b] w fun e w'=> ∃q r,e= .returned (.tuple #[q,r,.int .i64 0])∧M w' q (A/B)∧M w' r (A % B)∧Kp w w':=by
 have HC:=Lib.hid (rcmp_any a b A B w ha hb)
 rw [cmpv_lt h] at HC
 rw [Nat.div_eq_of_lt h,Nat.mod_eq_of_lt h]
 have HT:=Lib.hid (fun w' (k:Kp w w')=>rtrim_m (ha.kp k) (by omega))
 have hB0:0<(toL B).length:=by
  rcases Nat.eq_zero_or_pos (toL B).length with e | e
  ·have:=(toL_nil_iff B).1 (List.length_eq_zero_iff.1 e)
   omega
  ·exact e
 obtain ⟨bo,bc,rfl,b1,b2,b3,b4⟩:=hb
 unfold maxLen at b2
 obtain ⟨lb,hlb⟩: ∃l,l=(toL B).length:=⟨_,rfl⟩
 rw [←hlb] at HC b1 hB0⊢
 have hne:((lb:Int)==0)=false:=beq_eq_false_iff_ne.2 (by omega)
 clear hlb b3 b4 h ha
 go_enter Tryz.func120,Tryz.ntmps120
 go_wp2_with (go_at_call 80;(with_reducible refine HC.out.mono ?_);rintro e w1 ⟨rfl,K1⟩;refine Hid.out ?_)
 refine Lib.hid ?_
 have HT1:=Lib.hid (HT.out w1 K1)
 go_wp2_with (go_at_call 113;(with_reducible refine HT1.out.mono ?_);rintro e w2 ⟨v2,rfl,h2,K2⟩;refine Hid.out ?_)
 refine Lib.hid ?_
 go_wp2
 go_ret3
 exact ⟨_,_,rfl,m_nil _,h2,K1.tr K2⟩
set_option maxRecDepth 20000 in
set_option maxHeartbeats 1000000 in
theorem rdiv_small {w:World} {a b:Value} {A B:Nat} (ha:M w a A) (hb:M w b B) (hlA:(toL A).length≤2) (hB:0<B) (h:B≤A):
  Calls Tryz.prog 120 #[a,b] w fun e w'=> ∃q r,e= .returned (.tuple #[q,r,.int .i64 0])∧M w' q (A/B)∧M w' r (A % B)∧Kp w w':=by
 have HC:=Lib.hid (rcmp_any a b A B w ha hb)
 have hcv:=cmpv_ge h
 obtain ⟨cv,hcv0⟩: ∃cv,cv=cmpv A B:=⟨_,rfl⟩
 rw [←hcv0] at HC hcv
 have hlB:=Nat.le_trans (length_mono _ _ h) hlA
 have HSA:=Lib.hid (fun w' (k:Kp w w')=>rsmall_yes (ha.kp k) hlA)
 have HSB:=Lib.hid (fun w' (k:Kp w w')=>rsmall_yes (hb.kp k) hlB)
 have hAlt:=lt_two hlA
 have hB0:0<(toL B).length:=by
  rcases Nat.eq_zero_or_pos (toL B).length with e | e
  ·have:=(toL_nil_iff B).1 (List.length_eq_zero_iff.1 e)
   omega
  ·exact e
 obtain ⟨q,hq⟩: ∃q,q=A/B:=⟨_,rfl⟩
 obtain ⟨r,hr⟩: ∃r,r=A % B:=⟨_,rfl⟩
 have hqA:q≤A:=by rw [hq];exact Nat.div_le_self _ _
 have hrA:r<B:=by rw [hr];exact Nat.mod_lt _ hB
 rw [←hq,←hr]
 have htd:(A:Int).tdiv (B:Int)=(q:Int):=by rw [tdivN,hq]
 have htm:(A:Int).tmod (B:Int)=(r:Int):=by rw [hr];rfl
 have hqw:IntKind.u64.wrap (q:Int)=(q:Int):=IntWalk.u64_in _ (by omega)
 have hrw:IntKind.u64.wrap (r:Int)=(r:Int):=IntWalk.u64_in _ (by omega)
 have HOQ:=Lib.hid (fun w'=>rof_any q w' (by omega))
 have HOR:=Lib.hid (fun w'=>rof_any r w' (by omega))
 obtain ⟨bo,bc,rfl,b1,b2,b3,b4⟩:=hb
 unfold maxLen at b2
 obtain ⟨lb,hlb⟩: ∃l,l=(toL B).length:=⟨_,rfl⟩
 rw [←hlb] at HC HSB b1 hB0⊢
 have hne:((lb:Int)==0)=false:=beq_eq_false_iff_ne.2 (by omega)
 clear hlb b3 b4 h ha hq hr hcv0
 go_enter Tryz.func120,Tryz.ntmps120
 go_wp2_with (go_at_call 80;(with_reducible refine HC.out.mono ?_);rintro e w1 ⟨rfl,K1⟩;refine Hid.out ?_)
 refine Lib.hid ?_
 have HS1:=Lib.hid (HSA.out w1 K1)
 go_wp2_with (go_at_call 150;(with_reducible refine HS1.out.mono ?_);rintro e w2 ⟨rfl,K2⟩;refine Hid.out ?_)
 refine Lib.hid ?_
 have HS2:=Lib.hid (HSB.out w2 (K1.tr K2))
 go_wp2_with (go_at_call 150;(with_reducible refine HS2.out.mono ?_);rintro e w3 ⟨rfl,K3⟩;refine Hid.out ?_)
 refine Lib.hid ?_
 go_wp2_with fail
 go_region_with (first
  | (go_at_call_of 99 (Value.int .u64 (q:Int));refine (HOQ.out _).mono ?_;rintro e w5 ⟨v5,rfl,h5,K5⟩)
  | (go_at_call_of 99 (Value.int .u64 (r:Int));refine (HOR.out _).mono ?_;rintro e w6 ⟨v6,rfl,h6,K6⟩))
 all_goals go_wp2_with fail
 all_goals go_ret3
 all_goals have K3d:Kp w w3.drew:=((K1.tr K2).tr K3).drew
 all_goals first
  | exact ⟨v5,v6,rfl,h5.kp K6,h6,(K3d.tr K5).tr K6⟩
  | exact ⟨v5,v6,rfl,h5,h6.kp K5,(K3d.tr K6).tr K5⟩
set_option maxRecDepth 20000 in
set_option maxHeartbeats 1000000 in
theorem rdiv_limb {w:World} {a b:Value} {A B:Nat} (ha:M w a A) (hb:M w b B) (hlA:(toL A).length≤1073741824) (h3:2<(toL A).length) (h1:(toL B).length=1) (h:B≤A):
  Calls Tryz.prog 120 #[a,b] w fun e w'=> ∃q r,e= .returned (.tuple #[q,r,.int .i64 0])∧M w' q (A/B)∧M w' r (A % B)∧Kp w w':=by
 have HC:=Lib.hid (rcmp_any a b A B w ha hb)
 have hcv:=cmpv_ge h
 obtain ⟨cv,hcv0⟩: ∃cv,cv=cmpv A B:=⟨_,rfl⟩
 rw [←hcv0] at HC hcv
 have HSA:=Lib.hid (fun w' (k:Kp w w')=>rsmall_no (ha.kp k) h3)
 have hBl:B<4294967296:=by
  have:=toL_lt B
  rw [h1] at this
  simpa using this
 have hB0:0<B:=by
  rcases Nat.eq_zero_or_pos B with e | e
  ·rw [e,toL_zero] at h1;simp at h1
  ·exact e
 have HBL:=Lib.hid (fun w' (k:Kp w w')=>byLimb_any a A B w' (ha.kp k) (by omega) hB0 hBl)
 have hr:A % B<4294967296:=Nat.lt_trans (Nat.mod_lt _ hB0) hBl
 have HOR:=Lib.hid (fun w'=>rof_any (A % B) w' (by omega))
 obtain ⟨q,hq⟩: ∃q,q=A/B:=⟨_,rfl⟩
 obtain ⟨r,hrr⟩: ∃r,r=A % B:=⟨_,rfl⟩
 rw [←hq,←hrr] at HBL⊢
 rw [←hrr] at HOR hr
 obtain ⟨bo,bc,rfl,b1,b2,b3,b4⟩:=hb
 have ho:=toL_one_limb h1
 obtain ⟨bb,boff,x,rfl,hcx,hx,HX⟩:=b4.at b3 0 (by omega)
 rw [ho] at HX
 obtain rfl:x=B:=HX.out
 rw [Nat.add_zero] at hcx
 have HCX:=Lib.hid (fun w' (k:Kp w w')=>(k.cell (World.block_lt_of_cell? w _ hcx)).trans hcx)
 unfold maxLen at b2
 rw [h1] at HC b1⊢
 clear b3 b4 h ha hq hrr hcv0 ho HX hcx
 go_enter Tryz.func120,Tryz.ntmps120
 go_wp2_with (go_at_call 80;(with_reducible refine HC.out.mono ?_);rintro e w1 ⟨rfl,K1⟩;refine Hid.out ?_)
 refine Lib.hid ?_
 have HS1:=Lib.hid (HSA.out w1 K1)
 have hcw:=HCX.out w1 K1
 go_wp2_with (go_at_call 150;(with_reducible refine HS1.out.mono ?_);rintro e w2 ⟨rfl,rfl⟩;refine Hid.out ?_)
 refine Lib.hid ?_
 have HB1:=Lib.hid (HBL.out w1 K1)
 go_wp2_with (go_at_call 122;(with_reducible refine HB1.out.mono ?_);rintro e w3 ⟨v3,k3,rfl,h3',K3⟩;refine Hid.out ?_)
 refine Lib.hid ?_
 have hm:M w3 v3 q:=Rd.owned h3' (limbs_toL q)
 have HQ:=Lib.hid hm
 clear hm h3'
 go_wp2_with (go_at_call 99;(with_reducible refine (HOR.out w3).mono ?_);rintro e w4 ⟨v4,rfl,h4,K4⟩;refine Hid.out ?_)
 refine Lib.hid ?_
 go_wp2
 go_ret3
 exact ⟨_,_,rfl,HQ.out.kp K4,h4,(K1.tr K3).tr K4⟩
theorem rdiv_any {w:World} {a b:Value} {A B:Nat} (ha:M w a A) (hb:M w b B) (hlA:(toL A).length≤1073741824) (hB:B≠0):
  Calls Tryz.prog 120 #[a,b] w fun e w'=> ∃q r,e= .returned (.tuple #[q,r,.int .i64 0])∧M w' q (A/B)∧M w' r (A % B)∧Kp w w':=by
 by_cases h:A<B
 ·exact rdiv_less ha hb hlA h
 ·by_cases h2:(toL A).length≤2
  ·exact rdiv_small ha hb h2 (by omega) (by omega)
  ·have hne:(toL B).length≠0:=fun e=>hB ((toL_nil_iff B).1 (List.length_eq_zero_iff.1 e))
   by_cases h1:(toL B).length=1
   ·exact rdiv_limb ha hb hlA (by omega) h1 (by omega)
   ·exact rdiv_long ha hb hlA (by omega) (by omega) (by omega)
end Go.Proofs.YtkmalkcgkcpcmaaGreatDoor
namespace Go.Proofs.YtkmalkcgkcpcmaaGreatDoor
open Go.RowKit
theorem rsmall_any {w:World} {v:Value} {n:Nat} (h:M w v n):
  Calls Tryz.prog 150 #[v] w fun e w'=> ∃x:Nat,∃ok:Bool,e= .returned (.tuple #[.int .u64 (x:Nat),.bool ok])∧Kp w w':=by
 by_cases h2:(toL n).length≤2
 ·refine (rsmall_yes h h2).mono ?_
  rintro e w' ⟨he,k⟩
  exact ⟨n,true,he,k⟩
 ·refine (rsmall_no h (by omega)).mono ?_
  rintro e w' ⟨he,rfl⟩
  exact ⟨0,false,he,Below.refl _ _⟩
def Eucl (w0 wr:World) (G L k:Nat) (va vb:Value):Prop:= ∃A':Nat,M wr va A'∧M wr vb k∧Nat.gcd A' k=G∧(toL A').length≤L∧(toL k).length≤L∧Kp w0 wr
set_option maxRecDepth 20000 in
set_option maxHeartbeats 1000000 in
theorem rgcd_any {w:World} {a b:Value} {A B:Nat} (ha:M w a A) (hb:M w b B) (hlA:(toL A).length≤1073741824) (hlB:(toL B).length≤1073741824):
  Calls Tryz.prog 119 #[a,b] w fun e w'=> ∃v,e= .returned v∧M w' v (Nat.gcd A B)∧Kp w w':=by
 have HTA:=Lib.hid (rtrim_m ha (by omega))
 have HTB:=Lib.hid (fun w' (k:Kp w w')=>rtrim_m (hb.kp k) (by omega))
 obtain ⟨G,hG⟩: ∃G,G=Nat.gcd A B:=⟨_,rfl⟩
 rw [←hG]
 have HG:=Lib.hid hG
 clear hG ha hb
 go_enter Tryz.func119,Tryz.ntmps119
 go_wp2_with (go_at_call 113;(with_reducible refine HTA.out.mono ?_);rintro e w1 ⟨va,rfl,mva,K1⟩;refine Hid.out ?_)
 refine Lib.hid ?_
 have HTB1:=Lib.hid (HTB.out w1 K1)
 have MVA:=Lib.hid mva
 clear mva
 go_wp2_with (go_at_call 113;(with_reducible refine HTB1.out.mono ?_);rintro e w2 ⟨vb,rfl,mvb,K2⟩;refine Hid.out ?_)
 refine Lib.hid ?_
 have HST:Hid (Eucl w w2 G 1073741824 B va vb):=Lib.hid ⟨A,MVA.out.kp K2,mvb,HG.out.symm,hlA,hlB,K1.tr K2⟩
 clear mvb K1 K2
 go_wp2_with fail
 go_loopg [0,1] B (fun k av bv wr=>Hid (Eucl w wr G 1073741824 k av bv))
 case atStart=>exact HST
 case round=>
  obtain ⟨A',mA,mB,hg,hla,hlb,K3⟩:=hrel.out
  obtain ⟨bo,bc,rfl,b1,b2,b3,b4⟩:=id mB
  obtain ⟨ao,ac,rfl,a1,a2,a3,a4⟩:=id mA
  unfold maxLen at b2 a2
  have HMA:=Lib.hid mA
  have HMB:=Lib.hid mB
  have HGG:=Lib.hid hg
  have HK3:=Lib.hid K3
  have hz:(toL gk).length=0→gk=0:=fun h=>(toL_nil_iff gk).1 (List.length_eq_zero_iff.1 h)
  obtain ⟨lb,hlb'⟩: ∃l,l=(toL gk).length:=⟨_,rfl⟩
  have HLB:=Lib.hid hlb'
  obtain ⟨la,hla'⟩: ∃l,l=(toL A').length:=⟨_,rfl⟩
  have HLA:=Lib.hid hla'
  rw [←hlb'] at b1 hz HMB hlb⊢
  rw [←hla'] at a1 HMA hla⊢
  clear hrel mA mB hg b3 b4 a3 a4 K3 hlb' hla'
  by_cases h0:lb=0
  ·have hgk:=hz h0
   have hGA:G=A':=by rw [←HGG.out,hgk];exact Nat.gcd_zero_right _
   have HR:=Lib.hid (show M wr (.slice ao la ac) G by rw [hGA];exact HMA.out)
   subst h0
   clear hz hgk hGA
   go_wp2
   go_ret
   exact ⟨_,rfl,HR.out,HK3.out⟩
  ·have hgk0:gk≠0:=by
    intro e
    apply h0
    rw [HLB.out,e,toL_zero]
    rfl
   have HGK:=Lib.hid hgk0
   clear hz
   by_cases h1:la≤2
   ·by_cases h2:lb≤2
    ·have HSA:=Lib.hid (rsmall_yes HMA.out (by rw [←HLA.out];exact h1))
     have HSB:=Lib.hid (fun w' (k:Kp wr w')=>rsmall_yes (HMB.out.kp k) (by rw [←HLB.out];exact h2))
     have hAlt:=lt_two (n:=A') (by rw [←HLA.out];exact h1)
     have hBlt:=lt_two (n:=gk) (by rw [←HLB.out];exact h2)
     clear hgk0 h1 hla
     go_wp2_with (go_at_call 150;(with_reducible refine HSA.out.mono ?_);rintro e w4 ⟨rfl,K4⟩;refine Hid.out ?_)
     refine Lib.hid ?_
     have HSB1:=Lib.hid (HSB.out w4 K4)
     go_wp2_with (go_at_call 150;(with_reducible refine HSB1.out.mono ?_);rintro e w5 ⟨rfl,K5⟩;refine Hid.out ?_)
     refine Lib.hid ?_
     have HK5:=Lib.hid (HK3.out.tr (K4.tr K5))
     clear K4 K5
     go_wp2_with fail
     go_loopw [5,7] (fun xv yv wr=> ∃x y:Nat,xv= .int .u64 x∧yv= .int .u64 y∧x<18446744073709551616∧y<18446744073709551616∧Hid (Nat.gcd x y=G)∧Hid (Kp w wr)) (fun _ yv _=>(intOf yv).toNat)
     case atStart=>exact ⟨A',gk,rfl,rfl,hAlt,hBlt,HGG,HK5⟩
     case round=>
      obtain ⟨x,y,rfl,rfl,hx,hy,HXY,HK6⟩:=hrel
      by_cases hy0:y=0
      ·have hGx:G=x:=by rw [←HXY.out,hy0];exact Nat.gcd_zero_right _
       have HOF:=Lib.hid (rof_any x wr hx)
       rw [←hGx] at HOF
       have HXG:=Lib.hid hGx
       subst hy0
       subst hGx
       go_wp2_with (go_at_call 99;(with_reducible refine HOF.out.mono ?_);rintro e w7 ⟨v7,rfl,h7,K7⟩;refine Hid.out ?_)
       refine Lib.hid ?_
       go_wp2
       go_ret
       exact ⟨_,rfl,h7,HK6.out.tr K7⟩
      ·have hyi:((y:Int) !=0)=true:=by rw [bne_iff_ne];omega
       obtain ⟨r,hr⟩: ∃r,r=x % y:=⟨_,rfl⟩
       have hry:r<y:=by rw [hr];exact Nat.mod_lt _ (by omega)
       have htm:(x:Int).tmod (y:Int)=(r:Int):=by rw [hr];rfl
       have hrw:IntKind.u64.wrap (r:Int)=(r:Int):=IntWalk.u64_in _ (by omega)
       have HN:=Lib.hid (show Nat.gcd y r=G by rw [hr,←HXY.out,Nat.gcd_comm x,Nat.gcd_rec y x,Nat.gcd_comm])
       clear hr
       go_wp2
       go_quiet (fail)
       go_wp2
       go_roundw
       case rel=>exact ⟨y,r,rfl,rfl,hy,by omega,HN,Lib.hid (HK6.out.drewN _)⟩
       case measure=>simp [intOf];omega
    ·have HSA:=Lib.hid (rsmall_yes HMA.out (by rw [←HLA.out];exact h1))
     have HSB:=Lib.hid (fun w' (k:Kp wr w')=>rsmall_no (HMB.out.kp k) (by rw [←HLB.out];omega))
     have HDV:=Lib.hid (fun w' (k:Kp wr w')=>rdiv_any (HMA.out.kp k) (HMB.out.kp k) (by rw [←HLA.out];exact hla) hgk0)
     clear hgk0 h1
     go_wp2_with (go_at_call 150;(with_reducible refine HSA.out.mono ?_);rintro e w4 ⟨rfl,K4⟩;refine Hid.out ?_)
     refine Lib.hid ?_
     have HSB1:=Lib.hid (HSB.out w4 K4)
     have HDV1:=Lib.hid (HDV.out w4 K4)
     go_wp2_with (first
      | (go_at_call 150;(with_reducible refine HSB1.out.mono ?_);rintro e w5 ⟨rfl,rfl⟩)
      | (go_at_call 120;(with_reducible refine HDV1.out.mono ?_);rintro e w6 ⟨q6,r6,rfl,_,hr6,K6⟩;refine Hid.out ?_))
     refine Lib.hid ?_
     have HN:Hid (Eucl w w6 G 1073741824 (A' % gk) (.slice bo lb bc) r6):=Lib.hid ⟨gk,HMB.out.kp (K4.tr K6),hr6,by rw [←HGG.out,Nat.gcd_comm A',Nat.gcd_rec gk A',Nat.gcd_comm],by rw [←HLB.out];exact hlb,Nat.le_trans (length_mono _ _ (Nat.mod_le _ _)) (by rw [←HLA.out];exact hla),HK3.out.tr (K4.tr K6)⟩
     clear K4 K6 hr6
     go_wp2_with fail
     go_roundg (A' % gk)
     case measure=>exact Nat.mod_lt _ (Nat.pos_of_ne_zero HGK.out)
     case rel=>exact HN
   ·have HSA:=Lib.hid (rsmall_no HMA.out (by rw [←HLA.out];omega))
    have HSB:=Lib.hid (rsmall_any HMB.out)
    have HDV:=Lib.hid (fun w' (k:Kp wr w')=>rdiv_any (HMA.out.kp k) (HMB.out.kp k) (by rw [←HLA.out];exact hla) hgk0)
    clear hgk0 h1
    go_wp2_with (go_at_call 150;first
     | ((with_reducible refine HSA.out.mono ?_);rintro e w4 ⟨rfl,rfl⟩)
     | ((with_reducible refine HSB.out.mono ?_);rintro e w5 ⟨x5,ok5,rfl,K5⟩;refine Hid.out ?_))
    refine Lib.hid ?_
    have HDV1:=Lib.hid (HDV.out w5 K5)
    go_wp2_with (go_at_call 120;(with_reducible refine HDV1.out.mono ?_);rintro e w6 ⟨q6,r6,rfl,_,hr6,K6⟩;refine Hid.out ?_)
    refine Lib.hid ?_
    have HN:Hid (Eucl w w6 G 1073741824 (A' % gk) (.slice bo lb bc) r6):=Lib.hid ⟨gk,HMB.out.kp (K5.tr K6),hr6,by rw [←HGG.out,Nat.gcd_comm A',Nat.gcd_rec gk A',Nat.gcd_comm],by rw [←HLB.out];exact hlb,Nat.le_trans (length_mono _ _ (Nat.mod_le _ _)) (by rw [←HLA.out];exact hla),HK3.out.tr (K5.tr K6)⟩
    clear K5 K6 hr6
    go_wp2_with fail
    go_roundg (A' % gk)
    case measure=>exact Nat.mod_lt _ (Nat.pos_of_ne_zero HGK.out)
    case rel=>exact HN
end Go.Proofs.YtkmalkcgkcpcmaaGreatDoor
