/-
  Several texts in one: RefAM, RefM, AddsL, RShift, Parse, Parse2, Parse3, ByLimb.
-/
import Derived.Test.YtfineedhebhpaaaGreatDoorBc
import Derived.Lib.Strings
namespace Go.Proofs.YtfineedhebhpaaaGreatDoor
open Lib renaming hid→Yt
open Nat renaming le_refl→Yu
set_option maxHeartbeats 16000000
open Go.RowKit
theorem Xp {O:List Nat} {n:Nat} (hL:Ai O) (hv:val O=n) (hl:O.length≤(toL n).length):O=toL n:=by
 subst hv
 rw [BY hL] at hl⊢
 have h1:=AC O
 have h2:=A6 O
 rw [List.take_of_length_le hl] at h2
 exact h2
theorem Xl {n k:Nat} (h:0<k→4294967296^(k-1)≤n):k≤(toL n).length:=by
 rcases Nat.eq_zero_or_pos k with e|e
 ·omega
 ·have h1:=h e
  have h2:=Cw n
  have h3:k-1<(toL n).length:=by
   rcases Nat.lt_or_ge (k-1) (toL n).length with h4|h4
   ·exact h4
   ·have:=Nat.pow_le_pow_right (show 0<4294967296 by omega) h4
    omega
  omega
theorem EY {m k:Nat} (h:k<(toL m).length):4294967296^k≤m:=by
 have h0:m≠0:=by
  intro e
  rw [e,Az] at h
  simp at h
 have h1:=ML m h0
 exact Nat.le_trans (Nat.pow_le_pow_right (by omega) (by omega)) h1
theorem I7 {O X Y:List Nat} {k c x y:Nat} (hl:O.length=k) (hv:val O+4294967296^k*c=val (X.take k)+val (Y.take k)) (hx:x=X.getD k 0) (hy:y=Y.getD k 0):
  val (O++ [(c+x+y) % 4294967296])+4294967296^(k+1)*((c+x+y)/4294967296)=val (X.take (k+1))+val (Y.take (k+1)):=by
 rw [G3,hl,Au X,Au Y,←hx,←hy,JE k,Nat.mul_assoc]
 have e:4294967296^k*((c+x+y) % 4294967296)+4294967296^k*(4294967296*((c+x+y)/4294967296))=4294967296^k*c+4294967296^k*x+4294967296^k*y:=by
  rw [←Nat.mul_add,Nat.mod_add_div,Nat.mul_add,Nat.mul_add]
 omega
theorem Ix (X:List Nat) (k:Nat):val (X.take k)≤val X:=by
 conv=>rhs;rw [←List.take_append_drop k X,Cb]
 omega
theorem UR {O X Y:List Nat} {k c:Nat} (hv:val O+4294967296^k*c=val (X.take k)+val (Y.take k)) (hc:0<c):4294967296^k≤val X+val Y:=by
 have h1:=Ix X k
 have h2:=Ix Y k
 have h3:=Nat.mul_le_mul_left (4294967296^k) hc
 rw [Nat.mul_one] at h3
 omega
theorem Wp {O X Y:List Nat} {k:Nat} (hl:O.length=k) (hv:val O+4294967296^k*1=val (X.take k)+val (Y.take k)) (hx:0=X.getD k 0) (hy:0=Y.getD k 0):
  val (O++ [1])+4294967296^(k+1)*0=val (X.take (k+1))+val (Y.take (k+1)):=by
 have:=I7 hl hv hx hy
 rwa [show (1+0+0) % 4294967296=1 from rfl,show (1+0+0)/4294967296=0 from rfl] at this
theorem PL {O X Y:List Nat} {k c:Nat} (_hO:Ai O) (hl:O.length=k) (hX:Ai X) (hY:Ai Y) (h1:X.length+1≤k) (h2:Y.length+1≤k) (hv:val O+4294967296^k*c=val (X.take k)+val (Y.take k)):c=0:=by
 rw [List.take_of_length_le (by omega),List.take_of_length_le (by omega)] at hv
 obtain ⟨j,rfl⟩: ∃j,k=j+1:=⟨k-1,by omega⟩
 have b1:=Cf hX
 have b2:=Cf hY
 have p1:4294967296^X.length≤4294967296^j:=Nat.pow_le_pow_right (by omega) (by omega)
 have p2:4294967296^Y.length≤4294967296^j:=Nat.pow_le_pow_right (by omega) (by omega)
 rcases Nat.eq_zero_or_pos c with h|h
 ·exact h
 ·have h3:=Nat.mul_le_mul_left (4294967296^(j+1)) h
  rw [Nat.mul_one,JE j] at h3
  rw [JE j] at hv
  generalize 4294967296^j=B at*
  generalize 4294967296^X.length=B1 at*
  generalize 4294967296^Y.length=B2 at*
  omega
theorem DQ (O:List Nat) (x:Nat):cellsOf O++cellsOf [x]=cellsOf (O++ [x]):=by simp [cellsOf]
theorem RW (a b:Value) (X Y:List Nat) (w:World) (ha:Rd w a X) (hb:Rd w b Y) (hl1:X.length≤1099511627776) (hl2:Y.length≤1099511627776)
  (hpx: ∀k,k<X.length→4294967296^k≤val X) (hpy: ∀k,k<Y.length→4294967296^k≤val Y):
  Calls Tryz.prog 183 #[a,b] w fun e w'=> ∃v',e= .returned v'∧Rd w' v' (toL (val X+val Y))∧Kp w w':=by
 obtain ⟨i0,hi,hz0,hz1,hz2⟩:=info_parts BT
 obtain ⟨ao,ac,rfl,a1,a2,a3,a4⟩:=ha
 obtain ⟨bo,bc,rfl,b1,b2,b3,b4⟩:=hb
 have A3:=Yt a3
 have B3:=Yt b3
 have HPX:=Yt hpx
 have HPY:=Yt hpy
 unfold maxLen at a2 b2
 clear a3 b3 hpx hpy
 go_enter Tryz.func183,Tryz.ntmps183
 go_wp2
 go_loopw [5,6,7] (fun ov cv i wr=> ∃(k c:Nat) (O:List Nat),i= .int .i64 k∧cv= .int .u64 c∧c≤1∧k≤X.length+Y.length+1∧wr.ownsRow w.heap.size 31 1 ov k (cellsOf O)∧O.length=k∧Ai O∧
  val O+4294967296^k*c=val (X.take k)+val (Y.take k)∧(0<k→4294967296^(k-1)≤val X+val Y)∧Kp w wr) (fun _ _ i _=>X.length+Y.length+2-(intOf i).toNat)
 case atStart=>exact ⟨0,0,[],rfl,rfl,by omega,by omega,World.ownsRow_nil _ _ _ _,rfl,Ai.nil,by simp [val],fun h=>absurd h (by omega),Below.refl _ _⟩
 case round=>
  obtain ⟨k,c,O,rfl,rfl,hc,hk,hO,hOl,hOL,hval,hp,K3⟩:=hrel
  have HO:=Yt hO
  have HOl:=Yt hOl
  have HOL:=Yt hOL
  have HV:=Yt hval
  have HP:=Yt hp
  clear hO hOl hOL hval hp
  by_cases hkx:k<X.length
  ·obtain ⟨ab,aoff,x,rfl,hcell,hx,HX⟩:=(a4.kp K3).at A3.out k hkx
   have hkm:k<X.length+Y.length+1:=by omega
   by_cases hky:k<Y.length
   ·obtain ⟨bb,boff,y,rfl,hcell2,hy,HY⟩:=(b4.kp K3).at B3.out k hky
    have HG:=Yt (show 4294967296^k≤val X+val Y from Nat.le_trans (HPX.out k hkx) (Nat.le_add_right _ _))
    have HO2:=Yt (HO.out.alloc (.cells #[.int .u32 (((c+x+y) % 4294967296:Nat):Int)] 31))
    have HSRC:=Yt (Gn wr 31 ((c+x+y) % 4294967296))
    go_wp2_with (at_builtin;refine AJ _ rfl (.tmp 46) (.tmp 49) 32 rfl w.heap.size 31 i0 (.int .u32 0) 1 4 AZ hi hz0 hz1 hz2 rfl (by decide) u5 k (cellsOf O) rfl HO2.out (some ⟨wr.heap.size,0,none⟩) 1 1 (cellsOf [(c+x+y) % 4294967296]) rfl rfl HSRC.out (A9 _) (by unfold maxLen;omega) (by omega) (by have:=K3.size;simp;omega) ?_;intro v' w3 hown' hg3 _;refine Hid.out ?_)
    refine Yt ?_
    rw [DQ] at hown'
    have HO3:=Yt hown'
    have K4:Kp w w3:=(K3.tr (Kp.alloc wr _)).grown hg3 (by have:=K3.size;simp;omega) (fun b hb=>(HO.out.lt b hb).1)
    clear hown' hg3
    go_wp2
    go_roundw
    case rel=>exact ⟨k+1,(c+x+y)/4294967296,O++ [(c+x+y) % 4294967296],by go_num,by go_num,by omega,by omega,HO3.out,by rw [List.length_append,HOl.out];rfl,HOL.out.append (Ai.cons (by omega) Ai.nil),I7 HOl.out HV.out HX.out HY.out,fun _=>HG.out,K4⟩
    case measure=>simp [intOf];omega
   ·have HY:=Yt (CU Y k hky)
    have HG:=Yt (show 4294967296^k≤val X+val Y from Nat.le_trans (HPX.out k hkx) (Nat.le_add_right _ _))
    have HO2:=Yt (HO.out.alloc (.cells #[.int .u32 (((c+x) % 4294967296:Nat):Int)] 31))
    have HSRC:=Yt (Gn wr 31 ((c+x) % 4294967296))
    go_wp2_with (at_builtin;refine AJ _ rfl (.tmp 46) (.tmp 49) 32 rfl w.heap.size 31 i0 (.int .u32 0) 1 4 AZ hi hz0 hz1 hz2 rfl (by decide) u5 k (cellsOf O) rfl HO2.out (some ⟨wr.heap.size,0,none⟩) 1 1 (cellsOf [(c+x) % 4294967296]) rfl rfl HSRC.out (A9 _) (by unfold maxLen;omega) (by omega) (by have:=K3.size;simp;omega) ?_;intro v' w3 hown' hg3 _;refine Hid.out ?_)
    refine Yt ?_
    rw [DQ] at hown'
    have HO3:=Yt hown'
    have K4:Kp w w3:=(K3.tr (Kp.alloc wr _)).grown hg3 (by have:=K3.size;simp;omega) (fun b hb=>(HO.out.lt b hb).1)
    clear hown' hg3
    go_wp2
    go_roundw
    case rel=>exact ⟨k+1,(c+x)/4294967296,O++ [(c+x) % 4294967296],by go_num,by go_num,by omega,by omega,HO3.out,by rw [List.length_append,HOl.out];rfl,HOL.out.append (Ai.cons (by omega) Ai.nil),I7 HOl.out HV.out HX.out HY.out,fun _=>HG.out,K4⟩
    case measure=>simp [intOf];omega
  ·have HX:=Yt (CU X k hkx)
   by_cases hky:k<Y.length
   ·obtain ⟨bb,boff,y,rfl,hcell2,hy,HY⟩:=(b4.kp K3).at B3.out k hky
    have hkm:k<X.length+Y.length+1:=by omega
    have HG:=Yt (show 4294967296^k≤val X+val Y from Nat.le_trans (HPY.out k hky) (Nat.le_add_left _ _))
    have HO2:=Yt (HO.out.alloc (.cells #[.int .u32 (((c+y) % 4294967296:Nat):Int)] 31))
    have HSRC:=Yt (Gn wr 31 ((c+y) % 4294967296))
    go_wp2_with (at_builtin;refine AJ _ rfl (.tmp 46) (.tmp 49) 32 rfl w.heap.size 31 i0 (.int .u32 0) 1 4 AZ hi hz0 hz1 hz2 rfl (by decide) u5 k (cellsOf O) rfl HO2.out (some ⟨wr.heap.size,0,none⟩) 1 1 (cellsOf [(c+y) % 4294967296]) rfl rfl HSRC.out (A9 _) (by unfold maxLen;omega) (by omega) (by have:=K3.size;simp;omega) ?_;intro v' w3 hown' hg3 _;refine Hid.out ?_)
    refine Yt ?_
    rw [DQ] at hown'
    have HO3:=Yt hown'
    have K4:Kp w w3:=(K3.tr (Kp.alloc wr _)).grown hg3 (by have:=K3.size;simp;omega) (fun b hb=>(HO.out.lt b hb).1)
    clear hown' hg3
    go_wp2
    go_roundw
    case rel=>exact ⟨k+1,(c+y)/4294967296,O++ [(c+y) % 4294967296],by go_num,by go_num,by omega,by omega,HO3.out,by rw [List.length_append,HOl.out];rfl,HOL.out.append (Ai.cons (by omega) Ai.nil),I7 (x:=0) HOl.out HV.out HX.out HY.out,fun _=>HG.out,K4⟩
    case measure=>simp [intOf];omega
   ·have HY:=Yt (CU Y k hky)
    by_cases hc0:0<c
    ·have hne:(((c:Nat):Int) !=0)=true:=by rw [bne_iff_ne];omega
     have hkm:k<X.length+Y.length+1:=by
      rcases Nat.lt_or_ge k (X.length+Y.length+1) with h|h
      ·exact h
      ·have h1:=HV.out
       have h2:=PL HOL.out HOl.out A3.out B3.out (by omega) (by omega) h1
       omega
     obtain rfl:c=1:=by omega
     have HG:=Yt (show 4294967296^k≤val X+val Y from UR HV.out hc0)
     have HO2:=Yt (HO.out.alloc (.cells #[.int .u32 1] 31))
     have HSRC:=Yt (Gn wr 31 1)
     have HST:=Yt (Wp HOl.out HV.out HX.out HY.out)
     go_wp2_with (at_builtin;refine AJ _ rfl (.tmp 46) (.tmp 49) 32 rfl w.heap.size 31 i0 (.int .u32 0) 1 4 AZ hi hz0 hz1 hz2 rfl (by decide) u5 k (cellsOf O) rfl HO2.out (some ⟨wr.heap.size,0,none⟩) 1 1 (cellsOf [1]) rfl rfl HSRC.out (A9 _) (by unfold maxLen;omega) (by omega) (by have:=K3.size;simp;omega) ?_;intro v' w3 hown' hg3 _;refine Hid.out ?_)
     refine Yt ?_
     rw [DQ] at hown'
     have HO3:=Yt hown'
     have K4:Kp w w3:=(K3.tr (Kp.alloc wr _)).grown hg3 (by have:=K3.size;simp;omega) (fun b hb=>(HO.out.lt b hb).1)
     clear hown' hg3
     go_wp2
     go_roundw
     case rel=>exact ⟨k+1,0,O++ [1],by go_num,rfl,by omega,by omega,HO3.out,by rw [List.length_append,HOl.out];rfl,HOL.out.append (Ai.cons (by omega) Ai.nil),HST.out,fun _=>HG.out,K4⟩
     case measure=>simp [intOf];omega
    ·obtain rfl:c=0:=by omega
     have hne:(((0:Nat):Int) !=0)=false:=rfl
     have hv:=HV.out
     rw [Nat.mul_zero,Nat.add_zero,List.take_of_length_le (by omega),List.take_of_length_le (by omega)] at hv
     have hr:=Rd.owned HO.out HOL.out
     rw [Xp HOL.out hv (by rw [HOl.out];exact Xl HP.out)] at hr
     have HR:=Yt hr
     clear hv hr
     go_wp2
     go_ret
     exact ⟨_,rfl,HR.out,K3⟩
theorem RL (a b:Value) (xs ys:List Nat) (w:World) (ha:Rd w a xs) (hb:Rd w b ys) (hl1:xs.length≤549755813888) (hl2:ys.length≤549755813888):
  Calls Tryz.prog 127 #[a,b] w fun e w'=> ∃v',e= .returned v'∧Rd w' v' (toL (val xs*val ys))∧Kp w w':=by
 obtain ⟨i0,hi,hz0,hz1,hz2⟩:=info_parts BT
 obtain ⟨ao,ac,rfl,a1,a2,a3,a4⟩:=ha
 obtain ⟨bo,bc,rfl,b1,b2,b3,b4⟩:=hb
 unfold maxLen at a2 b2
 have A3:=Yt a3
 have B3:=Yt b3
 clear a3 b3
 go_enter Tryz.func127,Tryz.ntmps127
 go_wp2_with (at_make;refine wpList_make_full _ rfl _ _ 32 rfl w.heap.size 31 i0 (.int .u32 0) 1 AZ hi hz0 hz1 _ _ _ _ (xs.length+ys.length) rfl rfl (by omega) (by omega) (by rw [hz2];omega) (by unfold maxLen;omega) (Yu _) ?_;intro w1 hown hg;have O1:=Yt (Own.of_make hown);have K1:=(Below.refl w.heap.size w).grown hg (Yu _) (by intro j hj;cases hj);clear hown hg)
 go_loopw [6] (fun i wr=> ∃(k:Nat) (O:List Nat),k≤xs.length∧i= .int .i64 k∧Own wr 31 w.heap.size O∧O.length=xs.length+ys.length∧Ai O∧
   val (O.take (k+ys.length))=val (xs.take k)*val ys∧Kp w wr) (fun i _=>xs.length-(intOf i).toNat)
 case atStart=>exact ⟨0,List.replicate (xs.length+ys.length) 0,Nat.zero_le _,rfl,O1.out,by simp,Ai.replicate _,by simp [val,List.take_replicate,DT],K1⟩
 case round=>
  obtain ⟨k,O,hk,rfl,hO,hOl,hOL,hval,K2⟩:=hrel
  obtain ⟨wo,rfl⟩: ∃wo,wo=wr:=⟨_,rfl⟩
  have HO:=Yt hO
  have HOl:=Yt hOl
  have HOL:=Yt hOL
  have HV:=Yt hval
  clear hO hOl hOL hval
  by_cases hk1:k<xs.length
  ·obtain ⟨ab,aoff,x,rfl,_,hx,HX⟩:=(a4.kp K2).at A3.out k hk1
   go_wp2
   go_loopw [7,8] (fun cv i wr=> ∃(j c:Nat) (P:List Nat),j≤ys.length∧i= .int .i64 j∧cv= .int .u64 c∧c<4294967296∧Own wr 31 w.heap.size P∧P.length=xs.length+ys.length∧Ai P∧
    P.drop (k+j)=O.drop (k+j)∧val (P.take (k+j))+4294967296^(k+j)*c=val (O.take (k+j))+4294967296^k*(x*val (ys.take j))∧Kp w wr) (fun _ i _=>ys.length-(intOf i).toNat)
   case atStart=>exact ⟨0,0,O,Nat.zero_le _,rfl,rfl,by omega,HO.out,HOl.out,HOL.out,rfl,by simp [val],K2⟩
   case round=>
    obtain ⟨j,c,P,hj,rfl,rfl,hc,hP,hPl,hPL,hPd,hPv,K3⟩:=hrel
    have HP:=Yt hP
    have HPl:=Yt hPl
    have HPL:=Yt hPL
    have HPd:=Yt hPd
    have HPv:=Yt hPv
    clear hP hPl hPL hPd hPv
    obtain ⟨x',hcell,_,HX'⟩: ∃x',wr.cell? ⟨ab,aoff+k,none⟩=some (.int .u32 (x':Nat))∧x'<4294967296∧Hid (x'=x):=by
     obtain ⟨b',off',x',he,h1,h2,h3⟩:=(a4.kp K3).at A3.out k hk1
     obtain ⟨rfl,rfl⟩:ab=b'∧aoff=off':=by simpa using he
     exact ⟨x',h1,h2,by rw [h3.out,HX.out];exact Yt rfl⟩
    obtain rfl:=HX'.out
    by_cases hj1:j<ys.length
    ·obtain ⟨bb,boff,y,rfl,hcell2,hy,HY⟩:=(b4.kp K3).at B3.out j hj1
     obtain ⟨o,hcl,ho,HOo⟩:=HP.out.at HPL.out (k+j) (by rw [HPl.out];omega)
     have hfz:=HP.out.frozen (k+j)
     have HB:=Yt (XX hc hx hy ho)
     have s1:IntKind.i64.wrap ((k:Int)+(j:Int))=(k:Int)+j:=IntWalk.i64_in _ (by omega)
     have s2:((k:Int)+(j:Int)).toNat=k+j:=by omega
     have s3:(0:Int)≤(k:Int)+j:=by omega
     have s4:(k:Int)+(j:Int)<(xs.length+ys.length:Nat):=by omega
     go_wp2
     go_quiet (fail)
     clear s1 s2 s3 s4
     go_wp2
     rw [HB.out.1]
     have hb:=HB.out.2
     go_roundw
     case rel=>exact ⟨j+1,(c+(x'*y+o))/4294967296,P.set (k+j) ((c+(x'*y+o)) % 4294967296),by omega,by go_num,by go_num,by omega,(HP.out.kp (Kp.drewN (Below.refl _ _) _)).set (k+j) _,by rw [List.length_set];exact HPl.out,HPL.out.set _ _ (by omega),Ce HPd.out _,NH (by rw [HPl.out];omega) HPd.out HOo.out HY.out HPv.out,(K3.drewN _).setCell (Yu _) _⟩
     case measure=>simp [intOf];omega
    ·obtain rfl:j=ys.length:=by omega
     obtain ⟨o,hcl,_,_⟩:=HP.out.at HPL.out (k+ys.length) (by rw [HPl.out];omega)
     have hfz:=HP.out.frozen (k+ys.length)
     go_wp2
     go_roundw
     case rel=>exact ⟨k+1,P.set (k+ys.length) c,by omega,by go_num,HP.out.set _ c,by rw [List.length_set];exact HPl.out,HPL.out.set _ _ hc,Qp (by rw [HPl.out];omega) HX.out HPv.out HV.out,K3.setCell (Yu _) _⟩
     case measure=>simp [intOf];omega
  ·obtain rfl:k=xs.length:=by omega
   have hfin:val O=val xs*val ys:=by
    have:=HV.out
    rwa [List.take_of_length_le (Yu xs.length),List.take_of_length_le (by rw [HOl.out];exact Yu _)] at this
   have HRd:=HO.out.rd HOL.out (xs.length+ys.length) (by rw [HOl.out];exact Yu _) (xs.length+ys.length) (Yu _) (by unfold maxLen;omega)
   rw [List.take_of_length_le (by rw [HOl.out];exact Yu _)] at HRd
   have HTR:=Yt (DW _ O wo HRd (by rw [HOl.out];omega))
   have ht:=BY HOL.out
   rw [hfin] at ht
   rw [←ht] at HTR
   clear hfin ht HRd
   go_wp2_with (go_at_call 194;refine HTR.out.mono ?_;rintro e w4 ⟨v4,rfl,h4,K4⟩)
   go_ret
   exact ⟨_,rfl,h4,K2.tr K4⟩
theorem TH {w:World} {a b:Value} {m n:Nat} (ha:M w a m) (hb:M w b n) {j k:Nat} (h1:Sz j m) (h2:Sz k n) (hj:j≤1099511627776) (hk:k≤1099511627776):
  Calls Tryz.prog 183 #[a,b] w fun e w'=> ∃v',e= .returned v'∧M w' v' (m+n)∧Kp w w':=by
 have:=RW a b _ _ w ha hb (Nat.le_trans h1 hj) (Nat.le_trans h2 hk) (fun k hk=>by rw [Ar];exact EY hk) (fun k hk=>by rw [Ar];exact EY hk)
 rw [Ar,Ar] at this
 exact this
theorem Co {w:World} {a b:Value} {m n:Nat} (ha:M w a m) (hb:M w b n) {j k:Nat} (h1:Sz j m) (h2:Sz k n) (hj:j≤549755813888) (hk:k≤549755813888):
  Calls Tryz.prog 127 #[a,b] w fun e w'=> ∃v',e= .returned v'∧M w' v' (m*n)∧Kp w w':=by
 have:=RL a b _ _ w ha hb (Nat.le_trans h1 hj) (Nat.le_trans h2 hk)
 rw [Ar,Ar] at this
 exact this
theorem m_nil {w:World} :M w (.slice none 0 0) 0:=by
 unfold M
 rw [Az]
 exact ⟨none,0,rfl,Yu _,Nat.zero_le _,Ai.nil,fun h=>absurd rfl h⟩
theorem Iz {w:World} {B:Nat} {e:TypeId} {v:Value} {q:Nat} (h:w.ownsRow B e 1 v q (madeCells #[.int .u32 0] (q*1)).toList):w.ownsRow B e 1 v q (cellsOf (List.replicate q 0)):=by
 rw [Nat.mul_one,toList_madeCells_one] at h
 rw [show cellsOf (List.replicate q 0)=List.replicate q (Value.int .u32 0) by simp [cellsOf,Py]]
 exact h
theorem Vc {D xs:List Nat} {k c x p:Nat} (hl:D.length=k) (hv:val D+4294967296^k*c=val (xs.take k)*p) (hx:x=xs.getD k 0):
  val (D++ [(c+x*p) % 4294967296])+4294967296^(k+1)*((c+x*p)/4294967296)=val (xs.take (k+1))*p:=by
 rw [G3,hl,Au xs,←hx,JE k,Nat.mul_assoc,Nat.add_mul]
 have e:4294967296^k*((c+x*p) % 4294967296)+4294967296^k*(4294967296*((c+x*p)/4294967296))=4294967296^k*c+4294967296^k*x*p:=by
  rw [←Nat.mul_add,Nat.mod_add_div,Nat.mul_add,Nat.mul_assoc]
 omega
theorem Vd {D xs:List Nat} {k c p q:Nat} (hl:D.length=k) (hk:xs.length=k) (hv:val D+4294967296^k*c=val (xs.take k)*p):
  val (List.replicate q 0++(D++ [c]))=val xs*(4294967296^q*p):=by
 rw [E9,G3,hl,hv,List.take_of_length_le (by omega),Nat.mul_left_comm]
theorem Qs {P Y:List Nat} {n k:Nat} (hk:k<Y.length) (hl:P.length=Y.length) (ht:P.take k=(E3 n Y).take k) {d:Nat}
  (hd:d=(Y.getD k 0+4294967296*Y.getD (k+1) 0)/2^n % 4294967296):(P.set k d).take (k+1)=(E3 n Y).take (k+1):=by
 have hl2:(E3 n Y).length=Y.length:=Hj n Y
 rw [CT _ _ (by rw [List.length_set];omega),CT (E3 n Y) k (by omega),List.take_set_of_le (Yu k),ht,KT _ _ _ hk,←hd]
 congr 2
 simp [List.getD,show k<P.length by omega]
set_option maxRecDepth 20000 in
theorem Ve (a:Value) (X:List Nat) (n:Nat) (w:World) (ha:Rd w a X) (hl:X.length≤549755813888) (hn:n≤1099511627776):
  Calls Tryz.prog 233 #[a,.int .i64 (n:Nat)] w fun e w'=> ∃v',e= .returned v'∧Rd w' v' (toL (val X*2^n))∧Kp w w':=by
 obtain ⟨i0,hi,hz0,hz1,hz2⟩:=info_parts BT
 obtain ⟨ao,ac,rfl,a1,a2,a3,a4⟩:=ha
 have A3:=Yt a3
 have A4:=Yt a4
 have HP2:=Yt (Ig n)
 unfold maxLen at a2
 obtain ⟨q,hq⟩: ∃q,q=n/32:=⟨_,rfl⟩
 obtain ⟨r,hr⟩: ∃r,r=n % 32:=⟨_,rfl⟩
 rw [←hq,←hr] at HP2
 have hqi:(n:Int)/32=(q:Int):=by omega
 have hri:(n:Int) % 32=(r:Int):=by omega
 have hr32:r<32:=by omega
 have hqb:q≤34359738368:=by omega
 rw [HP2.out]
 clear a3 a4 hq hr
 go_enter Tryz.func233,Tryz.ntmps233
 go_wp2_with (at_make;refine wpList_make_full _ rfl _ _ 32 rfl w.heap.size 31 i0 (.int .u32 0) 1 AZ hi hz0 hz1 _ _ _ _ q rfl rfl rfl rfl (by rw [hz2];omega) (by unfold maxLen;omega) (Yu _) ?_;intro w1 hown hg;have O1:=Yt (Iz hown);have K1:=(Below.refl w.heap.size w).grown hg (Yu _) (by intro j hj;cases hj);clear hown hg)
 go_loopw [5,6,7] (fun ov cv i wr=> ∃(k c:Nat) (D:List Nat),k≤X.length∧i= .int .i64 k∧cv= .int .u64 c∧c<2^r∧wr.ownsRow w.heap.size 31 1 ov (q+k) (cellsOf (List.replicate q 0++D))∧D.length=k∧Ai D∧
  val D+4294967296^k*c=val (X.take k)*2^r∧Kp w wr) (fun _ _ i _=>X.length-(intOf i).toNat)
 case atStart=>exact ⟨0,0,[],Nat.zero_le _,rfl,rfl,Nat.pow_pos (by omega),by rw [List.append_nil];exact O1.out,rfl,Ai.nil,by simp [val],K1⟩
 case round=>
  obtain ⟨k,c,D,hk,rfl,rfl,hc,hO,hDl,hDL,hval,K3⟩:=hrel
  have HO:=Yt hO
  have HDl:=Yt hDl
  have HDL:=Yt hDL
  have HV:=Yt hval
  have HC:=Yt hc
  have hc32:c<4294967296:=Nat.lt_trans hc (Gb hr32).choose_spec.2.2
  clear hO hDl hDL hval hc
  by_cases hk1:k<X.length
  ·obtain ⟨ab,aoff,x,rfl,hcell,hx,HX⟩:=(A4.out.kp K3).at A3.out k hk1
   have HB:=XV HC.out hx hr32
   have HR:=Yt (F6 HC.out hx)
   have HST:=Yt (Vc HDl.out HV.out HX.out)
   have HO2:=Yt (HO.out.alloc (.cells #[.int .u32 (((c+x*2^r:Nat):Int) % 4294967296)] 31))
   have HSRC:=Yt (Gn wr 31 ((c+x*2^r) % 4294967296))
   obtain ⟨s,hs⟩: ∃s,s=c+x*2^r:=⟨_,rfl⟩
   rw [←hs] at HB HST HO2 HSRC HR
   have HS:=Yt hs
   clear hs
   go_wp2_with (at_builtin;refine AJ _ rfl (.tmp 27) (.tmp 30) 32 rfl w.heap.size 31 i0 (.int .u32 0) 1 4 AZ hi hz0 hz1 hz2 rfl (by decide) u5 (q+k) (cellsOf (List.replicate q 0++D)) rfl HO2.out (some ⟨wr.heap.size,0,none⟩) 1 1 (cellsOf [s % 4294967296]) rfl rfl HSRC.out (A9 _) (by unfold maxLen;omega) (by omega) (by have:=K3.size;simp;omega) ?_;intro v' w3 hown' hg3 _;refine Hid.out ?_)
   refine Yt ?_
   rw [DQ,List.append_assoc] at hown'
   have HO3:=Yt hown'
   have K4:Kp w w3:=(K3.tr (Kp.alloc wr _)).grown hg3 (by have:=K3.size;simp;omega) (fun b hb=>(HO.out.lt b hb).1)
   clear hown' hg3
   go_wp2
   go_roundw
   case rel=>exact ⟨k+1,s/4294967296,D++ [s % 4294967296],by omega,by go_num,by go_num,HR.out.1,HO3.out,by rw [List.length_append,HDl.out];rfl,HDL.out.append (Ai.cons (Nat.mod_lt _ (by omega)) Ai.nil),HST.out,K4⟩
   case measure=>simp [intOf];omega
  ·obtain rfl:k=X.length:=by omega
   have HO2:=Yt (HO.out.alloc (.cells #[.int .u32 (c:Int)] 31))
   have HSRC:=Yt (Gn wr 31 c)
   have HF:=Yt (Vd (q:=q) HDl.out rfl HV.out)
   go_wp2_with (at_builtin;refine AJ _ rfl (.tmp 34) (.tmp 37) 32 rfl w.heap.size 31 i0 (.int .u32 0) 1 4 AZ hi hz0 hz1 hz2 rfl (by decide) u5 (q+X.length) (cellsOf (List.replicate q 0++D)) rfl HO2.out (some ⟨wr.heap.size,0,none⟩) 1 1 (cellsOf [c]) rfl rfl HSRC.out (A9 _) (by unfold maxLen;omega) (by omega) (by have:=K3.size;simp;omega) ?_;intro v' w3 hown' hg3 _;refine Hid.out ?_)
   refine Yt ?_
   rw [DQ,List.append_assoc] at hown'
   have K4:Kp w w3:=(K3.tr (Kp.alloc wr _)).grown hg3 (by have:=K3.size;simp;omega) (fun b hb=>(HO.out.lt b hb).1)
   have hLL:Ai (List.replicate q 0++(D++ [c])):=(Ai.replicate q).append (HDL.out.append (Ai.cons hc32 Ai.nil))
   have HTR:=Yt (DW v' _ w3 (Rd.owned hown' hLL) (by simp [HDl.out];omega))
   have ht:=BY hLL
   rw [HF.out] at ht
   rw [←ht] at HTR
   clear hown' hg3 hLL ht
   go_wp2_with (go_at_call 194;refine HTR.out.mono ?_;rintro e w4 ⟨v4,rfl,h4,K5⟩)
   go_ret
   exact ⟨_,rfl,h4,K4.tr K5⟩
set_option maxRecDepth 20000 in
theorem Si (a:Value) (X:List Nat) (d:Nat) (w:World) (ha:Rd w a X) (hl:X.length≤549755813888) (hd:d≤35184372088832):
  Calls Tryz.prog 236 #[a,.int .i64 (d:Nat)] w fun e w'=> ∃v',e= .returned v'∧Rd w' v' (toL (val X/2^d))∧Kp w w':=by
 obtain ⟨i0,hi,hz0,hz1,hz2⟩:=info_parts BT
 obtain ⟨ao,ac,rfl,a1,a2,a3,a4⟩:=ha
 have HP2:=Yt (E6 (val X) d)
 unfold maxLen at a2
 obtain ⟨q,hq⟩: ∃q,q=d/32:=⟨_,rfl⟩
 obtain ⟨r,hr⟩: ∃r,r=d % 32:=⟨_,rfl⟩
 rw [←hq,←hr,←CF a3] at HP2
 have hqi:(d:Int)/32=(q:Int):=by omega
 have hri:(d:Int) % 32=(r:Int):=by omega
 have hr32:r<32:=by omega
 rw [HP2.out]
 clear hq hr
 by_cases hqx:q<X.length
 ·obtain ⟨b,off,rfl,_⟩:=a4.cell (by omega)
  have A3:=Yt (a3.drop q)
  have A4:=a4.drop q
  have hlY:(X.drop q).length=X.length-q:=by rw [List.length_drop]
  have HV:=Yt (Mw hr32 (a3.drop q))
  obtain ⟨Y,hY⟩: ∃Y,Y=X.drop q:=⟨_,rfl⟩
  rw [←hY] at A3 A4 hlY HV⊢
  have HLY:=Yt hlY
  have HL1:=Yt (Hj r Y)
  have HL2:=Yt (Px r Y)
  rw [←HV.out]
  clear hY a3 a4 hlY
  go_enter Tryz.func236,Tryz.ntmps236
  go_wp2_with (at_make;refine wpList_make_full _ rfl _ _ 32 rfl w.heap.size 31 i0 (.int .u32 0) 1 AZ hi hz0 hz1 _ _ _ _ (X.length-q) rfl rfl (by omega) (by omega) (by rw [hz2];omega) (by unfold maxLen;omega) (Yu _) ?_;intro w1 hown hg;have O1:=Yt (Own.of_make hown);have K1:=(Below.refl w.heap.size w).grown hg (Yu _) (by intro j hj;cases hj);clear hown hg)
  go_loopw [6] (fun i wr=> ∃(k:Nat) (P:List Nat),k≤X.length-q∧i= .int .i64 k∧Own wr 31 w.heap.size P∧Ai P∧P.length=X.length-q∧P.take k=(E3 r Y).take k∧Kp w wr) (fun i _=>X.length-q-(intOf i).toNat)
  case atStart=>exact ⟨0,List.replicate (X.length-q) 0,Nat.zero_le _,rfl,O1.out,Ai.replicate _,by simp,rfl,K1⟩
  case round=>
   obtain ⟨k,P,hk,rfl,hP,hPL,hPl,hPt,K2⟩:=hrel
   have HP:=Yt hP
   have HPL:=Yt hPL
   have HPl:=Yt hPl
   have HPt:=Yt hPt
   clear hP hPL hPl hPt
   by_cases hk1:k<X.length-q
   ·obtain ⟨x,hcell,hx,HX⟩:=(A4.kp K2).cellIn A3.out k (by rw [HLY.out];exact hk1) rfl
    obtain ⟨o,hcl,_,_⟩:=HP.out.at HPL.out k (by rw [HPl.out];exact hk1)
    have hfz:=HP.out.frozen k
    by_cases hk2:k+1<X.length-q
    ·obtain ⟨y,hcell2,hy,HY⟩:=(A4.kp K2).cellIn A3.out (k+1) (by rw [HLY.out];exact hk2) rfl
     have HB:=Yt (L0 hx hy)
     have HST:=Yt (Qs (P:=P) (Y:=Y) (n:=r) (k:=k) (by rw [HLY.out];exact hk1) (by rw [HPl.out,HLY.out]) HPt.out (d:=(x+4294967296*y)/2^r % 4294967296) (by rw [←HX.out,←HY.out]))
     go_wp2
     rw [HB.out,G9]
     go_roundw
     case rel=>exact ⟨k+1,P.set k ((x+4294967296*y)/2^r % 4294967296),by omega,by go_num,HP.out.set k _,HPL.out.set _ _ (Nat.mod_lt _ (by omega)),by rw [List.length_set];exact HPl.out,HST.out,K2.setCell (Yu _) _⟩
     case measure=>simp [intOf];omega
    ·have HST:=Yt (Qs (P:=P) (Y:=Y) (n:=r) (k:=k) (by rw [HLY.out];exact hk1) (by rw [HPl.out,HLY.out]) HPt.out (d:=x/2^r % 4294967296) (by rw [←HX.out,←CU Y (k+1) (by rw [HLY.out];exact hk2)];rfl))
     go_wp2
     rw [G9]
     go_roundw
     case rel=>exact ⟨k+1,P.set k (x/2^r % 4294967296),by omega,by go_num,HP.out.set k _,HPL.out.set _ _ (Nat.mod_lt _ (by omega)),by rw [List.length_set];exact HPl.out,HST.out,K2.setCell (Yu _) _⟩
     case measure=>simp [intOf];omega
   ·obtain rfl:k=X.length-q:=by omega
    have hP2:P=E3 r Y:=by
     have:=HPt.out
     rwa [List.take_of_length_le (by rw [HPl.out];exact Yu _),List.take_of_length_le (by rw [HL1.out,HLY.out];exact Yu _)] at this
    have HRd:=HP.out.rd HPL.out (X.length-q) (by rw [HPl.out];exact Yu _) (X.length-q) (Yu _) (by unfold maxLen;omega)
    rw [List.take_of_length_le (by rw [HPl.out];exact Yu _)] at HRd
    have HTR:=Yt (DW _ P wr HRd (by rw [HPl.out];omega))
    rw [←BY HPL.out,hP2] at HTR
    clear HRd hP2
    go_wp2_with (go_at_call 194;refine HTR.out.mono ?_;rintro e w4 ⟨v4,rfl,h4,K5⟩)
    go_ret
    exact ⟨_,rfl,h4,K2.tr K5⟩
 ·rw [List.drop_of_length_le (by omega)]
  have hz:val ([]:List Nat)/2^r=0:=Nat.zero_div _
  rw [hz,Az]
  clear a3 a4
  go_enter Tryz.func236,Tryz.ntmps236
  go_wp2
  go_ret
  exact ⟨_,rfl,⟨none,0,rfl,Yu _,Nat.zero_le _,Ai.nil,fun h=>absurd rfl h⟩,Below.refl _ _⟩
theorem MJ {n d:Nat} (h:n<10^d):(toL n).length≤d:=by
 apply Al
 have:10^d≤4294967296^d:=Nat.pow_le_pow_left (by omega) d
 omega
theorem TF {v:Value} {k:IntKind} {a b:Int} (h:a=b):Ending.returned (.tuple #[v,.int k a])= .returned (.tuple #[v,.int k b]):=by rw [h]
theorem R3 {w:World} {B B':Nat} {e:TypeId} {s:Nat} {v:Value} {n:Nat} {xs:List Value} (h:w.ownsRow B e s v n xs) (hb:B'≤B):w.ownsRow B' e s v n xs:=by
 refine ⟨h.1,?_⟩
 rcases h.2 with h2|⟨g,cap,cur,hv,hb',r⟩
 ·exact Or.inl h2
 ·exact Or.inr ⟨g,cap,cur,hv,Nat.le_trans hb hb',r⟩
theorem Qn {w:World} {B B':Nat} {e e':TypeId} {s s':Nat} {v v':Value} {n n':Nat} {xs xs':List Value} (h:w.ownsRow B e s v n xs) (h':w.ownsRow B' e' s' v' n' xs') (he:e≠e') (b:Nat) (hb:v.ownBlock=some b):v'.ownBlock≠some b:=by
 intro hb'
 rcases h.2 with ⟨rfl,_⟩|⟨g,cap,cur,rfl,_,hg,_⟩
 ·cases hb
 ·rcases h'.2 with ⟨rfl,_⟩|⟨g',cap',cur',rfl,_,hg',_⟩
  ·cases hb'
  ·simp only [Value.ownBlock,Option.some.injEq] at hb hb'
   subst hb
   subst hb'
   rw [hg] at hg'
   simp at hg'
   exact he hg'.2
theorem Uz {X P:List Nat} {j r d x:Nat} (hj:j<X.length) (hl:P.length=X.length) (hx:x=X.getD j 0) (h:val (X.drop (j+1))=val (P.drop (j+1))*d+r):
  val (X.drop j)=val ((P.set j ((r*4294967296+x)/d)).drop j)*d+(r*4294967296+x) % d:=by
 have e1:X.drop j=x::X.drop (j+1):=by
  rw [List.drop_eq_getElem_cons hj,hx]
  simp [List.getD,hj]
 have e2:(P.set j ((r*4294967296+x)/d)).drop j=((r*4294967296+x)/d)::P.drop (j+1):=by
  rw [List.drop_eq_getElem_cons (by simp;omega),List.getElem_set_self,List.drop_set_of_lt (by omega)]
 rw [e1,e2]
 show x+4294967296*val (X.drop (j+1))=((r*4294967296+x)/d+4294967296*val (P.drop (j+1)))*d+_
 rw [h,Nat.add_mul,Nat.mul_add,Nat.mul_assoc]
 have:=Nat.div_add_mod (r*4294967296+x) d
 rw [Nat.mul_comm] at this
 generalize val (P.drop (j+1))*d=a at*
 generalize (r*4294967296+x)/d*d=b at*
 omega
theorem MI (v:Value) (xs:List Nat) (w:World) (hs:Rd w v xs) (hl:xs.length≤1099511627776):
  Calls Tryz.prog 194 #[v] w fun e w'=> ∃v' k,e= .returned v'∧w'.ownsRow w.heap.size 31 1 v' k (cellsOf (Aq xs))∧Kp w w':=by
 obtain ⟨ao,cap,rfl,hc1,hm,hx,hs⟩:=hs
 unfold maxLen at hm
 obtain ⟨i0,hi,hz0,hz1,hz2⟩:=info_parts BT
 go_enter Tryz.func194,Tryz.ntmps194
 go_wp2
 go_loop [3] (fun i=> ∃k:Nat,k≤xs.length∧i= .int .i64 k∧Aq (xs.take k)=Aq xs) (fun i=>(intOf i).toNat)
 case atStart=>exact ⟨xs.length,Yu _,rfl,by simp⟩
 case round=>
  obtain ⟨k,hk,rfl,ht⟩:=hrel
  have HT:=Yt ht
  have HX:=Yt hx
  clear ht hx
  by_cases hk0:0<k
  ·have hlen:(cellsOf (xs.take k)).length=k*1:=by simp [cellsOf];omega
   have hnews:=((hs.take k).kp (Kp.alloc w (Obj.cells #[] 31))).news
   have HLen:=Yt hlen
   obtain ⟨b,off,rfl,hc⟩:=hs.cell (by omega)
   have hcell:=hc (k-1) (by omega)
   have HN:=Yt hnews
   clear hc hs hlen hnews
   by_cases hz:xs.getD (k-1) 0=0
   ·have hzb:((((xs[k-1]?.getD 0:Nat):Int))==0)=true:=by simpa [List.getD] using hz
    have HZ:=Yt hz
    clear hz
    go_wp2
    go_round
    case rel=>exact ⟨k-1,by omega,by go_num,by rw [←Em xs k hk0 hk HZ.out];exact HT.out⟩
    case measure=>simp [intOf];omega
   ·have hzb:((((xs[k-1]?.getD 0:Nat):Int))==0)=false:=by simpa [List.getD] using hz
    have HZ:=Yt (FA xs k hk0 hk hz)
    clear hz
    go_wp2_with (at_builtin;refine AJ _ rfl (.tmp 18) (.tmp 21) 32 rfl w.heap.size 31 i0 (.int .u32 0) 1 4 AZ hi hz0 hz1 hz2 rfl (by decide) (.slice (some ⟨w.heap.size,0,none⟩) 0 0) 0 [] rfl (World.ownsRow_made w #[] 0 (Yu _) (Nat.zero_le _) rfl) _ k _ (cellsOf (xs.take k)) rfl HLen.out HN.out (A9 _) (by unfold maxLen;omega) (by omega) (by simp) ?_;intro v' w1 hown hg _)
    simp only [List.nil_append,Nat.zero_add] at hown
    have hr:=hown
    rw [←HZ.out,HT.out] at hr
    go_wp2
    go_ret
    exact ⟨_,rfl,⟨_,hr⟩,(Kp.alloc w _).grown hg (by simp) (by intro j hj;simp [Value.ownBlock] at hj;omega)⟩
  ·obtain rfl:k=0:=by omega
   have hnews:Src (w.alloc (Obj.cells #[] 31)) ao (cellsOf []):=fun h=>absurd h (by simp [cellsOf])
   have HN:=Yt hnews
   clear hnews hs
   go_wp2_with (at_builtin;refine AJ _ rfl (.tmp 18) (.tmp 21) 32 rfl w.heap.size 31 i0 (.int .u32 0) 1 4 AZ hi hz0 hz1 hz2 rfl (by decide) (.slice (some ⟨w.heap.size,0,none⟩) 0 0) 0 [] rfl (World.ownsRow_made w #[] 0 (Yu _) (Nat.zero_le _) rfl) _ 0 _ (cellsOf []) rfl rfl HN.out (A9 _) (by unfold maxLen;omega) (by omega) (by simp) ?_;intro v' w1 hown hg _)
   simp only [List.nil_append,Nat.zero_add] at hown
   have hr:=hown
   have e:Aq xs= []:=by rw [←HT.out];rfl
   rw [←e] at hr
   go_wp2
   go_ret
   exact ⟨_,rfl,⟨_,hr⟩,(Kp.alloc w _).grown hg (by simp) (by intro j hj;simp [Value.ownBlock] at hj;omega)⟩
theorem Kf (a:Value) (n d:Nat) (w:World) (ha:M w a n) (hl:(toL n).length≤1099511627776) (hd0:0<d) (hd1:d<4294967296):
  Calls Tryz.prog 210 #[a,.int .u32 d] w fun e w'=> ∃v' k,e= .returned (.tuple #[v',.int .u32 (n % d:Nat)])∧w'.ownsRow w.heap.size 31 1 v' k (cellsOf (toL (n/d)))∧Kp w w':=by
 obtain ⟨i0,hi,hz0,hz1,hz2⟩:=info_parts BT
 obtain ⟨ao,ac,rfl,a1,a2,a3,a4⟩:=ha
 have HNX:=Yt (Ar n)
 obtain ⟨X,hX⟩: ∃X,X=toL n:=⟨_,rfl⟩
 rw [←hX] at a1 a3 a4 hl HNX⊢
 have A3:=Yt a3
 unfold maxLen at a2
 obtain ⟨m,hm⟩: ∃m,m=n % d:=⟨_,rfl⟩
 obtain ⟨q,hq⟩: ∃q,q=n/d:=⟨_,rfl⟩
 rw [←hm,←hq]
 have HM:=Yt hm
 have HQ:=Yt hq
 clear a3 hX hm hq
 go_enter Tryz.func210,Tryz.ntmps210
 go_wp2_with (at_make;refine wpList_make_full _ rfl _ _ 32 rfl w.heap.size 31 i0 (.int .u32 0) 1 AZ hi hz0 hz1 _ _ _ _ X.length rfl rfl (by omega) (by omega) (by rw [hz2];omega) (by unfold maxLen;omega) (Yu _) ?_;intro w1 hown hg;have O1:=Yt (Own.of_make hown);have K1:=(Below.refl w.heap.size w).grown hg (Yu _) (by intro j hj;cases hj);clear hown hg)
 go_loopw [7,8] (fun rv i wr=> ∃(j r:Nat) (P:List Nat),j≤X.length∧i= .int .i64 ((j:Int)-1)∧rv= .int .u64 r∧r<d∧Own wr 31 w.heap.size P∧Ai P∧P.length=X.length∧
   val (X.drop j)=val (P.drop j)*d+r∧Kp w wr) (fun _ i _=>(intOf i+1).toNat)
 case atStart=>exact ⟨X.length,0,List.replicate X.length 0,Yu _,rfl,rfl,hd0,O1.out,Ai.replicate _,by simp,by simp [val],K1⟩
 case round=>
  obtain ⟨j,r,P,hj,rfl,rfl,hr,hP,hPL,hPl,hPv,K2⟩:=hrel
  have HP:=Yt hP
  have HPL:=Yt hPL
  have HPl:=Yt hPl
  have HPv:=Yt hPv
  clear hP hPL hPl hPv
  by_cases hj0:0<j
  ·obtain ⟨i,rfl⟩: ∃i,j=i+1:=⟨j-1,by omega⟩
   obtain ⟨ab,aoff,x,rfl,hcell,hx,HX⟩:=(a4.kp K2).at A3.out i (by omega)
   have hplt:i<P.length:=by rw [HPl.out];omega
   have hcell2:=HP.out.cell i hplt
   have hfz:=HP.out.frozen i
   have HB:=Yt (orw hr hd1 hx)
   go_wp2
   rw [HB.out.1,HB.out.2.1]
   go_roundw
   case rel=>exact ⟨i,(r*4294967296+x) % d,P.set i ((r*4294967296+x)/d),by omega,by go_num,rfl,Nat.mod_lt _ hd0,HP.out.set i _,HPL.out.set i _ HB.out.2.2,by rw [List.length_set];exact HPl.out,Uz (by omega) HPl.out HX.out HPv.out,Kp.setCell K2 (Yu _) _⟩
   case measure=>simp [intOf]
  ·obtain rfl:j=0:=by omega
   have hv:=HPv.out
   rw [List.drop_zero,List.drop_zero,HNX.out] at hv
   have hq:val P=q:=by rw [HQ.out,hv];rw [Nat.mul_comm,Nat.mul_add_div hd0,Nat.div_eq_of_lt hr,Nat.add_zero]
   have hm:r=m:=by rw [HM.out,hv,Nat.mul_comm,Nat.mul_add_mod,Nat.mod_eq_of_lt hr]
   have hrd:=HP.out.rd HPL.out X.length (by rw [HPl.out];exact Yu _) X.length (Yu _) (by unfold maxLen;omega)
   rw [List.take_of_length_le (by rw [HPl.out];exact Yu _)] at hrd
   have HTR:=Yt (MI _ P wr hrd (by rw [HPl.out];exact hl))
   have ht:=BY HPL.out
   rw [←ht,hq] at HTR
   have HRM:=Yt hm
   clear hrd ht hv hq hm
   go_wp2_with (go_at_call 194;refine HTR.out.mono ?_;rintro e w4 ⟨v4,k4,rfl,h4,K5⟩)
   go_ret2
   exact ⟨_,_,TF (by rw [HRM.out]),R3 h4 K2.size,K2.tr K5⟩
end Go.Proofs.YtfineedhebhpaaaGreatDoor
