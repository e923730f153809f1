/-
  Several texts in one: Replace, Lessen, GcdOdd, Gcd.
-/
import Derived.Test.YtfineedhebhpaaaGreatDoorBd
import Derived.Test.YtfineedhebhpaaaGreatDoorBe
import Derived.Test.YtfineedhebhpaaaGreatDoorBg
import Derived.DeepKeys
import Derived.Deep.LoopGhost
namespace Go.Proofs.YtfineedhebhpaaaGreatDoor
open Nat renaming le_refl→Yu
open Lib renaming hid→Yt
set_option maxHeartbeats 16000000
open Go.RowKit
theorem Nk {P' P Q:List Nat} {k x y:Nat} {F S M0 M1:Int} (hk:k<P'.length) (hx:x=P.getD k 0) (hy:y=Q.getD k 0) (hS:S=F+(M0*x+M1*y))
  (hv:F*(4294967296:Int)^k+val (P'.take k)=M0*val (P.take k)+M1*val (Q.take k)):
  S/4294967296*(4294967296:Int)^(k+1)+val ((P'.set k (S % 4294967296).toNat).take (k+1))=M0*val (P.take (k+1))+M1*val (Q.take (k+1)):=by
 rw [BX _ _ _ hk,Au P,Au Q,←hx,←hy]
 have e1:(((S % 4294967296).toNat:Nat):Int)=S % 4294967296:=Int.toNat_of_nonneg (by omega)
 have e2:=Int.mul_ediv_add_emod S 4294967296
 have e3:((4294967296^k:Nat):Int)=(4294967296:Int)^k:=by simp
 rw [Int.natCast_add,Int.natCast_mul,e1,e3,Int.natCast_add,Int.natCast_add,Int.natCast_mul,Int.natCast_mul,e3,Int.pow_succ]
 generalize (4294967296:Int)^k=K at*
 generalize S/4294967296=D at*
 generalize S % 4294967296=R at*
 generalize (val (P'.take k):Int)=a at*
 generalize (val (P.take k):Int)=b at*
 generalize (val (Q.take k):Int)=c at*
 have e4:K*(4294967296*D+R)=K*(F+(M0*x+M1*y)):=by rw [e2,hS]
 grind
theorem Qi {A' v:Nat} {F j C:Int} {K:Nat} (h1:F*K+v=C) (h2:(A':Int)=C+j*K) (h3:A'<K) (h4:v<K):v=A':=by
 have e:((A':Int)-v)=(F+j)*K:=by rw [h2,←h1];grind
 have h5:F+j=0:=by
  rcases Int.lt_trichotomy (F+j) 0 with h|h|h
  ·have:=Int.mul_le_mul_of_nonneg_right (show F+j≤ -1 by omega) (show (0:Int)≤K by omega)
   omega
  ·exact h
  ·have:=Int.mul_le_mul_of_nonneg_right (show 1≤F+j by omega) (show (0:Int)≤K by omega)
   omega
 rw [h5,Int.zero_mul] at e
 omega
def Dw (w:World) (g:Nat) (v:Value) (n:Nat):Prop:=
 ∃P cap,v= .slice (some ⟨g,0,none⟩) (toL n).length cap∧Own w 31 g P∧Ai P∧(toL n).length≤P.length∧P.length≤cap∧cap≤maxLen∧P.take (toL n).length=toL n
theorem Row.g {w:World} {base:Nat} {v:Value} {n:Nat} (h:Row w base v n): ∃g,base≤g∧g<w.heap.size∧Dw w g v n:=by
 obtain ⟨g,P,cap,h0,h1,h2,h⟩:=h
 exact ⟨g,h1,h2.lt,P,cap,h0,h2,h⟩
theorem Dw.row {w:World} {g base:Nat} {v:Value} {n:Nat} (h:Dw w g v n) (hb:base≤g):Row w base v n:=by
 obtain ⟨P,cap,h0,h2,h⟩:=h
 exact ⟨g,P,cap,h0,hb,h2,h⟩
theorem Dw.m {w:World} {g:Nat} {v:Value} {n:Nat} (h:Dw w g v n):M w v n:=(h.row (Nat.zero_le _)).m
theorem Dw.kp {w w':World} {g:Nat} {v:Value} {n:Nat} (h:Dw w g v n) (k:Kp w w'):Dw w' g v n:=by
 obtain ⟨P,cap,h0,h2,h⟩:=h
 exact ⟨P,cap,h0,h2.kp k,h⟩
theorem Dw.lt {w:World} {g:Nat} {v:Value} {n:Nat} (h:Dw w g v n):g<w.heap.size:=by
 obtain ⟨P,cap,_,h2,_⟩:=h
 exact h2.lt
theorem Own.rowG {w:World} {g:Nat} {P:List Nat} (h:Own w 31 g P) (hL:Ai P) {k cap:Nat} (hk:k≤P.length) (hc:P.length≤cap) {n:Nat} (hv:val (P.take k)=n) (hm:cap≤maxLen):
  Dw w g (.slice (some ⟨g,0,none⟩) (Aq (P.take k)).length cap) n:=by
 obtain ⟨g',P',cap',h0,_,h2,h3,h4,h5,h6,h7⟩:=h.rowTake hL (Yu _) hk hc hv hm
 obtain ⟨⟨rfl⟩,h9,rfl⟩:(some (⟨g,0,none⟩:Addr)=some ⟨g',0,none⟩)∧(Aq (P.take k)).length=(toL n).length∧cap=cap':=by simpa using h0
 exact ⟨P',cap,by rw [h9],h2,h3,h4,h5,h6,h7⟩
theorem GT {w:World} {g h:Nat} {o:Obj} (H:w.heap[g]?=some o) (hne:g≠h) (j:Nat) (v:Value):(w.setCell ⟨h,j,none⟩ v).heap[g]?=some o:=
 (((Ci.refl h w).setCell j v).block g hne).trans H
theorem Own.other {w:World} {e:TypeId} {g h:Nat} {xs:List Nat} (H:Own w e g xs) (hne:g≠h) (j:Nat) (v:Value):Own (w.setCell ⟨h,j,none⟩ v) e g xs:=GT H hne j v
theorem Own.drewN {w:World} {e:TypeId} {g:Nat} {xs:List Nat} (H:Own w e g xs) (n:Nat):Own (w.drewN n) e g xs:=H
theorem KI {M0 M1 F:Int} {x y:Nat} (hx:x<4294967296) (hy:y<4294967296) (h0: -2147483648<M0∧M0<2147483648) (h1: -2147483648<M1∧M1<2147483648)
  (hs:(0≤M0∧M1≤0)∨(M0≤0∧0≤M1)) (_hF: -2147483648≤F∧F≤2147483648):
  (-9223372030412324865≤M0*x∧M0*x≤9223372030412324865)∧(-9223372030412324865≤M1*y∧M1*y≤9223372030412324865)∧(-9223372030412324865≤M0*x+M1*y∧M0*x+M1*y≤9223372030412324865):=by
 have a1: ∀(M:Int) (z:Nat),z<4294967296→0≤M→M<2147483648→0≤M*z∧M*z≤9223372030412324865:=by
  intro M z hz hM hM2
  have h1:=Int.mul_le_mul (show M≤2147483647 by omega) (show (z:Int)≤4294967295 by omega) (by omega) (by omega)
  exact ⟨Int.mul_nonneg hM (by omega),by omega⟩
 have a2: ∀(M:Int) (z:Nat),z<4294967296→M≤0→ -2147483648<M→M*z≤0∧ -9223372030412324865≤M*z:=by
  intro M z hz hM hM2
  have:=a1 (-M) z hz (by omega) (by omega)
  rw [Int.neg_mul] at this
  omega
 rcases hs with ⟨h2,h3⟩|⟨h2,h3⟩
 ·have:=a1 M0 x hx h2 h0.2
  have:=a2 M1 y hy h3 h1.1
  omega
 ·have:=a2 M0 x hx h2 h0.1
  have:=a1 M1 y hy h3 h1.2
  omega
set_option maxRecDepth 20000 in
theorem Nj (w0 w:World) (ga gb:Nat) (a b:Value) (A B A' B':Nat) (M0 M1 M2 M3:Int) (ha:Dw w ga a A) (hb:Dw w gb b B) (hk:Kp w0 w) (h1:w0.heap.size≤ga) (h2:w0.heap.size≤gb) (hne:ga≠gb)
  (_hl:(toL A).length≤549755813888) (hBA:B≤A)
  (b0: -2147483648<M0∧M0<2147483648) (b1: -2147483648<M1∧M1<2147483648) (b2: -2147483648<M2∧M2<2147483648) (b3: -2147483648<M3∧M3<2147483648)
  (s0:(0≤M0∧M1≤0)∨(M0≤0∧0≤M1)) (s1:(0≤M2∧M3≤0)∨(M2≤0∧0≤M3))
  (eA:(A':Int)=M0*A+M1*B) (eB:(B':Int)=M2*A+M3*B) (lA:A'≤B) (lB:B'≤B):
  Calls Tryz.prog 307 #[a,b,.agg #[.int .i64 M0,.int .i64 M1,.int .i64 M2,.int .i64 M3]] w fun e w'=> ∃va vb,e= .returned (.tuple #[va,vb])∧Dw w' ga va A'∧Dw w' gb vb B'∧Kp w0 w':=by
 obtain ⟨P,ca,rfl,hP,hPL,p1,p2,p3,p4⟩:=ha
 obtain ⟨Q,cb,rfl,hQ,hQL,q1,q2,q3,q4⟩:=hb
 have hBl:=AM B A hBA
 have HLA:=Yt (Cw B)
 obtain ⟨n,hn⟩: ∃n,n=(toL B).length:=⟨_,rfl⟩
 obtain ⟨la,hla⟩: ∃la,la=(toL A).length:=⟨_,rfl⟩
 rw [←hn] at q1 q4 hBl HLA
 rw [←hla] at p1 p4 _hl hBl
 rw [←hn,←hla]
 have vA:val (P.take la)=A:=by rw [p4];exact Ar A
 have vB:val (Q.take n)=B:=by rw [q4];exact Ar B
 have hcut: ∃hi:Nat,A=val (P.take n)+4294967296^n*hi:=by
  refine ⟨val ((P.take la).drop n),?_⟩
  have:=IS (P.take la) n (by rw [List.length_take];omega)
  rw [List.take_take,Nat.min_eq_left hBl,vA] at this
  exact this
 obtain ⟨hi,ehi⟩:=hcut
 have ehi2:(A:Int)=val (P.take n)+((4294967296^n:Nat):Int)*hi:=by rw [ehi];simp
 have eA2:(A':Int)=(M0*val (P.take n)+M1*val (Q.take n))+M0*hi*((4294967296^n:Nat):Int):=by rw [eA,ehi2,vB];grind
 have eB2:(B':Int)=(M2*val (P.take n)+M3*val (Q.take n))+M2*hi*((4294967296^n:Nat):Int):=by rw [eB,ehi2,vB];grind
 have HEA:=Yt eA2
 have HEB:=Yt eB2
 have HP:=Yt hP
 have HQ:=Yt hQ
 have HPL:=Yt hPL
 have HQL:=Yt hQL
 have HB0:=Yt b0
 have HB1:=Yt b1
 have HB2:=Yt b2
 have HB3:=Yt b3
 have HS0:=Yt s0
 have HS1:=Yt s1
 have hp2:n≤P.length:=by omega
 unfold maxLen at p3 q3
 clear eA2 eB2 ehi2 ehi eA eB vA vB p4 q4 hP hQ hPL hQL b0 b1 b2 b3 s0 s1 hn hla
 go_enter Tryz.func307,Tryz.ntmps307
 go_wp2
 obtain ⟨g,hg⟩: ∃g,g=w.heap.size:=⟨_,rfl⟩
 obtain ⟨w2,hw2⟩: ∃w2,w2=w.alloc (Obj.cells #[Value.int IntKind.i64 M0,Value.int IntKind.i64 M1,Value.int IntKind.i64 M2,Value.int IntKind.i64 M3] 238):=⟨_,rfl⟩
 have hM2:w2.heap[g]?=some (.cells #[.int .i64 M0,.int .i64 M1,.int .i64 M2,.int .i64 M3] 238 (0,0)):=by rw [hw2,hg];exact heap_alloc_new w _
 have kw:Kp w w2:=by rw [hw2];exact Kp.alloc _ _
 have hga:ga≠g:=by have:=HP.out.lt;omega
 have hgb:gb≠g:=by have:=HQ.out.lt;omega
 rw [←hg,←hw2]
 have HM2:=Yt hM2
 have HP2:=Yt (HP.out.kp kw)
 have HQ2:=Yt (HQ.out.kp kw)
 have HK2:=Yt (hk.tr kw)
 clear hw2 hg hM2 HP HQ kw hk
 go_loopw [8,9,19] (fun fv sv i wr=> ∃(k:Nat) (F G:Int) (P' Q':List Nat),k≤n∧i= .int .i64 k∧fv= .int .i64 F∧sv= .int .i64 G∧(-2147483648≤F∧F≤2147483648)∧(-2147483648≤G∧G≤2147483648)∧
  Hid (Own wr 31 ga P')∧Hid (Own wr 31 gb Q')∧Hid (P'.length=P.length)∧Hid (Q'.length=Q.length)∧Hid (Ai P')∧Hid (Ai Q')∧Hid (P'.drop k=P.drop k)∧Hid (Q'.drop k=Q.drop k)∧
  Hid (F*(4294967296:Int)^k+val (P'.take k)=M0*val (P.take k)+M1*val (Q.take k))∧Hid (G*(4294967296:Int)^k+val (Q'.take k)=M2*val (P.take k)+M3*val (Q.take k))∧
  Hid (wr.heap[g]?=some (.cells #[.int .i64 M0,.int .i64 M1,.int .i64 M2,.int .i64 M3] 238 (0,0)))∧Kp w0 wr) (fun _ _ i _=>n-(intOf i).toNat)
 case atStart=>exact ⟨0,0,0,P,Q,Nat.zero_le _,rfl,rfl,rfl,by omega,by omega,HP2,HQ2,Yt rfl,Yt rfl,HPL,HQL,Yt rfl,Yt rfl,Yt (by simp [val]),Yt (by simp [val]),HM2,HK2.out⟩
 case round=>
  obtain ⟨k,F,G,P',Q',hk,rfl,rfl,rfl,hF,hG,HP',HQ',HPl,HQl,HPL',HQL',HPd,HQd,HPv,HQv,HM,K3⟩:=hrel
  by_cases hk1:k<n
  ·obtain ⟨x,hcx,hx,HX⟩:=HP'.out.at HPL'.out k (by rw [HPl.out];omega)
   obtain ⟨y,hcy,hy,HY⟩:=HQ'.out.at HQL'.out k (by rw [HQl.out];omega)
   have hfx:=HP'.out.frozen k
   have hfy:=HQ'.out.frozen k
   have c0:wr.cell? ⟨g,0,none⟩=some (.int .i64 M0):=cell_of_row wr g 0 _ _ _ HM.out
   have c1:wr.cell? ⟨g,1,none⟩=some (.int .i64 M1):=cell_of_row wr g 1 _ _ _ HM.out
   have c2:wr.cell? ⟨g,2,none⟩=some (.int .i64 M2):=cell_of_row wr g 2 _ _ _ HM.out
   have c3:wr.cell? ⟨g,3,none⟩=some (.int .i64 M3):=cell_of_row wr g 3 _ _ _ HM.out
   have B0:=KI hx hy HB0.out HB1.out HS0.out hF
   have B1:=KI hx hy HB2.out HB3.out HS1.out hG
   obtain ⟨X0,hX0⟩: ∃z:Int,z=M0*x:=⟨_,rfl⟩
   obtain ⟨X1,hX1⟩: ∃z:Int,z=M1*y:=⟨_,rfl⟩
   obtain ⟨X2,hX2⟩: ∃z:Int,z=M2*x:=⟨_,rfl⟩
   obtain ⟨X3,hX3⟩: ∃z:Int,z=M3*y:=⟨_,rfl⟩
   rw [←hX0,←hX1] at B0
   rw [←hX2,←hX3] at B1
   obtain ⟨⟨d1,d2⟩,⟨d3,d4⟩,⟨d5,d6⟩⟩:=B0
   obtain ⟨⟨e1,e2⟩,⟨e3,e4⟩,⟨e5,e6⟩⟩:=B1
   obtain ⟨hF1,hF2⟩:=hF
   obtain ⟨hG1,hG2⟩:=hG
   have HPX:=Yt (show x=P.getD k 0 by rw [HX.out,Ft HPd.out])
   have HQY:=Yt (show y=Q.getD k 0 by rw [HY.out,Ft HQd.out])
   obtain ⟨S,hS⟩: ∃z:Int,z=F+(X0+X1):=⟨_,rfl⟩
   obtain ⟨T,hT⟩: ∃z:Int,z=G+(X2+X3):=⟨_,rfl⟩
   have HST:=Yt (Nk (P':=P') (by rw [HPl.out];omega) HPX.out HQY.out (show S=F+(M0*x+M1*y) by rw [hS,hX0,hX1]) HPv.out)
   have HTT:=Yt (Nk (P':=Q') (by rw [HQl.out];omega) HPX.out HQY.out (show T=G+(M2*x+M3*y) by rw [hT,hX2,hX3]) HQv.out)
   have x0:=hX0.symm
   have x1:=hX1.symm
   have x2:=hX2.symm
   have x3:=hX3.symm
   have sS:=hS.symm
   have sT:=hT.symm
   have hSb: -9223372036854775808≤S∧S≤9223372036854775807:=by omega
   have hTb: -9223372036854775808≤T∧T≤9223372036854775807:=by omega
   clear hX0 hX1 hX2 hX3 hS hT
   obtain ⟨s,hs⟩: ∃s,s=(S % 4294967296).toNat:=⟨_,rfl⟩
   obtain ⟨t,ht⟩: ∃t,t=(T % 4294967296).toNat:=⟨_,rfl⟩
   have hsi:S % 4294967296=(s:Int):=by omega
   have hti:T % 4294967296=(t:Int):=by omega
   have hs32:s<4294967296:=by omega
   have ht32:t<4294967296:=by omega
   rw [←hs] at HST
   rw [←ht] at HTT
   obtain ⟨F2,hF2'⟩: ∃z:Int,z=S/4294967296:=⟨_,rfl⟩
   obtain ⟨G2,hG2'⟩: ∃z:Int,z=T/4294967296:=⟨_,rfl⟩
   have hFd:S/4294967296=F2:=hF2'.symm
   have hGd:T/4294967296=G2:=hG2'.symm
   have hF2b: -2147483648≤F2∧F2≤2147483648:=by omega
   have hG2b: -2147483648≤G2∧G2≤2147483648:=by omega
   rw [hFd] at HST
   rw [hGd] at HTT
   clear hs ht hF2' hG2'
   go_wp2
   go_quiet (fail)
   go_wp2
   go_roundw
   case rel=>exact ⟨k+1,F2,G2,P'.set k s,Q'.set k t,by omega,by go_num,rfl,rfl,hF2b,hG2b,Yt ((HP'.out.set k s).other hne k _),Yt (((HQ'.out.drewN nq).other (Ne.symm hne) k _).set k t),Yt (by rw [List.length_set];exact HPl.out),Yt (by rw [List.length_set];exact HQl.out),
    Yt (HPL'.out.set k s hs32),Yt (HQL'.out.set k t ht32),Yt (Ce HPd.out s),Yt (Ce HQd.out t),HST,HTT,Yt (GT (GT (w:=wr.drewN nq) HM.out (Ne.symm hga) k _) (Ne.symm hgb) k _),((K3.drewN nq).setCell h1 _).setCell h2 _⟩
   case measure=>simp [intOf];omega
  ·obtain rfl:k=n:=by omega
   have hp:k≤P'.length:=by rw [HPl.out];exact hp2
   have hq:k≤Q'.length:=by rw [HQl.out];exact q1
   have l1:=Cf (HPL'.out.take k)
   have l2:=Cf (HQL'.out.take k)
   rw [List.length_take,Nat.min_eq_left hp] at l1
   rw [List.length_take,Nat.min_eq_left hq] at l2
   have hB:=HLA.out
   have hpv:=HPv.out
   have hqv:=HQv.out
   rw [show (4294967296:Int)^k=((4294967296^k:Nat):Int) by simp] at hpv hqv
   have va':val (P'.take k)=A':=Qi hpv HEA.out (by omega) l1
   have vb':val (Q'.take k)=B':=Qi hqv HEB.out (by omega) l2
   have HVA:=Yt va'
   have HVB:=Yt vb'
   have HTA:=Yt (Cg (some ⟨ga,0,none⟩) k ca (P'.take k) wr (by rw [List.length_take];omega) (by omega) (by unfold maxLen;omega) (HP'.out.sl.take k))
   have HTB:=Yt (Cg (some ⟨gb,0,none⟩) k cb (Q'.take k) wr (by rw [List.length_take];omega) (by omega) (by unfold maxLen;omega) (HQ'.out.sl.take k))
   clear va' vb' hpv hqv l1 l2 hB
   go_wp2_with (go_at_call 267;first
    | ((with_reducible refine HTA.out.mono ?_);rintro e w8 ⟨rfl,rfl⟩)
    | ((with_reducible refine HTB.out.mono ?_);rintro e w8 ⟨rfl,rfl⟩))
   go_ret2
   exact ⟨_,_,rfl,HP'.out.rowG HPL'.out hp (by rw [HPl.out];exact p2) HVA.out (by unfold maxLen;omega),HQ'.out.rowG HQL'.out hq (by rw [HQl.out];exact q2) HVB.out (by unfold maxLen;omega),K3⟩
theorem NQ {M:Int} (h: -9223372036854775808≤M∧M≤9223372036854775807):Tryz.prog.keyLits 1 2 [.int .i64 M]=some [.int .i64 M]:=by
 have hw:(Lit.int .i64 M).wf=true:=by
  unfold Lit.wf
  rw [Bool.and_eq_true]
  exact ⟨decide_eq_true h.1,decide_eq_true h.2⟩
 unfold Program.keyLits
 simp only [Tryz.underlying2,hw,and_self,if_true]
theorem NP {M N:Int} (h: -9223372036854775808≤M∧M≤9223372036854775807) (k: -9223372036854775808≤N∧N≤9223372036854775807):
  Tryz.prog.keyLits 2 236 [.int .i64 M,.int .i64 N]=some [.int .i64 M,.int .i64 N]:=by
 have e1:Tryz.prog.cellsOf 236=2:=by kernel_rfl
 have e2:Tryz.prog.cellsOf 2=1:=by kernel_rfl
 unfold Program.keyLits
 simp only [Tryz.underlying236,e1,e2,List.length_cons,List.length_nil,if_true]
 simp [List.range_succ,NQ h,NQ k]
theorem KU {M0 M1 M2 M3:Int} (h0: -9223372036854775808≤M0∧M0≤9223372036854775807) (h1: -9223372036854775808≤M1∧M1≤9223372036854775807) (h2: -9223372036854775808≤M2∧M2≤9223372036854775807) (h3: -9223372036854775808≤M3∧M3≤9223372036854775807):
  Tryz.prog.keyLits 3 238 [.int .i64 M0,.int .i64 M1,.int .i64 M2,.int .i64 M3]=some [.int .i64 M0,.int .i64 M1,.int .i64 M2,.int .i64 M3]:=by
 have e1:Tryz.prog.cellsOf 236=2:=by kernel_rfl
 have e2:Tryz.prog.cellsOf 238=4:=by kernel_rfl
 unfold Program.keyLits
 simp only [Tryz.underlying238,e1,e2,List.length_cons,List.length_nil,if_true]
 simp [List.range_succ,NP h0 h1,NP h2 h3]
theorem Xq {M0 M1 M2 M3:Int} (h0: -2147483648<M0∧M0<2147483648) (h1: -2147483648<M1∧M1<2147483648) (h2: -2147483648<M2∧M2<2147483648) (h3: -2147483648<M3∧M3<2147483648) (w:World):
  Sem.run Tryz.prog (Op.equalIn 10000 238 (.agg #[.int .i64 M0,.int .i64 M1,.int .i64 M2,.int .i64 M3]) (.agg #[.int .i64 1,.int .i64 0,.int .i64 0,.int .i64 1])) w= .ok (decide (M0=1∧M1=0∧M2=0∧M3=1)) w:=by
 obtain ⟨r,g1,g2⟩:=run_equalIn_deep (P:=Tryz.prog) 9997 3 238 (by kernel_rfl) w 3 3 (.agg #[.int .i64 M0,.int .i64 M1,.int .i64 M2,.int .i64 M3]) (.agg #[.int .i64 1,.int .i64 0,.int .i64 0,.int .i64 1])
  [.int .i64 M0,.int .i64 M1,.int .i64 M2,.int .i64 M3] [.int .i64 1,.int .i64 0,.int .i64 0,.int .i64 1] (by kernel_rfl) (by kernel_rfl) (KU (by omega) (by omega) (by omega) (by omega)) (KU (by omega) (by omega) (by omega) (by omega))
 have:r=decide (M0=1∧M1=0∧M2=0∧M3=1):=by
  cases r
  ·symm
   apply decide_eq_false
   rintro ⟨rfl,rfl,rfl,rfl⟩
   exact absurd (g2.2 rfl) (by simp)
  ·symm
   apply decide_eq_true
   simpa using g2.1 rfl
 rw [←this]
 exact g1
def U5 (w0 w':World) (A B:Nat) (va vb:Value):Prop:=
 ∃(ga gb A' B':Nat),Dw w' ga va A'∧Dw w' gb vb B'∧ga≠gb∧w0.heap.size≤ga∧w0.heap.size≤gb∧B'≤A'∧A'≤A∧0<A'∧A'+B'<A+B∧Nat.gcd A' B'=Nat.gcd A B
theorem Pz {w0 w4 w5:World} {gb A B:Nat} {b rv:Value} (hb:Dw w5 gb b B) (hr:Row w5 w4.heap.size rv (A % B)) (h2:w0.heap.size≤gb) (hg:gb<w4.heap.size) (_hk:w0.heap.size≤w4.heap.size) (hBA:B≤A) (hB:0<B):
  U5 w0 w5 A B b rv:=by
 obtain ⟨g,g1,_,g3⟩:=hr.g
 have hm:=Nat.mod_lt A hB
 exact ⟨gb,g,B,A % B,hb,g3,by omega,h2,by omega,by omega,hBA,hB,by omega,by rw [Nat.gcd_comm B,←Nat.gcd_rec,Nat.gcd_comm]⟩
theorem VX {A B f:Nat} (hA:2<(toL A).length) (hBA:B≤A) (hf:f=C6 A-62):3≤f∧A/2^f<4611686018427387904∧B/2^f≤A/2^f:=by
 have h1:=EY (m:=A) (k:=2) hA
 have hA0:A≠0:=by omega
 have h2:=PP hA0
 have h3:65≤C6 A:=by
  rcases Nat.lt_or_ge (C6 A) 65 with h|h
  ·have h4:=Nat.pow_le_pow_right (show 0<2 by omega) (show C6 A≤64 by omega)
   omega
  ·exact h
 refine ⟨by omega,?_,Nat.div_le_div_right hBA⟩
 refine Nat.div_lt_of_lt_mul ?_
 have h4:2^f*4611686018427387904=2^C6 A:=by
  rw [show (4611686018427387904:Nat)=2^62 from rfl,←Nat.pow_add]
  congr 1
  omega
 rw [h4]
 exact h2.2.1
theorem Steps.factors {x0 y0:Nat} {σ:Int} {p q r s x y:Nat} (h:Steps x0 y0 σ p q r s x y) (hx:x0<4611686018427387904):
  (-2147483648<σ*p∧σ*p<2147483648)∧(-2147483648< -σ*q∧ -σ*q<2147483648)∧(-2147483648< -σ*r∧ -σ*r<2147483648)∧(-2147483648<σ*s∧σ*s<2147483648)∧
  ((0≤σ*p∧ -σ*q≤0)∨(σ*p≤0∧0≤ -σ*q))∧((0≤ -σ*r∧σ*s≤0)∨(-σ*r≤0∧0≤σ*s)):=by
 have h1:=h.short hx
 have h2:=h.rs
 have h3:=h.qs
 have h4:p≤s:=by
  rcases h.st with ⟨e1,_,_,e4,_⟩|⟨_,_,e3,_⟩<;>omega
 rcases h.sign with e|e<;>rw [e]<;>omega
set_option maxRecDepth 20000 in
theorem JM (w0 w:World) (ga gb:Nat) (a b:Value) (A B:Nat) (ha:Dw w ga a A) (hb:Dw w gb b B) (hk:Kp w0 w) (h1:w0.heap.size≤ga) (h2:w0.heap.size≤gb) (hne:ga≠gb)
  (hA:2<(toL A).length) (hl:(toL A).length≤17179869184) (hBA:B≤A) (hB:0<B) (hT:Tz w):
  Calls Tryz.prog 297 #[a,b] w fun e w'=> ∃va vb,e= .returned (.tuple #[va,vb])∧U5 w0 w' A B va vb∧Kp w0 w':=by
 obtain ⟨f,hf⟩: ∃f,f=C6 A-62:=⟨_,rfl⟩
 obtain ⟨hf3,hxb,hyx⟩:=VX hA hBA hf
 have hbt:=GE A (by omega)
 have hbl:=EU ((BG A).getD ((toL A).length-1))
 have hbb:C6 A≤549755813888:=by omega
 have hfi:((C6 A:Nat):Int)-62=(f:Int):=by omega
 have HBITS:=Yt (R6 a A w ha.m (by omega))
 obtain ⟨bn,hbn⟩: ∃bn,bn=C6 A:=⟨_,rfl⟩
 rw [←hbn] at HBITS hfi hbb
 obtain ⟨x0,hx0⟩: ∃x,x=A/2^f:=⟨_,rfl⟩
 obtain ⟨y0,hy0⟩: ∃y,y=B/2^f:=⟨_,rfl⟩
 have hfs:f=32*(f/32)+f % 32:=by omega
 have HWA:=Yt (fun w' (kk:Kp w w')=>Jd a (toL A) (f/32) (f % 32) w' ((ha.kp kk).m) (by omega) (by omega) (by omega) (by rw [←hfs,Ar];exact hxb))
 have HWB:=Yt (fun w' (kk:Kp w w')=>Jd b (toL B) (f/32) (f % 32) w' ((hb.kp kk).m) (by omega) (by omega) (by have:=AM B A hBA;omega) (by rw [←hfs,Ar];omega))
 rw [←hfs,Ar,←hx0] at HWA
 rw [←hfs,Ar,←hy0] at HWB
 rw [←hx0] at hxb
 rw [←hx0,←hy0] at hyx
 have HLD:=Yt (fun w'=>Ud x0 y0 w' hxb hyx)
 have HUN:=Yt GG
 have HX0:=Yt hx0
 have HY0:=Yt hy0
 have HRA:=Yt ha
 have HRB:=Yt hb
 have HT:=Yt hT
 clear hf hbt hbl hbn hx0 hy0 hfs ha hb hT
 go_enter Tryz.func297,Tryz.ntmps297
 go_wp2_with (go_at_call 239;refine HBITS.out.mono ?_;rintro e w1 ⟨rfl,rfl⟩)
 go_wp2_with (go_at_call 305;(with_reducible refine (HWA.out w (Below.refl _ _)).mono ?_);rintro e w1 ⟨rfl,K1⟩;refine Hid.out ?_)
 refine Yt ?_
 go_wp2_with (go_at_call 305;(with_reducible refine (HWB.out w1 K1).mono ?_);rintro e w2 ⟨rfl,K2⟩;refine Hid.out ?_)
 refine Yt ?_
 go_wp2_with (go_at_call 304;(with_reducible refine (HLD.out w2).mono ?_);rintro e w3 ⟨σ,p,q,r,s,x,y,rfl,hS,K3⟩;refine Hid.out ?_)
 refine Yt ?_
 have hfac:=hS.factors hxb
 obtain ⟨M0,hM0⟩: ∃M:Int,M=σ*p:=⟨_,rfl⟩
 obtain ⟨M1,hM1⟩: ∃M:Int,M= -σ*q:=⟨_,rfl⟩
 obtain ⟨M2,hM2⟩: ∃M:Int,M= -σ*r:=⟨_,rfl⟩
 obtain ⟨M3,hM3⟩: ∃M:Int,M=σ*s:=⟨_,rfl⟩
 have hmat:mat σ p q r s= #[.int .i64 M0,.int .i64 M1,.int .i64 M2,.int .i64 M3]:=by unfold mat;rw [←hM0,←hM1,←hM2,←hM3]
 rw [hmat]
 rw [←hM0,←hM1,←hM2,←hM3] at hfac
 have HFAC:=Yt hfac
 have HS:=Yt hS
 have HM0:=Yt hM0
 have HM1:=Yt hM1
 have HM2:=Yt hM2
 have HM3:=Yt hM3
 clear hfac hS hM0 hM1 hM2 hM3 hmat
 go_wp2_with fail
 obtain ⟨W,hW⟩: ∃W,W=w3.alloc (Obj.cells #[Value.int IntKind.i64 M0,Value.int IntKind.i64 M1,Value.int IntKind.i64 M2,Value.int IntKind.i64 M3] 238):=⟨_,rfl⟩
 obtain ⟨g,hg⟩: ∃g,g=w3.heap.size:=⟨_,rfl⟩
 have hH:W.heap[g]?=some (.cells #[.int .i64 M0,.int .i64 M1,.int .i64 M2,.int .i64 M3] 238 (0,0)):=by rw [hW,hg];exact heap_alloc_new w3 _
 have KW:Kp w W:=by rw [hW];exact ((K1.tr K2).tr K3).tr (Kp.alloc _ _)
 have hcell: ∀w',Kp W w'→w'.cell? ⟨g,0,none⟩=some (.int .i64 M0)∧w'.cell? ⟨g,1,none⟩=some (.int .i64 M1)∧w'.cell? ⟨g,2,none⟩=some (.int .i64 M2)∧w'.cell? ⟨g,3,none⟩=some (.int .i64 M3):=by
  intro w' k
  have h:=(k.block g (Array.getElem?_eq_some_iff.1 hH).1).trans hH
  exact ⟨cell_of_row w' g 0 _ _ _ h,cell_of_row w' g 1 _ _ _ h,cell_of_row w' g 2 _ _ _ h,cell_of_row w' g 3 _ _ _ h⟩
 rw [←hW,←hg]
 obtain ⟨c0,c1,c2,c3⟩:=hcell W (Below.refl _ _)
 have HCL:=Yt hcell
 clear hW hg hH hcell
 have heq0:=Xq HFAC.out.1 HFAC.out.2.1 HFAC.out.2.2.1 HFAC.out.2.2.2.1
 have HKW:=Yt KW
 have HK:=Yt hk
 clear KW hk K1 K2 K3
 rcases Nat.eq_zero_or_pos q with hq|hq
 ·have hone:M0=1∧M1=0∧M2=0∧M3=1:=by
   rcases HS.out.st with ⟨e1,e2,e3,e4,e5⟩|⟨e1,_⟩
   ·rw [HM0.out,HM1.out,HM2.out,HM3.out,e1,e2,e3,e4,e5];simp
   ·omega
  have heq: ∀w',Sem.run Tryz.prog (Op.equalIn 10000 238 (.agg #[.int .i64 M0,.int .i64 M1,.int .i64 M2,.int .i64 M3]) (.agg #[.int .i64 1,.int .i64 0,.int .i64 0,.int .i64 1])) w'= .ok true w':=by
   intro w'
   rw [heq0 w',decide_eq_true hone]
  clear heq0 hone
  go_region_with (go_at_call 306;refine (HUN.out _).mono ?_;rintro e w4 ⟨rfl,K4⟩;have cc:=HCL.out w4 ((show Kp W W.drew from (Below.refl _ _).drew).tr K4);obtain ⟨d0,d1,d2,d3⟩:=cc)
  all_goals
   have K5:Kp w w4:=HKW.out.tr ((show Kp W W.drew from (Below.refl _ _).drew).tr K4)
   have HD:=Yt (QG (HRA.out.m.kp K5) (HRB.out.m.kp K5) (k:=17179869184) hl (by omega) (by omega) (HT.out.kp K5))
   have HK5:=Yt K5
   clear K4 K5
   go_wp2_with (go_at_call 262;refine HD.out.mono ?_;rintro e w5 ⟨qv,rv,rfl,hqv,hrv,K6⟩;refine Hid.out ?_)
   refine Yt ?_
   go_wp2
   go_ret2
   exact ⟨b,rv,rfl,Pz (HRB.out.kp (HK5.out.tr K6)) hrv h2 (Nat.lt_of_lt_of_le HRB.out.lt HK5.out.size) (Nat.le_trans HK.out.size HK5.out.size) hBA hB,HK.out.tr (HK5.out.tr K6)⟩
 ·have hone: ¬(M0=1∧M1=0∧M2=0∧M3=1):=by
   rintro ⟨_,e,_⟩
   have h:=HM1.out
   rw [e] at h
   rcases HS.out.sign with e1|e1<;>rw [e1] at h<;>omega
  have heq: ∀w',Sem.run Tryz.prog (Op.equalIn 10000 238 (.agg #[.int .i64 M0,.int .i64 M1,.int .i64 M2,.int .i64 M3]) (.agg #[.int .i64 1,.int .i64 0,.int .i64 0,.int .i64 1])) w'= .ok false w':=by
   intro w'
   rw [heq0 w',decide_eq_false hone]
  have hmade:=HS.out.made hq (A:=A) (B:=B) (K:=2^f) (α:=A % 2^f) (β:=B % 2^f) (by rw [HX0.out,Nat.div_add_mod']) (by rw [HY0.out,Nat.div_add_mod']) (Nat.mod_lt _ (Nat.pow_pos (by omega))) (Nat.mod_lt _ (Nat.pow_pos (by omega)))
  obtain ⟨A',B',eA,eB,_,_,p1,p2,p3,p4,p5⟩:=hmade
  rw [←HM0.out,←HM1.out] at eA
  rw [←HM2.out,←HM3.out] at eB
  have HREP:=Yt (fun w' (k:Kp w w')=>Nj w0 w' ga gb a b A B A' B' M0 M1 M2 M3 (HRA.out.kp k) (HRB.out.kp k) (HK.out.tr k) h1 h2 hne (by omega) hBA HFAC.out.1 HFAC.out.2.1 HFAC.out.2.2.1 HFAC.out.2.2.2.1 HFAC.out.2.2.2.2.1 HFAC.out.2.2.2.2.2 eA eB p3 (by omega))
  have HP:=Yt (show B'≤A'∧A'≤A∧0<A'∧A'+B'<A+B∧Nat.gcd A' B'=Nat.gcd A B from ⟨p2,by omega,by omega,p4,p5⟩)
  clear heq0 hone eA eB p1 p2 p3 p4 p5
  go_region_with (go_at_call 306;refine (HUN.out _).mono ?_;rintro e w4 ⟨rfl,K4⟩;have cc:=HCL.out w4 ((show Kp W W.drew from (Below.refl _ _).drew).tr K4);obtain ⟨d0,d1,d2,d3⟩:=cc)
  all_goals
   have K5:Kp w w4:=HKW.out.tr ((show Kp W W.drew from (Below.refl _ _).drew).tr K4)
   have HR:=Yt (HREP.out w4 K5)
   clear K4 K5
   go_wp2_with (go_at_call 307;refine HR.out.mono ?_;rintro e w5 ⟨va,vb,rfl,hva,hvb,K6⟩;refine Hid.out ?_)
   refine Yt ?_
   go_wp2
   go_ret2
   exact ⟨va,vb,rfl,⟨ga,gb,A',B',hva,hvb,hne,h1,h2,HP.out⟩,K6⟩
def D6 (w0 wr:World) (G k:Nat) (va vb:Value):Prop:=
 ∃(ga gb A' B':Nat),Dw wr ga va A'∧Dw wr gb vb B'∧ga≠gb∧w0.heap.size≤ga∧w0.heap.size≤gb∧B'≤A'∧0<A'∧(toL A').length≤17179869184∧A'+B'=k∧Nat.gcd A' B'=G
theorem D6.start {w0 wr:World} {ga gb A' B':Nat} {va vb:Value} (ha:Dw wr ga va A') (hb:Dw wr gb vb B') (hne:ga≠gb) (h1:w0.heap.size≤ga) (h2:w0.heap.size≤gb) (h3:B'≤A') (h4:0<A') (h5:(toL A').length≤17179869184):
  D6 w0 wr (Nat.gcd A' B') (A'+B') va vb:=⟨ga,gb,A',B',ha,hb,hne,h1,h2,h3,h4,h5,rfl,rfl⟩
theorem D6.next {w0 wr:World} {G ga gb A' B':Nat} {va vb:Value} (ha:Dw wr ga va A') (hb:Dw wr gb vb B') (hne:ga≠gb) (h1:w0.heap.size≤ga) (h2:w0.heap.size≤gb) (h3:B'≤A') (h4:0<A') (h5:(toL A').length≤17179869184) (hG:Nat.gcd A' B'=G):
  D6 w0 wr G (A'+B') va vb:=hG▸D6.start ha hb hne h1 h2 h3 h4 h5
theorem Dw.lit {w:World} {g:Nat} {v:Value} {n:Nat} (h:Dw w g v n): ∃c,v= .slice (some ⟨g,0,none⟩) (toL n).length c∧(0<(toL n).length→w.cell? ⟨g,0,none⟩=some (.int .u32 ((toL n).getD 0 0:Nat))):=by
 obtain ⟨P,cap,rfl,h1,h2,h3,h4,h5,h6⟩:=h
 refine ⟨cap,rfl,fun h0=>?_⟩
 have e:=DN P (toL n).length 0 h0
 rw [h6] at e
 rw [e]
 exact h1.cell 0 (by omega)
theorem Ea {n:Nat} (h:(toL n).length=1):(toL n).getD 0 0=n:=by
 have h1:=Ar n
 match hx:toL n,h with
 | [x],_=>
   rw [hx] at h1
   simpa [val] using h1
theorem FJ {n:Nat} (h:(toL n).length≤2):n<18446744073709551616:=by
 have h1:=Cw n
 have h2:=Nat.pow_le_pow_right (show 0<4294967296 by omega) h
 omega
set_option maxRecDepth 20000 in
theorem NW (w0 w:World) (ga gb:Nat) (a b:Value) (A B:Nat) (ha:Dw w ga a A) (hb:Dw w gb b B) (hk:Kp w0 w) (h1:w0.heap.size≤ga) (h2:w0.heap.size≤gb) (hne:ga≠gb)
  (hlA:(toL A).length≤17179869184) (hlB:(toL B).length≤17179869184) (hA:0<A) (hB:0<B) (hT:Tz w0):
  Calls Tryz.prog 286 #[a,b] w fun e w'=> ∃v,e= .returned v∧M w' v (Nat.gcd A B)∧Kp w0 w':=by
 have HC:=Yt (Ee a b _ _ w ha.m hb.m)
 rw [Ar,Ar] at HC
 obtain ⟨G,hG⟩: ∃G,G=Nat.gcd A B:=⟨_,rfl⟩
 obtain ⟨cv,hcv⟩: ∃cv,cv=BZ A B:=⟨_,rfl⟩
 rw [←hcv] at HC
 rw [←hG]
 have hst: ∀w1,Kp w w1→(cv<0→D6 w0 w1 G (A+B) b a)∧(¬cv<0→D6 w0 w1 G (A+B) a b):=by
  intro w1 k
  constructor
  ·intro h
   have hlt:A<B:=by
    rcases Nat.lt_or_ge A B with h3|h3
    ·exact h3
    ·rw [hcv] at h
     unfold BZ at h
     rw [if_neg (by omega)] at h
     split at h<;>omega
   have:=D6.start (hb.kp k) (ha.kp k) (Ne.symm hne) h2 h1 (by omega) hB hlB
   rwa [Nat.gcd_comm,←hG,Nat.add_comm] at this
  ·intro h
   have hge:B≤A:=by
    rcases Nat.lt_or_ge A B with h3|h3
    ·rw [hcv,CY h3] at h
     omega
    ·exact h3
   have:=D6.start (ha.kp k) (hb.kp k) hne h1 h2 hge hA hlA
   rwa [←hG] at this
 have HST:=Yt hst
 have HK:=Yt hk
 have HT:=Yt hT
 clear hst hk hT hcv hG ha hb hA hB hlA hlB
 by_cases hc:cv<0
 all_goals
  go_enter Tryz.func286,Tryz.ntmps286
  go_wp2_with (go_at_call 238;refine HC.out.mono ?_;rintro e w1 ⟨rfl,K1⟩;refine Hid.out ?_)
  refine Yt ?_
  have HS1:=Yt (HST.out w1 K1)
  have HK1:=Yt (HK.out.tr K1)
  clear K1
  go_wp2_with fail
  go_loopg [0,1] (A+B) (fun k av bv wr=>Hid (D6 w0 wr G k av bv)∧Hid (Kp w0 wr))
  case atStart=>exact ⟨Yt (by first|exact HS1.out.1 hc|exact HS1.out.2 hc),HK1⟩
  case round=>
   obtain ⟨HST1,HK2⟩:=hrel
   obtain ⟨ga',gb',A',B',ha',hb',hne',h1',h2',hBA,hA0,hl',hk',hG'⟩:=HST1.out
   have HMA:=ha'.m
   have HMB:=hb'.m
   obtain ⟨ca,rfl,_⟩:=ha'.lit
   obtain ⟨cb,rfl,hb0⟩:=hb'.lit
   have hla:=AM _ _ hBA
   have HRA:=Yt ha'
   have HRB:=Yt hb'
   have HGG:=Yt hG'
   have hT1:=Yt (HT.out.kp HK2.out)
   have hlb1:= @Ea B'
   have hlt2:= @FJ A'
   obtain ⟨la,hla'⟩: ∃l,l=(toL A').length:=⟨_,rfl⟩
   obtain ⟨lb,hlb'⟩: ∃l,l=(toL B').length:=⟨_,rfl⟩
   have HSA:=Yt (fun (h:la≤2)=>Eh _ _ wr HMA (by rw [←hla'];exact h))
   have HSB:=Yt (fun (h:lb≤2)=>Eh _ _ wr HMB (by rw [←hlb'];exact h))
   rw [Ar] at HSA HSB
   have HMA:=Yt HMA
   have HMB:=Yt HMB
   rw [←hla'] at HRA HMA HSA hl' hla hlt2⊢
   rw [←hlb'] at HRB HMB HSB hla hb0 hlb1⊢
   have hb00:lb=0→B'=0:=by
    intro h
    have:=(AU B').1 (List.length_eq_zero_iff.1 (hlb'▸h))
    exact this
   have hbpos:0<lb→0<B':=by
    intro h
    rcases Nat.eq_zero_or_pos B' with h0|h0
    ·rw [hlb',h0,Az] at h
     exact absurd h (by simp)
    ·exact h0
   have HLA:=Yt hla'
   have HKK:=Yt hk'
   clear HST1 ha' hb' hG' hla' hlb' hk'
   by_cases h3:2<la
   ·by_cases h4:0<lb
    ·obtain ⟨x,hx⟩: ∃x,x=(toL B').getD 0 0:=⟨_,rfl⟩
     have hcell:=hb0 h4
     rw [←hx] at hcell hlb1
     by_cases h5:lb=1
     ·by_cases h6:x=1
      ·have hB1:B'=1:=by rw [←hlb1 h5];exact h6
       have hG1:G=1:=by rw [←HGG.out,hB1];exact Nat.gcd_one_right _
       have HR:=Yt (show M wr (.slice (some ⟨gb',0,none⟩) lb cb) G by rw [hG1];rw [hB1] at HMB;exact HMB.out)
       subst h5 h6
       clear hlb1 hb00 hb0 hlt2 hx HSA HSB
       go_wp2
       go_ret
       exact ⟨_,rfl,HR.out,HK2.out⟩
      ·subst h5
       have h6i:((x:Int)==1)=false:=beq_eq_false_iff_ne.2 (by omega)
       have HL:=Yt (JM w0 wr ga' gb' _ _ A' B' HRA.out HRB.out HK2.out h1' h2' hne' (by rw [←HLA.out];exact h3) (by rw [←HLA.out];exact hl') hBA (hbpos h4) hT1.out)
       clear hlb1 hb00 hb0 hlt2 hx HSA HSB hbpos
       go_wp2_with (go_at_call 297;(with_reducible refine HL.out.mono ?_);rintro e w5 ⟨va,vb,rfl,hLs,K5⟩;refine Hid.out ?_)
       refine Yt ?_
       obtain ⟨g1,g2,A2,B2,e1,e2,e3,e4,e5,e6,e7,e8,e9,e10⟩:=hLs
       have HN:=Yt (D6.next e1 e2 e3 e4 e5 e6 e8 (Nat.le_trans (AM _ _ e7) (by rw [←HLA.out];exact hl')) (e10.trans HGG.out))
       have HK5:=Yt K5
       have HE9:=Yt e9
       clear e1 e2 e3 e4 e5 e6 e7 e8 e9 e10 K5
       go_wp2_with fail
       go_roundg (A2+B2)
       case measure=>exact Nat.lt_of_lt_of_le HE9.out (Nat.le_of_eq HKK.out)
       case rel=>exact ⟨HN,HK5⟩
     ·have h5i:((lb:Int)==1)=false:=beq_eq_false_iff_ne.2 (by omega)
      have HL:=Yt (JM w0 wr ga' gb' _ _ A' B' HRA.out HRB.out HK2.out h1' h2' hne' (by rw [←HLA.out];exact h3) (by rw [←HLA.out];exact hl') hBA (hbpos h4) hT1.out)
      clear hlb1 hb00 hb0 hlt2 hx HSA HSB hbpos
      go_wp2_with (go_at_call 297;(with_reducible refine HL.out.mono ?_);rintro e w5 ⟨va,vb,rfl,hLs,K5⟩;refine Hid.out ?_)
      refine Yt ?_
      obtain ⟨g1,g2,A2,B2,e1,e2,e3,e4,e5,e6,e7,e8,e9,e10⟩:=hLs
      have HN:=Yt (D6.next e1 e2 e3 e4 e5 e6 e8 (Nat.le_trans (AM _ _ e7) (by rw [←HLA.out];exact hl')) (e10.trans HGG.out))
      have HK5:=Yt K5
      have HE9:=Yt e9
      clear e1 e2 e3 e4 e5 e6 e7 e8 e9 e10 K5
      go_wp2_with fail
      go_roundg (A2+B2)
      case measure=>exact Nat.lt_of_lt_of_le HE9.out (Nat.le_of_eq HKK.out)
      case rel=>exact ⟨HN,HK5⟩
    ·have h40:lb=0:=by omega
     have hG1:G=A':=by rw [←HGG.out,hb00 h40];exact Nat.gcd_zero_right _
     have HR:=Yt (show M wr (.slice (some ⟨ga',0,none⟩) la ca) G by rw [hG1];exact HMA.out)
     subst h40
     clear hlb1 hb00 hb0 hlt2 HSA HSB hG1 hbpos
     go_wp2
     go_ret
     exact ⟨_,rfl,HR.out,HK2.out⟩
   ·have HA2:=HSA.out (by omega)
    have HB2:=HSB.out (by omega)
    have HSA2:=Yt HA2
    have HSB2:=Yt HB2
    have hAlt:=hlt2 (by omega)
    have HGS:=Yt (Hl A' B' hAlt (by omega) (by omega) wr hT1.out)
    rw [HGG.out] at HGS
    have hGlt:G<18446744073709551616:=by
     rw [←HGG.out]
     exact Nat.lt_of_le_of_lt (Nat.le_of_dvd hA0 (Nat.gcd_dvd_left _ _)) hAlt
    have HOF:=Yt (fun w'=>Pr G w' hGlt)
    clear HA2 HB2 hlb1 hb00 hb0 hlt2 HSA HSB hbpos
    go_wp2_with (first
     | (go_at_call 283;first|((with_reducible refine HSA2.out.mono ?_);rintro e w5 ⟨rfl,rfl⟩)|((with_reducible refine HSB2.out.mono ?_);rintro e w5 ⟨rfl,rfl⟩))
     | (go_at_call 282;(with_reducible refine HGS.out.mono ?_);rintro e w6 ⟨rfl,K6⟩;refine Hid.out ?_))
    refine Yt ?_
    go_wp2_with (go_at_call 281;(with_reducible refine (HOF.out _).mono ?_);rintro e w7 ⟨v7,rfl,h7,K7⟩;refine Hid.out ?_)
    refine Yt ?_
    go_wp2
    go_ret
    exact ⟨_,rfl,h7,(HK2.out.tr K6).tr K7⟩
theorem Iy {n e m:Nat} (h:n=2^e*(2*m+1)):n/2^e=2*m+1:=by
 rw [h,Nat.mul_comm,Nat.mul_div_cancel _ (Nat.pow_pos (by omega))]
theorem JD {n e m L:Nat} (h:n=2^e*(2*m+1)) (hl:(toL n).length≤L):(toL (2*m+1)).length≤L∧2*m+1≤n:=by
 have h1:2*m+1≤n:=by rw [h];exact Nat.le_mul_of_pos_left _ (Nat.pow_pos (by omega))
 exact ⟨Nat.le_trans (AM _ _ h1) hl,h1⟩
set_option maxRecDepth 20000 in
theorem Un {w:World} {a b:Value} {A B:Nat} (ha:M w a A) (hb:M w b B) (hlA:(toL A).length≤17179869184) (hlB:(toL B).length≤17179869184) (hA:0<A) (hB:0<B) (h2: ¬((toL A).length≤2∧(toL B).length≤2)) (hT:Tz w):
  Calls Tryz.prog 255 #[a,b] w fun e w'=> ∃v,e= .returned v∧M w' v (Nat.gcd A B)∧Kp w w':=by
 have mA:=ha
 have mB:=hb
 obtain ⟨ao,ac,rfl,a1,a2,a3,a4⟩:=ha
 obtain ⟨bo,bc,rfl,b1,b2,b3,b4⟩:=hb
 have HA:=Yt (BE ao ac (toL A) w a1 a2 a4)
 have HB:=Yt (BE bo bc (toL B) w b1 b2 b4)
 rw [Ca] at HA HB
 obtain ⟨ka,ta,ma,c1,c2,eA,_,_,HTA⟩:=Jf _ _ w mA (by rw [Ar];omega) (by omega) hT
 obtain ⟨kb,tb,mb,d1,d2,eB,_,_,HTB⟩:=Jf _ _ w mB (by rw [Ar];omega) (by omega) hT
 rw [Ar] at eA eB
 obtain ⟨na,hna⟩: ∃n,n=32*ka+ta:=⟨_,rfl⟩
 obtain ⟨nb,hnb⟩: ∃n,n=32*kb+tb:=⟨_,rfl⟩
 rw [←hna] at eA HTA
 rw [←hnb] at eB HTB
 have HLA:=Yt (fun w' (k:Kp w w')=>IC (mA.kp k) (k:=17179869184) hlA (by omega) na (by omega))
 have HLB:=Yt (fun w' (k:Kp w w')=>IC (mB.kp k) (k:=17179869184) hlB (by omega) nb (by omega))
 rw [Iy eA] at HLA
 rw [Iy eB] at HLB
 obtain ⟨oA,_⟩:=JD eA hlA
 obtain ⟨oB,_⟩:=JD eB hlB
 have hG:Nat.gcd A B=Nat.gcd (2*ma+1) (2*mb+1)*2^min na nb:=by
  rw [eA,eB,Uk (by omega) (by omega),Nat.mul_comm]
 have hgl:Nat.gcd (2*ma+1) (2*mb+1)≤2*ma+1:=Nat.le_of_dvd (by omega) (Nat.gcd_dvd_left _ _)
 have HODD:=Yt (fun w' ga gb va vb (k:Kp w w') ha hb h1 h2 hne=>NW w w' ga gb va vb (2*ma+1) (2*mb+1) ha hb k h1 h2 hne oA oB (by omega) (by omega) hT)
 have hGs:(toL (Nat.gcd (2*ma+1) (2*mb+1))).length≤17179869184:=Nat.le_trans (AM _ _ hgl) oA
 obtain ⟨G,hGG⟩: ∃G,G=Nat.gcd (2*ma+1) (2*mb+1):=⟨_,rfl⟩
 obtain ⟨nm,hnm⟩: ∃n,n=min na nb:=⟨_,rfl⟩
 rw [←hGG] at HODD hG hGs
 rw [←hnm] at hG
 rw [hG]
 obtain ⟨u,hu⟩: ∃u,u=2*ma+1:=⟨_,rfl⟩
 obtain ⟨v,hv⟩: ∃v,v=2*mb+1:=⟨_,rfl⟩
 have hu0:u≠0:=by omega
 have hv0:v≠0:=by omega
 rw [←hu] at HLA HODD
 rw [←hv] at HLB HODD
 have HR:=Yt (fun w' x (h:M w' x G)=>Pb h (k:=17179869184) hGs (by omega) nm (by omega))
 have HTA:=Yt HTA
 have HTB:=Yt HTB
 have hmin:min (na:Int) (nb:Int)=(nm:Int):=by omega
 have hwa:IntKind.u64.wrap (na:Int)=(na:Int):=IntWalk.u64_in _ (by omega)
 have hwb:IntKind.u64.wrap (nb:Int)=(nb:Int):=IntWalk.u64_in _ (by omega)
 have hA1:0<(toL A).length:=by omega
 have hB1:0<(toL B).length:=by omega
 have hab:na≤1099511627776∧nb≤1099511627776:=by omega
 have hT:=Yt hT
 unfold maxLen at a2 b2
 obtain ⟨la,hla⟩: ∃l,l=(toL A).length:=⟨_,rfl⟩
 obtain ⟨lb,hlb⟩: ∃l,l=(toL B).length:=⟨_,rfl⟩
 rw [←hla] at HA HTA HLA a1 hlA h2 hA1⊢
 rw [←hlb] at HB HTB HLB b1 hlB h2 hB1⊢
 clear hla hlb hu hv hnm hGG hG hgl eA eB oA oB mA mB hna hnb c1 c2 d1 d2 a3 a4 b3 b4 hA hB hGs
 by_cases hl2:la≤2
 all_goals
  have hbig:la≤2→ ¬lb≤2:=fun h h'=>h2 ⟨h,h'⟩
  have HBIG:=Yt hbig
  clear h2 hbig
  try have hlb2: ¬lb≤2:=HBIG.out hl2
  go_enter Tryz.func255,Tryz.ntmps255
  go_wp2_with (first
   | (go_at_call 267;first|((with_reducible refine HA.out.mono ?_);rintro e w1 ⟨rfl,rfl⟩)|((with_reducible refine HB.out.mono ?_);rintro e w1 ⟨rfl,rfl⟩))
   | (go_at_call 284;first|((with_reducible refine HTA.out.mono ?_);rintro e w1 ⟨rfl,rfl⟩)|((with_reducible refine HTB.out.mono ?_);rintro e w1 ⟨rfl,rfl⟩)))
  obtain ⟨w0,rfl⟩: ∃w0,w0=w1:=⟨_,rfl⟩
  go_wp2_with (go_at_call 287;(with_reducible refine (HLA.out w0 (Below.refl _ _)).mono ?_);rintro e w2 ⟨va,rfl,hva,K2,hra⟩;refine Hid.out ?_)
  refine Yt ?_
  have RA:=Yt (hra hu0)
  clear hva hra
  go_wp2_with (go_at_call 287;(with_reducible refine (HLB.out w2 K2).mono ?_);rintro e w3 ⟨vb,rfl,hvb,K3,hrb⟩;refine Hid.out ?_)
  refine Yt ?_
  have RB:=Yt (hrb hv0)
  clear hvb hrb
  obtain ⟨ga,g1,g2,RGA⟩:=RA.out.g
  obtain ⟨gb,g3,g4,RGB⟩:=RB.out.g
  have HO:=Yt (HODD.out w3 ga gb va vb (K2.tr K3) (RGA.kp K3) RGB g1 (Nat.le_trans K2.size g3) (by omega))
  clear RGA RGB g1 g2 g3 g4
  go_wp2_with (go_at_call 286;(with_reducible refine HO.out.mono ?_);rintro e w4 ⟨vg,rfl,hvg,K4⟩;refine Hid.out ?_)
  refine Yt ?_
  have HRR:=Yt (HR.out w4 vg hvg)
  clear hvg
  go_wp2_with (go_at_call 285;(with_reducible refine HRR.out.mono ?_);rintro e w5 ⟨vr,rfl,hvr,K5⟩;refine Hid.out ?_)
  refine Yt ?_
  go_wp2
  go_ret
  exact ⟨_,rfl,hvr,K4.tr K5⟩
set_option maxRecDepth 20000 in
theorem Sg {w:World} {a b:Value} {A B:Nat} (ha:M w a A) (hb:M w b B) (hA:0<A) (hB:0<B) (h2:(toL A).length≤2∧(toL B).length≤2) (hT:Tz w):
  Calls Tryz.prog 255 #[a,b] w fun e w'=> ∃v,e= .returned v∧M w' v (Nat.gcd A B)∧Kp w w':=by
 have mA:=ha
 have mB:=hb
 obtain ⟨ao,ac,rfl,a1,a2,a3,a4⟩:=ha
 obtain ⟨bo,bc,rfl,b1,b2,b3,b4⟩:=hb
 have HA:=Yt (BE ao ac (toL A) w a1 a2 a4)
 have HB:=Yt (BE bo bc (toL B) w b1 b2 b4)
 rw [Ca] at HA HB
 have HSA:=Yt (Eh _ _ w mA h2.1)
 have HSB:=Yt (Eh _ _ w mB h2.2)
 rw [Ar] at HSA HSB
 have hAlt:=FJ h2.1
 have HGS:=Yt (Hl A B hAlt (FJ h2.2) (by omega) w hT)
 have hGlt:Nat.gcd A B<18446744073709551616:=Nat.lt_of_le_of_lt (Nat.le_of_dvd hA (Nat.gcd_dvd_left _ _)) hAlt
 obtain ⟨G,hG⟩: ∃G,G=Nat.gcd A B:=⟨_,rfl⟩
 rw [←hG] at HGS hGlt⊢
 have HOF:=Yt (fun w'=>Pr G w' hGlt)
 have hA1:0<(toL A).length:=by
  rcases Nat.eq_zero_or_pos (toL A).length with h|h
  ·exact absurd ((AU A).1 (List.length_eq_zero_iff.1 h)) (by omega)
  ·exact h
 have hB1:0<(toL B).length:=by
  rcases Nat.eq_zero_or_pos (toL B).length with h|h
  ·exact absurd ((AU B).1 (List.length_eq_zero_iff.1 h)) (by omega)
  ·exact h
 unfold maxLen at a2 b2
 obtain ⟨la,hla⟩: ∃l,l=(toL A).length:=⟨_,rfl⟩
 obtain ⟨lb,hlb⟩: ∃l,l=(toL B).length:=⟨_,rfl⟩
 rw [←hla] at HA HSA a1 h2 hA1⊢
 rw [←hlb] at HB HSB b1 h2 hB1⊢
 obtain ⟨l1,l2⟩:=h2
 clear hla hlb hG mA mB a3 a4 b3 b4 hT hAlt hGlt hA hB
 go_enter Tryz.func255,Tryz.ntmps255
 go_wp2_with (first
  | (go_at_call 267;first|((with_reducible refine HA.out.mono ?_);rintro e w1 ⟨rfl,rfl⟩)|((with_reducible refine HB.out.mono ?_);rintro e w1 ⟨rfl,rfl⟩))
  | (go_at_call 283;first|((with_reducible refine HSA.out.mono ?_);rintro e w1 ⟨rfl,rfl⟩)|((with_reducible refine HSB.out.mono ?_);rintro e w1 ⟨rfl,rfl⟩))
  | (go_at_call 282;(with_reducible refine HGS.out.mono ?_);rintro e w6 ⟨rfl,K6⟩;refine Hid.out ?_))
 refine Yt ?_
 go_wp2_with (go_at_call 281;(with_reducible refine (HOF.out _).mono ?_);rintro e w7 ⟨v7,rfl,h7,K7⟩;refine Hid.out ?_)
 refine Yt ?_
 go_wp2
 go_ret
 exact ⟨_,rfl,h7,K6.tr K7⟩
theorem Oc {w:World} {v:Value} {n:Nat} (h:M w v n) (hl:(toL n).length≤1099511627776):
  Calls Tryz.prog 280 #[v] w fun e w'=> ∃v',e= .returned v'∧M w' v' n∧Kp w w':=by
 refine (DP v _ w h hl).mono ?_
 rintro e w' ⟨g,_,he,hO,k⟩
 rw [Ca] at he hO
 have hr:=hO.rd (BG n) (toL n).length (Yu _) (toL n).length (Yu _) (by unfold maxLen;omega)
 rw [List.take_of_length_le (Yu _)] at hr
 exact ⟨_,he,hr,k⟩
set_option maxRecDepth 20000 in
theorem Um {w:World} {a b:Value} {A B:Nat} (ha:M w a A) (hb:M w b B) (hlA:(toL A).length≤17179869184) (hlB:(toL B).length≤17179869184) (h0:A=0∨B=0):
  Calls Tryz.prog 255 #[a,b] w fun e w'=> ∃v,e= .returned v∧M w' v (Nat.gcd A B)∧Kp w w':=by
 have HCA:=Yt (Oc ha (by omega))
 have HCB:=Yt (Oc hb (by omega))
 obtain ⟨ao,ac,rfl,a1,a2,a3,a4⟩:=ha
 obtain ⟨bo,bc,rfl,b1,b2,b3,b4⟩:=hb
 have HA:=Yt (BE ao ac (toL A) w a1 a2 a4)
 have HB:=Yt (BE bo bc (toL B) w b1 b2 b4)
 rw [Ca] at HA HB
 unfold maxLen at a2 b2
 have hz: ∀n:Nat,(toL n).length=0↔n=0:=fun n=>⟨fun h=>(AU n).1 (List.length_eq_zero_iff.1 h),fun h=>by rw [h,Az];rfl⟩
 by_cases hA:A=0
 ·have hl:=(hz A).2 hA
  rw [show Nat.gcd A B=B by rw [hA,Nat.gcd_zero_left]]
  rw [hl] at HA HCA⊢
  obtain ⟨lb,hlb⟩: ∃l,l=(toL B).length:=⟨_,rfl⟩
  rw [←hlb] at HB HCB b1⊢
  clear hlb a3 a4 b3 b4 hz hl hA h0 a1 hlA hlB
  go_enter Tryz.func255,Tryz.ntmps255
  go_wp2_with (first
   | (go_at_call 267;first|((with_reducible refine HA.out.mono ?_);rintro e w1 ⟨rfl,rfl⟩)|((with_reducible refine HB.out.mono ?_);rintro e w1 ⟨rfl,rfl⟩))
   | (go_at_call 280;(with_reducible refine HCB.out.mono ?_);rintro e w6 ⟨v6,rfl,h6,K6⟩;refine Hid.out ?_))
  refine Yt ?_
  go_wp2
  go_ret
  exact ⟨_,rfl,h6,K6⟩
 ·have hB:B=0:=by omega
  have hl:=(hz B).2 hB
  have hne:0<(toL A).length:=by
   rcases Nat.eq_zero_or_pos (toL A).length with h|h
   ·exact absurd ((hz A).1 h) hA
   ·exact h
  rw [show Nat.gcd A B=A by rw [hB,Nat.gcd_zero_right]]
  rw [hl] at HB HCB⊢
  obtain ⟨la,hla⟩: ∃l,l=(toL A).length:=⟨_,rfl⟩
  rw [←hla] at HA HCA a1 hne⊢
  clear hla a3 a4 b3 b4 hz hl hB h0 b1 hlA hlB
  go_enter Tryz.func255,Tryz.ntmps255
  go_wp2_with (first
   | (go_at_call 267;first|((with_reducible refine HA.out.mono ?_);rintro e w1 ⟨rfl,rfl⟩)|((with_reducible refine HB.out.mono ?_);rintro e w1 ⟨rfl,rfl⟩))
   | (go_at_call 280;(with_reducible refine HCA.out.mono ?_);rintro e w6 ⟨v6,rfl,h6,K6⟩;refine Hid.out ?_))
  refine Yt ?_
  go_wp2
  go_ret
  exact ⟨_,rfl,h6,K6⟩
theorem VZ {w:World} {a b:Value} {A B:Nat} (ha:M w a A) (hb:M w b B) (hlA:(toL A).length≤17179869184) (hlB:(toL B).length≤17179869184) (hT:Tz w):
  Calls Tryz.prog 255 #[a,b] w fun e w'=> ∃v,e= .returned v∧M w' v (Nat.gcd A B)∧Kp w w':=by
 by_cases h0:A=0∨B=0
 ·exact Um ha hb hlA hlB h0
 ·by_cases h2:(toL A).length≤2∧(toL B).length≤2
  ·exact Sg ha hb (by omega) (by omega) h2 hT
  ·exact Un ha hb hlA hlB (by omega) (by omega) h2 hT
end Go.Proofs.YtfineedhebhpaaaGreatDoor
