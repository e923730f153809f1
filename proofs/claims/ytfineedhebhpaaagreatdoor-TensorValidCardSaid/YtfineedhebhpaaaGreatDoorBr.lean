/-
  Several texts in one: Rq, Rq1.
-/
import Derived.Test.YtfineedhebhpaaaGreatDoorBk
import Derived.Test.YtfineedhebhpaaaGreatDoorBi
import Derived.Test.YtfineedhebhpaaaGreatDoorBy
namespace Go.Proofs.YtfineedhebhpaaaGreatDoor
open Lib renaming hid→Yt
open Nat renaming le_refl→Yu
set_option maxHeartbeats 16000000
open Go.RowKit
set_option maxRecDepth 20000 in
theorem Jx {w:World} {s:Bool} {num den:Value} {n k:Nat} (hn:M w num n) (hk:M w den k):
  Calls Tryz.prog 128 #[.agg #[.bool s,num,den]] w fun e w'=> ∃v,e= .returned v∧M w' v (if k=0 then 1 else k)∧Kp w w':=by
 have MK:=Yt (fun w' (kk:Kp w w')=>hk.kp kk)
 obtain ⟨no,nl,nc,rfl⟩:=BQ hn
 obtain ⟨bo,bc,rfl,b1,b2,_,_⟩:=hk
 clear hn
 by_cases h0:k=0
 ·subst h0
  rw [Az] at b1⊢
  clear MK
  go_enter Tryz.func128,Tryz.ntmps128
  go_wp2
  go_ret
  refine ⟨.slice (some ⟨w.heap.size+1,0,none⟩) 1 1,rfl,Qq _ _ _ _ ?_ (Yu _) (by decide),(Kp.alloc w _).tr (Kp.alloc _ _)⟩
  have hcell:=cell_of_row _ _ 0 _ _ _ (heap_alloc_new (w.alloc (Obj.cells #[Value.bool s,Value.slice no nl nc,Value.slice bo 0 bc] 34)) (Obj.cells #[Value.int IntKind.u32 1] 31))
  rw [World.size_alloc] at hcell
  exact hcell
 ·rw [if_neg h0]
  have hl:=DV h0
  obtain ⟨lb,hlb⟩: ∃l,l=(toL k).length:=⟨_,rfl⟩
  rw [←hlb] at b1 hl MK⊢
  have hz:(((lb:Nat):Int)==0)=false:=by simp;omega
  clear hlb h0
  go_enter Tryz.func128,Tryz.ntmps128
  go_wp2
  go_ret
  exact ⟨_,rfl,MK.out _ (by repeat first|exact Below.refl _ _|apply Kp.dr|exact Kp.alloc _ _),by repeat first|exact Below.refl _ _|apply Kp.dr|exact Kp.alloc _ _⟩
theorem EW {w:World} {s:Bool} {num den:Value} {n:Nat} {x:Rat} (hn:M w num n) (hk:M w den (AX x)):
  Calls Tryz.prog 128 #[.agg #[.bool s,num,den]] w fun e w'=> ∃v,e= .returned v∧M w' v x.den∧Kp w w':=by
 have:=Jx (s:=s) hn hk
 rw [Eu] at this
 exact this
theorem G5 {w:World} {v:Value} {xs:List Nat} (h:Rd w v xs) (hl:xs.length≤1099511627776):
  Calls Tryz.prog 194 #[v] w fun e w'=> ∃o c,e= .returned (.slice o (toL (val xs)).length c)∧M w' (.slice o (toL (val xs)).length c) (val xs)∧Kp w w':=by
 have hL:Ai xs:=by obtain ⟨_,_,_,_,_,h,_⟩:=h;exact h
 refine (DW v xs w h hl).mono ?_
 rintro e w' ⟨v',rfl,h',k⟩
 rw [←BY hL] at h'
 obtain ⟨o,c,rfl,_⟩:=id h'
 exact ⟨o,c,rfl,h',k⟩
theorem Fm {w:World} {v:Value} (h:M w v 1): ∃b off c,v= .slice (some ⟨b,off,none⟩) 1 c∧w.cell? ⟨b,off,none⟩=some (.int .u32 1):=by
 obtain ⟨o,c,e,hc,hm,hL,hs⟩:=h
 rw [FB] at e hs
 obtain ⟨b,off,rfl,hcell⟩:=hs (by simp)
 exact ⟨b,off,c,e,by simpa using hcell 0 (by simp)⟩
theorem Gz {w:World} {v:Value} {n:Nat} (h:M w v n) (hn:n≠1):(∃o l c,v= .slice o l c∧l≠1)∨(∃b off c x,v= .slice (some ⟨b,off,none⟩) 1 c∧w.cell? ⟨b,off,none⟩=some (.int .u32 ((x:Nat):Int))∧x≠1):=by
 obtain ⟨o,c,e,hc,hm,hL,hs⟩:=h
 by_cases h1:(toL n).length=1
 ·right
  obtain ⟨b,off,rfl,hcell⟩:=hs (by rintro h2;rw [h2] at h1;simp at h1)
  refine ⟨b,off,c,n,by rw [e,h1],?_,hn⟩
  have:=hcell 0 (by omega)
  rw [Ea h1,Nat.add_zero] at this
  exact this
 ·left
  exact ⟨o,_,c,e,h1⟩
set_option maxRecDepth 20000 in
theorem Nm {w:World} {neg:Bool} {a b:Value} {xs ys:List Nat} (ha:Rd w a xs) (hb:Rd w b ys) (hl:xs.length≤1073741824) (hl2:ys.length≤1073741824) (h:val xs=0):
  Calls Tryz.prog 126 #[.bool neg,a,b] w fun e w'=>e= .returned (.agg #[.bool false,.slice none 0 0,.slice none 0 0])∧Kp w w':=by
 have KW:=Kp.alloc w (Obj.cells #[Value.bool false,Value.slice none 0 0,Value.slice none 0 0] 34)
 have HA:=Yt (G5 (ha.kp KW) (by omega))
 have HB:=Yt (fun w' kk=>G5 ((hb.kp KW).kp (w':=w') kk) (by omega))
 have HRES:=Yt (Res.new w (Value.bool false) (Value.slice none 0 0) (Value.slice none 0 0))
 rw [h,Az] at HA
 have HKW:=Yt KW
 clear ha hb hl hl2 h KW
 go_enter Tryz.func126,Tryz.ntmps126
 go_wp2_with (go_at_call 194;(with_reducible refine HA.out.mono ?_);rintro e w1 ⟨o1,c1,rfl,m1,K1⟩;refine Hid.out ?_)
 refine Yt ?_
 have HB1:=Yt (HB.out w1 K1)
 have HK1:=Yt K1
 clear m1 K1
 go_wp2_with (go_at_call 194;(with_reducible refine HB1.out.mono ?_);rintro e w2 ⟨o2,c2,rfl,m2,K2⟩;refine Hid.out ?_)
 refine Yt ?_
 have HK2:=Yt (HK1.out.tr K2)
 obtain ⟨d0,d1,d2,f0,f1,f2⟩:=(HRES.out.kp HK2.out).cells
 have HP:=Yt ((HRES.out.kp HK2.out).put (.bool false) (.slice none 0 0) (.slice none 0 0)).cells
 unfold En at HP
 clear m2 K2
 go_wp2
 obtain ⟨k0,k1,k2,_⟩:=HP.out
 exact bodyPost_ret (v:= .agg #[.bool false,.slice none 0 0,.slice none 0 0]) (by simp [results,Tryz.results126,go_sem,k0,k1,k2]) rfl ⟨rfl,(HKW.out.tr HK2.out).put3 (Yu _) _ _ _⟩
def WP (w0 wc:World) (n d:Nat) (va vb:Value):Prop:=M wc va n∧M wc vb d∧Kp w0 wc
set_option maxRecDepth 20000 in
theorem Nn {w:World} {neg:Bool} {a b:Value} {xs ys:List Nat} (ha:Rd w a xs) (hb:Rd w b ys) (hl:xs.length≤1073741824) (hl2:ys.length≤1073741824) (h0:val ys≠0) (h:val xs≠0):
  Calls Tryz.prog 126 #[.bool neg,a,b] w fun e w'=> ∃v,e= .returned v∧Ax w' v (AE neg (val xs) (val ys))∧Kp w w':=by
 have KW:=Kp.alloc w (Obj.cells #[Value.bool false,Value.slice none 0 0,Value.slice none 0 0] 34)
 have hLa:Ai xs:=by obtain ⟨_,_,_,_,_,h,_⟩:=ha;exact h
 have hLb:Ai ys:=by obtain ⟨_,_,_,_,_,h,_⟩:=hb;exact h
 have hsa:(toL (val xs)).length≤1073741824:=Sz.val hLa _ hl
 have hsb:(toL (val ys)).length≤1073741824:=Sz.val hLb _ hl2
 have HA:=Yt (G5 (ha.kp KW) (by omega))
 have HB:=Yt (fun w' kk=>G5 ((hb.kp KW).kp (w':=w') kk) (by omega))
 have HRES:=Yt (Res.new w (Value.bool false) (Value.slice none 0 0) (Value.slice none 0 0))
 obtain ⟨n,hn⟩: ∃n,n=val xs:=⟨_,rfl⟩
 obtain ⟨d,hd⟩: ∃d,d=val ys:=⟨_,rfl⟩
 rw [←hn] at HA h hsa⊢
 rw [←hd] at HB h0 hsb⊢
 have hlp:=DV h
 obtain ⟨la,hla⟩: ∃l,l=(toL n).length:=⟨_,rfl⟩
 rw [←hla] at HA hlp
 have hlz:((la:Int)==0)=false:=beq_eq_false_iff_ne.2 (by omega)
 obtain ⟨g,hg⟩: ∃g,g=Nat.gcd n d:=⟨_,rfl⟩
 have hg0:g≠0:=by rw [hg];exact Nat.ne_of_gt (Nat.gcd_pos_of_pos_right _ (Nat.pos_of_ne_zero h0))
 have HG:=Yt (fun w' va vb (ma:M w' va n) (mb:M w' vb d)=>Jw ma mb hsa hsb)
 rw [←hg] at HG
 have HD1:=Yt (fun w' va vg (ma:M w' va n) (mg:M w' vg g)=>Hg ma mg hsa hg0)
 have HD2:=Yt (fun w' va vg (ma:M w' va d) (mg:M w' vg g)=>Hg ma mg hsb hg0)
 have hlow:=Ic neg (n:=n) (d:=d) (g:=g) (by rw [hg];exact Nat.gcd_dvd_left _ _) (by rw [hg];exact Nat.gcd_dvd_right _ _) h0
 have hcop:Nat.gcd (n/g) (d/g)=1:=by rw [hg];exact F9 h0
 have hn0:n/g≠0:=Nat.ne_of_gt (Nat.div_pos (Nat.le_of_dvd (Nat.pos_of_ne_zero h) (by rw [hg];exact Nat.gcd_dvd_left _ _)) (Nat.pos_of_ne_zero hg0))
 have hd0:d/g≠0:=Nat.ne_of_gt (Nat.div_pos (Nat.le_of_dvd (Nat.pos_of_ne_zero h0) (by rw [hg];exact Nat.gcd_dvd_right _ _)) (Nat.pos_of_ne_zero hg0))
 rw [←hlow]
 have HFIN:=Yt (And.intro hcop (And.intro hn0 hd0))
 have HKW:=Yt KW
 have HG1:g=1→Hid (n=n/g∧d=d/g):=fun e=>Yt (by rw [e,Nat.div_one,Nat.div_one];exact ⟨rfl,rfl⟩)
 clear ha hb hl hl2 hLa hLb hsa hsb hn hd h h0 KW hla hg hg0 hlow hcop hn0 hd0
 go_enter Tryz.func126,Tryz.ntmps126
 go_wp2_with (go_at_call 194;(with_reducible refine HA.out.mono ?_);rintro e w1 ⟨o1,c1,rfl,m1,K1⟩;refine Hid.out ?_)
 refine Yt ?_
 have HB1:=Yt (HB.out w1 K1)
 have HM1:=Yt m1
 have HK1:=Yt K1
 clear m1 K1
 go_wp2_with (go_at_call 194;(with_reducible refine HB1.out.mono ?_);rintro e w2 ⟨o2,c2,rfl,m2,K2⟩;refine Hid.out ?_)
 refine Yt ?_
 have HM2:=Yt m2
 have HM1':=Yt (HM1.out.kp K2)
 have HK2:=Yt (HK1.out.tr K2)
 have HG2:=Yt (HG.out w2 _ _ HM1'.out m2)
 clear m2 K2
 go_wp2_with (go_at_call 195;(with_reducible refine HG2.out.mono ?_);rintro e w3 ⟨vg,rfl,mg,K3⟩;refine Hid.out ?_)
 refine Yt ?_
 have HMG:=Yt mg
 have HM13:=Yt (HM1'.out.kp K3)
 have HM23:=Yt (HM2.out.kp K3)
 have HK3:=Yt (HK2.out.tr K3)
 clear mg K3
 obtain ⟨t0,ht0⟩: ∃t,t=decide (g≠1):=⟨_,rfl⟩
 have HT0:=Yt ht0
 clear ht0
 go_upto_region 5 with fail
 go_cut [27] (fun t wc=>t= .bool t0∧w3=wc)
 case first=>
  by_cases hg1:g=1
  ·obtain rfl:t0=false:=by rw [HT0.out];exact decide_eq_false (fun h=>h hg1)
   subst hg1
   obtain ⟨gb,gof,gc,rfl,hgc⟩:=Fm HMG.out
   go_wp2_with fail
   go_meet
   exact ⟨rfl,rfl⟩
  ·obtain rfl:t0=true:=by rw [HT0.out];exact decide_eq_true hg1
   rcases Gz HMG.out hg1 with ⟨go,gl,gc,rfl,hgl⟩|⟨gb,gof,gc,x,rfl,hgc,hx⟩
   ·have hne2:((gl:Int) !=1)=true:=by rw [bne_iff_ne];omega
    clear hg1 HG1
    go_wp2_with fail
    go_meet
    exact ⟨rfl,rfl⟩
   ·have hne2:((x:Int) !=1)=true:=by rw [bne_iff_ne];omega
    clear hg1 HG1
    go_wp2_with fail
    go_meet
    exact ⟨rfl,rfl⟩
 case rest=>
 obtain ⟨rfl,rfl⟩:=hcut
 go_upto_if 27 with fail
 go_cut [1,2] (fun va vb wc=>WP (w.alloc (Obj.cells #[Value.bool false,Value.slice none 0 0,Value.slice none 0 0] 34)) wc (n/g) (d/g) va vb)
 case first=>
  cases t0
  ·have hg1:g=1:=by have:=of_decide_eq_false HT0.out.symm;omega
   have HE:=HG1 hg1
   clear HG1 hg1
   go_wp2_with fail
   go_meet
   exact ⟨HE.out.1▸HM13.out,HE.out.2▸HM23.out,HK3.out⟩
  ·have HX1:=Yt (HD1.out w3 _ _ HM13.out HMG.out)
   have HX2:=Yt (fun w' (kk:Kp w3 w')=>HD2.out w' _ _ (HM23.out.kp kk) (HMG.out.kp kk))
   clear HG1
   go_wp2_with (go_at_call 196;(with_reducible refine HX1.out.mono ?_);rintro e w4 ⟨q1,r1,rfl,mq1,_,K4⟩;refine Hid.out ?_)
   refine Yt ?_
   have HQ1:=Yt mq1
   have HK4:=Yt K4
   have HX22:=Yt (HX2.out w4 K4)
   clear mq1 K4
   go_wp2_with (go_at_call 196;(with_reducible refine HX22.out.mono ?_);rintro e w5 ⟨q2,r2,rfl,mq2,_,K5⟩;refine Hid.out ?_)
   refine Yt ?_
   have HPA:=Yt (show WP (w.alloc (Obj.cells #[Value.bool false,Value.slice none 0 0,Value.slice none 0 0] 34)) w5 (n/g) (d/g) q1 q2 from ⟨HQ1.out.kp K5,mq2,(HK3.out.tr HK4.out).tr K5⟩)
   clear mq2 K5
   go_wp2_with fail
   go_meet
   exact HPA.out
 case rest=>
  obtain ⟨mA,mB,KC⟩:=hcut
  have HMA:=Yt mA
  have HKC:=Yt KC
  obtain ⟨ao,al,ac,rfl⟩:=BQ mA
  have HR:=Yt (HRES.out.kp KC)
  obtain ⟨d0,d1,d2,f0,f1,f2⟩:=HR.out.cells
  by_cases hd1:d/g=1
  ·rw [hd1] at mB
   have HDG:=Yt hd1
   obtain ⟨bb,bof,bc,rfl,hbc⟩:=Fm mB
   have HP:=Yt (HR.out.put (.bool neg) (.slice ao al ac) (.slice none 0 0)).cells
   have HVA:=Yt (Ax.of (neg:=neg) HFIN.out.2.2 HFIN.out.1 (HMA.out.res HR.out (EN _) (Cp _ _ _) (Cp _ _ _) (.bool neg) (.slice ao al ac) (.slice none 0 0)) (by rw [if_pos HDG.out];exact Ij _) (fun h=>absurd h HFIN.out.2.1))
   unfold En at HP HVA
   clear mA mB KC hd1
   go_wp2
   obtain ⟨k0,k1,k2,_⟩:=HP.out
   exact bodyPost_ret (v:= .agg #[.bool neg,.slice ao al ac,.slice none 0 0]) (by simp [results,Tryz.results126,go_sem,k0,k1,k2]) rfl ⟨_,rfl,HVA.out,(HKW.out.tr HKC.out).put3 (Yu _) _ _ _⟩
  ·have HDG:=Yt hd1
   obtain ⟨bo,bl,bc,rfl⟩:=BQ mB
   have HP:=Yt (HR.out.put (.bool neg) (.slice ao al ac) (.slice bo bl bc)).cells
   have HVA:=Yt (Ax.of (neg:=neg) HFIN.out.2.2 HFIN.out.1 (HMA.out.res HR.out (EN _) (Cp _ _ _) (Cp _ _ _) (.bool neg) (.slice ao al ac) (.slice bo bl bc)) (by rw [if_neg HDG.out];exact mB.res HR.out (EN _) (Cp _ _ _) (Cp _ _ _) _ _ _) (fun h=>absurd h HFIN.out.2.1))
   unfold En at HP HVA
   rcases Gz mB hd1 with ⟨go,gl,gc,he,hgl⟩|⟨gb,gof,gc,x,he,hgc,hx⟩
   ·obtain ⟨rfl,rfl,rfl⟩:bo=go∧bl=gl∧bc=gc:=by simpa using he
    have hne:((bl:Int)==1)=false:=beq_eq_false_iff_ne.2 (by omega)
    clear mA mB KC hd1 he hgl
    go_wp2
    obtain ⟨k0,k1,k2,_⟩:=HP.out
    exact bodyPost_ret (v:= .agg #[.bool neg,.slice ao al ac,.slice bo bl bc]) (by simp [results,Tryz.results126,go_sem,k0,k1,k2]) rfl ⟨_,rfl,HVA.out,(HKW.out.tr HKC.out).put3 (Yu _) _ _ _⟩
   ·obtain ⟨rfl,rfl,rfl⟩:bo=some ⟨gb,gof,none⟩∧bl=1∧bc=gc:=by simpa using he
    have hne:((x:Int)==1)=false:=beq_eq_false_iff_ne.2 (by omega)
    clear mA mB KC hd1 he hx
    go_wp2
    obtain ⟨k0,k1,k2,_⟩:=HP.out
    exact bodyPost_ret (v:= .agg #[.bool neg,.slice ao al ac,.slice (some ⟨gb,gof,none⟩) 1 bc]) (by simp [results,Tryz.results126,go_sem,k0,k1,k2]) rfl ⟨_,rfl,HVA.out,(HKW.out.tr HKC.out).put3 (Yu _) _ _ _⟩
theorem O3 {w:World} {neg:Bool} {a b:Value} {xs ys:List Nat} (ha:Rd w a xs) (hb:Rd w b ys) (hl:xs.length≤1073741824) (hl2:ys.length≤1073741824) (h0:val ys≠0):
  Calls Tryz.prog 126 #[.bool neg,a,b] w fun e w'=> ∃v,e= .returned v∧Ax w' v (AE neg (val xs) (val ys))∧Kp w w':=by
 by_cases h:val xs=0
 ·refine (Nm ha hb hl hl2 h).mono ?_
  rintro e w' ⟨he,k⟩
  refine ⟨_,he,?_,k⟩
  rw [h,GP]
  exact Ax.zero w'
 ·exact Nn ha hb hl hl2 h0 h
theorem Fj {w:World} {neg:Bool} {a b:Value} {n d:Nat} (ha:M w a n) (hb:M w b d) {j k:Nat} (hs:Sz j n) (ht:Sz k d) (hj:j≤1073741824) (hk:k≤1073741824) (h0:d≠0):
  Calls Tryz.prog 126 #[.bool neg,a,b] w fun e w'=> ∃v,e= .returned v∧Ax w' v (AE neg n d)∧Kp w w':=by
 have:=O3 (neg:=neg) ha hb (Nat.le_trans hs hj) (Nat.le_trans ht hk) (by rw [Ar];exact h0)
 rw [Ar,Ar] at this
 exact this
theorem Wz {w:World} {o:Option Addr} {l c n:Nat} (h:M w (.slice o l c) n):l=(toL n).length:=by
 obtain ⟨o',c',e,_⟩:=h
 have:=(by simpa using e:o=o'∧l=(toL n).length∧c=c')
 exact this.2.1
theorem Ch {w:World} {o:Option Addr} {l c n:Nat} (h:M w (.slice o l c) n):l=0↔n=0:=by
 rw [Wz h,List.length_eq_zero_iff,AU]
theorem Ax.neg_mk {w:World} {x:Rat} {b:Bool} {u v:Value} (hb:b=decide ((-x).num<0)) (h1:M w u x.num.natAbs) (h2:M w v (AX x)):Ax w (.agg #[.bool b,u,v]) (-x):=by
 refine ⟨u,v,by rw [hb],?_,?_⟩
 ·rw [Rat.neg_num,Int.natAbs_neg];exact h1
 ·unfold AX;rw [Rat.neg_den];exact h2
set_option maxRecDepth 20000 in
theorem RG {w:World} {u:Value} {x:Rat} (hu:Ax w u x):
  Calls Tryz.prog 197 #[u] w fun e w'=> ∃r,e= .returned r∧Ax w' r (-x)∧Kp w w':=by
 obtain ⟨a1,l1,c1,a2,l2,c2,rfl,m1,m2⟩:=hu.parts
 have HT:=Yt (One.new w (.bool (decide (x.num<0))) (.slice a1 l1 c1) (.slice a2 l2 c2))
 have HU:=Yt hu
 have Hm1:=Yt m1
 have Hm2:=Yt m2
 obtain ⟨p,hp⟩: ∃b,b=decide (x.num<0):=⟨_,rfl⟩
 try rw [←hp] at HT
 try rw [←hp] at HU
 try rw [←hp] at Hm1
 try rw [←hp] at Hm2
 try rw [←hp]
 have HPp:=Yt hp
 clear hu m1 m2 hp
 have hl:=Ch Hm1.out
 by_cases h0:x.num.natAbs=0
 ·obtain rfl:=hl.2 h0
  have hx:x=0:=Rat.num_eq_zero.1 (Int.natAbs_eq_zero.1 h0)
  subst hx
  obtain rfl:p=false:=by rw [HPp.out];decide
  clear h0 hl
  go_enter Tryz.func197,Tryz.ntmps197
  go_wp2
  exact bodyPost_ret (v:= .agg #[.bool false,.slice a1 0 c1,.slice a2 l2 c2]) (by simp [results,Tryz.results197,go_sem]) rfl ⟨_,rfl,Ax.neg_mk (by decide) (Hm1.out.kp ((Kp.alloc w _).tr (Kp.alloc _ _))) (Hm2.out.kp ((Kp.alloc w _).tr (Kp.alloc _ _))),((Kp.alloc w _).tr (Kp.alloc _ _))⟩
 ·have hl0:0<l1:=by omega
  have hn0:x.num≠0:=fun e=>h0 (by rw [e];rfl)
  clear h0 hl
  have hb:(!p)=decide ((-x).num<0):=by
   rw [Rat.neg_num,HPp.out]
   by_cases h:x.num<0
   ·rw [decide_eq_true h,decide_eq_false (by omega)];rfl
   ·rw [decide_eq_false h,decide_eq_true (by omega)];rfl
  have HB:=Yt hb
  clear hb hn0
  cases p
  ·go_enter Tryz.func197,Tryz.ntmps197
   go_wp2
   exact bodyPost_ret (v:= .agg #[.bool true,.slice a1 l1 c1,.slice a2 l2 c2]) (by simp [results,Tryz.results197,go_sem]) rfl ⟨_,rfl,Ax.neg_mk HB.out (Hm1.out.kp ((Kp.alloc w _).tr (Kp.alloc _ _))) (Hm2.out.kp ((Kp.alloc w _).tr (Kp.alloc _ _))),((Kp.alloc w _).tr (Kp.alloc _ _))⟩
  ·go_enter Tryz.func197,Tryz.ntmps197
   go_wp2
   exact bodyPost_ret (v:= .agg #[.bool false,.slice a1 l1 c1,.slice a2 l2 c2]) (by simp [results,Tryz.results197,go_sem]) rfl ⟨_,rfl,Ax.neg_mk HB.out (Hm1.out.kp ((Kp.alloc w _).tr (Kp.alloc _ _))) (Hm2.out.kp ((Kp.alloc w _).tr (Kp.alloc _ _))),((Kp.alloc w _).tr (Kp.alloc _ _))⟩
end Go.Proofs.YtfineedhebhpaaaGreatDoor
