/-
  Several texts in one: Rq, Rq1, Rq5, Rq7.
-/
import Derived.Test.YtoabfmaagnmlhaaGreatDoorBk
import Derived.Test.YtoabfmaagnmlhaaGreatDoorBi
import Derived.Test.YtoabfmaagnmlhaaGreatDoorBy
import Derived.Test.YtoabfmaagnmlhaaGreatDoorBc
namespace Go.Proofs.YtoabfmaagnmlhaaGreatDoor
open Lib renaming hid→UF
open Nat renaming le_refl→UG
set_option maxHeartbeats 16000000
open Go.RowKit
set_option maxRecDepth 20000 in
theorem Qg {w:World} {s:Bool} {num den:Value} {n k:Nat} (hn:M w num n) (hk:M w den k):
  Calls Tryz.prog 86 #[.agg #[.bool s,num,den]] w fun e w'=> ∃v,e= .returned v∧M w' v (if k=0 then 1 else k)∧Kp w w':=by
 have MK:=UF (fun w' (kk:Kp w w')=>hk.kp kk)
 obtain ⟨no,nl,nc,rfl⟩:=Cd hn
 obtain ⟨bo,bc,rfl,b1,b2,_,_⟩:=hk
 clear hn
 by_cases h0:k=0
 ·subst h0
  rw [AM] at b1⊢
  clear MK
  go_enter Tryz.func86,Tryz.ntmps86
  go_wp2
  go_ret
  refine ⟨.slice (some ⟨w.heap.size+1,0,none⟩) 1 1,rfl,NR _ _ _ _ ?_ (UG _) (by decide),(Kp.alloc w _).tr (Kp.alloc _ _)⟩
  have hcell:=cell_of_row _ _ 0 _ _ _ (heap_alloc_new (w.alloc (Obj.cells #[Value.bool s,Value.slice no nl nc,Value.slice bo 0 bc] 33)) (Obj.cells #[Value.int IntKind.u32 1] 112))
  rw [World.size_alloc] at hcell
  exact hcell
 ·rw [if_neg h0]
  have hl:=Di h0
  obtain ⟨lb,hlb⟩: ∃l,l=(toL k).length:=⟨_,rfl⟩
  rw [←hlb] at b1 hl MK⊢
  have hz:(((lb:Nat):Int)==0)=false:=by simp;omega
  clear hlb h0
  go_enter Tryz.func86,Tryz.ntmps86
  go_wp2
  go_ret
  exact ⟨_,rfl,MK.out _ (by repeat first|exact Below.refl _ _|apply Kp.dr|exact Kp.alloc _ _),by repeat first|exact Below.refl _ _|apply Kp.dr|exact Kp.alloc _ _⟩
theorem Dr {w:World} {s:Bool} {num den:Value} {n:Nat} {x:Rat} (hn:M w num n) (hk:M w den (A0 x)):
  Calls Tryz.prog 86 #[.agg #[.bool s,num,den]] w fun e w'=> ∃v,e= .returned v∧M w' v x.den∧Kp w w':=by
 have:=Qg (s:=s) hn hk
 rw [C6] at this
 exact this
theorem FQ {w:World} {v:Value} {xs:List Nat} (h:Rd w v xs) (hl:xs.length≤1099511627776):
  Calls Tryz.prog 118 #[v] w fun e w'=> ∃o c,e= .returned (.slice o (toL (val xs)).length c)∧M w' (.slice o (toL (val xs)).length c) (val xs)∧Kp w w':=by
 have hL:Aj xs:=by obtain ⟨_,_,_,_,_,h,_⟩:=h;exact h
 refine (Dk v xs w h hl).mono ?_
 rintro e w' ⟨v',rfl,h',k⟩
 rw [←BL hL] at h'
 obtain ⟨o,c,rfl,_⟩:=id h'
 exact ⟨o,c,rfl,h',k⟩
theorem IS {w:World} {v:Value} (h:M w v 1): ∃b off c,v= .slice (some ⟨b,off,none⟩) 1 c∧w.cell? ⟨b,off,none⟩=some (.int .u32 1):=by
 obtain ⟨o,c,e,hc,hm,hL,hs⟩:=h
 rw [E9] at e hs
 obtain ⟨b,off,rfl,hcell⟩:=hs (by simp)
 exact ⟨b,off,c,e,by simpa using hcell 0 (by simp)⟩
theorem NO {w:World} {v:Value} {n:Nat} (h:M w v n) (hn:n≠1):(∃o l c,v= .slice o l c∧l≠1)∨(∃b off c x,v= .slice (some ⟨b,off,none⟩) 1 c∧w.cell? ⟨b,off,none⟩=some (.int .u32 ((x:Nat):Int))∧x≠1):=by
 obtain ⟨o,c,e,hc,hm,hL,hs⟩:=h
 by_cases h1:(toL n).length=1
 ·right
  obtain ⟨b,off,rfl,hcell⟩:=hs (by rintro h2;rw [h2] at h1;simp at h1)
  refine ⟨b,off,c,n,by rw [e,h1],?_,hn⟩
  have:=hcell 0 (by omega)
  rw [Dw h1,Nat.add_zero] at this
  exact this
 ·left
  exact ⟨o,_,c,e,h1⟩
set_option maxRecDepth 20000 in
theorem Lb {w:World} {neg:Bool} {a b:Value} {xs ys:List Nat} (ha:Rd w a xs) (hb:Rd w b ys) (hl:xs.length≤1073741824) (hl2:ys.length≤1073741824) (h:val xs=0):
  Calls Tryz.prog 96 #[.bool neg,a,b] w fun e w'=>e= .returned (.agg #[.bool false,.slice none 0 0,.slice none 0 0])∧Kp w w':=by
 have KW:=Kp.alloc w (Obj.cells #[Value.bool false,Value.slice none 0 0,Value.slice none 0 0] 33)
 have HA:=UF (FQ (ha.kp KW) (by omega))
 have HB:=UF (fun w' kk=>FQ ((hb.kp KW).kp (w':=w') kk) (by omega))
 have HRES:=UF (Res.new w (Value.bool false) (Value.slice none 0 0) (Value.slice none 0 0))
 rw [h,AM] at HA
 have HKW:=UF KW
 clear ha hb hl hl2 h KW
 go_enter Tryz.func96,Tryz.ntmps96
 go_wp2_with (go_at_call 118;(with_reducible refine HA.out.mono ?_);rintro e w1 ⟨o1,c1,rfl,m1,K1⟩;refine Hid.out ?_)
 refine UF ?_
 have HB1:=UF (HB.out w1 K1)
 have HK1:=UF K1
 clear m1 K1
 go_wp2_with (go_at_call 118;(with_reducible refine HB1.out.mono ?_);rintro e w2 ⟨o2,c2,rfl,m2,K2⟩;refine Hid.out ?_)
 refine UF ?_
 have HK2:=UF (HK1.out.tr K2)
 obtain ⟨d0,d1,d2,f0,f1,f2⟩:=(HRES.out.kp HK2.out).cells
 have HP:=UF ((HRES.out.kp HK2.out).put (.bool false) (.slice none 0 0) (.slice none 0 0)).cells
 unfold DK at HP
 clear m2 K2
 go_wp2
 obtain ⟨k0,k1,k2,_⟩:=HP.out
 exact bodyPost_ret (v:= .agg #[.bool false,.slice none 0 0,.slice none 0 0]) (by simp [results,Tryz.results96,go_sem,k0,k1,k2]) rfl ⟨rfl,(HKW.out.tr HK2.out).put3 (UG _) _ _ _⟩
def S5 (w0 wc:World) (n d:Nat) (va vb:Value):Prop:=M wc va n∧M wc vb d∧Kp w0 wc
set_option maxRecDepth 20000 in
theorem Lc {w:World} {neg:Bool} {a b:Value} {xs ys:List Nat} (ha:Rd w a xs) (hb:Rd w b ys) (hl:xs.length≤1073741824) (hl2:ys.length≤1073741824) (h0:val ys≠0) (h:val xs≠0):
  Calls Tryz.prog 96 #[.bool neg,a,b] w fun e w'=> ∃v,e= .returned v∧AE w' v (AP neg (val xs) (val ys))∧Kp w w':=by
 have KW:=Kp.alloc w (Obj.cells #[Value.bool false,Value.slice none 0 0,Value.slice none 0 0] 33)
 have hLa:Aj xs:=by obtain ⟨_,_,_,_,_,h,_⟩:=ha;exact h
 have hLb:Aj ys:=by obtain ⟨_,_,_,_,_,h,_⟩:=hb;exact h
 have hsa:(toL (val xs)).length≤1073741824:=Sz.val hLa _ hl
 have hsb:(toL (val ys)).length≤1073741824:=Sz.val hLb _ hl2
 have HA:=UF (FQ (ha.kp KW) (by omega))
 have HB:=UF (fun w' kk=>FQ ((hb.kp KW).kp (w':=w') kk) (by omega))
 have HRES:=UF (Res.new w (Value.bool false) (Value.slice none 0 0) (Value.slice none 0 0))
 obtain ⟨n,hn⟩: ∃n,n=val xs:=⟨_,rfl⟩
 obtain ⟨d,hd⟩: ∃d,d=val ys:=⟨_,rfl⟩
 rw [←hn] at HA h hsa⊢
 rw [←hd] at HB h0 hsb⊢
 have hlp:=Di h
 obtain ⟨la,hla⟩: ∃l,l=(toL n).length:=⟨_,rfl⟩
 rw [←hla] at HA hlp
 have hlz:((la:Int)==0)=false:=beq_eq_false_iff_ne.2 (by omega)
 obtain ⟨g,hg⟩: ∃g,g=Nat.gcd n d:=⟨_,rfl⟩
 have hg0:g≠0:=by rw [hg];exact Nat.ne_of_gt (Nat.gcd_pos_of_pos_right _ (Nat.pos_of_ne_zero h0))
 have HG:=UF (fun w' va vb (ma:M w' va n) (mb:M w' vb d)=>Qa ma mb hsa hsb)
 rw [←hg] at HG
 have HD1:=UF (fun w' va vg (ma:M w' va n) (mg:M w' vg g)=>FY ma mg hsa hg0)
 have HD2:=UF (fun w' va vg (ma:M w' va d) (mg:M w' vg g)=>FY ma mg hsb hg0)
 have hlow:=Gg neg (n:=n) (d:=d) (g:=g) (by rw [hg];exact Nat.gcd_dvd_left _ _) (by rw [hg];exact Nat.gcd_dvd_right _ _) h0
 have hcop:Nat.gcd (n/g) (d/g)=1:=by rw [hg];exact E0 h0
 have hn0:n/g≠0:=Nat.ne_of_gt (Nat.div_pos (Nat.le_of_dvd (Nat.pos_of_ne_zero h) (by rw [hg];exact Nat.gcd_dvd_left _ _)) (Nat.pos_of_ne_zero hg0))
 have hd0:d/g≠0:=Nat.ne_of_gt (Nat.div_pos (Nat.le_of_dvd (Nat.pos_of_ne_zero h0) (by rw [hg];exact Nat.gcd_dvd_right _ _)) (Nat.pos_of_ne_zero hg0))
 rw [←hlow]
 have HFIN:=UF (And.intro hcop (And.intro hn0 hd0))
 have HKW:=UF KW
 have HG1:g=1→Hid (n=n/g∧d=d/g):=fun e=>UF (by rw [e,Nat.div_one,Nat.div_one];exact ⟨rfl,rfl⟩)
 clear ha hb hl hl2 hLa hLb hsa hsb hn hd h h0 KW hla hg hg0 hlow hcop hn0 hd0
 go_enter Tryz.func96,Tryz.ntmps96
 go_wp2_with (go_at_call 118;(with_reducible refine HA.out.mono ?_);rintro e w1 ⟨o1,c1,rfl,m1,K1⟩;refine Hid.out ?_)
 refine UF ?_
 have HB1:=UF (HB.out w1 K1)
 have HM1:=UF m1
 have HK1:=UF K1
 clear m1 K1
 go_wp2_with (go_at_call 118;(with_reducible refine HB1.out.mono ?_);rintro e w2 ⟨o2,c2,rfl,m2,K2⟩;refine Hid.out ?_)
 refine UF ?_
 have HM2:=UF m2
 have HM1':=UF (HM1.out.kp K2)
 have HK2:=UF (HK1.out.tr K2)
 have HG2:=UF (HG.out w2 _ _ HM1'.out m2)
 clear m2 K2
 go_wp2_with (go_at_call 123;(with_reducible refine HG2.out.mono ?_);rintro e w3 ⟨vg,rfl,mg,K3⟩;refine Hid.out ?_)
 refine UF ?_
 have HMG:=UF mg
 have HM13:=UF (HM1'.out.kp K3)
 have HM23:=UF (HM2.out.kp K3)
 have HK3:=UF (HK2.out.tr K3)
 clear mg K3
 obtain ⟨t0,ht0⟩: ∃t,t=decide (g≠1):=⟨_,rfl⟩
 have HT0:=UF ht0
 clear ht0
 go_upto_region 5 with fail
 go_cut [27] (fun t wc=>t= .bool t0∧w3=wc)
 case first=>
  by_cases hg1:g=1
  ·obtain rfl:t0=false:=by rw [HT0.out];exact decide_eq_false (fun h=>h hg1)
   subst hg1
   obtain ⟨gb,gof,gc,rfl,hgc⟩:=IS HMG.out
   go_wp2_with fail
   go_meet
   exact ⟨rfl,rfl⟩
  ·obtain rfl:t0=true:=by rw [HT0.out];exact decide_eq_true hg1
   rcases NO HMG.out hg1 with ⟨go,gl,gc,rfl,hgl⟩|⟨gb,gof,gc,x,rfl,hgc,hx⟩
   ·have hne2:((gl:Int) !=1)=true:=by rw [bne_iff_ne];omega
    clear hg1 HG1
    go_wp2_with fail
    go_meet
    exact ⟨rfl,rfl⟩
   ·have hne2:((x:Int) !=1)=true:=by rw [bne_iff_ne];omega
    clear hg1 HG1
    go_wp2_with fail
    go_meet
    exact ⟨rfl,rfl⟩
 case rest=>
 obtain ⟨rfl,rfl⟩:=hcut
 go_upto_if 27 with fail
 go_cut [1,2] (fun va vb wc=>S5 (w.alloc (Obj.cells #[Value.bool false,Value.slice none 0 0,Value.slice none 0 0] 33)) wc (n/g) (d/g) va vb)
 case first=>
  cases t0
  ·have hg1:g=1:=by have:=of_decide_eq_false HT0.out.symm;omega
   have HE:=HG1 hg1
   clear HG1 hg1
   go_wp2_with fail
   go_meet
   exact ⟨HE.out.1▸HM13.out,HE.out.2▸HM23.out,HK3.out⟩
  ·have HX1:=UF (HD1.out w3 _ _ HM13.out HMG.out)
   have HX2:=UF (fun w' (kk:Kp w3 w')=>HD2.out w' _ _ (HM23.out.kp kk) (HMG.out.kp kk))
   clear HG1
   go_wp2_with (go_at_call 124;(with_reducible refine HX1.out.mono ?_);rintro e w4 ⟨q1,r1,rfl,mq1,_,K4⟩;refine Hid.out ?_)
   refine UF ?_
   have HQ1:=UF mq1
   have HK4:=UF K4
   have HX22:=UF (HX2.out w4 K4)
   clear mq1 K4
   go_wp2_with (go_at_call 124;(with_reducible refine HX22.out.mono ?_);rintro e w5 ⟨q2,r2,rfl,mq2,_,K5⟩;refine Hid.out ?_)
   refine UF ?_
   have HPA:=UF (show S5 (w.alloc (Obj.cells #[Value.bool false,Value.slice none 0 0,Value.slice none 0 0] 33)) w5 (n/g) (d/g) q1 q2 from ⟨HQ1.out.kp K5,mq2,(HK3.out.tr HK4.out).tr K5⟩)
   clear mq2 K5
   go_wp2_with fail
   go_meet
   exact HPA.out
 case rest=>
  obtain ⟨mA,mB,KC⟩:=hcut
  have HMA:=UF mA
  have HKC:=UF KC
  obtain ⟨ao,al,ac,rfl⟩:=Cd mA
  have HR:=UF (HRES.out.kp KC)
  obtain ⟨d0,d1,d2,f0,f1,f2⟩:=HR.out.cells
  by_cases hd1:d/g=1
  ·rw [hd1] at mB
   have HDG:=UF hd1
   obtain ⟨bb,bof,bc,rfl,hbc⟩:=IS mB
   have HP:=UF (HR.out.put (.bool neg) (.slice ao al ac) (.slice none 0 0)).cells
   have HVA:=UF (AE.of (neg:=neg) HFIN.out.2.2 HFIN.out.1 (HMA.out.res HR.out (DT _) (Cc _ _ _) (Cc _ _ _) (.bool neg) (.slice ao al ac) (.slice none 0 0)) (by rw [if_pos HDG.out];exact Hz _) (fun h=>absurd h HFIN.out.2.1))
   unfold DK at HP HVA
   clear mA mB KC hd1
   go_wp2
   obtain ⟨k0,k1,k2,_⟩:=HP.out
   exact bodyPost_ret (v:= .agg #[.bool neg,.slice ao al ac,.slice none 0 0]) (by simp [results,Tryz.results96,go_sem,k0,k1,k2]) rfl ⟨_,rfl,HVA.out,(HKW.out.tr HKC.out).put3 (UG _) _ _ _⟩
  ·have HDG:=UF hd1
   obtain ⟨bo,bl,bc,rfl⟩:=Cd mB
   have HP:=UF (HR.out.put (.bool neg) (.slice ao al ac) (.slice bo bl bc)).cells
   have HVA:=UF (AE.of (neg:=neg) HFIN.out.2.2 HFIN.out.1 (HMA.out.res HR.out (DT _) (Cc _ _ _) (Cc _ _ _) (.bool neg) (.slice ao al ac) (.slice bo bl bc)) (by rw [if_neg HDG.out];exact mB.res HR.out (DT _) (Cc _ _ _) (Cc _ _ _) _ _ _) (fun h=>absurd h HFIN.out.2.1))
   unfold DK at HP HVA
   rcases NO mB hd1 with ⟨go,gl,gc,he,hgl⟩|⟨gb,gof,gc,x,he,hgc,hx⟩
   ·obtain ⟨rfl,rfl,rfl⟩:bo=go∧bl=gl∧bc=gc:=by simpa using he
    have hne:((bl:Int)==1)=false:=beq_eq_false_iff_ne.2 (by omega)
    clear mA mB KC hd1 he hgl
    go_wp2
    obtain ⟨k0,k1,k2,_⟩:=HP.out
    exact bodyPost_ret (v:= .agg #[.bool neg,.slice ao al ac,.slice bo bl bc]) (by simp [results,Tryz.results96,go_sem,k0,k1,k2]) rfl ⟨_,rfl,HVA.out,(HKW.out.tr HKC.out).put3 (UG _) _ _ _⟩
   ·obtain ⟨rfl,rfl,rfl⟩:bo=some ⟨gb,gof,none⟩∧bl=1∧bc=gc:=by simpa using he
    have hne:((x:Int)==1)=false:=beq_eq_false_iff_ne.2 (by omega)
    clear mA mB KC hd1 he hx
    go_wp2
    obtain ⟨k0,k1,k2,_⟩:=HP.out
    exact bodyPost_ret (v:= .agg #[.bool neg,.slice ao al ac,.slice (some ⟨gb,gof,none⟩) 1 bc]) (by simp [results,Tryz.results96,go_sem,k0,k1,k2]) rfl ⟨_,rfl,HVA.out,(HKW.out.tr HKC.out).put3 (UG _) _ _ _⟩
theorem Mp {w:World} {neg:Bool} {a b:Value} {xs ys:List Nat} (ha:Rd w a xs) (hb:Rd w b ys) (hl:xs.length≤1073741824) (hl2:ys.length≤1073741824) (h0:val ys≠0):
  Calls Tryz.prog 96 #[.bool neg,a,b] w fun e w'=> ∃v,e= .returned v∧AE w' v (AP neg (val xs) (val ys))∧Kp w w':=by
 by_cases h:val xs=0
 ·refine (Lb ha hb hl hl2 h).mono ?_
  rintro e w' ⟨he,k⟩
  refine ⟨_,he,?_,k⟩
  rw [h,FA]
  exact AE.zero w'
 ·exact Lc ha hb hl hl2 h0 h
theorem Ek {w:World} {neg:Bool} {a b:Value} {n d:Nat} (ha:M w a n) (hb:M w b d) {j k:Nat} (hs:Sz j n) (ht:Sz k d) (hj:j≤1073741824) (hk:k≤1073741824) (h0:d≠0):
  Calls Tryz.prog 96 #[.bool neg,a,b] w fun e w'=> ∃v,e= .returned v∧AE w' v (AP neg n d)∧Kp w w':=by
 have:=Mp (neg:=neg) ha hb (Nat.le_trans hs hj) (Nat.le_trans ht hk) (by rw [Ay];exact h0)
 rw [Ay,Ay] at this
 exact this
theorem EG {w:World} {v:Value} {x:Rat} (h:AE w v x):
  Calls Tryz.prog 48 #[v] w fun e w'=>e= .returned (.int .i64 (Cg x))∧Kp w w':=by
 obtain ⟨num,den,rfl,hn,hk⟩:=h
 obtain ⟨ao,ac,rfl,a1,a2,_,_⟩:=hn
 obtain ⟨bo,lb,bc,rfl⟩:=Cd hk
 clear hk
 unfold Cg
 by_cases e0:x.num=0
 ·rw [e0]
  rw [show (0:Int).natAbs=0 from rfl,AM,if_pos rfl]
  rw [e0,show (0:Int).natAbs=0 from rfl,AM] at a1
  rw [show decide ((0:Int)<0)=false from rfl]
  clear e0
  go_enter Tryz.func48,Tryz.ntmps48
  go_wp2
  go_ret
  exact ⟨rfl,by repeat first|exact Below.refl _ _|apply Kp.drew|exact Kp.alloc _ _⟩
 ·have hl:=Di (n:=x.num.natAbs) (by omega)
  rw [if_neg e0]
  obtain ⟨la,hla⟩: ∃l,l=(toL x.num.natAbs).length:=⟨_,rfl⟩
  rw [←hla] at a1 hl⊢
  have hz:(((la:Nat):Int)==0)=false:=by simp;omega
  obtain ⟨s,hs⟩: ∃s,s=decide (x.num<0):=⟨_,rfl⟩
  have he:(if x.num<0 then (-1:Int) else 1)=if s then-1 else 1:=by rw [hs];simp
  rw [he,←hs]
  clear hla e0 hs he
  cases s
  all_goals
   go_enter Tryz.func48,Tryz.ntmps48
   go_wp2
   go_ret
   exact ⟨rfl,by repeat first|exact Below.refl _ _|apply Kp.drew|exact Kp.alloc _ _⟩
theorem Ug {w:World} {o:Option Addr} {l c n:Nat} (h:M w (.slice o l c) n):l=(toL n).length:=by
 obtain ⟨o',c',e,_⟩:=h
 have:=(by simpa using e:o=o'∧l=(toL n).length∧c=c')
 exact this.2.1
theorem B5 {w:World} {o:Option Addr} {l c n:Nat} (h:M w (.slice o l c) n):l=0↔n=0:=by
 rw [Ug h,List.length_eq_zero_iff,A5]
theorem AE.neg_mk {w:World} {x:Rat} {b:Bool} {u v:Value} (hb:b=decide ((-x).num<0)) (h1:M w u x.num.natAbs) (h2:M w v (A0 x)):AE w (.agg #[.bool b,u,v]) (-x):=by
 refine ⟨u,v,by rw [hb],?_,?_⟩
 ·rw [Rat.neg_num,Int.natAbs_neg];exact h1
 ·unfold A0;rw [Rat.neg_den];exact h2
set_option maxRecDepth 20000 in
theorem OF {w:World} {u:Value} {x:Rat} (hu:AE w u x):
  Calls Tryz.prog 115 #[u] w fun e w'=> ∃r,e= .returned r∧AE w' r (-x)∧Kp w w':=by
 obtain ⟨a1,l1,c1,a2,l2,c2,rfl,m1,m2⟩:=hu.parts
 have HT:=UF (One.new w (.bool (decide (x.num<0))) (.slice a1 l1 c1) (.slice a2 l2 c2))
 have HU:=UF hu
 have Hm1:=UF m1
 have Hm2:=UF m2
 obtain ⟨p,hp⟩: ∃b,b=decide (x.num<0):=⟨_,rfl⟩
 try rw [←hp] at HT
 try rw [←hp] at HU
 try rw [←hp] at Hm1
 try rw [←hp] at Hm2
 try rw [←hp]
 have HPp:=UF hp
 clear hu m1 m2 hp
 have hl:=B5 Hm1.out
 by_cases h0:x.num.natAbs=0
 ·obtain rfl:=hl.2 h0
  have hx:x=0:=Rat.num_eq_zero.1 (Int.natAbs_eq_zero.1 h0)
  subst hx
  obtain rfl:p=false:=by rw [HPp.out];decide
  clear h0 hl
  go_enter Tryz.func115,Tryz.ntmps115
  go_wp2
  exact bodyPost_ret (v:= .agg #[.bool false,.slice a1 0 c1,.slice a2 l2 c2]) (by simp [results,Tryz.results115,go_sem]) rfl ⟨_,rfl,AE.neg_mk (by decide) (Hm1.out.kp ((Kp.alloc w _).tr (Kp.alloc _ _))) (Hm2.out.kp ((Kp.alloc w _).tr (Kp.alloc _ _))),((Kp.alloc w _).tr (Kp.alloc _ _))⟩
 ·have hl0:0<l1:=by omega
  have hn0:x.num≠0:=fun e=>h0 (by rw [e];rfl)
  clear h0 hl
  have hb:(!p)=decide ((-x).num<0):=by
   rw [Rat.neg_num,HPp.out]
   by_cases h:x.num<0
   ·rw [decide_eq_true h,decide_eq_false (by omega)];rfl
   ·rw [decide_eq_false h,decide_eq_true (by omega)];rfl
  have HB:=UF hb
  clear hb hn0
  cases p
  ·go_enter Tryz.func115,Tryz.ntmps115
   go_wp2
   exact bodyPost_ret (v:= .agg #[.bool true,.slice a1 l1 c1,.slice a2 l2 c2]) (by simp [results,Tryz.results115,go_sem]) rfl ⟨_,rfl,AE.neg_mk HB.out (Hm1.out.kp ((Kp.alloc w _).tr (Kp.alloc _ _))) (Hm2.out.kp ((Kp.alloc w _).tr (Kp.alloc _ _))),((Kp.alloc w _).tr (Kp.alloc _ _))⟩
  ·go_enter Tryz.func115,Tryz.ntmps115
   go_wp2
   exact bodyPost_ret (v:= .agg #[.bool false,.slice a1 l1 c1,.slice a2 l2 c2]) (by simp [results,Tryz.results115,go_sem]) rfl ⟨_,rfl,AE.neg_mk HB.out (Hm1.out.kp ((Kp.alloc w _).tr (Kp.alloc _ _))) (Hm2.out.kp ((Kp.alloc w _).tr (Kp.alloc _ _))),((Kp.alloc w _).tr (Kp.alloc _ _))⟩
theorem LV (m n:Nat):decide (m=n)=(AZ m n==0):=by
 by_cases h:m=n
 ·rw [decide_eq_true h,Cx h];rfl
 ·rw [decide_eq_false h]
  symm
  refine beq_eq_false_iff_ne.2 ?_
  rcases Nat.lt_or_gt_of_ne h with h1|h1
  ·rw [BP h1];decide
  ·rw [BQ h1];decide
theorem Pl (m n:Nat):AZ n m= -AZ m n:=by
 rcases Nat.lt_trichotomy m n with h|h|h
 ·rw [BP h,BQ h];rfl
 ·rw [Cx h,Cx h.symm];rfl
 ·rw [BP h,BQ h]
set_option maxRecDepth 20000 in
theorem Mg {w:World} {u:Value} {x:Rat} (hu:AE w u x) {v:Value} {y:Rat} (hv:AE w v y):
  Calls Tryz.prog 38 #[u,v] w fun e w'=>e= .returned (.bool (decide (x=y)))∧Kp w w':=by
 rw [Hg,LV,LV]
 obtain ⟨a1,l1,c1,a2,l2,c2,rfl,m1,m2⟩:=hu.parts
 obtain ⟨a3,l3,c3,a4,l4,c4,rfl,m3,m4⟩:=hv.parts
 have HT:=UF (P2.new w (.bool (decide (x.num<0))) (.slice a1 l1 c1) (.slice a2 l2 c2) (.bool (decide (y.num<0))) (.slice a3 l3 c3) (.slice a4 l4 c4))
 have HU:=UF hu
 have Hm1:=UF m1
 have Hm2:=UF m2
 have HV:=UF hv
 have Hm3:=UF m3
 have Hm4:=UF m4
 have CN:=UF (fun w' (a:M w' (.slice a1 l1 c1) x.num.natAbs) (b:M w' (.slice a3 l3 c3) y.num.natAbs)=>Ci _ _ _ _ w' a b)
 have CK:=UF (fun w' (a:M w' (.slice a2 l2 c2) (A0 x)) (b:M w' (.slice a4 l4 c4) (A0 y))=>Ci _ _ _ _ w' a b)
 obtain ⟨p,hp⟩: ∃b,b=decide (x.num<0):=⟨_,rfl⟩
 try rw [←hp] at HT
 try rw [←hp] at HU
 try rw [←hp] at Hm1
 try rw [←hp] at Hm2
 try rw [←hp] at HV
 try rw [←hp] at Hm3
 try rw [←hp] at Hm4
 try rw [←hp] at CN
 try rw [←hp] at CK
 try rw [←hp]
 have HPp:=UF hp
 obtain ⟨q,hq⟩: ∃b,b=decide (y.num<0):=⟨_,rfl⟩
 try rw [←hq] at HT
 try rw [←hq] at HU
 try rw [←hq] at Hm1
 try rw [←hq] at Hm2
 try rw [←hq] at HV
 try rw [←hq] at Hm3
 try rw [←hq] at Hm4
 try rw [←hq] at CN
 try rw [←hq] at CK
 try rw [←hq]
 have HPq:=UF hq
 clear hu m1 m2 hp hv m3 m4 hq
 obtain ⟨cn,hcn⟩: ∃c,c=AZ x.num.natAbs y.num.natAbs:=⟨_,rfl⟩
 obtain ⟨ck,hck⟩: ∃c,c=AZ (A0 x) (A0 y):=⟨_,rfl⟩
 rw [←hcn] at CN⊢
 rw [←hck] at CK⊢
 clear hcn hck
 have hpq:p=q∨q=!p:=by cases p<;>cases q<;>simp
 rcases hpq with hpq|hpq
 ·subst hpq
  have hpp:(p==p)=true:=by simp
  by_cases hc:cn=0
  ·subst hc
   have hz:((0:Int)==0)=true:=rfl
   have HPS:=UF hpp
   clear hpp
   go_enter Tryz.func38,Tryz.ntmps38
   have KN:=HT.out.k
   have U_e:=UF (HU.out.kp KN)
   have m1_e:=UF (Hm1.out.kp KN)
   have m2_e:=UF (Hm2.out.kp KN)
   have V_e:=UF (HV.out.kp KN)
   have m3_e:=UF (Hm3.out.kp KN)
   have m4_e:=UF (Hm4.out.kp KN)
   clear KN
   obtain ⟨g0,g1,g2,_⟩:=HT.out.ra.cells
   obtain ⟨h0,h1,h2,_⟩:=HT.out.rb.cells
   go_wp2_with (go_at_call 84;(with_reducible refine (CN.out _ m1_e.out m3_e.out).mono ?_);rintro e w2 ⟨rfl,k2⟩;refine Hid.out ?_)
   refine UF ?_
   have T_2:=UF (HT.out.kp k2)
   have U_2:=UF (U_e.out.kp k2)
   have m1_2:=UF (m1_e.out.kp k2)
   have m2_2:=UF (m2_e.out.kp k2)
   have V_2:=UF (V_e.out.kp k2)
   have m3_2:=UF (m3_e.out.kp k2)
   have m4_2:=UF (m4_e.out.kp k2)
   clear HT U_e m1_e m2_e V_e m3_e m4_e
   clear k2
   obtain ⟨g0,g1,g2,_⟩:=T_2.out.ra.cells
   obtain ⟨h0,h1,h2,_⟩:=T_2.out.rb.cells
   go_wp2_with (go_at_call 84;(with_reducible refine (CK.out _ m2_2.out m4_2.out).mono ?_);rintro e w3 ⟨rfl,k3⟩;refine Hid.out ?_)
   refine UF ?_
   have T_3:=UF (T_2.out.kp k3)
   have U_3:=UF (U_2.out.kp k3)
   have m1_3:=UF (m1_2.out.kp k3)
   have m2_3:=UF (m2_2.out.kp k3)
   have V_3:=UF (V_2.out.kp k3)
   have m3_3:=UF (m3_2.out.kp k3)
   have m4_3:=UF (m4_2.out.kp k3)
   clear T_2 U_2 m1_2 m2_2 V_2 m3_2 m4_2
   clear k3
   obtain ⟨g0,g1,g2,_⟩:=T_3.out.ra.cells
   obtain ⟨h0,h1,h2,_⟩:=T_3.out.rb.cells
   go_wp2
   go_ret
   exact ⟨DL (by rw [HPS.out];simp),T_3.out.k⟩
  ·have hcb:(cn==0)=false:=beq_eq_false_iff_ne.2 hc
   have HPS:=UF hpp
   have HCB:=UF hcb
   clear hc hpp
   go_enter Tryz.func38,Tryz.ntmps38
   have KN:=HT.out.k
   have U_e:=UF (HU.out.kp KN)
   have m1_e:=UF (Hm1.out.kp KN)
   have m2_e:=UF (Hm2.out.kp KN)
   have V_e:=UF (HV.out.kp KN)
   have m3_e:=UF (Hm3.out.kp KN)
   have m4_e:=UF (Hm4.out.kp KN)
   clear KN
   obtain ⟨g0,g1,g2,_⟩:=HT.out.ra.cells
   obtain ⟨h0,h1,h2,_⟩:=HT.out.rb.cells
   go_wp2_with (go_at_call 84;(with_reducible refine (CN.out _ m1_e.out m3_e.out).mono ?_);rintro e w2 ⟨rfl,k2⟩;refine Hid.out ?_)
   refine UF ?_
   have T_2:=UF (HT.out.kp k2)
   have U_2:=UF (U_e.out.kp k2)
   have m1_2:=UF (m1_e.out.kp k2)
   have m2_2:=UF (m2_e.out.kp k2)
   have V_2:=UF (V_e.out.kp k2)
   have m3_2:=UF (m3_e.out.kp k2)
   have m4_2:=UF (m4_e.out.kp k2)
   clear HT U_e m1_e m2_e V_e m3_e m4_e
   clear k2
   obtain ⟨g0,g1,g2,_⟩:=T_2.out.ra.cells
   obtain ⟨h0,h1,h2,_⟩:=T_2.out.rb.cells
   go_wp2
   go_ret
   exact ⟨DL (by rw [HPS.out,HCB.out];rfl),T_2.out.k⟩
 ·subst hpq
  cases p
  all_goals
   go_enter Tryz.func38,Tryz.ntmps38
   have KN:=HT.out.k
   have U_e:=UF (HU.out.kp KN)
   have m1_e:=UF (Hm1.out.kp KN)
   have m2_e:=UF (Hm2.out.kp KN)
   have V_e:=UF (HV.out.kp KN)
   have m3_e:=UF (Hm3.out.kp KN)
   have m4_e:=UF (Hm4.out.kp KN)
   clear KN
   obtain ⟨g0,g1,g2,_⟩:=HT.out.ra.cells
   obtain ⟨h0,h1,h2,_⟩:=HT.out.rb.cells
   go_wp2
   go_ret
   exact ⟨DL (by simp),HT.out.k⟩
set_option maxRecDepth 20000 in
theorem KX {w:World} {u:Value} {x:Rat} (hu:AE w u x) {v:Value} {y:Rat} (hv:AE w v y) (h9:Cg x≠Cg y):
  Calls Tryz.prog 37 #[u,v] w fun e w'=>e= .returned (.int .i64 (Dt x y))∧Kp w w':=by
 have hv:Dt x y=if Cg x<Cg y then-1 else 1:=by
  rw [Ip h9]
  split<;>omega
 rw [hv]
 clear hv
 obtain ⟨a1,l1,c1,a2,l2,c2,rfl,m1,m2⟩:=hu.parts
 obtain ⟨a3,l3,c3,a4,l4,c4,rfl,m3,m4⟩:=hv.parts
 have HT:=UF (P2.new w (.bool (decide (x.num<0))) (.slice a1 l1 c1) (.slice a2 l2 c2) (.bool (decide (y.num<0))) (.slice a3 l3 c3) (.slice a4 l4 c4))
 have HU:=UF hu
 have HV:=UF hv
 have CA:=UF (fun w' a (ha:AE w' a x)=>EG ha)
 have CB:=UF (fun w' a (ha:AE w' a y)=>EG ha)
 obtain ⟨p,hp⟩: ∃b,b=decide (x.num<0):=⟨_,rfl⟩
 try rw [←hp] at HT
 try rw [←hp] at HU
 try rw [←hp] at HV
 try rw [←hp] at CA
 try rw [←hp] at CB
 try rw [←hp]
 have HPp:=UF hp
 obtain ⟨q,hq⟩: ∃b,b=decide (y.num<0):=⟨_,rfl⟩
 try rw [←hq] at HT
 try rw [←hq] at HU
 try rw [←hq] at HV
 try rw [←hq] at CA
 try rw [←hq] at CB
 try rw [←hq]
 have HPq:=UF hq
 clear hu m1 m2 hp hv m3 m4 hq
 obtain ⟨sx,hsx⟩: ∃s,s=Cg x:=⟨_,rfl⟩
 obtain ⟨sy,hsy⟩: ∃s,s=Cg y:=⟨_,rfl⟩
 rw [←hsx] at CA h9⊢
 rw [←hsy] at CB h9⊢
 clear hsx hsy
 have hne:(sx !=sy)=true:=by rw [bne_iff_ne];exact h9
 by_cases hlt:sx<sy
 ·rw [if_pos hlt]
  have hdl:decide (sx<sy)=true:=decide_eq_true hlt
  clear h9
  go_enter Tryz.func37,Tryz.ntmps37
  have KN:=HT.out.k
  have U_e:=UF (HU.out.kp KN)
  have V_e:=UF (HV.out.kp KN)
  clear KN
  obtain ⟨g0,g1,g2,_⟩:=HT.out.ra.cells
  obtain ⟨h0,h1,h2,_⟩:=HT.out.rb.cells
  go_upto_region 1 with fail
  have T_2:=UF (HT.out.kp (Below.refl _ _).drew)
  have U_2:=UF (U_e.out.kp (Below.refl _ _).drew)
  have V_2:=UF (V_e.out.kp (Below.refl _ _).drew)
  clear HT U_e V_e
  go_region_held3 (fun w'=>w'.cell? ⟨w.heap.size,0,none⟩=some (.bool p)∧w'.cell? ⟨w.heap.size,1,none⟩=some (.slice a1 l1 c1)∧w'.cell? ⟨w.heap.size,2,none⟩=some (.slice a2 l2 c2)∧w'.cell? ⟨w.heap.size+1,0,none⟩=some (.bool q)∧w'.cell? ⟨w.heap.size+1,1,none⟩=some (.slice a3 l3 c3)∧w'.cell? ⟨w.heap.size+1,2,none⟩=some (.slice a4 l4 c4))
   (first|(refine ⟨?_,?_,?_,?_,?_,?_⟩<;>assumption)|go_keep)
   (first
    | (go_at_call 48;(with_reducible refine (CA.out _ _ U_2.out).mono ?_);rintro e w3 ⟨rfl,k3⟩;have T_3:=UF (T_2.out.kp k3);have U_3:=UF (U_2.out.kp k3);have V_3:=UF (V_2.out.kp k3);clear T_2 U_2 V_2;clear k3;obtain ⟨g0,g1,g2,_⟩:=T_3.out.ra.cells;obtain ⟨h0,h1,h2,_⟩:=T_3.out.rb.cells)
    | (go_at_call 48;(with_reducible refine (CB.out _ _ V_3.out).mono ?_);rintro e w4 ⟨rfl,k4⟩;have T_4:=UF (T_3.out.kp k4);have U_4:=UF (U_3.out.kp k4);have V_4:=UF (V_3.out.kp k4);clear T_3 U_3 V_3;clear k4;obtain ⟨g0,g1,g2,_⟩:=T_4.out.ra.cells;obtain ⟨h0,h1,h2,_⟩:=T_4.out.rb.cells))
  go_wp2
  go_ret
  exact ⟨rfl,T_4.out.k⟩
 ·rw [if_neg hlt]
  have hdl:decide (sx<sy)=false:=decide_eq_false hlt
  clear h9
  go_enter Tryz.func37,Tryz.ntmps37
  have KN:=HT.out.k
  have U_e:=UF (HU.out.kp KN)
  have V_e:=UF (HV.out.kp KN)
  clear KN
  obtain ⟨g0,g1,g2,_⟩:=HT.out.ra.cells
  obtain ⟨h0,h1,h2,_⟩:=HT.out.rb.cells
  go_upto_region 1 with fail
  have T_2:=UF (HT.out.kp (Below.refl _ _).drew)
  have U_2:=UF (U_e.out.kp (Below.refl _ _).drew)
  have V_2:=UF (V_e.out.kp (Below.refl _ _).drew)
  clear HT U_e V_e
  go_region_held3 (fun w'=>w'.cell? ⟨w.heap.size,0,none⟩=some (.bool p)∧w'.cell? ⟨w.heap.size,1,none⟩=some (.slice a1 l1 c1)∧w'.cell? ⟨w.heap.size,2,none⟩=some (.slice a2 l2 c2)∧w'.cell? ⟨w.heap.size+1,0,none⟩=some (.bool q)∧w'.cell? ⟨w.heap.size+1,1,none⟩=some (.slice a3 l3 c3)∧w'.cell? ⟨w.heap.size+1,2,none⟩=some (.slice a4 l4 c4))
   (first|(refine ⟨?_,?_,?_,?_,?_,?_⟩<;>assumption)|go_keep)
   (first
    | (go_at_call 48;(with_reducible refine (CA.out _ _ U_2.out).mono ?_);rintro e w3 ⟨rfl,k3⟩;have T_3:=UF (T_2.out.kp k3);have U_3:=UF (U_2.out.kp k3);have V_3:=UF (V_2.out.kp k3);clear T_2 U_2 V_2;clear k3;obtain ⟨g0,g1,g2,_⟩:=T_3.out.ra.cells;obtain ⟨h0,h1,h2,_⟩:=T_3.out.rb.cells)
    | (go_at_call 48;(with_reducible refine (CB.out _ _ V_3.out).mono ?_);rintro e w4 ⟨rfl,k4⟩;have T_4:=UF (T_3.out.kp k4);have U_4:=UF (U_3.out.kp k4);have V_4:=UF (V_3.out.kp k4);clear T_3 U_3 V_3;clear k4;obtain ⟨g0,g1,g2,_⟩:=T_4.out.ra.cells;obtain ⟨h0,h1,h2,_⟩:=T_4.out.rb.cells))
  go_wp2
  go_ret
  exact ⟨rfl,T_4.out.k⟩
set_option maxRecDepth 20000 in
theorem KU {w:World} {u:Value} {x:Rat} (hu:AE w u x) {v:Value} {y:Rat} (hv:AE w v y) {j k:Nat} (hs:RSz j x) (ht:RSz k y) (hj:j≤500000000) (hk:k≤500000000) (h9:Cg x=Cg y):
  Calls Tryz.prog 37 #[u,v] w fun e w'=>e= .returned (.int .i64 (if decide (x.num<0)=true then-AZ (x.num.natAbs*y.den) (y.num.natAbs*x.den) else AZ (x.num.natAbs*y.den) (y.num.natAbs*x.den)))∧Kp w w':=by
 obtain ⟨a1,l1,c1,a2,l2,c2,rfl,m1,m2⟩:=hu.parts
 obtain ⟨a3,l3,c3,a4,l4,c4,rfl,m3,m4⟩:=hv.parts
 have HT:=UF (P2.new w (.bool (decide (x.num<0))) (.slice a1 l1 c1) (.slice a2 l2 c2) (.bool (decide (y.num<0))) (.slice a3 l3 c3) (.slice a4 l4 c4))
 have HU:=UF hu
 have Hm1:=UF m1
 have Hm2:=UF m2
 have HV:=UF hv
 have Hm3:=UF m3
 have Hm4:=UF m4
 have CDA:=UF (fun w' (a:M w' (.slice a1 l1 c1) x.num.natAbs) (b:M w' (.slice a2 l2 c2) (A0 x))=>Dr (s:=decide (x.num<0)) a b)
 have CDB:=UF (fun w' (a:M w' (.slice a3 l3 c3) y.num.natAbs) (b:M w' (.slice a4 l4 c4) (A0 y))=>Dr (s:=decide (y.num<0)) a b)
 have CA:=UF (fun w' a (ha:AE w' a x)=>EG ha)
 have CB:=UF (fun w' a (ha:AE w' a y)=>EG ha)
 have CM1:=UF (fun w' va vb (a:M w' va (x.num.natAbs)) (b:M w' vb (y.den))=>BS a b hs.1 ht.2 (by omega) (by omega))
 have CM2:=UF (fun w' va vb (a:M w' va (y.num.natAbs)) (b:M w' vb (x.den))=>BS a b ht.1 hs.2 (by omega) (by omega))
 have CC:=UF (fun w' va vb (a:M w' va (x.num.natAbs*y.den)) (b:M w' vb (y.num.natAbs*x.den))=>Ci va vb _ _ w' a b)
 obtain ⟨p,hp⟩: ∃b,b=decide (x.num<0):=⟨_,rfl⟩
 try rw [←hp] at HT
 try rw [←hp] at HU
 try rw [←hp] at Hm1
 try rw [←hp] at Hm2
 try rw [←hp] at HV
 try rw [←hp] at Hm3
 try rw [←hp] at Hm4
 try rw [←hp] at CDA
 try rw [←hp] at CDB
 try rw [←hp] at CA
 try rw [←hp] at CB
 try rw [←hp] at CM1
 try rw [←hp] at CM2
 try rw [←hp] at CC
 try rw [←hp]
 have HPp:=UF hp
 obtain ⟨q,hq⟩: ∃b,b=decide (y.num<0):=⟨_,rfl⟩
 try rw [←hq] at HT
 try rw [←hq] at HU
 try rw [←hq] at Hm1
 try rw [←hq] at Hm2
 try rw [←hq] at HV
 try rw [←hq] at Hm3
 try rw [←hq] at Hm4
 try rw [←hq] at CDA
 try rw [←hq] at CDB
 try rw [←hq] at CA
 try rw [←hq] at CB
 try rw [←hq] at CM1
 try rw [←hq] at CM2
 try rw [←hq] at CC
 try rw [←hq]
 have HPq:=UF hq
 clear hu m1 m2 hp hv m3 m4 hq
 obtain ⟨sx,hsx⟩: ∃s,s=Cg x:=⟨_,rfl⟩
 rw [←h9] at CB
 rw [←hsx] at CA CB
 clear hsx h9 hs ht hj hk
 have hcb: -1≤AZ (x.num.natAbs*y.den) (y.num.natAbs*x.den)∧AZ (x.num.natAbs*y.den) (y.num.natAbs*x.den)≤1:=by unfold AZ;split<;>first|omega|(split<;>omega)
 obtain ⟨cc,hcc⟩: ∃c,c=AZ (x.num.natAbs*y.den) (y.num.natAbs*x.den):=⟨_,rfl⟩
 rw [←hcc] at CC hcb⊢
 clear hcc
 obtain ⟨hc1,hc2⟩:=hcb
 have hsb:(sx !=sx)=false:=by simp
 cases p
 ·skip
  go_enter Tryz.func37,Tryz.ntmps37
  have KN:=HT.out.k
  have U_e:=UF (HU.out.kp KN)
  have m1_e:=UF (Hm1.out.kp KN)
  have m2_e:=UF (Hm2.out.kp KN)
  have V_e:=UF (HV.out.kp KN)
  have m3_e:=UF (Hm3.out.kp KN)
  have m4_e:=UF (Hm4.out.kp KN)
  clear KN
  obtain ⟨g0,g1,g2,_⟩:=HT.out.ra.cells
  obtain ⟨h0,h1,h2,_⟩:=HT.out.rb.cells
  go_upto_region 1 with fail
  have T_2:=UF (HT.out.kp (Below.refl _ _).drew)
  have U_2:=UF (U_e.out.kp (Below.refl _ _).drew)
  have m1_2:=UF (m1_e.out.kp (Below.refl _ _).drew)
  have m2_2:=UF (m2_e.out.kp (Below.refl _ _).drew)
  have V_2:=UF (V_e.out.kp (Below.refl _ _).drew)
  have m3_2:=UF (m3_e.out.kp (Below.refl _ _).drew)
  have m4_2:=UF (m4_e.out.kp (Below.refl _ _).drew)
  clear HT U_e m1_e m2_e V_e m3_e m4_e
  go_region_held3 (fun w'=>w'.cell? ⟨w.heap.size,0,none⟩=some (.bool false)∧w'.cell? ⟨w.heap.size,1,none⟩=some (.slice a1 l1 c1)∧w'.cell? ⟨w.heap.size,2,none⟩=some (.slice a2 l2 c2)∧w'.cell? ⟨w.heap.size+1,0,none⟩=some (.bool q)∧w'.cell? ⟨w.heap.size+1,1,none⟩=some (.slice a3 l3 c3)∧w'.cell? ⟨w.heap.size+1,2,none⟩=some (.slice a4 l4 c4))
   (first|(refine ⟨?_,?_,?_,?_,?_,?_⟩<;>assumption)|go_keep)
   (first
    | (go_at_call 48;(with_reducible refine (CA.out _ _ U_2.out).mono ?_);rintro e w3 ⟨rfl,k3⟩;have T_3:=UF (T_2.out.kp k3);have U_3:=UF (U_2.out.kp k3);have m1_3:=UF (m1_2.out.kp k3);have m2_3:=UF (m2_2.out.kp k3);have V_3:=UF (V_2.out.kp k3);have m3_3:=UF (m3_2.out.kp k3);have m4_3:=UF (m4_2.out.kp k3);clear T_2 U_2 m1_2 m2_2 V_2 m3_2 m4_2;clear k3;obtain ⟨g0,g1,g2,_⟩:=T_3.out.ra.cells;obtain ⟨h0,h1,h2,_⟩:=T_3.out.rb.cells)
    | (go_at_call 48;(with_reducible refine (CB.out _ _ V_3.out).mono ?_);rintro e w4 ⟨rfl,k4⟩;have T_4:=UF (T_3.out.kp k4);have U_4:=UF (U_3.out.kp k4);have m1_4:=UF (m1_3.out.kp k4);have m2_4:=UF (m2_3.out.kp k4);have V_4:=UF (V_3.out.kp k4);have m3_4:=UF (m3_3.out.kp k4);have m4_4:=UF (m4_3.out.kp k4);clear T_3 U_3 m1_3 m2_3 V_3 m3_3 m4_3;clear k4;obtain ⟨g0,g1,g2,_⟩:=T_4.out.ra.cells;obtain ⟨h0,h1,h2,_⟩:=T_4.out.rb.cells))
  go_upto_region 6 with fail
  have T_5:=UF (T_4.out.kp (Below.refl _ _).drew)
  have U_5:=UF (U_4.out.kp (Below.refl _ _).drew)
  have m1_5:=UF (m1_4.out.kp (Below.refl _ _).drew)
  have m2_5:=UF (m2_4.out.kp (Below.refl _ _).drew)
  have V_5:=UF (V_4.out.kp (Below.refl _ _).drew)
  have m3_5:=UF (m3_4.out.kp (Below.refl _ _).drew)
  have m4_5:=UF (m4_4.out.kp (Below.refl _ _).drew)
  clear T_4 U_4 m1_4 m2_4 V_4 m3_4 m4_4
  go_region_held3 (fun w'=>w'.cell? ⟨w.heap.size,0,none⟩=some (.bool false)∧w'.cell? ⟨w.heap.size,1,none⟩=some (.slice a1 l1 c1)∧w'.cell? ⟨w.heap.size,2,none⟩=some (.slice a2 l2 c2)∧w'.cell? ⟨w.heap.size+1,0,none⟩=some (.bool q)∧w'.cell? ⟨w.heap.size+1,1,none⟩=some (.slice a3 l3 c3)∧w'.cell? ⟨w.heap.size+1,2,none⟩=some (.slice a4 l4 c4))
   (first|(refine ⟨?_,?_,?_,?_,?_,?_⟩<;>assumption)|go_keep)
   (first
    | (go_at_call 86;(with_reducible refine (CDB.out _ m3_5.out m4_5.out).mono ?_);rintro e w6 ⟨vB,rfl,hB,k6⟩;have T_6:=UF (T_5.out.kp k6);have U_6:=UF (U_5.out.kp k6);have m1_6:=UF (m1_5.out.kp k6);have m2_6:=UF (m2_5.out.kp k6);have V_6:=UF (V_5.out.kp k6);have m3_6:=UF (m3_5.out.kp k6);have m4_6:=UF (m4_5.out.kp k6);clear T_5 U_5 m1_5 m2_5 V_5 m3_5 m4_5;have B_6:=UF hB;clear hB k6;obtain ⟨g0,g1,g2,_⟩:=T_6.out.ra.cells;obtain ⟨h0,h1,h2,_⟩:=T_6.out.rb.cells)
    | (go_at_call 85;(with_reducible refine (CM1.out _ _ _ m1_6.out B_6.out).mono ?_);rintro e w7 ⟨vC,rfl,hC,k7⟩;have T_7:=UF (T_6.out.kp k7);have U_7:=UF (U_6.out.kp k7);have m1_7:=UF (m1_6.out.kp k7);have m2_7:=UF (m2_6.out.kp k7);have V_7:=UF (V_6.out.kp k7);have m3_7:=UF (m3_6.out.kp k7);have m4_7:=UF (m4_6.out.kp k7);have B_7:=UF (B_6.out.kp k7);clear T_6 U_6 m1_6 m2_6 V_6 m3_6 m4_6 B_6;have C_7:=UF hC;clear hC k7;obtain ⟨g0,g1,g2,_⟩:=T_7.out.ra.cells;obtain ⟨h0,h1,h2,_⟩:=T_7.out.rb.cells)
    | (go_at_call 86;(with_reducible refine (CDA.out _ m1_7.out m2_7.out).mono ?_);rintro e w8 ⟨vA,rfl,hA,k8⟩;have T_8:=UF (T_7.out.kp k8);have U_8:=UF (U_7.out.kp k8);have m1_8:=UF (m1_7.out.kp k8);have m2_8:=UF (m2_7.out.kp k8);have V_8:=UF (V_7.out.kp k8);have m3_8:=UF (m3_7.out.kp k8);have m4_8:=UF (m4_7.out.kp k8);have B_8:=UF (B_7.out.kp k8);have C_8:=UF (C_7.out.kp k8);clear T_7 U_7 m1_7 m2_7 V_7 m3_7 m4_7 B_7 C_7;have A_8:=UF hA;clear hA k8;obtain ⟨g0,g1,g2,_⟩:=T_8.out.ra.cells;obtain ⟨h0,h1,h2,_⟩:=T_8.out.rb.cells)
    | (go_at_call 85;(with_reducible refine (CM2.out _ _ _ m3_8.out A_8.out).mono ?_);rintro e w9 ⟨vD,rfl,hD,k9⟩;have T_9:=UF (T_8.out.kp k9);have U_9:=UF (U_8.out.kp k9);have m1_9:=UF (m1_8.out.kp k9);have m2_9:=UF (m2_8.out.kp k9);have V_9:=UF (V_8.out.kp k9);have m3_9:=UF (m3_8.out.kp k9);have m4_9:=UF (m4_8.out.kp k9);have B_9:=UF (B_8.out.kp k9);have C_9:=UF (C_8.out.kp k9);have A_9:=UF (A_8.out.kp k9);clear T_8 U_8 m1_8 m2_8 V_8 m3_8 m4_8 B_8 C_8 A_8;have D_9:=UF hD;clear hD k9;obtain ⟨g0,g1,g2,_⟩:=T_9.out.ra.cells;obtain ⟨h0,h1,h2,_⟩:=T_9.out.rb.cells)
    | (go_at_call 84;(with_reducible refine (CC.out _ _ _ C_9.out D_9.out).mono ?_);rintro e w10 ⟨rfl,k10⟩;have T_10:=UF (T_9.out.kp k10);have U_10:=UF (U_9.out.kp k10);have m1_10:=UF (m1_9.out.kp k10);have m2_10:=UF (m2_9.out.kp k10);have V_10:=UF (V_9.out.kp k10);have m3_10:=UF (m3_9.out.kp k10);have m4_10:=UF (m4_9.out.kp k10);have B_10:=UF (B_9.out.kp k10);have C_10:=UF (C_9.out.kp k10);have A_10:=UF (A_9.out.kp k10);have D_10:=UF (D_9.out.kp k10);clear T_9 U_9 m1_9 m2_9 V_9 m3_9 m4_9 B_9 C_9 A_9 D_9;clear k10;obtain ⟨g0,g1,g2,_⟩:=T_10.out.ra.cells;obtain ⟨h0,h1,h2,_⟩:=T_10.out.rb.cells))
  go_wp2
  go_ret
  exact ⟨by simp,T_10.out.k⟩
 ·skip
  go_enter Tryz.func37,Tryz.ntmps37
  have KN:=HT.out.k
  have U_e:=UF (HU.out.kp KN)
  have m1_e:=UF (Hm1.out.kp KN)
  have m2_e:=UF (Hm2.out.kp KN)
  have V_e:=UF (HV.out.kp KN)
  have m3_e:=UF (Hm3.out.kp KN)
  have m4_e:=UF (Hm4.out.kp KN)
  clear KN
  obtain ⟨g0,g1,g2,_⟩:=HT.out.ra.cells
  obtain ⟨h0,h1,h2,_⟩:=HT.out.rb.cells
  go_upto_region 1 with fail
  have T_2:=UF (HT.out.kp (Below.refl _ _).drew)
  have U_2:=UF (U_e.out.kp (Below.refl _ _).drew)
  have m1_2:=UF (m1_e.out.kp (Below.refl _ _).drew)
  have m2_2:=UF (m2_e.out.kp (Below.refl _ _).drew)
  have V_2:=UF (V_e.out.kp (Below.refl _ _).drew)
  have m3_2:=UF (m3_e.out.kp (Below.refl _ _).drew)
  have m4_2:=UF (m4_e.out.kp (Below.refl _ _).drew)
  clear HT U_e m1_e m2_e V_e m3_e m4_e
  go_region_held3 (fun w'=>w'.cell? ⟨w.heap.size,0,none⟩=some (.bool true)∧w'.cell? ⟨w.heap.size,1,none⟩=some (.slice a1 l1 c1)∧w'.cell? ⟨w.heap.size,2,none⟩=some (.slice a2 l2 c2)∧w'.cell? ⟨w.heap.size+1,0,none⟩=some (.bool q)∧w'.cell? ⟨w.heap.size+1,1,none⟩=some (.slice a3 l3 c3)∧w'.cell? ⟨w.heap.size+1,2,none⟩=some (.slice a4 l4 c4))
   (first|(refine ⟨?_,?_,?_,?_,?_,?_⟩<;>assumption)|go_keep)
   (first
    | (go_at_call 48;(with_reducible refine (CA.out _ _ U_2.out).mono ?_);rintro e w3 ⟨rfl,k3⟩;have T_3:=UF (T_2.out.kp k3);have U_3:=UF (U_2.out.kp k3);have m1_3:=UF (m1_2.out.kp k3);have m2_3:=UF (m2_2.out.kp k3);have V_3:=UF (V_2.out.kp k3);have m3_3:=UF (m3_2.out.kp k3);have m4_3:=UF (m4_2.out.kp k3);clear T_2 U_2 m1_2 m2_2 V_2 m3_2 m4_2;clear k3;obtain ⟨g0,g1,g2,_⟩:=T_3.out.ra.cells;obtain ⟨h0,h1,h2,_⟩:=T_3.out.rb.cells)
    | (go_at_call 48;(with_reducible refine (CB.out _ _ V_3.out).mono ?_);rintro e w4 ⟨rfl,k4⟩;have T_4:=UF (T_3.out.kp k4);have U_4:=UF (U_3.out.kp k4);have m1_4:=UF (m1_3.out.kp k4);have m2_4:=UF (m2_3.out.kp k4);have V_4:=UF (V_3.out.kp k4);have m3_4:=UF (m3_3.out.kp k4);have m4_4:=UF (m4_3.out.kp k4);clear T_3 U_3 m1_3 m2_3 V_3 m3_3 m4_3;clear k4;obtain ⟨g0,g1,g2,_⟩:=T_4.out.ra.cells;obtain ⟨h0,h1,h2,_⟩:=T_4.out.rb.cells))
  go_upto_region 6 with fail
  have T_5:=UF (T_4.out.kp (Below.refl _ _).drew)
  have U_5:=UF (U_4.out.kp (Below.refl _ _).drew)
  have m1_5:=UF (m1_4.out.kp (Below.refl _ _).drew)
  have m2_5:=UF (m2_4.out.kp (Below.refl _ _).drew)
  have V_5:=UF (V_4.out.kp (Below.refl _ _).drew)
  have m3_5:=UF (m3_4.out.kp (Below.refl _ _).drew)
  have m4_5:=UF (m4_4.out.kp (Below.refl _ _).drew)
  clear T_4 U_4 m1_4 m2_4 V_4 m3_4 m4_4
  go_region_held3 (fun w'=>w'.cell? ⟨w.heap.size,0,none⟩=some (.bool true)∧w'.cell? ⟨w.heap.size,1,none⟩=some (.slice a1 l1 c1)∧w'.cell? ⟨w.heap.size,2,none⟩=some (.slice a2 l2 c2)∧w'.cell? ⟨w.heap.size+1,0,none⟩=some (.bool q)∧w'.cell? ⟨w.heap.size+1,1,none⟩=some (.slice a3 l3 c3)∧w'.cell? ⟨w.heap.size+1,2,none⟩=some (.slice a4 l4 c4))
   (first|(refine ⟨?_,?_,?_,?_,?_,?_⟩<;>assumption)|go_keep)
   (first
    | (go_at_call 86;(with_reducible refine (CDB.out _ m3_5.out m4_5.out).mono ?_);rintro e w6 ⟨vB,rfl,hB,k6⟩;have T_6:=UF (T_5.out.kp k6);have U_6:=UF (U_5.out.kp k6);have m1_6:=UF (m1_5.out.kp k6);have m2_6:=UF (m2_5.out.kp k6);have V_6:=UF (V_5.out.kp k6);have m3_6:=UF (m3_5.out.kp k6);have m4_6:=UF (m4_5.out.kp k6);clear T_5 U_5 m1_5 m2_5 V_5 m3_5 m4_5;have B_6:=UF hB;clear hB k6;obtain ⟨g0,g1,g2,_⟩:=T_6.out.ra.cells;obtain ⟨h0,h1,h2,_⟩:=T_6.out.rb.cells)
    | (go_at_call 85;(with_reducible refine (CM1.out _ _ _ m1_6.out B_6.out).mono ?_);rintro e w7 ⟨vC,rfl,hC,k7⟩;have T_7:=UF (T_6.out.kp k7);have U_7:=UF (U_6.out.kp k7);have m1_7:=UF (m1_6.out.kp k7);have m2_7:=UF (m2_6.out.kp k7);have V_7:=UF (V_6.out.kp k7);have m3_7:=UF (m3_6.out.kp k7);have m4_7:=UF (m4_6.out.kp k7);have B_7:=UF (B_6.out.kp k7);clear T_6 U_6 m1_6 m2_6 V_6 m3_6 m4_6 B_6;have C_7:=UF hC;clear hC k7;obtain ⟨g0,g1,g2,_⟩:=T_7.out.ra.cells;obtain ⟨h0,h1,h2,_⟩:=T_7.out.rb.cells)
    | (go_at_call 86;(with_reducible refine (CDA.out _ m1_7.out m2_7.out).mono ?_);rintro e w8 ⟨vA,rfl,hA,k8⟩;have T_8:=UF (T_7.out.kp k8);have U_8:=UF (U_7.out.kp k8);have m1_8:=UF (m1_7.out.kp k8);have m2_8:=UF (m2_7.out.kp k8);have V_8:=UF (V_7.out.kp k8);have m3_8:=UF (m3_7.out.kp k8);have m4_8:=UF (m4_7.out.kp k8);have B_8:=UF (B_7.out.kp k8);have C_8:=UF (C_7.out.kp k8);clear T_7 U_7 m1_7 m2_7 V_7 m3_7 m4_7 B_7 C_7;have A_8:=UF hA;clear hA k8;obtain ⟨g0,g1,g2,_⟩:=T_8.out.ra.cells;obtain ⟨h0,h1,h2,_⟩:=T_8.out.rb.cells)
    | (go_at_call 85;(with_reducible refine (CM2.out _ _ _ m3_8.out A_8.out).mono ?_);rintro e w9 ⟨vD,rfl,hD,k9⟩;have T_9:=UF (T_8.out.kp k9);have U_9:=UF (U_8.out.kp k9);have m1_9:=UF (m1_8.out.kp k9);have m2_9:=UF (m2_8.out.kp k9);have V_9:=UF (V_8.out.kp k9);have m3_9:=UF (m3_8.out.kp k9);have m4_9:=UF (m4_8.out.kp k9);have B_9:=UF (B_8.out.kp k9);have C_9:=UF (C_8.out.kp k9);have A_9:=UF (A_8.out.kp k9);clear T_8 U_8 m1_8 m2_8 V_8 m3_8 m4_8 B_8 C_8 A_8;have D_9:=UF hD;clear hD k9;obtain ⟨g0,g1,g2,_⟩:=T_9.out.ra.cells;obtain ⟨h0,h1,h2,_⟩:=T_9.out.rb.cells)
    | (go_at_call 84;(with_reducible refine (CC.out _ _ _ C_9.out D_9.out).mono ?_);rintro e w10 ⟨rfl,k10⟩;have T_10:=UF (T_9.out.kp k10);have U_10:=UF (U_9.out.kp k10);have m1_10:=UF (m1_9.out.kp k10);have m2_10:=UF (m2_9.out.kp k10);have V_10:=UF (V_9.out.kp k10);have m3_10:=UF (m3_9.out.kp k10);have m4_10:=UF (m4_9.out.kp k10);have B_10:=UF (B_9.out.kp k10);have C_10:=UF (C_9.out.kp k10);have A_10:=UF (A_9.out.kp k10);have D_10:=UF (D_9.out.kp k10);clear T_9 U_9 m1_9 m2_9 V_9 m3_9 m4_9 B_9 C_9 A_9 D_9;clear k10;obtain ⟨g0,g1,g2,_⟩:=T_10.out.ra.cells;obtain ⟨h0,h1,h2,_⟩:=T_10.out.rb.cells))
  go_wp2
  go_ret
  exact ⟨rfl,T_10.out.k⟩
theorem OI {w:World} {u:Value} {x:Rat} (hu:AE w u x) {v:Value} {y:Rat} (hv:AE w v y) {j k:Nat} (hs:RSz j x) (ht:RSz k y) (hj:j≤500000000) (hk:k≤500000000):
  Calls Tryz.prog 37 #[u,v] w fun e w'=>e= .returned (.int .i64 (Dt x y))∧Kp w w':=by
 by_cases h9:Cg x=Cg y
 ·have h:=KU hu hv hs ht hj hk h9
  have he:(if decide (x.num<0)=true then-AZ (x.num.natAbs*y.den) (y.num.natAbs*x.den) else AZ (x.num.natAbs*y.den) (y.num.natAbs*x.den))=Dt x y:=by
   unfold Cg at h9
   by_cases hx:x.num<0
   ·rw [if_pos (decide_eq_true hx),←Pl]
    refine (LW (by omega) ?_).symm
    by_cases hy:y.num≤0
    ·exact hy
    ·rw [if_neg (by omega),if_pos hx,if_neg (by omega),if_neg (by omega)] at h9
     omega
   ·rw [if_neg (by rw [decide_eq_false hx];decide)]
    refine (Iq (by omega) ?_).symm
    by_cases hy:0≤y.num
    ·exact hy
    ·rw [if_neg hx,if_neg (by omega: ¬y.num=0),if_pos (by omega)] at h9
     split at h9<;>omega
  rw [he] at h
  exact h
 ·exact KX hu hv h9
theorem Fz (n:Int) (h1: -9223372036854775808≤n) (h2:n<9223372036854775808) (w:World):
  Calls Tryz.prog 61 #[.int .i64 n] w fun e w'=> ∃v,e= .returned (.tuple #[v,.bool (decide (n<0))])∧M w' v n.natAbs∧Kp w w':=by
 have HO:=UF (Ff n.natAbs w (by omega))
 by_cases h:n<0
 ·have hb:decide (n<0)=true:=decide_eq_true h
  rw [hb]
  have he:(n.natAbs:Int)= -n:=by omega
  rw [he] at HO
  have e1:IntKind.i64.wrap (n+1)=n+1:=IntWalk.i64_in _ (by omega)
  have e2:IntKind.i64.wrap (-(n+1))= -(n+1):=IntWalk.i64_in _ (by omega)
  have e3:IntKind.u64.wrap (-(n+1))= -(n+1):=IntWalk.u64_in _ (by omega)
  have e4:IntKind.u64.wrap (-(n+1)+1)= -n:=by rw [IntWalk.u64_in _ (by omega)];omega
  have e5:(-(n+1)+1:Int)= -n:=by omega
  clear he
  go_enter Tryz.func61,Tryz.ntmps61
  go_wp2_with (go_at_call 103;(with_reducible refine HO.out.mono ?_);rintro e w1 ⟨v,rfl,hv,k1⟩;refine Hid.out ?_)
  refine UF ?_
  go_wp2
  go_ret2
  exact ⟨_,rfl,hv,k1⟩
 ·have hb:decide (n<0)=false:=decide_eq_false h
  rw [hb]
  have he:(n.natAbs:Int)=n:=Int.natAbs_of_nonneg (by omega)
  rw [he] at HO
  have e3:IntKind.u64.wrap n=n:=IntWalk.u64_in _ (by omega)
  clear he
  go_enter Tryz.func61,Tryz.ntmps61
  go_wp2_with (go_at_call 103;(with_reducible refine HO.out.mono ?_);rintro e w1 ⟨v,rfl,hv,k1⟩;refine Hid.out ?_)
  refine UF ?_
  go_wp2
  go_ret2
  exact ⟨_,rfl,hv,k1⟩
set_option maxRecDepth 20000 in
theorem Mj {w:World} (n d:Int) (h1: -9223372036854775808≤n) (h2:n<9223372036854775808) (h3: -9223372036854775808≤d) (h4:d<9223372036854775808) (h0:d≠0):
  Calls Tryz.prog 102 #[.int .i64 n,.int .i64 d] w fun e w'=> ∃v,e= .returned (.tuple #[v,.int .i64 0])∧AE w' v (AP (decide (n<0) !=decide (d<0)) n.natAbs d.natAbs)∧Kp w w':=by
 have HT:=UF (Nul.new w)
 have CN:=UF (fun w'=>Fz n h1 h2 w')
 have CD:=UF (fun w'=>Fz d h3 h4 w')
 have sz: ∀z:Int,-9223372036854775808≤z→z<9223372036854775808→Sz 2 z.natAbs:=fun z a b=>AR _ 2 (by simp;omega)
 have hd0:d.natAbs≠0:=by omega
 have CR:=UF (fun w' s va vb (a:M w' va n.natAbs) (b:M w' vb d.natAbs)=>Ek (neg:=s) a b (sz n h1 h2) (sz d h3 h4) (by omega) (by omega) hd0)
 have hz:(d==0)=false:=by simpa using h0
 obtain ⟨p,hp⟩: ∃p,p=decide (n<0):=⟨_,rfl⟩
 obtain ⟨q,hq⟩: ∃p,p=decide (d<0):=⟨_,rfl⟩
 rw [←hp] at CN⊢
 rw [←hq] at CD⊢
 clear hp hq sz hd0 h0 h1 h2 h3 h4
 go_enter Tryz.func102,Tryz.ntmps102
 have KN:=HT.out.k
 clear KN
 go_wp2_with (go_at_call 61;(with_reducible refine (CN.out _).mono ?_);rintro e w2 ⟨vn,rfl,hvn,k2⟩;refine Hid.out ?_)
 refine UF ?_
 have T_2:=UF (HT.out.kp k2)
 clear HT
 have N_2:=UF hvn
 clear hvn k2
 go_wp2_with (go_at_call 61;(with_reducible refine (CD.out _).mono ?_);rintro e w3 ⟨vd,rfl,hvd,k3⟩;refine Hid.out ?_)
 refine UF ?_
 have T_3:=UF (T_2.out.kp k3)
 have N_3:=UF (N_2.out.kp k3)
 clear T_2 N_2
 have D_3:=UF hvd
 clear hvd k3
 go_wp2_with (go_at_call 96;(with_reducible refine (CR.out _ _ _ _ N_3.out D_3.out).mono ?_);rintro e w4 ⟨vr,rfl,hvr,k4⟩;refine Hid.out ?_)
 refine UF ?_
 have T_4:=UF (T_3.out.kp k4)
 have N_4:=UF (N_3.out.kp k4)
 have D_4:=UF (D_3.out.kp k4)
 clear T_3 N_3 D_3
 clear k4
 obtain ⟨sgn,q1,r1,s1,q2,r2,s2,rfl⟩:=hvr.lit
 obtain ⟨⟨e0,e1,e2,f0,f1,f2⟩,HPP,HV,HKF⟩:=BH T_4.out.rr T_4.out.k (Below.refl _ _) hvr (by omega)
 clear hvr
 obtain ⟨k0,k1,k2⟩:=HPP.out
 go_wp2
 exact bodyPost_ret (v:= .tuple #[.agg #[.bool sgn,.slice q1 r1 s1,.slice q2 r2 s2],.int .i64 0]) (by simp [results,Tryz.results102,go_sem,k0,k1,k2]) rfl ⟨_,rfl,HV.out,HKF.out⟩
set_option maxRecDepth 20000 in
theorem Mk {w:World} (n d:Int) (h1: -9223372036854775808≤n) (h2:n<9223372036854775808) (h3: -9223372036854775808≤d) (h4:d<9223372036854775808) (h0:d≠0):
  Calls Tryz.prog 60 #[.int .i64 n,.int .i64 d] w fun e w'=> ∃r,e= .returned r∧AE w' r (AP (decide (n<0) !=decide (d<0)) n.natAbs d.natAbs)∧Kp w w':=by
 have HT:=UF (Nul.new w)
 have CM:=UF (fun w'=>Mj (w:=w') n d h1 h2 h3 h4 h0)
 clear h0 h1 h2 h3 h4
 go_enter Tryz.func60,Tryz.ntmps60
 have KN:=HT.out.k
 clear KN
 go_wp2_with (go_at_call 102;(with_reducible refine (CM.out _).mono ?_);rintro e w2 ⟨vr,rfl,hvr,k2⟩;refine Hid.out ?_)
 refine UF ?_
 have T_2:=UF (HT.out.kp k2)
 clear HT
 clear k2
 obtain ⟨sgn,q1,r1,s1,q2,r2,s2,rfl⟩:=hvr.lit
 have VR:=UF hvr
 clear hvr
 have T_3:=UF (T_2.out.kp (Kp.alloc _ (Obj.cells #[Value.bool sgn,Value.slice q1 r1 s1,Value.slice q2 r2 s2] 33)))
 have V9_3:=UF (VR.out.kp (Kp.alloc _ (Obj.cells #[Value.bool sgn,Value.slice q1 r1 s1,Value.slice q2 r2 s2] 33)))
 clear T_2 VR
 obtain ⟨⟨e0,e1,e2,f0,f1,f2⟩,HPP,HV,HKF⟩:=BH T_3.out.rr T_3.out.k (Below.refl _ _) V9_3.out (by omega)
 obtain ⟨k0,k1,k2⟩:=HPP.out
 go_wp2
 exact bodyPost_ret (v:= .agg #[.bool sgn,.slice q1 r1 s1,.slice q2 r2 s2]) (by simp [results,Tryz.results60,go_sem,k0,k1,k2]) rfl ⟨_,rfl,HV.out,HKF.out⟩
set_option maxRecDepth 20000 in
theorem OH {w:World} (n:Int) (h1: -9223372036854775808≤n) (h2:n<9223372036854775808):
  Calls Tryz.prog 20 #[.int .i64 n] w fun e w'=> ∃r,e= .returned r∧AE w' r ((n:Rat))∧Kp w w':=by
 have HT:=UF (Nul.new w)
 have CN:=UF (fun w'=>Fz n h1 h2 w')
 have hn:AP (decide (n<0)) n.natAbs 1=(n:Rat):=by unfold AP;rw [GW,Rat.mkRat_one]
 rw [←hn]
 have h0:n.natAbs=0→decide (n<0)=false:=fun h=>decide_eq_false (by omega)
 have H0:=UF h0
 obtain ⟨p,hp⟩: ∃p,p=decide (n<0):=⟨_,rfl⟩
 rw [←hp] at CN H0⊢
 clear hp h1 h2 hn h0
 go_enter Tryz.func20,Tryz.ntmps20
 have KN:=HT.out.k
 clear KN
 go_wp2_with (go_at_call 61;(with_reducible refine (CN.out _).mono ?_);rintro e w2 ⟨vn,rfl,hvn,k2⟩;refine Hid.out ?_)
 refine UF ?_
 have T_2:=UF (HT.out.kp k2)
 clear HT
 have N_2:=UF hvn
 clear hvn k2
 obtain ⟨o9,l9,c9,rfl⟩:=Cd N_2.out
 have VR:=UF (AE.of (neg:=p) (by decide) (Nat.gcd_one_right _) N_2.out (by rw [if_pos rfl];exact Hz _) H0.out)
 obtain ⟨⟨e0,e1,e2,f0,f1,f2⟩,HPP,HV,HKF⟩:=BH T_2.out.rr T_2.out.k (Below.refl _ _) VR.out (by omega)
 go_wp2
 obtain ⟨k0,k1,k2⟩:=HPP.out
 exact bodyPost_ret (v:= .agg #[.bool p,.slice o9 l9 c9,.slice none 0 0]) (by simp [results,Tryz.results20,go_sem,k0,k1,k2]) rfl ⟨_,rfl,HV.out,HKF.out⟩
end Go.Proofs.YtoabfmaagnmlhaaGreatDoor
