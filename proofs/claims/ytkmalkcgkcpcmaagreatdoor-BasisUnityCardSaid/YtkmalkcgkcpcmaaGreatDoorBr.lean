/-
  Several texts in one: Rq, Rq1, Rq5, Rq7.
-/
import Derived.Test.YtkmalkcgkcpcmaaGreatDoorBk
import Derived.Test.YtkmalkcgkcpcmaaGreatDoorBi
import Derived.Test.YtkmalkcgkcpcmaaGreatDoorBy
import Derived.Test.YtkmalkcgkcpcmaaGreatDoorBc
namespace Go.Proofs.YtkmalkcgkcpcmaaGreatDoor
open Lib renaming hid→Yh
open Nat renaming le_refl→Yi
set_option maxHeartbeats 16000000
open Go.RowKit
set_option maxRecDepth 20000 in
theorem S7 {w:World} {s:Bool} {num den:Value} {n k:Nat} (hn:M w num n) (hk:M w den k):
  Calls Tryz.prog 82 #[.agg #[.bool s,num,den]] w fun e w'=> ∃v,e= .returned v∧M w' v (if k=0 then 1 else k)∧Kp w w':=by
 have MK:=Yh (fun w' (kk:Kp w w')=>hk.kp kk)
 obtain ⟨no,nl,nc,rfl⟩:=Cm hn
 obtain ⟨bo,bc,rfl,b1,b2,_,_⟩:=hk
 clear hn
 by_cases h0:k=0
 ·subst h0
  rw [AI] at b1⊢
  clear MK
  go_enter Tryz.func82,Tryz.ntmps82
  go_wp2
  go_ret
  refine ⟨.slice (some ⟨w.heap.size+1,0,none⟩) 1 1,rfl,Qa _ _ _ _ ?_ (Yi _) (by decide),(Kp.alloc w _).tr (Kp.alloc _ _)⟩
  have hcell:=cell_of_row _ _ 0 _ _ _ (heap_alloc_new (w.alloc (Obj.cells #[Value.bool s,Value.slice no nl nc,Value.slice bo 0 bc] 33)) (Obj.cells #[Value.int IntKind.u32 1] 112))
  rw [World.size_alloc] at hcell
  exact hcell
 ·rw [if_neg h0]
  have hl:=DK h0
  obtain ⟨lb,hlb⟩: ∃l,l=(toL k).length:=⟨_,rfl⟩
  rw [←hlb] at b1 hl MK⊢
  have hz:(((lb:Nat):Int)==0)=false:=by simp;omega
  clear hlb h0
  go_enter Tryz.func82,Tryz.ntmps82
  go_wp2
  go_ret
  exact ⟨_,rfl,MK.out _ (by repeat first|exact Below.refl _ _|apply Kp.dr|exact Kp.alloc _ _),by repeat first|exact Below.refl _ _|apply Kp.dr|exact Kp.alloc _ _⟩
theorem FA {w:World} {s:Bool} {num den:Value} {n:Nat} {x:Rat} (hn:M w num n) (hk:M w den (A7 x)):
  Calls Tryz.prog 82 #[.agg #[.bool s,num,den]] w fun e w'=> ∃v,e= .returned v∧M w' v x.den∧Kp w w':=by
 have:=S7 (s:=s) hn hk
 rw [Dq] at this
 exact this
theorem GM {w:World} {v:Value} {xs:List Nat} (h:Rd w v xs) (hl:xs.length≤1099511627776):
  Calls Tryz.prog 113 #[v] w fun e w'=> ∃o c,e= .returned (.slice o (toL (val xs)).length c)∧M w' (.slice o (toL (val xs)).length c) (val xs)∧Kp w w':=by
 have hL:Ag xs:=by obtain ⟨_,_,_,_,_,h,_⟩:=h;exact h
 refine (DM v xs w h hl).mono ?_
 rintro e w' ⟨v',rfl,h',k⟩
 rw [←BV hL] at h'
 obtain ⟨o,c,rfl,_⟩:=id h'
 exact ⟨o,c,rfl,h',k⟩
theorem Kc {w:World} {v:Value} (h:M w v 1): ∃b off c,v= .slice (some ⟨b,off,none⟩) 1 c∧w.cell? ⟨b,off,none⟩=some (.int .u32 1):=by
 obtain ⟨o,c,e,hc,hm,hL,hs⟩:=h
 rw [FQ] at e hs
 obtain ⟨b,off,rfl,hcell⟩:=hs (by simp)
 exact ⟨b,off,c,e,by simpa using hcell 0 (by simp)⟩
theorem P6 {w:World} {v:Value} {n:Nat} (h:M w v n) (hn:n≠1):(∃o l c,v= .slice o l c∧l≠1)∨(∃b off c x,v= .slice (some ⟨b,off,none⟩) 1 c∧w.cell? ⟨b,off,none⟩=some (.int .u32 ((x:Nat):Int))∧x≠1):=by
 obtain ⟨o,c,e,hc,hm,hL,hs⟩:=h
 by_cases h1:(toL n).length=1
 ·right
  obtain ⟨b,off,rfl,hcell⟩:=hs (by rintro h2;rw [h2] at h1;simp at h1)
  refine ⟨b,off,c,n,by rw [e,h1],?_,hn⟩
  have:=hcell 0 (by omega)
  rw [DW h1,Nat.add_zero] at this
  exact this
 ·left
  exact ⟨o,_,c,e,h1⟩
set_option maxRecDepth 20000 in
theorem MS {w:World} {neg:Bool} {a b:Value} {xs ys:List Nat} (ha:Rd w a xs) (hb:Rd w b ys) (hl:xs.length≤1073741824) (hl2:ys.length≤1073741824) (h:val xs=0):
  Calls Tryz.prog 92 #[.bool neg,a,b] w fun e w'=>e= .returned (.agg #[.bool false,.slice none 0 0,.slice none 0 0])∧Kp w w':=by
 have KW:=Kp.alloc w (Obj.cells #[Value.bool false,Value.slice none 0 0,Value.slice none 0 0] 33)
 have HA:=Yh (GM (ha.kp KW) (by omega))
 have HB:=Yh (fun w' kk=>GM ((hb.kp KW).kp (w':=w') kk) (by omega))
 have HRES:=Yh (Res.new w (Value.bool false) (Value.slice none 0 0) (Value.slice none 0 0))
 rw [h,AI] at HA
 have HKW:=Yh KW
 clear ha hb hl hl2 h KW
 go_enter Tryz.func92,Tryz.ntmps92
 go_wp2_with (go_at_call 113;(with_reducible refine HA.out.mono ?_);rintro e w1 ⟨o1,c1,rfl,m1,K1⟩;refine Hid.out ?_)
 refine Yh ?_
 have HB1:=Yh (HB.out w1 K1)
 have HK1:=Yh K1
 clear m1 K1
 go_wp2_with (go_at_call 113;(with_reducible refine HB1.out.mono ?_);rintro e w2 ⟨o2,c2,rfl,m2,K2⟩;refine Hid.out ?_)
 refine Yh ?_
 have HK2:=Yh (HK1.out.tr K2)
 obtain ⟨d0,d1,d2,f0,f1,f2⟩:=(HRES.out.kp HK2.out).cells
 have HP:=Yh ((HRES.out.kp HK2.out).put (.bool false) (.slice none 0 0) (.slice none 0 0)).cells
 unfold Ed at HP
 clear m2 K2
 go_wp2
 obtain ⟨k0,k1,k2,_⟩:=HP.out
 exact bodyPost_ret (v:= .agg #[.bool false,.slice none 0 0,.slice none 0 0]) (by simp [results,Tryz.results92,go_sem,k0,k1,k2]) rfl ⟨rfl,(HKW.out.tr HK2.out).put3 (Yi _) _ _ _⟩
def WC (w0 wc:World) (n d:Nat) (va vb:Value):Prop:=M wc va n∧M wc vb d∧Kp w0 wc
set_option maxRecDepth 20000 in
theorem MT {w:World} {neg:Bool} {a b:Value} {xs ys:List Nat} (ha:Rd w a xs) (hb:Rd w b ys) (hl:xs.length≤1073741824) (hl2:ys.length≤1073741824) (h0:val ys≠0) (h:val xs≠0):
  Calls Tryz.prog 92 #[.bool neg,a,b] w fun e w'=> ∃v,e= .returned v∧AC w' v (AD neg (val xs) (val ys))∧Kp w w':=by
 have KW:=Kp.alloc w (Obj.cells #[Value.bool false,Value.slice none 0 0,Value.slice none 0 0] 33)
 have hLa:Ag xs:=by obtain ⟨_,_,_,_,_,h,_⟩:=ha;exact h
 have hLb:Ag ys:=by obtain ⟨_,_,_,_,_,h,_⟩:=hb;exact h
 have hsa:(toL (val xs)).length≤1073741824:=Sz.val hLa _ hl
 have hsb:(toL (val ys)).length≤1073741824:=Sz.val hLb _ hl2
 have HA:=Yh (GM (ha.kp KW) (by omega))
 have HB:=Yh (fun w' kk=>GM ((hb.kp KW).kp (w':=w') kk) (by omega))
 have HRES:=Yh (Res.new w (Value.bool false) (Value.slice none 0 0) (Value.slice none 0 0))
 obtain ⟨n,hn⟩: ∃n,n=val xs:=⟨_,rfl⟩
 obtain ⟨d,hd⟩: ∃d,d=val ys:=⟨_,rfl⟩
 rw [←hn] at HA h hsa⊢
 rw [←hd] at HB h0 hsb⊢
 have hlp:=DK h
 obtain ⟨la,hla⟩: ∃l,l=(toL n).length:=⟨_,rfl⟩
 rw [←hla] at HA hlp
 have hlz:((la:Int)==0)=false:=beq_eq_false_iff_ne.2 (by omega)
 obtain ⟨g,hg⟩: ∃g,g=Nat.gcd n d:=⟨_,rfl⟩
 have hg0:g≠0:=by rw [hg];exact Nat.ne_of_gt (Nat.gcd_pos_of_pos_right _ (Nat.pos_of_ne_zero h0))
 have HG:=Yh (fun w' va vb (ma:M w' va n) (mb:M w' vb d)=>SV ma mb hsa hsb)
 rw [←hg] at HG
 have HD1:=Yh (fun w' va vg (ma:M w' va n) (mg:M w' vg g)=>GV ma mg hsa hg0)
 have HD2:=Yh (fun w' va vg (ma:M w' va d) (mg:M w' vg g)=>GV ma mg hsb hg0)
 have hlow:=Hk neg (n:=n) (d:=d) (g:=g) (by rw [hg];exact Nat.gcd_dvd_left _ _) (by rw [hg];exact Nat.gcd_dvd_right _ _) h0
 have hcop:Nat.gcd (n/g) (d/g)=1:=by rw [hg];exact FG h0
 have hn0:n/g≠0:=Nat.ne_of_gt (Nat.div_pos (Nat.le_of_dvd (Nat.pos_of_ne_zero h) (by rw [hg];exact Nat.gcd_dvd_left _ _)) (Nat.pos_of_ne_zero hg0))
 have hd0:d/g≠0:=Nat.ne_of_gt (Nat.div_pos (Nat.le_of_dvd (Nat.pos_of_ne_zero h0) (by rw [hg];exact Nat.gcd_dvd_right _ _)) (Nat.pos_of_ne_zero hg0))
 rw [←hlow]
 have HFIN:=Yh (And.intro hcop (And.intro hn0 hd0))
 have HKW:=Yh KW
 have HG1:g=1→Hid (n=n/g∧d=d/g):=fun e=>Yh (by rw [e,Nat.div_one,Nat.div_one];exact ⟨rfl,rfl⟩)
 clear ha hb hl hl2 hLa hLb hsa hsb hn hd h h0 KW hla hg hg0 hlow hcop hn0 hd0
 go_enter Tryz.func92,Tryz.ntmps92
 go_wp2_with (go_at_call 113;(with_reducible refine HA.out.mono ?_);rintro e w1 ⟨o1,c1,rfl,m1,K1⟩;refine Hid.out ?_)
 refine Yh ?_
 have HB1:=Yh (HB.out w1 K1)
 have HM1:=Yh m1
 have HK1:=Yh K1
 clear m1 K1
 go_wp2_with (go_at_call 113;(with_reducible refine HB1.out.mono ?_);rintro e w2 ⟨o2,c2,rfl,m2,K2⟩;refine Hid.out ?_)
 refine Yh ?_
 have HM2:=Yh m2
 have HM1':=Yh (HM1.out.kp K2)
 have HK2:=Yh (HK1.out.tr K2)
 have HG2:=Yh (HG.out w2 _ _ HM1'.out m2)
 clear m2 K2
 go_wp2_with (go_at_call 119;(with_reducible refine HG2.out.mono ?_);rintro e w3 ⟨vg,rfl,mg,K3⟩;refine Hid.out ?_)
 refine Yh ?_
 have HMG:=Yh mg
 have HM13:=Yh (HM1'.out.kp K3)
 have HM23:=Yh (HM2.out.kp K3)
 have HK3:=Yh (HK2.out.tr K3)
 clear mg K3
 obtain ⟨t0,ht0⟩: ∃t,t=decide (g≠1):=⟨_,rfl⟩
 have HT0:=Yh ht0
 clear ht0
 go_upto_region 5 with fail
 go_cut [27] (fun t wc=>t= .bool t0∧w3=wc)
 case first=>
  by_cases hg1:g=1
  ·obtain rfl:t0=false:=by rw [HT0.out];exact decide_eq_false (fun h=>h hg1)
   subst hg1
   obtain ⟨gb,gof,gc,rfl,hgc⟩:=Kc HMG.out
   go_wp2_with fail
   go_meet
   exact ⟨rfl,rfl⟩
  ·obtain rfl:t0=true:=by rw [HT0.out];exact decide_eq_true hg1
   rcases P6 HMG.out hg1 with ⟨go,gl,gc,rfl,hgl⟩|⟨gb,gof,gc,x,rfl,hgc,hx⟩
   ·have hne2:((gl:Int) !=1)=true:=by rw [bne_iff_ne];omega
    clear hg1 HG1
    go_wp2_with fail
    go_meet
    exact ⟨rfl,rfl⟩
   ·have hne2:((x:Int) !=1)=true:=by rw [bne_iff_ne];omega
    clear hg1 HG1
    go_wp2_with fail
    go_meet
    exact ⟨rfl,rfl⟩
 case rest=>
 obtain ⟨rfl,rfl⟩:=hcut
 go_upto_if 27 with fail
 go_cut [1,2] (fun va vb wc=>WC (w.alloc (Obj.cells #[Value.bool false,Value.slice none 0 0,Value.slice none 0 0] 33)) wc (n/g) (d/g) va vb)
 case first=>
  cases t0
  ·have hg1:g=1:=by have:=of_decide_eq_false HT0.out.symm;omega
   have HE:=HG1 hg1
   clear HG1 hg1
   go_wp2_with fail
   go_meet
   exact ⟨HE.out.1▸HM13.out,HE.out.2▸HM23.out,HK3.out⟩
  ·have HX1:=Yh (HD1.out w3 _ _ HM13.out HMG.out)
   have HX2:=Yh (fun w' (kk:Kp w3 w')=>HD2.out w' _ _ (HM23.out.kp kk) (HMG.out.kp kk))
   clear HG1
   go_wp2_with (go_at_call 120;(with_reducible refine HX1.out.mono ?_);rintro e w4 ⟨q1,r1,rfl,mq1,_,K4⟩;refine Hid.out ?_)
   refine Yh ?_
   have HQ1:=Yh mq1
   have HK4:=Yh K4
   have HX22:=Yh (HX2.out w4 K4)
   clear mq1 K4
   go_wp2_with (go_at_call 120;(with_reducible refine HX22.out.mono ?_);rintro e w5 ⟨q2,r2,rfl,mq2,_,K5⟩;refine Hid.out ?_)
   refine Yh ?_
   have HPA:=Yh (show WC (w.alloc (Obj.cells #[Value.bool false,Value.slice none 0 0,Value.slice none 0 0] 33)) w5 (n/g) (d/g) q1 q2 from ⟨HQ1.out.kp K5,mq2,(HK3.out.tr HK4.out).tr K5⟩)
   clear mq2 K5
   go_wp2_with fail
   go_meet
   exact HPA.out
 case rest=>
  obtain ⟨mA,mB,KC⟩:=hcut
  have HMA:=Yh mA
  have HKC:=Yh KC
  obtain ⟨ao,al,ac,rfl⟩:=Cm mA
  have HR:=Yh (HRES.out.kp KC)
  obtain ⟨d0,d1,d2,f0,f1,f2⟩:=HR.out.cells
  by_cases hd1:d/g=1
  ·rw [hd1] at mB
   have HDG:=Yh hd1
   obtain ⟨bb,bof,bc,rfl,hbc⟩:=Kc mB
   have HP:=Yh (HR.out.put (.bool neg) (.slice ao al ac) (.slice none 0 0)).cells
   have HVA:=Yh (AC.of (neg:=neg) HFIN.out.2.2 HFIN.out.1 (HMA.out.res HR.out (Eu _) (Cl _ _ _) (Cl _ _ _) (.bool neg) (.slice ao al ac) (.slice none 0 0)) (by rw [if_pos HDG.out];exact Jn _) (fun h=>absurd h HFIN.out.2.1))
   unfold Ed at HP HVA
   clear mA mB KC hd1
   go_wp2
   obtain ⟨k0,k1,k2,_⟩:=HP.out
   exact bodyPost_ret (v:= .agg #[.bool neg,.slice ao al ac,.slice none 0 0]) (by simp [results,Tryz.results92,go_sem,k0,k1,k2]) rfl ⟨_,rfl,HVA.out,(HKW.out.tr HKC.out).put3 (Yi _) _ _ _⟩
  ·have HDG:=Yh hd1
   obtain ⟨bo,bl,bc,rfl⟩:=Cm mB
   have HP:=Yh (HR.out.put (.bool neg) (.slice ao al ac) (.slice bo bl bc)).cells
   have HVA:=Yh (AC.of (neg:=neg) HFIN.out.2.2 HFIN.out.1 (HMA.out.res HR.out (Eu _) (Cl _ _ _) (Cl _ _ _) (.bool neg) (.slice ao al ac) (.slice bo bl bc)) (by rw [if_neg HDG.out];exact mB.res HR.out (Eu _) (Cl _ _ _) (Cl _ _ _) _ _ _) (fun h=>absurd h HFIN.out.2.1))
   unfold Ed at HP HVA
   rcases P6 mB hd1 with ⟨go,gl,gc,he,hgl⟩|⟨gb,gof,gc,x,he,hgc,hx⟩
   ·obtain ⟨rfl,rfl,rfl⟩:bo=go∧bl=gl∧bc=gc:=by simpa using he
    have hne:((bl:Int)==1)=false:=beq_eq_false_iff_ne.2 (by omega)
    clear mA mB KC hd1 he hgl
    go_wp2
    obtain ⟨k0,k1,k2,_⟩:=HP.out
    exact bodyPost_ret (v:= .agg #[.bool neg,.slice ao al ac,.slice bo bl bc]) (by simp [results,Tryz.results92,go_sem,k0,k1,k2]) rfl ⟨_,rfl,HVA.out,(HKW.out.tr HKC.out).put3 (Yi _) _ _ _⟩
   ·obtain ⟨rfl,rfl,rfl⟩:bo=some ⟨gb,gof,none⟩∧bl=1∧bc=gc:=by simpa using he
    have hne:((x:Int)==1)=false:=beq_eq_false_iff_ne.2 (by omega)
    clear mA mB KC hd1 he hx
    go_wp2
    obtain ⟨k0,k1,k2,_⟩:=HP.out
    exact bodyPost_ret (v:= .agg #[.bool neg,.slice ao al ac,.slice (some ⟨gb,gof,none⟩) 1 bc]) (by simp [results,Tryz.results92,go_sem,k0,k1,k2]) rfl ⟨_,rfl,HVA.out,(HKW.out.tr HKC.out).put3 (Yi _) _ _ _⟩
theorem OE {w:World} {neg:Bool} {a b:Value} {xs ys:List Nat} (ha:Rd w a xs) (hb:Rd w b ys) (hl:xs.length≤1073741824) (hl2:ys.length≤1073741824) (h0:val ys≠0):
  Calls Tryz.prog 92 #[.bool neg,a,b] w fun e w'=> ∃v,e= .returned v∧AC w' v (AD neg (val xs) (val ys))∧Kp w w':=by
 by_cases h:val xs=0
 ·refine (MS ha hb hl hl2 h).mono ?_
  rintro e w' ⟨he,k⟩
  refine ⟨_,he,?_,k⟩
  rw [h,Gl]
  exact AC.zero w'
 ·exact MT ha hb hl hl2 h0 h
theorem Fz {w:World} {neg:Bool} {a b:Value} {n d:Nat} (ha:M w a n) (hb:M w b d) {j k:Nat} (hs:Sz j n) (ht:Sz k d) (hj:j≤1073741824) (hk:k≤1073741824) (h0:d≠0):
  Calls Tryz.prog 92 #[.bool neg,a,b] w fun e w'=> ∃v,e= .returned v∧AC w' v (AD neg n d)∧Kp w w':=by
 have:=OE (neg:=neg) ha hb (Nat.le_trans hs hj) (Nat.le_trans ht hk) (by rw [As];exact h0)
 rw [As,As] at this
 exact this
theorem Ox {w:World} {v:Value} {x:Rat} (h:AC w v x):
  Calls Tryz.prog 44 #[v] w fun e w'=>e= .returned (.int .i64 (CV x))∧Kp w w':=by
 obtain ⟨num,den,rfl,hn,hk⟩:=h
 obtain ⟨ao,ac,rfl,a1,a2,_,_⟩:=hn
 obtain ⟨bo,lb,bc,rfl⟩:=Cm hk
 clear hk
 unfold CV
 by_cases e0:x.num=0
 ·rw [e0]
  rw [show (0:Int).natAbs=0 from rfl,AI,if_pos rfl]
  rw [e0,show (0:Int).natAbs=0 from rfl,AI] at a1
  rw [show decide ((0:Int)<0)=false from rfl]
  clear e0
  go_enter Tryz.func44,Tryz.ntmps44
  go_wp2
  go_ret
  exact ⟨rfl,by repeat first|exact Below.refl _ _|apply Kp.drew|exact Kp.alloc _ _⟩
 ·have hl:=DK (n:=x.num.natAbs) (by omega)
  rw [if_neg e0]
  obtain ⟨la,hla⟩: ∃l,l=(toL x.num.natAbs).length:=⟨_,rfl⟩
  rw [←hla] at a1 hl⊢
  have hz:(((la:Nat):Int)==0)=false:=by simp;omega
  obtain ⟨s,hs⟩: ∃s,s=decide (x.num<0):=⟨_,rfl⟩
  have he:(if x.num<0 then (-1:Int) else 1)=if s then-1 else 1:=by rw [hs];simp
  rw [he,←hs]
  clear hla e0 hs he
  cases s
  all_goals
   go_enter Tryz.func44,Tryz.ntmps44
   go_wp2
   go_ret
   exact ⟨rfl,by repeat first|exact Below.refl _ _|apply Kp.drew|exact Kp.alloc _ _⟩
theorem XO {w:World} {o:Option Addr} {l c n:Nat} (h:M w (.slice o l c) n):l=(toL n).length:=by
 obtain ⟨o',c',e,_⟩:=h
 have:=(by simpa using e:o=o'∧l=(toL n).length∧c=c')
 exact this.2.1
theorem Cq {w:World} {o:Option Addr} {l c n:Nat} (h:M w (.slice o l c) n):l=0↔n=0:=by
 rw [XO h,List.length_eq_zero_iff,A6]
theorem AC.neg_mk {w:World} {x:Rat} {b:Bool} {u v:Value} (hb:b=decide ((-x).num<0)) (h1:M w u x.num.natAbs) (h2:M w v (A7 x)):AC w (.agg #[.bool b,u,v]) (-x):=by
 refine ⟨u,v,by rw [hb],?_,?_⟩
 ·rw [Rat.neg_num,Int.natAbs_neg];exact h1
 ·unfold A7;rw [Rat.neg_den];exact h2
set_option maxRecDepth 20000 in
theorem Rf {w:World} {u:Value} {x:Rat} (hu:AC w u x):
  Calls Tryz.prog 112 #[u] w fun e w'=> ∃r,e= .returned r∧AC w' r (-x)∧Kp w w':=by
 obtain ⟨a1,l1,c1,a2,l2,c2,rfl,m1,m2⟩:=hu.parts
 have HT:=Yh (One.new w (.bool (decide (x.num<0))) (.slice a1 l1 c1) (.slice a2 l2 c2))
 have HU:=Yh hu
 have Hm1:=Yh m1
 have Hm2:=Yh m2
 obtain ⟨p,hp⟩: ∃b,b=decide (x.num<0):=⟨_,rfl⟩
 try rw [←hp] at HT
 try rw [←hp] at HU
 try rw [←hp] at Hm1
 try rw [←hp] at Hm2
 try rw [←hp]
 have HPp:=Yh hp
 clear hu m1 m2 hp
 have hl:=Cq Hm1.out
 by_cases h0:x.num.natAbs=0
 ·obtain rfl:=hl.2 h0
  have hx:x=0:=Rat.num_eq_zero.1 (Int.natAbs_eq_zero.1 h0)
  subst hx
  obtain rfl:p=false:=by rw [HPp.out];decide
  clear h0 hl
  go_enter Tryz.func112,Tryz.ntmps112
  go_wp2
  exact bodyPost_ret (v:= .agg #[.bool false,.slice a1 0 c1,.slice a2 l2 c2]) (by simp [results,Tryz.results112,go_sem]) rfl ⟨_,rfl,AC.neg_mk (by decide) (Hm1.out.kp ((Kp.alloc w _).tr (Kp.alloc _ _))) (Hm2.out.kp ((Kp.alloc w _).tr (Kp.alloc _ _))),((Kp.alloc w _).tr (Kp.alloc _ _))⟩
 ·have hl0:0<l1:=by omega
  have hn0:x.num≠0:=fun e=>h0 (by rw [e];rfl)
  clear h0 hl
  have hb:(!p)=decide ((-x).num<0):=by
   rw [Rat.neg_num,HPp.out]
   by_cases h:x.num<0
   ·rw [decide_eq_true h,decide_eq_false (by omega)];rfl
   ·rw [decide_eq_false h,decide_eq_true (by omega)];rfl
  have HB:=Yh hb
  clear hb hn0
  cases p
  ·go_enter Tryz.func112,Tryz.ntmps112
   go_wp2
   exact bodyPost_ret (v:= .agg #[.bool true,.slice a1 l1 c1,.slice a2 l2 c2]) (by simp [results,Tryz.results112,go_sem]) rfl ⟨_,rfl,AC.neg_mk HB.out (Hm1.out.kp ((Kp.alloc w _).tr (Kp.alloc _ _))) (Hm2.out.kp ((Kp.alloc w _).tr (Kp.alloc _ _))),((Kp.alloc w _).tr (Kp.alloc _ _))⟩
  ·go_enter Tryz.func112,Tryz.ntmps112
   go_wp2
   exact bodyPost_ret (v:= .agg #[.bool false,.slice a1 l1 c1,.slice a2 l2 c2]) (by simp [results,Tryz.results112,go_sem]) rfl ⟨_,rfl,AC.neg_mk HB.out (Hm1.out.kp ((Kp.alloc w _).tr (Kp.alloc _ _))) (Hm2.out.kp ((Kp.alloc w _).tr (Kp.alloc _ _))),((Kp.alloc w _).tr (Kp.alloc _ _))⟩
theorem NV (m n:Nat):decide (m=n)=(Bx m n==0):=by
 by_cases h:m=n
 ·rw [decide_eq_true h,Db h];rfl
 ·rw [decide_eq_false h]
  symm
  refine beq_eq_false_iff_ne.2 ?_
  rcases Nat.lt_or_gt_of_ne h with h1|h1
  ·rw [Ce h1];decide
  ·rw [Cf h1];decide
set_option maxRecDepth 20000 in
theorem Oy {w:World} {u:Value} {x:Rat} (hu:AC w u x) {v:Value} {y:Rat} (hv:AC w v y):
  Calls Tryz.prog 34 #[u,v] w fun e w'=>e= .returned (.bool (decide (x=y)))∧Kp w w':=by
 rw [IZ,NV,NV]
 obtain ⟨a1,l1,c1,a2,l2,c2,rfl,m1,m2⟩:=hu.parts
 obtain ⟨a3,l3,c3,a4,l4,c4,rfl,m3,m4⟩:=hv.parts
 have HT:=Yh (P2.new w (.bool (decide (x.num<0))) (.slice a1 l1 c1) (.slice a2 l2 c2) (.bool (decide (y.num<0))) (.slice a3 l3 c3) (.slice a4 l4 c4))
 have HU:=Yh hu
 have Hm1:=Yh m1
 have Hm2:=Yh m2
 have HV:=Yh hv
 have Hm3:=Yh m3
 have Hm4:=Yh m4
 have CN:=Yh (fun w' (a:M w' (.slice a1 l1 c1) x.num.natAbs) (b:M w' (.slice a3 l3 c3) y.num.natAbs)=>CJ _ _ _ _ w' a b)
 have CK:=Yh (fun w' (a:M w' (.slice a2 l2 c2) (A7 x)) (b:M w' (.slice a4 l4 c4) (A7 y))=>CJ _ _ _ _ w' a b)
 obtain ⟨p,hp⟩: ∃b,b=decide (x.num<0):=⟨_,rfl⟩
 try rw [←hp] at HT
 try rw [←hp] at HU
 try rw [←hp] at Hm1
 try rw [←hp] at Hm2
 try rw [←hp] at HV
 try rw [←hp] at Hm3
 try rw [←hp] at Hm4
 try rw [←hp] at CN
 try rw [←hp] at CK
 try rw [←hp]
 have HPp:=Yh hp
 obtain ⟨q,hq⟩: ∃b,b=decide (y.num<0):=⟨_,rfl⟩
 try rw [←hq] at HT
 try rw [←hq] at HU
 try rw [←hq] at Hm1
 try rw [←hq] at Hm2
 try rw [←hq] at HV
 try rw [←hq] at Hm3
 try rw [←hq] at Hm4
 try rw [←hq] at CN
 try rw [←hq] at CK
 try rw [←hq]
 have HPq:=Yh hq
 clear hu m1 m2 hp hv m3 m4 hq
 obtain ⟨cn,hcn⟩: ∃c,c=Bx x.num.natAbs y.num.natAbs:=⟨_,rfl⟩
 obtain ⟨ck,hck⟩: ∃c,c=Bx (A7 x) (A7 y):=⟨_,rfl⟩
 rw [←hcn] at CN⊢
 rw [←hck] at CK⊢
 clear hcn hck
 have hpq:p=q∨q=!p:=by cases p<;>cases q<;>simp
 rcases hpq with hpq|hpq
 ·subst hpq
  have hpp:(p==p)=true:=by simp
  by_cases hc:cn=0
  ·subst hc
   have hz:((0:Int)==0)=true:=rfl
   have HPS:=Yh hpp
   clear hpp
   go_enter Tryz.func34,Tryz.ntmps34
   have KN:=HT.out.k
   have U_e:=Yh (HU.out.kp KN)
   have m1_e:=Yh (Hm1.out.kp KN)
   have m2_e:=Yh (Hm2.out.kp KN)
   have V_e:=Yh (HV.out.kp KN)
   have m3_e:=Yh (Hm3.out.kp KN)
   have m4_e:=Yh (Hm4.out.kp KN)
   clear KN
   obtain ⟨g0,g1,g2,_⟩:=HT.out.ra.cells
   obtain ⟨h0,h1,h2,_⟩:=HT.out.rb.cells
   go_wp2_with (go_at_call 80;(with_reducible refine (CN.out _ m1_e.out m3_e.out).mono ?_);rintro e w2 ⟨rfl,k2⟩;refine Hid.out ?_)
   refine Yh ?_
   have T_2:=Yh (HT.out.kp k2)
   have U_2:=Yh (U_e.out.kp k2)
   have m1_2:=Yh (m1_e.out.kp k2)
   have m2_2:=Yh (m2_e.out.kp k2)
   have V_2:=Yh (V_e.out.kp k2)
   have m3_2:=Yh (m3_e.out.kp k2)
   have m4_2:=Yh (m4_e.out.kp k2)
   clear HT U_e m1_e m2_e V_e m3_e m4_e
   clear k2
   obtain ⟨g0,g1,g2,_⟩:=T_2.out.ra.cells
   obtain ⟨h0,h1,h2,_⟩:=T_2.out.rb.cells
   go_wp2_with (go_at_call 80;(with_reducible refine (CK.out _ m2_2.out m4_2.out).mono ?_);rintro e w3 ⟨rfl,k3⟩;refine Hid.out ?_)
   refine Yh ?_
   have T_3:=Yh (T_2.out.kp k3)
   have U_3:=Yh (U_2.out.kp k3)
   have m1_3:=Yh (m1_2.out.kp k3)
   have m2_3:=Yh (m2_2.out.kp k3)
   have V_3:=Yh (V_2.out.kp k3)
   have m3_3:=Yh (m3_2.out.kp k3)
   have m4_3:=Yh (m4_2.out.kp k3)
   clear T_2 U_2 m1_2 m2_2 V_2 m3_2 m4_2
   clear k3
   obtain ⟨g0,g1,g2,_⟩:=T_3.out.ra.cells
   obtain ⟨h0,h1,h2,_⟩:=T_3.out.rb.cells
   go_wp2
   go_ret
   exact ⟨Ef (by rw [HPS.out];simp),T_3.out.k⟩
  ·have hcb:(cn==0)=false:=beq_eq_false_iff_ne.2 hc
   have HPS:=Yh hpp
   have HCB:=Yh hcb
   clear hc hpp
   go_enter Tryz.func34,Tryz.ntmps34
   have KN:=HT.out.k
   have U_e:=Yh (HU.out.kp KN)
   have m1_e:=Yh (Hm1.out.kp KN)
   have m2_e:=Yh (Hm2.out.kp KN)
   have V_e:=Yh (HV.out.kp KN)
   have m3_e:=Yh (Hm3.out.kp KN)
   have m4_e:=Yh (Hm4.out.kp KN)
   clear KN
   obtain ⟨g0,g1,g2,_⟩:=HT.out.ra.cells
   obtain ⟨h0,h1,h2,_⟩:=HT.out.rb.cells
   go_wp2_with (go_at_call 80;(with_reducible refine (CN.out _ m1_e.out m3_e.out).mono ?_);rintro e w2 ⟨rfl,k2⟩;refine Hid.out ?_)
   refine Yh ?_
   have T_2:=Yh (HT.out.kp k2)
   have U_2:=Yh (U_e.out.kp k2)
   have m1_2:=Yh (m1_e.out.kp k2)
   have m2_2:=Yh (m2_e.out.kp k2)
   have V_2:=Yh (V_e.out.kp k2)
   have m3_2:=Yh (m3_e.out.kp k2)
   have m4_2:=Yh (m4_e.out.kp k2)
   clear HT U_e m1_e m2_e V_e m3_e m4_e
   clear k2
   obtain ⟨g0,g1,g2,_⟩:=T_2.out.ra.cells
   obtain ⟨h0,h1,h2,_⟩:=T_2.out.rb.cells
   go_wp2
   go_ret
   exact ⟨Ef (by rw [HPS.out,HCB.out];rfl),T_2.out.k⟩
 ·subst hpq
  cases p
  all_goals
   go_enter Tryz.func34,Tryz.ntmps34
   have KN:=HT.out.k
   have U_e:=Yh (HU.out.kp KN)
   have m1_e:=Yh (Hm1.out.kp KN)
   have m2_e:=Yh (Hm2.out.kp KN)
   have V_e:=Yh (HV.out.kp KN)
   have m3_e:=Yh (Hm3.out.kp KN)
   have m4_e:=Yh (Hm4.out.kp KN)
   clear KN
   obtain ⟨g0,g1,g2,_⟩:=HT.out.ra.cells
   obtain ⟨h0,h1,h2,_⟩:=HT.out.rb.cells
   go_wp2
   go_ret
   exact ⟨Ef (by simp),HT.out.k⟩
theorem Gi (n:Int) (h1: -9223372036854775808≤n) (h2:n<9223372036854775808) (w:World):
  Calls Tryz.prog 58 #[.int .i64 n] w fun e w'=> ∃v,e= .returned (.tuple #[v,.bool (decide (n<0))])∧M w' v n.natAbs∧Kp w w':=by
 have HO:=Yh (FX n.natAbs w (by omega))
 by_cases h:n<0
 ·have hb:decide (n<0)=true:=decide_eq_true h
  rw [hb]
  have he:(n.natAbs:Int)= -n:=by omega
  rw [he] at HO
  have e1:IntKind.i64.wrap (n+1)=n+1:=IntWalk.i64_in _ (by omega)
  have e2:IntKind.i64.wrap (-(n+1))= -(n+1):=IntWalk.i64_in _ (by omega)
  have e3:IntKind.u64.wrap (-(n+1))= -(n+1):=IntWalk.u64_in _ (by omega)
  have e4:IntKind.u64.wrap (-(n+1)+1)= -n:=by rw [IntWalk.u64_in _ (by omega)];omega
  have e5:(-(n+1)+1:Int)= -n:=by omega
  clear he
  go_enter Tryz.func58,Tryz.ntmps58
  go_wp2_with (go_at_call 99;(with_reducible refine HO.out.mono ?_);rintro e w1 ⟨v,rfl,hv,k1⟩;refine Hid.out ?_)
  refine Yh ?_
  go_wp2
  go_ret2
  exact ⟨_,rfl,hv,k1⟩
 ·have hb:decide (n<0)=false:=decide_eq_false h
  rw [hb]
  have he:(n.natAbs:Int)=n:=Int.natAbs_of_nonneg (by omega)
  rw [he] at HO
  have e3:IntKind.u64.wrap n=n:=IntWalk.u64_in _ (by omega)
  clear he
  go_enter Tryz.func58,Tryz.ntmps58
  go_wp2_with (go_at_call 99;(with_reducible refine HO.out.mono ?_);rintro e w1 ⟨v,rfl,hv,k1⟩;refine Hid.out ?_)
  refine Yh ?_
  go_wp2
  go_ret2
  exact ⟨_,rfl,hv,k1⟩
set_option maxRecDepth 20000 in
theorem Oz {w:World} (n d:Int) (h1: -9223372036854775808≤n) (h2:n<9223372036854775808) (h3: -9223372036854775808≤d) (h4:d<9223372036854775808) (h0:d≠0):
  Calls Tryz.prog 98 #[.int .i64 n,.int .i64 d] w fun e w'=> ∃v,e= .returned (.tuple #[v,.int .i64 0])∧AC w' v (AD (decide (n<0) !=decide (d<0)) n.natAbs d.natAbs)∧Kp w w':=by
 have HT:=Yh (Nul.new w)
 have CN:=Yh (fun w'=>Gi n h1 h2 w')
 have CD:=Yh (fun w'=>Gi d h3 h4 w')
 have sz: ∀z:Int,-9223372036854775808≤z→z<9223372036854775808→Sz 2 z.natAbs:=fun z a b=>AB _ 2 (by simp;omega)
 have hd0:d.natAbs≠0:=by omega
 have CR:=Yh (fun w' s va vb (a:M w' va n.natAbs) (b:M w' vb d.natAbs)=>Fz (neg:=s) a b (sz n h1 h2) (sz d h3 h4) (by omega) (by omega) hd0)
 have hz:(d==0)=false:=by simpa using h0
 obtain ⟨p,hp⟩: ∃p,p=decide (n<0):=⟨_,rfl⟩
 obtain ⟨q,hq⟩: ∃p,p=decide (d<0):=⟨_,rfl⟩
 rw [←hp] at CN⊢
 rw [←hq] at CD⊢
 clear hp hq sz hd0 h0 h1 h2 h3 h4
 go_enter Tryz.func98,Tryz.ntmps98
 have KN:=HT.out.k
 clear KN
 go_wp2_with (go_at_call 58;(with_reducible refine (CN.out _).mono ?_);rintro e w2 ⟨vn,rfl,hvn,k2⟩;refine Hid.out ?_)
 refine Yh ?_
 have T_2:=Yh (HT.out.kp k2)
 clear HT
 have N_2:=Yh hvn
 clear hvn k2
 go_wp2_with (go_at_call 58;(with_reducible refine (CD.out _).mono ?_);rintro e w3 ⟨vd,rfl,hvd,k3⟩;refine Hid.out ?_)
 refine Yh ?_
 have T_3:=Yh (T_2.out.kp k3)
 have N_3:=Yh (N_2.out.kp k3)
 clear T_2 N_2
 have D_3:=Yh hvd
 clear hvd k3
 go_wp2_with (go_at_call 92;(with_reducible refine (CR.out _ _ _ _ N_3.out D_3.out).mono ?_);rintro e w4 ⟨vr,rfl,hvr,k4⟩;refine Hid.out ?_)
 refine Yh ?_
 have T_4:=Yh (T_3.out.kp k4)
 have N_4:=Yh (N_3.out.kp k4)
 have D_4:=Yh (D_3.out.kp k4)
 clear T_3 N_3 D_3
 clear k4
 obtain ⟨sgn,q1,r1,s1,q2,r2,s2,rfl⟩:=hvr.lit
 obtain ⟨⟨e0,e1,e2,f0,f1,f2⟩,HPP,HV,HKF⟩:=BQ T_4.out.rr T_4.out.k (Below.refl _ _) hvr (by omega)
 clear hvr
 obtain ⟨k0,k1,k2⟩:=HPP.out
 go_wp2
 exact bodyPost_ret (v:= .tuple #[.agg #[.bool sgn,.slice q1 r1 s1,.slice q2 r2 s2],.int .i64 0]) (by simp [results,Tryz.results98,go_sem,k0,k1,k2]) rfl ⟨_,rfl,HV.out,HKF.out⟩
set_option maxRecDepth 20000 in
theorem I6 {w:World} (n d:Int) (h1: -9223372036854775808≤n) (h2:n<9223372036854775808) (h3: -9223372036854775808≤d) (h4:d<9223372036854775808) (h0:d≠0):
  Calls Tryz.prog 57 #[.int .i64 n,.int .i64 d] w fun e w'=> ∃r,e= .returned r∧AC w' r (AD (decide (n<0) !=decide (d<0)) n.natAbs d.natAbs)∧Kp w w':=by
 have HT:=Yh (Nul.new w)
 have CM:=Yh (fun w'=>Oz (w:=w') n d h1 h2 h3 h4 h0)
 clear h0 h1 h2 h3 h4
 go_enter Tryz.func57,Tryz.ntmps57
 have KN:=HT.out.k
 clear KN
 go_wp2_with (go_at_call 98;(with_reducible refine (CM.out _).mono ?_);rintro e w2 ⟨vr,rfl,hvr,k2⟩;refine Hid.out ?_)
 refine Yh ?_
 have T_2:=Yh (HT.out.kp k2)
 clear HT
 clear k2
 obtain ⟨sgn,q1,r1,s1,q2,r2,s2,rfl⟩:=hvr.lit
 have VR:=Yh hvr
 clear hvr
 have T_3:=Yh (T_2.out.kp (Kp.alloc _ (Obj.cells #[Value.bool sgn,Value.slice q1 r1 s1,Value.slice q2 r2 s2] 33)))
 have V9_3:=Yh (VR.out.kp (Kp.alloc _ (Obj.cells #[Value.bool sgn,Value.slice q1 r1 s1,Value.slice q2 r2 s2] 33)))
 clear T_2 VR
 obtain ⟨⟨e0,e1,e2,f0,f1,f2⟩,HPP,HV,HKF⟩:=BQ T_3.out.rr T_3.out.k (Below.refl _ _) V9_3.out (by omega)
 obtain ⟨k0,k1,k2⟩:=HPP.out
 go_wp2
 exact bodyPost_ret (v:= .agg #[.bool sgn,.slice q1 r1 s1,.slice q2 r2 s2]) (by simp [results,Tryz.results57,go_sem,k0,k1,k2]) rfl ⟨_,rfl,HV.out,HKF.out⟩
set_option maxRecDepth 20000 in
theorem Rh {w:World} (n:Int) (h1: -9223372036854775808≤n) (h2:n<9223372036854775808):
  Calls Tryz.prog 19 #[.int .i64 n] w fun e w'=> ∃r,e= .returned r∧AC w' r ((n:Rat))∧Kp w w':=by
 have HT:=Yh (Nul.new w)
 have CN:=Yh (fun w'=>Gi n h1 h2 w')
 have hn:AD (decide (n<0)) n.natAbs 1=(n:Rat):=by unfold AD;rw [IG,Rat.mkRat_one]
 rw [←hn]
 have h0:n.natAbs=0→decide (n<0)=false:=fun h=>decide_eq_false (by omega)
 have H0:=Yh h0
 obtain ⟨p,hp⟩: ∃p,p=decide (n<0):=⟨_,rfl⟩
 rw [←hp] at CN H0⊢
 clear hp h1 h2 hn h0
 go_enter Tryz.func19,Tryz.ntmps19
 have KN:=HT.out.k
 clear KN
 go_wp2_with (go_at_call 58;(with_reducible refine (CN.out _).mono ?_);rintro e w2 ⟨vn,rfl,hvn,k2⟩;refine Hid.out ?_)
 refine Yh ?_
 have T_2:=Yh (HT.out.kp k2)
 clear HT
 have N_2:=Yh hvn
 clear hvn k2
 obtain ⟨o9,l9,c9,rfl⟩:=Cm N_2.out
 have VR:=Yh (AC.of (neg:=p) (by decide) (Nat.gcd_one_right _) N_2.out (by rw [if_pos rfl];exact Jn _) H0.out)
 obtain ⟨⟨e0,e1,e2,f0,f1,f2⟩,HPP,HV,HKF⟩:=BQ T_2.out.rr T_2.out.k (Below.refl _ _) VR.out (by omega)
 go_wp2
 obtain ⟨k0,k1,k2⟩:=HPP.out
 exact bodyPost_ret (v:= .agg #[.bool p,.slice o9 l9 c9,.slice none 0 0]) (by simp [results,Tryz.results19,go_sem,k0,k1,k2]) rfl ⟨_,rfl,HV.out,HKF.out⟩
end Go.Proofs.YtkmalkcgkcpcmaaGreatDoor
