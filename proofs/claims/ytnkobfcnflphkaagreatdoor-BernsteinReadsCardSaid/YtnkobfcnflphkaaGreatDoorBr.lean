/-
  Several texts in one: Rq, Rq1, Rq5, Rq7.
-/
import Derived.Test.YtnkobfcnflphkaaGreatDoorBk
import Derived.Test.YtnkobfcnflphkaaGreatDoorBi
import Derived.Test.YtnkobfcnflphkaaGreatDoorBy
import Derived.Test.YtnkobfcnflphkaaGreatDoorBc
namespace Go.Proofs.YtnkobfcnflphkaaGreatDoor
open Lib renaming hid→Zb
open Nat renaming le_refl→Zc
set_option maxHeartbeats 16000000
open Go.RowKit
set_option maxRecDepth 20000 in
theorem TP {w:World} {s:Bool} {num den:Value} {n k:Nat} (hn:M w num n) (hk:M w den k):
  Calls Tryz.prog 126 #[.agg #[.bool s,num,den]] w fun e w'=> ∃v,e= .returned v∧M w' v (if k=0 then 1 else k)∧Kp w w':=by
 have MK:=Zb (fun w' (kk:Kp w w')=>hk.kp kk)
 obtain ⟨no,nl,nc,rfl⟩:=Ct hn
 obtain ⟨bo,bc,rfl,b1,b2,_,_⟩:=hk
 clear hn
 by_cases h0:k=0
 ·subst h0
  rw [AD] at b1⊢
  clear MK
  go_enter Tryz.func126,Tryz.ntmps126
  go_wp2
  go_ret
  refine ⟨.slice (some ⟨w.heap.size+1,0,none⟩) 1 1,rfl,QR _ _ _ _ ?_ (Zc _) (by decide),(Kp.alloc w _).tr (Kp.alloc _ _)⟩
  have hcell:=cell_of_row _ _ 0 _ _ _ (heap_alloc_new (w.alloc (Obj.cells #[Value.bool s,Value.slice no nl nc,Value.slice bo 0 bc] 30)) (Obj.cells #[Value.int IntKind.u32 1] 128))
  rw [World.size_alloc] at hcell
  exact hcell
 ·rw [if_neg h0]
  have hl:=DE h0
  obtain ⟨lb,hlb⟩: ∃l,l=(toL k).length:=⟨_,rfl⟩
  rw [←hlb] at b1 hl MK⊢
  have hz:(((lb:Nat):Int)==0)=false:=by simp;omega
  clear hlb h0
  go_enter Tryz.func126,Tryz.ntmps126
  go_wp2
  go_ret
  exact ⟨_,rfl,MK.out _ (by repeat first|exact Below.refl _ _|apply Kp.dr|exact Kp.alloc _ _),by repeat first|exact Below.refl _ _|apply Kp.dr|exact Kp.alloc _ _⟩
theorem D7 {w:World} {s:Bool} {num den:Value} {n:Nat} {x:Rat} (hn:M w num n) (hk:M w den (AT x)):
  Calls Tryz.prog 126 #[.agg #[.bool s,num,den]] w fun e w'=> ∃v,e= .returned v∧M w' v x.den∧Kp w w':=by
 have:=TP (s:=s) hn hk
 rw [DF] at this
 exact this
theorem G5 {w:World} {v:Value} {xs:List Nat} (h:Rd w v xs) (hl:xs.length≤1099511627776):
  Calls Tryz.prog 158 #[v] w fun e w'=> ∃o c,e= .returned (.slice o (toL (val xs)).length c)∧M w' (.slice o (toL (val xs)).length c) (val xs)∧Kp w w':=by
 have hL:Ah xs:=by obtain ⟨_,_,_,_,_,h,_⟩:=h;exact h
 refine (DX v xs w h hl).mono ?_
 rintro e w' ⟨v',rfl,h',k⟩
 rw [←BS hL] at h'
 obtain ⟨o,c,rfl,_⟩:=id h'
 exact ⟨o,c,rfl,h',k⟩
theorem KJ {w:World} {v:Value} (h:M w v 1): ∃b off c,v= .slice (some ⟨b,off,none⟩) 1 c∧w.cell? ⟨b,off,none⟩=some (.int .u32 1):=by
 obtain ⟨o,c,e,hc,hm,hL,hs⟩:=h
 rw [Ge] at e hs
 obtain ⟨b,off,rfl,hcell⟩:=hs (by simp)
 exact ⟨b,off,c,e,by simpa using hcell 0 (by simp)⟩
theorem QO {w:World} {v:Value} {n:Nat} (h:M w v n) (hn:n≠1):(∃o l c,v= .slice o l c∧l≠1)∨(∃b off c x,v= .slice (some ⟨b,off,none⟩) 1 c∧w.cell? ⟨b,off,none⟩=some (.int .u32 ((x:Nat):Int))∧x≠1):=by
 obtain ⟨o,c,e,hc,hm,hL,hs⟩:=h
 by_cases h1:(toL n).length=1
 ·right
  obtain ⟨b,off,rfl,hcell⟩:=hs (by rintro h2;rw [h2] at h1;simp at h1)
  refine ⟨b,off,c,n,by rw [e,h1],?_,hn⟩
  have:=hcell 0 (by omega)
  rw [Ed h1,Nat.add_zero] at this
  exact this
 ·left
  exact ⟨o,_,c,e,h1⟩
set_option maxRecDepth 20000 in
theorem Ns {w:World} {neg:Bool} {a b:Value} {xs ys:List Nat} (ha:Rd w a xs) (hb:Rd w b ys) (hl:xs.length≤1073741824) (hl2:ys.length≤1073741824) (h:val xs=0):
  Calls Tryz.prog 127 #[.bool neg,a,b] w fun e w'=>e= .returned (.agg #[.bool false,.slice none 0 0,.slice none 0 0])∧Kp w w':=by
 have KW:=Kp.alloc w (Obj.cells #[Value.bool false,Value.slice none 0 0,Value.slice none 0 0] 30)
 have HA:=Zb (G5 (ha.kp KW) (by omega))
 have HB:=Zb (fun w' kk=>G5 ((hb.kp KW).kp (w':=w') kk) (by omega))
 have HRES:=Zb (Res.new w (Value.bool false) (Value.slice none 0 0) (Value.slice none 0 0))
 rw [h,AD] at HA
 have HKW:=Zb KW
 clear ha hb hl hl2 h KW
 go_enter Tryz.func127,Tryz.ntmps127
 go_wp2_with (go_at_call 158;(with_reducible refine HA.out.mono ?_);rintro e w1 ⟨o1,c1,rfl,m1,K1⟩;refine Hid.out ?_)
 refine Zb ?_
 have HB1:=Zb (HB.out w1 K1)
 have HK1:=Zb K1
 clear m1 K1
 go_wp2_with (go_at_call 158;(with_reducible refine HB1.out.mono ?_);rintro e w2 ⟨o2,c2,rfl,m2,K2⟩;refine Hid.out ?_)
 refine Zb ?_
 have HK2:=Zb (HK1.out.tr K2)
 obtain ⟨d0,d1,d2,f0,f1,f2⟩:=(HRES.out.kp HK2.out).cells
 have HP:=Zb ((HRES.out.kp HK2.out).put (.bool false) (.slice none 0 0) (.slice none 0 0)).cells
 unfold EC at HP
 clear m2 K2
 go_wp2
 obtain ⟨k0,k1,k2,_⟩:=HP.out
 exact bodyPost_ret (v:= .agg #[.bool false,.slice none 0 0,.slice none 0 0]) (by simp [results,Tryz.results127,go_sem,k0,k1,k2]) rfl ⟨rfl,(HKW.out.tr HK2.out).put3 (Zc _) _ _ _⟩
def Xr (w0 wc:World) (n d:Nat) (va vb:Value):Prop:=M wc va n∧M wc vb d∧Kp w0 wc
set_option maxRecDepth 20000 in
theorem Nt {w:World} {neg:Bool} {a b:Value} {xs ys:List Nat} (ha:Rd w a xs) (hb:Rd w b ys) (hl:xs.length≤1073741824) (hl2:ys.length≤1073741824) (h0:val ys≠0) (h:val xs≠0):
  Calls Tryz.prog 127 #[.bool neg,a,b] w fun e w'=> ∃v,e= .returned v∧Ao w' v (AG neg (val xs) (val ys))∧Kp w w':=by
 have KW:=Kp.alloc w (Obj.cells #[Value.bool false,Value.slice none 0 0,Value.slice none 0 0] 30)
 have hLa:Ah xs:=by obtain ⟨_,_,_,_,_,h,_⟩:=ha;exact h
 have hLb:Ah ys:=by obtain ⟨_,_,_,_,_,h,_⟩:=hb;exact h
 have hsa:(toL (val xs)).length≤1073741824:=Sz.val hLa _ hl
 have hsb:(toL (val ys)).length≤1073741824:=Sz.val hLb _ hl2
 have HA:=Zb (G5 (ha.kp KW) (by omega))
 have HB:=Zb (fun w' kk=>G5 ((hb.kp KW).kp (w':=w') kk) (by omega))
 have HRES:=Zb (Res.new w (Value.bool false) (Value.slice none 0 0) (Value.slice none 0 0))
 obtain ⟨n,hn⟩: ∃n,n=val xs:=⟨_,rfl⟩
 obtain ⟨d,hd⟩: ∃d,d=val ys:=⟨_,rfl⟩
 rw [←hn] at HA h hsa⊢
 rw [←hd] at HB h0 hsb⊢
 have hlp:=DE h
 obtain ⟨la,hla⟩: ∃l,l=(toL n).length:=⟨_,rfl⟩
 rw [←hla] at HA hlp
 have hlz:((la:Int)==0)=false:=beq_eq_false_iff_ne.2 (by omega)
 obtain ⟨g,hg⟩: ∃g,g=Nat.gcd n d:=⟨_,rfl⟩
 have hg0:g≠0:=by rw [hg];exact Nat.ne_of_gt (Nat.gcd_pos_of_pos_right _ (Nat.pos_of_ne_zero h0))
 have HG:=Zb (fun w' va vb (ma:M w' va n) (mb:M w' vb d)=>TJ ma mb hsa hsb)
 rw [←hg] at HG
 have HD1:=Zb (fun w' va vg (ma:M w' va n) (mg:M w' vg g)=>Hg ma mg hsa hg0)
 have HD2:=Zb (fun w' va vg (ma:M w' va d) (mg:M w' vg g)=>Hg ma mg hsb hg0)
 have hlow:=Ic neg (n:=n) (d:=d) (g:=g) (by rw [hg];exact Nat.gcd_dvd_left _ _) (by rw [hg];exact Nat.gcd_dvd_right _ _) h0
 have hcop:Nat.gcd (n/g) (d/g)=1:=by rw [hg];exact F3 h0
 have hn0:n/g≠0:=Nat.ne_of_gt (Nat.div_pos (Nat.le_of_dvd (Nat.pos_of_ne_zero h) (by rw [hg];exact Nat.gcd_dvd_left _ _)) (Nat.pos_of_ne_zero hg0))
 have hd0:d/g≠0:=Nat.ne_of_gt (Nat.div_pos (Nat.le_of_dvd (Nat.pos_of_ne_zero h0) (by rw [hg];exact Nat.gcd_dvd_right _ _)) (Nat.pos_of_ne_zero hg0))
 rw [←hlow]
 have HFIN:=Zb (And.intro hcop (And.intro hn0 hd0))
 have HKW:=Zb KW
 have HG1:g=1→Hid (n=n/g∧d=d/g):=fun e=>Zb (by rw [e,Nat.div_one,Nat.div_one];exact ⟨rfl,rfl⟩)
 clear ha hb hl hl2 hLa hLb hsa hsb hn hd h h0 KW hla hg hg0 hlow hcop hn0 hd0
 go_enter Tryz.func127,Tryz.ntmps127
 go_wp2_with (go_at_call 158;(with_reducible refine HA.out.mono ?_);rintro e w1 ⟨o1,c1,rfl,m1,K1⟩;refine Hid.out ?_)
 refine Zb ?_
 have HB1:=Zb (HB.out w1 K1)
 have HM1:=Zb m1
 have HK1:=Zb K1
 clear m1 K1
 go_wp2_with (go_at_call 158;(with_reducible refine HB1.out.mono ?_);rintro e w2 ⟨o2,c2,rfl,m2,K2⟩;refine Hid.out ?_)
 refine Zb ?_
 have HM2:=Zb m2
 have HM1':=Zb (HM1.out.kp K2)
 have HK2:=Zb (HK1.out.tr K2)
 have HG2:=Zb (HG.out w2 _ _ HM1'.out m2)
 clear m2 K2
 go_wp2_with (go_at_call 159;(with_reducible refine HG2.out.mono ?_);rintro e w3 ⟨vg,rfl,mg,K3⟩;refine Hid.out ?_)
 refine Zb ?_
 have HMG:=Zb mg
 have HM13:=Zb (HM1'.out.kp K3)
 have HM23:=Zb (HM2.out.kp K3)
 have HK3:=Zb (HK2.out.tr K3)
 clear mg K3
 obtain ⟨t0,ht0⟩: ∃t,t=decide (g≠1):=⟨_,rfl⟩
 have HT0:=Zb ht0
 clear ht0
 go_upto_region 5 with fail
 go_cut [27] (fun t wc=>t= .bool t0∧w3=wc)
 case first=>
  by_cases hg1:g=1
  ·obtain rfl:t0=false:=by rw [HT0.out];exact decide_eq_false (fun h=>h hg1)
   subst hg1
   obtain ⟨gb,gof,gc,rfl,hgc⟩:=KJ HMG.out
   go_wp2_with fail
   go_meet
   exact ⟨rfl,rfl⟩
  ·obtain rfl:t0=true:=by rw [HT0.out];exact decide_eq_true hg1
   rcases QO HMG.out hg1 with ⟨go,gl,gc,rfl,hgl⟩|⟨gb,gof,gc,x,rfl,hgc,hx⟩
   ·have hne2:((gl:Int) !=1)=true:=by rw [bne_iff_ne];omega
    clear hg1 HG1
    go_wp2_with fail
    go_meet
    exact ⟨rfl,rfl⟩
   ·have hne2:((x:Int) !=1)=true:=by rw [bne_iff_ne];omega
    clear hg1 HG1
    go_wp2_with fail
    go_meet
    exact ⟨rfl,rfl⟩
 case rest=>
 obtain ⟨rfl,rfl⟩:=hcut
 go_upto_if 27 with fail
 go_cut [1,2] (fun va vb wc=>Xr (w.alloc (Obj.cells #[Value.bool false,Value.slice none 0 0,Value.slice none 0 0] 30)) wc (n/g) (d/g) va vb)
 case first=>
  cases t0
  ·have hg1:g=1:=by have:=of_decide_eq_false HT0.out.symm;omega
   have HE:=HG1 hg1
   clear HG1 hg1
   go_wp2_with fail
   go_meet
   exact ⟨HE.out.1▸HM13.out,HE.out.2▸HM23.out,HK3.out⟩
  ·have HX1:=Zb (HD1.out w3 _ _ HM13.out HMG.out)
   have HX2:=Zb (fun w' (kk:Kp w3 w')=>HD2.out w' _ _ (HM23.out.kp kk) (HMG.out.kp kk))
   clear HG1
   go_wp2_with (go_at_call 160;(with_reducible refine HX1.out.mono ?_);rintro e w4 ⟨q1,r1,rfl,mq1,_,K4⟩;refine Hid.out ?_)
   refine Zb ?_
   have HQ1:=Zb mq1
   have HK4:=Zb K4
   have HX22:=Zb (HX2.out w4 K4)
   clear mq1 K4
   go_wp2_with (go_at_call 160;(with_reducible refine HX22.out.mono ?_);rintro e w5 ⟨q2,r2,rfl,mq2,_,K5⟩;refine Hid.out ?_)
   refine Zb ?_
   have HPA:=Zb (show Xr (w.alloc (Obj.cells #[Value.bool false,Value.slice none 0 0,Value.slice none 0 0] 30)) w5 (n/g) (d/g) q1 q2 from ⟨HQ1.out.kp K5,mq2,(HK3.out.tr HK4.out).tr K5⟩)
   clear mq2 K5
   go_wp2_with fail
   go_meet
   exact HPA.out
 case rest=>
  obtain ⟨mA,mB,KC⟩:=hcut
  have HMA:=Zb mA
  have HKC:=Zb KC
  obtain ⟨ao,al,ac,rfl⟩:=Ct mA
  have HR:=Zb (HRES.out.kp KC)
  obtain ⟨d0,d1,d2,f0,f1,f2⟩:=HR.out.cells
  by_cases hd1:d/g=1
  ·rw [hd1] at mB
   have HDG:=Zb hd1
   obtain ⟨bb,bof,bc,rfl,hbc⟩:=KJ mB
   have HP:=Zb (HR.out.put (.bool neg) (.slice ao al ac) (.slice none 0 0)).cells
   have HVA:=Zb (Ao.of (neg:=neg) HFIN.out.2.2 HFIN.out.1 (HMA.out.res HR.out (EU _) (Co _ _ _) (Co _ _ _) (.bool neg) (.slice ao al ac) (.slice none 0 0)) (by rw [if_pos HDG.out];exact Ik _) (fun h=>absurd h HFIN.out.2.1))
   unfold EC at HP HVA
   clear mA mB KC hd1
   go_wp2
   obtain ⟨k0,k1,k2,_⟩:=HP.out
   exact bodyPost_ret (v:= .agg #[.bool neg,.slice ao al ac,.slice none 0 0]) (by simp [results,Tryz.results127,go_sem,k0,k1,k2]) rfl ⟨_,rfl,HVA.out,(HKW.out.tr HKC.out).put3 (Zc _) _ _ _⟩
  ·have HDG:=Zb hd1
   obtain ⟨bo,bl,bc,rfl⟩:=Ct mB
   have HP:=Zb (HR.out.put (.bool neg) (.slice ao al ac) (.slice bo bl bc)).cells
   have HVA:=Zb (Ao.of (neg:=neg) HFIN.out.2.2 HFIN.out.1 (HMA.out.res HR.out (EU _) (Co _ _ _) (Co _ _ _) (.bool neg) (.slice ao al ac) (.slice bo bl bc)) (by rw [if_neg HDG.out];exact mB.res HR.out (EU _) (Co _ _ _) (Co _ _ _) _ _ _) (fun h=>absurd h HFIN.out.2.1))
   unfold EC at HP HVA
   rcases QO mB hd1 with ⟨go,gl,gc,he,hgl⟩|⟨gb,gof,gc,x,he,hgc,hx⟩
   ·obtain ⟨rfl,rfl,rfl⟩:bo=go∧bl=gl∧bc=gc:=by simpa using he
    have hne:((bl:Int)==1)=false:=beq_eq_false_iff_ne.2 (by omega)
    clear mA mB KC hd1 he hgl
    go_wp2
    obtain ⟨k0,k1,k2,_⟩:=HP.out
    exact bodyPost_ret (v:= .agg #[.bool neg,.slice ao al ac,.slice bo bl bc]) (by simp [results,Tryz.results127,go_sem,k0,k1,k2]) rfl ⟨_,rfl,HVA.out,(HKW.out.tr HKC.out).put3 (Zc _) _ _ _⟩
   ·obtain ⟨rfl,rfl,rfl⟩:bo=some ⟨gb,gof,none⟩∧bl=1∧bc=gc:=by simpa using he
    have hne:((x:Int)==1)=false:=beq_eq_false_iff_ne.2 (by omega)
    clear mA mB KC hd1 he hx
    go_wp2
    obtain ⟨k0,k1,k2,_⟩:=HP.out
    exact bodyPost_ret (v:= .agg #[.bool neg,.slice ao al ac,.slice (some ⟨gb,gof,none⟩) 1 bc]) (by simp [results,Tryz.results127,go_sem,k0,k1,k2]) rfl ⟨_,rfl,HVA.out,(HKW.out.tr HKC.out).put3 (Zc _) _ _ _⟩
theorem Pn {w:World} {neg:Bool} {a b:Value} {xs ys:List Nat} (ha:Rd w a xs) (hb:Rd w b ys) (hl:xs.length≤1073741824) (hl2:ys.length≤1073741824) (h0:val ys≠0):
  Calls Tryz.prog 127 #[.bool neg,a,b] w fun e w'=> ∃v,e= .returned v∧Ao w' v (AG neg (val xs) (val ys))∧Kp w w':=by
 by_cases h:val xs=0
 ·refine (Ns ha hb hl hl2 h).mono ?_
  rintro e w' ⟨he,k⟩
  refine ⟨_,he,?_,k⟩
  rw [h,GL]
  exact Ao.zero w'
 ·exact Nt ha hb hl hl2 h0 h
theorem Fl {w:World} {neg:Bool} {a b:Value} {n d:Nat} (ha:M w a n) (hb:M w b d) {j k:Nat} (hs:Sz j n) (ht:Sz k d) (hj:j≤1073741824) (hk:k≤1073741824) (h0:d≠0):
  Calls Tryz.prog 127 #[.bool neg,a,b] w fun e w'=> ∃v,e= .returned v∧Ao w' v (AG neg n d)∧Kp w w':=by
 have:=Pn (neg:=neg) ha hb (Nat.le_trans hs hj) (Nat.le_trans ht hk) (by rw [Au];exact h0)
 rw [Au,Au] at this
 exact this
theorem ED {w:World} {v:Value} {x:Rat} (h:Ao w v x):
  Calls Tryz.prog 58 #[v] w fun e w'=>e= .returned (.int .i64 (A9 x))∧Kp w w':=by
 obtain ⟨num,den,rfl,hn,hk⟩:=h
 obtain ⟨ao,ac,rfl,a1,a2,_,_⟩:=hn
 obtain ⟨bo,lb,bc,rfl⟩:=Ct hk
 clear hk
 unfold A9
 by_cases e0:x.num=0
 ·rw [e0]
  rw [show (0:Int).natAbs=0 from rfl,AD,if_pos rfl]
  rw [e0,show (0:Int).natAbs=0 from rfl,AD] at a1
  rw [show decide ((0:Int)<0)=false from rfl]
  clear e0
  go_enter Tryz.func58,Tryz.ntmps58
  go_wp2
  go_ret
  exact ⟨rfl,by repeat first|exact Below.refl _ _|apply Kp.drew|exact Kp.alloc _ _⟩
 ·have hl:=DE (n:=x.num.natAbs) (by omega)
  rw [if_neg e0]
  obtain ⟨la,hla⟩: ∃l,l=(toL x.num.natAbs).length:=⟨_,rfl⟩
  rw [←hla] at a1 hl⊢
  have hz:(((la:Nat):Int)==0)=false:=by simp;omega
  obtain ⟨s,hs⟩: ∃s,s=decide (x.num<0):=⟨_,rfl⟩
  have he:(if x.num<0 then (-1:Int) else 1)=if s then-1 else 1:=by rw [hs];simp
  rw [he,←hs]
  clear hla e0 hs he
  cases s
  all_goals
   go_enter Tryz.func58,Tryz.ntmps58
   go_wp2
   go_ret
   exact ⟨rfl,by repeat first|exact Below.refl _ _|apply Kp.drew|exact Kp.alloc _ _⟩
theorem YG {w:World} {o:Option Addr} {l c n:Nat} (h:M w (.slice o l c) n):l=(toL n).length:=by
 obtain ⟨o',c',e,_⟩:=h
 have:=(by simpa using e:o=o'∧l=(toL n).length∧c=c')
 exact this.2.1
theorem Ch {w:World} {o:Option Addr} {l c n:Nat} (h:M w (.slice o l c) n):l=0↔n=0:=by
 rw [YG h,List.length_eq_zero_iff,AW]
theorem Ao.neg_mk {w:World} {x:Rat} {b:Bool} {u v:Value} (hb:b=decide ((-x).num<0)) (h1:M w u x.num.natAbs) (h2:M w v (AT x)):Ao w (.agg #[.bool b,u,v]) (-x):=by
 refine ⟨u,v,by rw [hb],?_,?_⟩
 ·rw [Rat.neg_num,Int.natAbs_neg];exact h1
 ·unfold AT;rw [Rat.neg_den];exact h2
set_option maxRecDepth 20000 in
theorem RZ {w:World} {u:Value} {x:Rat} (hu:Ao w u x):
  Calls Tryz.prog 60 #[u] w fun e w'=> ∃r,e= .returned r∧Ao w' r (-x)∧Kp w w':=by
 obtain ⟨a1,l1,c1,a2,l2,c2,rfl,m1,m2⟩:=hu.parts
 have HT:=Zb (One.new w (.bool (decide (x.num<0))) (.slice a1 l1 c1) (.slice a2 l2 c2))
 have HU:=Zb hu
 have Hm1:=Zb m1
 have Hm2:=Zb m2
 obtain ⟨p,hp⟩: ∃b,b=decide (x.num<0):=⟨_,rfl⟩
 try rw [←hp] at HT
 try rw [←hp] at HU
 try rw [←hp] at Hm1
 try rw [←hp] at Hm2
 try rw [←hp]
 have HPp:=Zb hp
 clear hu m1 m2 hp
 have hl:=Ch Hm1.out
 by_cases h0:x.num.natAbs=0
 ·obtain rfl:=hl.2 h0
  have hx:x=0:=Rat.num_eq_zero.1 (Int.natAbs_eq_zero.1 h0)
  subst hx
  obtain rfl:p=false:=by rw [HPp.out];decide
  clear h0 hl
  go_enter Tryz.func60,Tryz.ntmps60
  go_wp2
  exact bodyPost_ret (v:= .agg #[.bool false,.slice a1 0 c1,.slice a2 l2 c2]) (by simp [results,Tryz.results60,go_sem]) rfl ⟨_,rfl,Ao.neg_mk (by decide) (Hm1.out.kp ((Kp.alloc w _).tr (Kp.alloc _ _))) (Hm2.out.kp ((Kp.alloc w _).tr (Kp.alloc _ _))),((Kp.alloc w _).tr (Kp.alloc _ _))⟩
 ·have hl0:0<l1:=by omega
  have hn0:x.num≠0:=fun e=>h0 (by rw [e];rfl)
  clear h0 hl
  have hb:(!p)=decide ((-x).num<0):=by
   rw [Rat.neg_num,HPp.out]
   by_cases h:x.num<0
   ·rw [decide_eq_true h,decide_eq_false (by omega)];rfl
   ·rw [decide_eq_false h,decide_eq_true (by omega)];rfl
  have HB:=Zb hb
  clear hb hn0
  cases p
  ·go_enter Tryz.func60,Tryz.ntmps60
   go_wp2
   exact bodyPost_ret (v:= .agg #[.bool true,.slice a1 l1 c1,.slice a2 l2 c2]) (by simp [results,Tryz.results60,go_sem]) rfl ⟨_,rfl,Ao.neg_mk HB.out (Hm1.out.kp ((Kp.alloc w _).tr (Kp.alloc _ _))) (Hm2.out.kp ((Kp.alloc w _).tr (Kp.alloc _ _))),((Kp.alloc w _).tr (Kp.alloc _ _))⟩
  ·go_enter Tryz.func60,Tryz.ntmps60
   go_wp2
   exact bodyPost_ret (v:= .agg #[.bool false,.slice a1 l1 c1,.slice a2 l2 c2]) (by simp [results,Tryz.results60,go_sem]) rfl ⟨_,rfl,Ao.neg_mk HB.out (Hm1.out.kp ((Kp.alloc w _).tr (Kp.alloc _ _))) (Hm2.out.kp ((Kp.alloc w _).tr (Kp.alloc _ _))),((Kp.alloc w _).tr (Kp.alloc _ _))⟩
theorem Ou (m n:Nat):decide (m=n)=(AY m n==0):=by
 by_cases h:m=n
 ·rw [decide_eq_true h,C4 h];rfl
 ·rw [decide_eq_false h]
  symm
  refine beq_eq_false_iff_ne.2 ?_
  rcases Nat.lt_or_gt_of_ne h with h1|h1
  ·rw [BX h1];decide
  ·rw [BY h1];decide
theorem SQ (m n:Nat):AY n m= -AY m n:=by
 rcases Nat.lt_trichotomy m n with h|h|h
 ·rw [BX h,BY h];rfl
 ·rw [C4 h,C4 h.symm];rfl
 ·rw [BX h,BY h]
set_option maxRecDepth 20000 in
theorem Pd {w:World} {u:Value} {x:Rat} (hu:Ao w u x) {v:Value} {y:Rat} (hv:Ao w v y):
  Calls Tryz.prog 19 #[u,v] w fun e w'=>e= .returned (.bool (decide (x=y)))∧Kp w w':=by
 rw [OZ,Ou,Ou]
 obtain ⟨a1,l1,c1,a2,l2,c2,rfl,m1,m2⟩:=hu.parts
 obtain ⟨a3,l3,c3,a4,l4,c4,rfl,m3,m4⟩:=hv.parts
 have HT:=Zb (P2.new w (.bool (decide (x.num<0))) (.slice a1 l1 c1) (.slice a2 l2 c2) (.bool (decide (y.num<0))) (.slice a3 l3 c3) (.slice a4 l4 c4))
 have HU:=Zb hu
 have Hm1:=Zb m1
 have Hm2:=Zb m2
 have HV:=Zb hv
 have Hm3:=Zb m3
 have Hm4:=Zb m4
 have CN:=Zb (fun w' (a:M w' (.slice a1 l1 c1) x.num.natAbs) (b:M w' (.slice a3 l3 c3) y.num.natAbs)=>Cx _ _ _ _ w' a b)
 have CK:=Zb (fun w' (a:M w' (.slice a2 l2 c2) (AT x)) (b:M w' (.slice a4 l4 c4) (AT y))=>Cx _ _ _ _ w' a b)
 obtain ⟨p,hp⟩: ∃b,b=decide (x.num<0):=⟨_,rfl⟩
 try rw [←hp] at HT
 try rw [←hp] at HU
 try rw [←hp] at Hm1
 try rw [←hp] at Hm2
 try rw [←hp] at HV
 try rw [←hp] at Hm3
 try rw [←hp] at Hm4
 try rw [←hp] at CN
 try rw [←hp] at CK
 try rw [←hp]
 have HPp:=Zb hp
 obtain ⟨q,hq⟩: ∃b,b=decide (y.num<0):=⟨_,rfl⟩
 try rw [←hq] at HT
 try rw [←hq] at HU
 try rw [←hq] at Hm1
 try rw [←hq] at Hm2
 try rw [←hq] at HV
 try rw [←hq] at Hm3
 try rw [←hq] at Hm4
 try rw [←hq] at CN
 try rw [←hq] at CK
 try rw [←hq]
 have HPq:=Zb hq
 clear hu m1 m2 hp hv m3 m4 hq
 obtain ⟨cn,hcn⟩: ∃c,c=AY x.num.natAbs y.num.natAbs:=⟨_,rfl⟩
 obtain ⟨ck,hck⟩: ∃c,c=AY (AT x) (AT y):=⟨_,rfl⟩
 rw [←hcn] at CN⊢
 rw [←hck] at CK⊢
 clear hcn hck
 have hpq:p=q∨q=!p:=by cases p<;>cases q<;>simp
 rcases hpq with hpq|hpq
 ·subst hpq
  have hpp:(p==p)=true:=by simp
  by_cases hc:cn=0
  ·subst hc
   have hz:((0:Int)==0)=true:=rfl
   have HPS:=Zb hpp
   clear hpp
   go_enter Tryz.func19,Tryz.ntmps19
   have KN:=HT.out.k
   have U_e:=Zb (HU.out.kp KN)
   have m1_e:=Zb (Hm1.out.kp KN)
   have m2_e:=Zb (Hm2.out.kp KN)
   have V_e:=Zb (HV.out.kp KN)
   have m3_e:=Zb (Hm3.out.kp KN)
   have m4_e:=Zb (Hm4.out.kp KN)
   clear KN
   obtain ⟨g0,g1,g2,_⟩:=HT.out.ra.cells
   obtain ⟨h0,h1,h2,_⟩:=HT.out.rb.cells
   go_wp2_with (go_at_call 82;(with_reducible refine (CN.out _ m1_e.out m3_e.out).mono ?_);rintro e w2 ⟨rfl,k2⟩;refine Hid.out ?_)
   refine Zb ?_
   have T_2:=Zb (HT.out.kp k2)
   have U_2:=Zb (U_e.out.kp k2)
   have m1_2:=Zb (m1_e.out.kp k2)
   have m2_2:=Zb (m2_e.out.kp k2)
   have V_2:=Zb (V_e.out.kp k2)
   have m3_2:=Zb (m3_e.out.kp k2)
   have m4_2:=Zb (m4_e.out.kp k2)
   clear HT U_e m1_e m2_e V_e m3_e m4_e
   clear k2
   obtain ⟨g0,g1,g2,_⟩:=T_2.out.ra.cells
   obtain ⟨h0,h1,h2,_⟩:=T_2.out.rb.cells
   go_wp2_with (go_at_call 82;(with_reducible refine (CK.out _ m2_2.out m4_2.out).mono ?_);rintro e w3 ⟨rfl,k3⟩;refine Hid.out ?_)
   refine Zb ?_
   have T_3:=Zb (T_2.out.kp k3)
   have U_3:=Zb (U_2.out.kp k3)
   have m1_3:=Zb (m1_2.out.kp k3)
   have m2_3:=Zb (m2_2.out.kp k3)
   have V_3:=Zb (V_2.out.kp k3)
   have m3_3:=Zb (m3_2.out.kp k3)
   have m4_3:=Zb (m4_2.out.kp k3)
   clear T_2 U_2 m1_2 m2_2 V_2 m3_2 m4_2
   clear k3
   obtain ⟨g0,g1,g2,_⟩:=T_3.out.ra.cells
   obtain ⟨h0,h1,h2,_⟩:=T_3.out.rb.cells
   go_wp2
   go_ret
   exact ⟨EE (by rw [HPS.out];simp),T_3.out.k⟩
  ·have hcb:(cn==0)=false:=beq_eq_false_iff_ne.2 hc
   have HPS:=Zb hpp
   have HCB:=Zb hcb
   clear hc hpp
   go_enter Tryz.func19,Tryz.ntmps19
   have KN:=HT.out.k
   have U_e:=Zb (HU.out.kp KN)
   have m1_e:=Zb (Hm1.out.kp KN)
   have m2_e:=Zb (Hm2.out.kp KN)
   have V_e:=Zb (HV.out.kp KN)
   have m3_e:=Zb (Hm3.out.kp KN)
   have m4_e:=Zb (Hm4.out.kp KN)
   clear KN
   obtain ⟨g0,g1,g2,_⟩:=HT.out.ra.cells
   obtain ⟨h0,h1,h2,_⟩:=HT.out.rb.cells
   go_wp2_with (go_at_call 82;(with_reducible refine (CN.out _ m1_e.out m3_e.out).mono ?_);rintro e w2 ⟨rfl,k2⟩;refine Hid.out ?_)
   refine Zb ?_
   have T_2:=Zb (HT.out.kp k2)
   have U_2:=Zb (U_e.out.kp k2)
   have m1_2:=Zb (m1_e.out.kp k2)
   have m2_2:=Zb (m2_e.out.kp k2)
   have V_2:=Zb (V_e.out.kp k2)
   have m3_2:=Zb (m3_e.out.kp k2)
   have m4_2:=Zb (m4_e.out.kp k2)
   clear HT U_e m1_e m2_e V_e m3_e m4_e
   clear k2
   obtain ⟨g0,g1,g2,_⟩:=T_2.out.ra.cells
   obtain ⟨h0,h1,h2,_⟩:=T_2.out.rb.cells
   go_wp2
   go_ret
   exact ⟨EE (by rw [HPS.out,HCB.out];rfl),T_2.out.k⟩
 ·subst hpq
  cases p
  all_goals
   go_enter Tryz.func19,Tryz.ntmps19
   have KN:=HT.out.k
   have U_e:=Zb (HU.out.kp KN)
   have m1_e:=Zb (Hm1.out.kp KN)
   have m2_e:=Zb (Hm2.out.kp KN)
   have V_e:=Zb (HV.out.kp KN)
   have m3_e:=Zb (Hm3.out.kp KN)
   have m4_e:=Zb (Hm4.out.kp KN)
   clear KN
   obtain ⟨g0,g1,g2,_⟩:=HT.out.ra.cells
   obtain ⟨h0,h1,h2,_⟩:=HT.out.rb.cells
   go_wp2
   go_ret
   exact ⟨EE (by simp),HT.out.k⟩
set_option maxRecDepth 20000 in
theorem Nn {w:World} {u:Value} {x:Rat} (hu:Ao w u x) {v:Value} {y:Rat} (hv:Ao w v y) (h9:A9 x≠A9 y):
  Calls Tryz.prog 59 #[u,v] w fun e w'=>e= .returned (.int .i64 (Cd x y))∧Kp w w':=by
 have hv:Cd x y=if A9 x<A9 y then-1 else 1:=by
  rw [J3 h9]
  split<;>omega
 rw [hv]
 clear hv
 obtain ⟨a1,l1,c1,a2,l2,c2,rfl,m1,m2⟩:=hu.parts
 obtain ⟨a3,l3,c3,a4,l4,c4,rfl,m3,m4⟩:=hv.parts
 have HT:=Zb (P2.new w (.bool (decide (x.num<0))) (.slice a1 l1 c1) (.slice a2 l2 c2) (.bool (decide (y.num<0))) (.slice a3 l3 c3) (.slice a4 l4 c4))
 have HU:=Zb hu
 have HV:=Zb hv
 have CA:=Zb (fun w' a (ha:Ao w' a x)=>ED ha)
 have CB:=Zb (fun w' a (ha:Ao w' a y)=>ED ha)
 obtain ⟨p,hp⟩: ∃b,b=decide (x.num<0):=⟨_,rfl⟩
 try rw [←hp] at HT
 try rw [←hp] at HU
 try rw [←hp] at HV
 try rw [←hp] at CA
 try rw [←hp] at CB
 try rw [←hp]
 have HPp:=Zb hp
 obtain ⟨q,hq⟩: ∃b,b=decide (y.num<0):=⟨_,rfl⟩
 try rw [←hq] at HT
 try rw [←hq] at HU
 try rw [←hq] at HV
 try rw [←hq] at CA
 try rw [←hq] at CB
 try rw [←hq]
 have HPq:=Zb hq
 clear hu m1 m2 hp hv m3 m4 hq
 obtain ⟨sx,hsx⟩: ∃s,s=A9 x:=⟨_,rfl⟩
 obtain ⟨sy,hsy⟩: ∃s,s=A9 y:=⟨_,rfl⟩
 rw [←hsx] at CA h9⊢
 rw [←hsy] at CB h9⊢
 clear hsx hsy
 have hne:(sx !=sy)=true:=by rw [bne_iff_ne];exact h9
 by_cases hlt:sx<sy
 ·rw [if_pos hlt]
  have hdl:decide (sx<sy)=true:=decide_eq_true hlt
  clear h9
  go_enter Tryz.func59,Tryz.ntmps59
  have KN:=HT.out.k
  have U_e:=Zb (HU.out.kp KN)
  have V_e:=Zb (HV.out.kp KN)
  clear KN
  obtain ⟨g0,g1,g2,_⟩:=HT.out.ra.cells
  obtain ⟨h0,h1,h2,_⟩:=HT.out.rb.cells
  go_upto_region 1 with fail
  have T_2:=Zb (HT.out.kp (Below.refl _ _).drew)
  have U_2:=Zb (U_e.out.kp (Below.refl _ _).drew)
  have V_2:=Zb (V_e.out.kp (Below.refl _ _).drew)
  clear HT U_e V_e
  go_region_held3 (fun w'=>w'.cell? ⟨w.heap.size,0,none⟩=some (.bool p)∧w'.cell? ⟨w.heap.size,1,none⟩=some (.slice a1 l1 c1)∧w'.cell? ⟨w.heap.size,2,none⟩=some (.slice a2 l2 c2)∧w'.cell? ⟨w.heap.size+1,0,none⟩=some (.bool q)∧w'.cell? ⟨w.heap.size+1,1,none⟩=some (.slice a3 l3 c3)∧w'.cell? ⟨w.heap.size+1,2,none⟩=some (.slice a4 l4 c4))
   (first|(refine ⟨?_,?_,?_,?_,?_,?_⟩<;>assumption)|go_keep)
   (first
    | (go_at_call 58;(with_reducible refine (CA.out _ _ U_2.out).mono ?_);rintro e w3 ⟨rfl,k3⟩;have T_3:=Zb (T_2.out.kp k3);have U_3:=Zb (U_2.out.kp k3);have V_3:=Zb (V_2.out.kp k3);clear T_2 U_2 V_2;clear k3;obtain ⟨g0,g1,g2,_⟩:=T_3.out.ra.cells;obtain ⟨h0,h1,h2,_⟩:=T_3.out.rb.cells)
    | (go_at_call 58;(with_reducible refine (CB.out _ _ V_3.out).mono ?_);rintro e w4 ⟨rfl,k4⟩;have T_4:=Zb (T_3.out.kp k4);have U_4:=Zb (U_3.out.kp k4);have V_4:=Zb (V_3.out.kp k4);clear T_3 U_3 V_3;clear k4;obtain ⟨g0,g1,g2,_⟩:=T_4.out.ra.cells;obtain ⟨h0,h1,h2,_⟩:=T_4.out.rb.cells))
  go_wp2
  go_ret
  exact ⟨rfl,T_4.out.k⟩
 ·rw [if_neg hlt]
  have hdl:decide (sx<sy)=false:=decide_eq_false hlt
  clear h9
  go_enter Tryz.func59,Tryz.ntmps59
  have KN:=HT.out.k
  have U_e:=Zb (HU.out.kp KN)
  have V_e:=Zb (HV.out.kp KN)
  clear KN
  obtain ⟨g0,g1,g2,_⟩:=HT.out.ra.cells
  obtain ⟨h0,h1,h2,_⟩:=HT.out.rb.cells
  go_upto_region 1 with fail
  have T_2:=Zb (HT.out.kp (Below.refl _ _).drew)
  have U_2:=Zb (U_e.out.kp (Below.refl _ _).drew)
  have V_2:=Zb (V_e.out.kp (Below.refl _ _).drew)
  clear HT U_e V_e
  go_region_held3 (fun w'=>w'.cell? ⟨w.heap.size,0,none⟩=some (.bool p)∧w'.cell? ⟨w.heap.size,1,none⟩=some (.slice a1 l1 c1)∧w'.cell? ⟨w.heap.size,2,none⟩=some (.slice a2 l2 c2)∧w'.cell? ⟨w.heap.size+1,0,none⟩=some (.bool q)∧w'.cell? ⟨w.heap.size+1,1,none⟩=some (.slice a3 l3 c3)∧w'.cell? ⟨w.heap.size+1,2,none⟩=some (.slice a4 l4 c4))
   (first|(refine ⟨?_,?_,?_,?_,?_,?_⟩<;>assumption)|go_keep)
   (first
    | (go_at_call 58;(with_reducible refine (CA.out _ _ U_2.out).mono ?_);rintro e w3 ⟨rfl,k3⟩;have T_3:=Zb (T_2.out.kp k3);have U_3:=Zb (U_2.out.kp k3);have V_3:=Zb (V_2.out.kp k3);clear T_2 U_2 V_2;clear k3;obtain ⟨g0,g1,g2,_⟩:=T_3.out.ra.cells;obtain ⟨h0,h1,h2,_⟩:=T_3.out.rb.cells)
    | (go_at_call 58;(with_reducible refine (CB.out _ _ V_3.out).mono ?_);rintro e w4 ⟨rfl,k4⟩;have T_4:=Zb (T_3.out.kp k4);have U_4:=Zb (U_3.out.kp k4);have V_4:=Zb (V_3.out.kp k4);clear T_3 U_3 V_3;clear k4;obtain ⟨g0,g1,g2,_⟩:=T_4.out.ra.cells;obtain ⟨h0,h1,h2,_⟩:=T_4.out.rb.cells))
  go_wp2
  go_ret
  exact ⟨rfl,T_4.out.k⟩
set_option maxRecDepth 20000 in
theorem Nm {w:World} {u:Value} {x:Rat} (hu:Ao w u x) {v:Value} {y:Rat} (hv:Ao w v y) {j k:Nat} (hs:RSz j x) (ht:RSz k y) (hj:j≤500000000) (hk:k≤500000000) (h9:A9 x=A9 y):
  Calls Tryz.prog 59 #[u,v] w fun e w'=>e= .returned (.int .i64 (if decide (x.num<0)=true then-AY (x.num.natAbs*y.den) (y.num.natAbs*x.den) else AY (x.num.natAbs*y.den) (y.num.natAbs*x.den)))∧Kp w w':=by
 obtain ⟨a1,l1,c1,a2,l2,c2,rfl,m1,m2⟩:=hu.parts
 obtain ⟨a3,l3,c3,a4,l4,c4,rfl,m3,m4⟩:=hv.parts
 have HT:=Zb (P2.new w (.bool (decide (x.num<0))) (.slice a1 l1 c1) (.slice a2 l2 c2) (.bool (decide (y.num<0))) (.slice a3 l3 c3) (.slice a4 l4 c4))
 have HU:=Zb hu
 have Hm1:=Zb m1
 have Hm2:=Zb m2
 have HV:=Zb hv
 have Hm3:=Zb m3
 have Hm4:=Zb m4
 have CDA:=Zb (fun w' (a:M w' (.slice a1 l1 c1) x.num.natAbs) (b:M w' (.slice a2 l2 c2) (AT x))=>D7 (s:=decide (x.num<0)) a b)
 have CDB:=Zb (fun w' (a:M w' (.slice a3 l3 c3) y.num.natAbs) (b:M w' (.slice a4 l4 c4) (AT y))=>D7 (s:=decide (y.num<0)) a b)
 have CA:=Zb (fun w' a (ha:Ao w' a x)=>ED ha)
 have CB:=Zb (fun w' a (ha:Ao w' a y)=>ED ha)
 have CM1:=Zb (fun w' va vb (a:M w' va (x.num.natAbs)) (b:M w' vb (y.den))=>B6 a b hs.1 ht.2 (by omega) (by omega))
 have CM2:=Zb (fun w' va vb (a:M w' va (y.num.natAbs)) (b:M w' vb (x.den))=>B6 a b ht.1 hs.2 (by omega) (by omega))
 have CC:=Zb (fun w' va vb (a:M w' va (x.num.natAbs*y.den)) (b:M w' vb (y.num.natAbs*x.den))=>Cx va vb _ _ w' a b)
 obtain ⟨p,hp⟩: ∃b,b=decide (x.num<0):=⟨_,rfl⟩
 try rw [←hp] at HT
 try rw [←hp] at HU
 try rw [←hp] at Hm1
 try rw [←hp] at Hm2
 try rw [←hp] at HV
 try rw [←hp] at Hm3
 try rw [←hp] at Hm4
 try rw [←hp] at CDA
 try rw [←hp] at CDB
 try rw [←hp] at CA
 try rw [←hp] at CB
 try rw [←hp] at CM1
 try rw [←hp] at CM2
 try rw [←hp] at CC
 try rw [←hp]
 have HPp:=Zb hp
 obtain ⟨q,hq⟩: ∃b,b=decide (y.num<0):=⟨_,rfl⟩
 try rw [←hq] at HT
 try rw [←hq] at HU
 try rw [←hq] at Hm1
 try rw [←hq] at Hm2
 try rw [←hq] at HV
 try rw [←hq] at Hm3
 try rw [←hq] at Hm4
 try rw [←hq] at CDA
 try rw [←hq] at CDB
 try rw [←hq] at CA
 try rw [←hq] at CB
 try rw [←hq] at CM1
 try rw [←hq] at CM2
 try rw [←hq] at CC
 try rw [←hq]
 have HPq:=Zb hq
 clear hu m1 m2 hp hv m3 m4 hq
 obtain ⟨sx,hsx⟩: ∃s,s=A9 x:=⟨_,rfl⟩
 rw [←h9] at CB
 rw [←hsx] at CA CB
 clear hsx h9 hs ht hj hk
 have hcb: -1≤AY (x.num.natAbs*y.den) (y.num.natAbs*x.den)∧AY (x.num.natAbs*y.den) (y.num.natAbs*x.den)≤1:=by unfold AY;split<;>first|omega|(split<;>omega)
 obtain ⟨cc,hcc⟩: ∃c,c=AY (x.num.natAbs*y.den) (y.num.natAbs*x.den):=⟨_,rfl⟩
 rw [←hcc] at CC hcb⊢
 clear hcc
 obtain ⟨hc1,hc2⟩:=hcb
 have hsb:(sx !=sx)=false:=by simp
 cases p
 ·skip
  go_enter Tryz.func59,Tryz.ntmps59
  have KN:=HT.out.k
  have U_e:=Zb (HU.out.kp KN)
  have m1_e:=Zb (Hm1.out.kp KN)
  have m2_e:=Zb (Hm2.out.kp KN)
  have V_e:=Zb (HV.out.kp KN)
  have m3_e:=Zb (Hm3.out.kp KN)
  have m4_e:=Zb (Hm4.out.kp KN)
  clear KN
  obtain ⟨g0,g1,g2,_⟩:=HT.out.ra.cells
  obtain ⟨h0,h1,h2,_⟩:=HT.out.rb.cells
  go_upto_region 1 with fail
  have T_2:=Zb (HT.out.kp (Below.refl _ _).drew)
  have U_2:=Zb (U_e.out.kp (Below.refl _ _).drew)
  have m1_2:=Zb (m1_e.out.kp (Below.refl _ _).drew)
  have m2_2:=Zb (m2_e.out.kp (Below.refl _ _).drew)
  have V_2:=Zb (V_e.out.kp (Below.refl _ _).drew)
  have m3_2:=Zb (m3_e.out.kp (Below.refl _ _).drew)
  have m4_2:=Zb (m4_e.out.kp (Below.refl _ _).drew)
  clear HT U_e m1_e m2_e V_e m3_e m4_e
  go_region_held3 (fun w'=>w'.cell? ⟨w.heap.size,0,none⟩=some (.bool false)∧w'.cell? ⟨w.heap.size,1,none⟩=some (.slice a1 l1 c1)∧w'.cell? ⟨w.heap.size,2,none⟩=some (.slice a2 l2 c2)∧w'.cell? ⟨w.heap.size+1,0,none⟩=some (.bool q)∧w'.cell? ⟨w.heap.size+1,1,none⟩=some (.slice a3 l3 c3)∧w'.cell? ⟨w.heap.size+1,2,none⟩=some (.slice a4 l4 c4))
   (first|(refine ⟨?_,?_,?_,?_,?_,?_⟩<;>assumption)|go_keep)
   (first
    | (go_at_call 58;(with_reducible refine (CA.out _ _ U_2.out).mono ?_);rintro e w3 ⟨rfl,k3⟩;have T_3:=Zb (T_2.out.kp k3);have U_3:=Zb (U_2.out.kp k3);have m1_3:=Zb (m1_2.out.kp k3);have m2_3:=Zb (m2_2.out.kp k3);have V_3:=Zb (V_2.out.kp k3);have m3_3:=Zb (m3_2.out.kp k3);have m4_3:=Zb (m4_2.out.kp k3);clear T_2 U_2 m1_2 m2_2 V_2 m3_2 m4_2;clear k3;obtain ⟨g0,g1,g2,_⟩:=T_3.out.ra.cells;obtain ⟨h0,h1,h2,_⟩:=T_3.out.rb.cells)
    | (go_at_call 58;(with_reducible refine (CB.out _ _ V_3.out).mono ?_);rintro e w4 ⟨rfl,k4⟩;have T_4:=Zb (T_3.out.kp k4);have U_4:=Zb (U_3.out.kp k4);have m1_4:=Zb (m1_3.out.kp k4);have m2_4:=Zb (m2_3.out.kp k4);have V_4:=Zb (V_3.out.kp k4);have m3_4:=Zb (m3_3.out.kp k4);have m4_4:=Zb (m4_3.out.kp k4);clear T_3 U_3 m1_3 m2_3 V_3 m3_3 m4_3;clear k4;obtain ⟨g0,g1,g2,_⟩:=T_4.out.ra.cells;obtain ⟨h0,h1,h2,_⟩:=T_4.out.rb.cells))
  go_upto_region 6 with fail
  have T_5:=Zb (T_4.out.kp (Below.refl _ _).drew)
  have U_5:=Zb (U_4.out.kp (Below.refl _ _).drew)
  have m1_5:=Zb (m1_4.out.kp (Below.refl _ _).drew)
  have m2_5:=Zb (m2_4.out.kp (Below.refl _ _).drew)
  have V_5:=Zb (V_4.out.kp (Below.refl _ _).drew)
  have m3_5:=Zb (m3_4.out.kp (Below.refl _ _).drew)
  have m4_5:=Zb (m4_4.out.kp (Below.refl _ _).drew)
  clear T_4 U_4 m1_4 m2_4 V_4 m3_4 m4_4
  go_region_held3 (fun w'=>w'.cell? ⟨w.heap.size,0,none⟩=some (.bool false)∧w'.cell? ⟨w.heap.size,1,none⟩=some (.slice a1 l1 c1)∧w'.cell? ⟨w.heap.size,2,none⟩=some (.slice a2 l2 c2)∧w'.cell? ⟨w.heap.size+1,0,none⟩=some (.bool q)∧w'.cell? ⟨w.heap.size+1,1,none⟩=some (.slice a3 l3 c3)∧w'.cell? ⟨w.heap.size+1,2,none⟩=some (.slice a4 l4 c4))
   (first|(refine ⟨?_,?_,?_,?_,?_,?_⟩<;>assumption)|go_keep)
   (first
    | (go_at_call 126;(with_reducible refine (CDB.out _ m3_5.out m4_5.out).mono ?_);rintro e w6 ⟨vB,rfl,hB,k6⟩;have T_6:=Zb (T_5.out.kp k6);have U_6:=Zb (U_5.out.kp k6);have m1_6:=Zb (m1_5.out.kp k6);have m2_6:=Zb (m2_5.out.kp k6);have V_6:=Zb (V_5.out.kp k6);have m3_6:=Zb (m3_5.out.kp k6);have m4_6:=Zb (m4_5.out.kp k6);clear T_5 U_5 m1_5 m2_5 V_5 m3_5 m4_5;have B_6:=Zb hB;clear hB k6;obtain ⟨g0,g1,g2,_⟩:=T_6.out.ra.cells;obtain ⟨h0,h1,h2,_⟩:=T_6.out.rb.cells)
    | (go_at_call 125;(with_reducible refine (CM1.out _ _ _ m1_6.out B_6.out).mono ?_);rintro e w7 ⟨vC,rfl,hC,k7⟩;have T_7:=Zb (T_6.out.kp k7);have U_7:=Zb (U_6.out.kp k7);have m1_7:=Zb (m1_6.out.kp k7);have m2_7:=Zb (m2_6.out.kp k7);have V_7:=Zb (V_6.out.kp k7);have m3_7:=Zb (m3_6.out.kp k7);have m4_7:=Zb (m4_6.out.kp k7);have B_7:=Zb (B_6.out.kp k7);clear T_6 U_6 m1_6 m2_6 V_6 m3_6 m4_6 B_6;have C_7:=Zb hC;clear hC k7;obtain ⟨g0,g1,g2,_⟩:=T_7.out.ra.cells;obtain ⟨h0,h1,h2,_⟩:=T_7.out.rb.cells)
    | (go_at_call 126;(with_reducible refine (CDA.out _ m1_7.out m2_7.out).mono ?_);rintro e w8 ⟨vA,rfl,hA,k8⟩;have T_8:=Zb (T_7.out.kp k8);have U_8:=Zb (U_7.out.kp k8);have m1_8:=Zb (m1_7.out.kp k8);have m2_8:=Zb (m2_7.out.kp k8);have V_8:=Zb (V_7.out.kp k8);have m3_8:=Zb (m3_7.out.kp k8);have m4_8:=Zb (m4_7.out.kp k8);have B_8:=Zb (B_7.out.kp k8);have C_8:=Zb (C_7.out.kp k8);clear T_7 U_7 m1_7 m2_7 V_7 m3_7 m4_7 B_7 C_7;have A_8:=Zb hA;clear hA k8;obtain ⟨g0,g1,g2,_⟩:=T_8.out.ra.cells;obtain ⟨h0,h1,h2,_⟩:=T_8.out.rb.cells)
    | (go_at_call 125;(with_reducible refine (CM2.out _ _ _ m3_8.out A_8.out).mono ?_);rintro e w9 ⟨vD,rfl,hD,k9⟩;have T_9:=Zb (T_8.out.kp k9);have U_9:=Zb (U_8.out.kp k9);have m1_9:=Zb (m1_8.out.kp k9);have m2_9:=Zb (m2_8.out.kp k9);have V_9:=Zb (V_8.out.kp k9);have m3_9:=Zb (m3_8.out.kp k9);have m4_9:=Zb (m4_8.out.kp k9);have B_9:=Zb (B_8.out.kp k9);have C_9:=Zb (C_8.out.kp k9);have A_9:=Zb (A_8.out.kp k9);clear T_8 U_8 m1_8 m2_8 V_8 m3_8 m4_8 B_8 C_8 A_8;have D_9:=Zb hD;clear hD k9;obtain ⟨g0,g1,g2,_⟩:=T_9.out.ra.cells;obtain ⟨h0,h1,h2,_⟩:=T_9.out.rb.cells)
    | (go_at_call 82;(with_reducible refine (CC.out _ _ _ C_9.out D_9.out).mono ?_);rintro e w10 ⟨rfl,k10⟩;have T_10:=Zb (T_9.out.kp k10);have U_10:=Zb (U_9.out.kp k10);have m1_10:=Zb (m1_9.out.kp k10);have m2_10:=Zb (m2_9.out.kp k10);have V_10:=Zb (V_9.out.kp k10);have m3_10:=Zb (m3_9.out.kp k10);have m4_10:=Zb (m4_9.out.kp k10);have B_10:=Zb (B_9.out.kp k10);have C_10:=Zb (C_9.out.kp k10);have A_10:=Zb (A_9.out.kp k10);have D_10:=Zb (D_9.out.kp k10);clear T_9 U_9 m1_9 m2_9 V_9 m3_9 m4_9 B_9 C_9 A_9 D_9;clear k10;obtain ⟨g0,g1,g2,_⟩:=T_10.out.ra.cells;obtain ⟨h0,h1,h2,_⟩:=T_10.out.rb.cells))
  go_wp2
  go_ret
  exact ⟨by simp,T_10.out.k⟩
 ·skip
  go_enter Tryz.func59,Tryz.ntmps59
  have KN:=HT.out.k
  have U_e:=Zb (HU.out.kp KN)
  have m1_e:=Zb (Hm1.out.kp KN)
  have m2_e:=Zb (Hm2.out.kp KN)
  have V_e:=Zb (HV.out.kp KN)
  have m3_e:=Zb (Hm3.out.kp KN)
  have m4_e:=Zb (Hm4.out.kp KN)
  clear KN
  obtain ⟨g0,g1,g2,_⟩:=HT.out.ra.cells
  obtain ⟨h0,h1,h2,_⟩:=HT.out.rb.cells
  go_upto_region 1 with fail
  have T_2:=Zb (HT.out.kp (Below.refl _ _).drew)
  have U_2:=Zb (U_e.out.kp (Below.refl _ _).drew)
  have m1_2:=Zb (m1_e.out.kp (Below.refl _ _).drew)
  have m2_2:=Zb (m2_e.out.kp (Below.refl _ _).drew)
  have V_2:=Zb (V_e.out.kp (Below.refl _ _).drew)
  have m3_2:=Zb (m3_e.out.kp (Below.refl _ _).drew)
  have m4_2:=Zb (m4_e.out.kp (Below.refl _ _).drew)
  clear HT U_e m1_e m2_e V_e m3_e m4_e
  go_region_held3 (fun w'=>w'.cell? ⟨w.heap.size,0,none⟩=some (.bool true)∧w'.cell? ⟨w.heap.size,1,none⟩=some (.slice a1 l1 c1)∧w'.cell? ⟨w.heap.size,2,none⟩=some (.slice a2 l2 c2)∧w'.cell? ⟨w.heap.size+1,0,none⟩=some (.bool q)∧w'.cell? ⟨w.heap.size+1,1,none⟩=some (.slice a3 l3 c3)∧w'.cell? ⟨w.heap.size+1,2,none⟩=some (.slice a4 l4 c4))
   (first|(refine ⟨?_,?_,?_,?_,?_,?_⟩<;>assumption)|go_keep)
   (first
    | (go_at_call 58;(with_reducible refine (CA.out _ _ U_2.out).mono ?_);rintro e w3 ⟨rfl,k3⟩;have T_3:=Zb (T_2.out.kp k3);have U_3:=Zb (U_2.out.kp k3);have m1_3:=Zb (m1_2.out.kp k3);have m2_3:=Zb (m2_2.out.kp k3);have V_3:=Zb (V_2.out.kp k3);have m3_3:=Zb (m3_2.out.kp k3);have m4_3:=Zb (m4_2.out.kp k3);clear T_2 U_2 m1_2 m2_2 V_2 m3_2 m4_2;clear k3;obtain ⟨g0,g1,g2,_⟩:=T_3.out.ra.cells;obtain ⟨h0,h1,h2,_⟩:=T_3.out.rb.cells)
    | (go_at_call 58;(with_reducible refine (CB.out _ _ V_3.out).mono ?_);rintro e w4 ⟨rfl,k4⟩;have T_4:=Zb (T_3.out.kp k4);have U_4:=Zb (U_3.out.kp k4);have m1_4:=Zb (m1_3.out.kp k4);have m2_4:=Zb (m2_3.out.kp k4);have V_4:=Zb (V_3.out.kp k4);have m3_4:=Zb (m3_3.out.kp k4);have m4_4:=Zb (m4_3.out.kp k4);clear T_3 U_3 m1_3 m2_3 V_3 m3_3 m4_3;clear k4;obtain ⟨g0,g1,g2,_⟩:=T_4.out.ra.cells;obtain ⟨h0,h1,h2,_⟩:=T_4.out.rb.cells))
  go_upto_region 6 with fail
  have T_5:=Zb (T_4.out.kp (Below.refl _ _).drew)
  have U_5:=Zb (U_4.out.kp (Below.refl _ _).drew)
  have m1_5:=Zb (m1_4.out.kp (Below.refl _ _).drew)
  have m2_5:=Zb (m2_4.out.kp (Below.refl _ _).drew)
  have V_5:=Zb (V_4.out.kp (Below.refl _ _).drew)
  have m3_5:=Zb (m3_4.out.kp (Below.refl _ _).drew)
  have m4_5:=Zb (m4_4.out.kp (Below.refl _ _).drew)
  clear T_4 U_4 m1_4 m2_4 V_4 m3_4 m4_4
  go_region_held3 (fun w'=>w'.cell? ⟨w.heap.size,0,none⟩=some (.bool true)∧w'.cell? ⟨w.heap.size,1,none⟩=some (.slice a1 l1 c1)∧w'.cell? ⟨w.heap.size,2,none⟩=some (.slice a2 l2 c2)∧w'.cell? ⟨w.heap.size+1,0,none⟩=some (.bool q)∧w'.cell? ⟨w.heap.size+1,1,none⟩=some (.slice a3 l3 c3)∧w'.cell? ⟨w.heap.size+1,2,none⟩=some (.slice a4 l4 c4))
   (first|(refine ⟨?_,?_,?_,?_,?_,?_⟩<;>assumption)|go_keep)
   (first
    | (go_at_call 126;(with_reducible refine (CDB.out _ m3_5.out m4_5.out).mono ?_);rintro e w6 ⟨vB,rfl,hB,k6⟩;have T_6:=Zb (T_5.out.kp k6);have U_6:=Zb (U_5.out.kp k6);have m1_6:=Zb (m1_5.out.kp k6);have m2_6:=Zb (m2_5.out.kp k6);have V_6:=Zb (V_5.out.kp k6);have m3_6:=Zb (m3_5.out.kp k6);have m4_6:=Zb (m4_5.out.kp k6);clear T_5 U_5 m1_5 m2_5 V_5 m3_5 m4_5;have B_6:=Zb hB;clear hB k6;obtain ⟨g0,g1,g2,_⟩:=T_6.out.ra.cells;obtain ⟨h0,h1,h2,_⟩:=T_6.out.rb.cells)
    | (go_at_call 125;(with_reducible refine (CM1.out _ _ _ m1_6.out B_6.out).mono ?_);rintro e w7 ⟨vC,rfl,hC,k7⟩;have T_7:=Zb (T_6.out.kp k7);have U_7:=Zb (U_6.out.kp k7);have m1_7:=Zb (m1_6.out.kp k7);have m2_7:=Zb (m2_6.out.kp k7);have V_7:=Zb (V_6.out.kp k7);have m3_7:=Zb (m3_6.out.kp k7);have m4_7:=Zb (m4_6.out.kp k7);have B_7:=Zb (B_6.out.kp k7);clear T_6 U_6 m1_6 m2_6 V_6 m3_6 m4_6 B_6;have C_7:=Zb hC;clear hC k7;obtain ⟨g0,g1,g2,_⟩:=T_7.out.ra.cells;obtain ⟨h0,h1,h2,_⟩:=T_7.out.rb.cells)
    | (go_at_call 126;(with_reducible refine (CDA.out _ m1_7.out m2_7.out).mono ?_);rintro e w8 ⟨vA,rfl,hA,k8⟩;have T_8:=Zb (T_7.out.kp k8);have U_8:=Zb (U_7.out.kp k8);have m1_8:=Zb (m1_7.out.kp k8);have m2_8:=Zb (m2_7.out.kp k8);have V_8:=Zb (V_7.out.kp k8);have m3_8:=Zb (m3_7.out.kp k8);have m4_8:=Zb (m4_7.out.kp k8);have B_8:=Zb (B_7.out.kp k8);have C_8:=Zb (C_7.out.kp k8);clear T_7 U_7 m1_7 m2_7 V_7 m3_7 m4_7 B_7 C_7;have A_8:=Zb hA;clear hA k8;obtain ⟨g0,g1,g2,_⟩:=T_8.out.ra.cells;obtain ⟨h0,h1,h2,_⟩:=T_8.out.rb.cells)
    | (go_at_call 125;(with_reducible refine (CM2.out _ _ _ m3_8.out A_8.out).mono ?_);rintro e w9 ⟨vD,rfl,hD,k9⟩;have T_9:=Zb (T_8.out.kp k9);have U_9:=Zb (U_8.out.kp k9);have m1_9:=Zb (m1_8.out.kp k9);have m2_9:=Zb (m2_8.out.kp k9);have V_9:=Zb (V_8.out.kp k9);have m3_9:=Zb (m3_8.out.kp k9);have m4_9:=Zb (m4_8.out.kp k9);have B_9:=Zb (B_8.out.kp k9);have C_9:=Zb (C_8.out.kp k9);have A_9:=Zb (A_8.out.kp k9);clear T_8 U_8 m1_8 m2_8 V_8 m3_8 m4_8 B_8 C_8 A_8;have D_9:=Zb hD;clear hD k9;obtain ⟨g0,g1,g2,_⟩:=T_9.out.ra.cells;obtain ⟨h0,h1,h2,_⟩:=T_9.out.rb.cells)
    | (go_at_call 82;(with_reducible refine (CC.out _ _ _ C_9.out D_9.out).mono ?_);rintro e w10 ⟨rfl,k10⟩;have T_10:=Zb (T_9.out.kp k10);have U_10:=Zb (U_9.out.kp k10);have m1_10:=Zb (m1_9.out.kp k10);have m2_10:=Zb (m2_9.out.kp k10);have V_10:=Zb (V_9.out.kp k10);have m3_10:=Zb (m3_9.out.kp k10);have m4_10:=Zb (m4_9.out.kp k10);have B_10:=Zb (B_9.out.kp k10);have C_10:=Zb (C_9.out.kp k10);have A_10:=Zb (A_9.out.kp k10);have D_10:=Zb (D_9.out.kp k10);clear T_9 U_9 m1_9 m2_9 V_9 m3_9 m4_9 B_9 C_9 A_9 D_9;clear k10;obtain ⟨g0,g1,g2,_⟩:=T_10.out.ra.cells;obtain ⟨h0,h1,h2,_⟩:=T_10.out.rb.cells))
  go_wp2
  go_ret
  exact ⟨rfl,T_10.out.k⟩
theorem Kx {w:World} {u:Value} {x:Rat} (hu:Ao w u x) {v:Value} {y:Rat} (hv:Ao w v y) {j k:Nat} (hs:RSz j x) (ht:RSz k y) (hj:j≤500000000) (hk:k≤500000000):
  Calls Tryz.prog 59 #[u,v] w fun e w'=>e= .returned (.int .i64 (Cd x y))∧Kp w w':=by
 by_cases h9:A9 x=A9 y
 ·have h:=Nm hu hv hs ht hj hk h9
  have he:(if decide (x.num<0)=true then-AY (x.num.natAbs*y.den) (y.num.natAbs*x.den) else AY (x.num.natAbs*y.den) (y.num.natAbs*x.den))=Cd x y:=by
   unfold A9 at h9
   by_cases hx:x.num<0
   ·rw [if_pos (decide_eq_true hx),←SQ]
    refine (Ov (by omega) ?_).symm
    by_cases hy:y.num≤0
    ·exact hy
    ·rw [if_neg (by omega),if_pos hx,if_neg (by omega),if_neg (by omega)] at h9
     omega
   ·rw [if_neg (by rw [decide_eq_false hx];decide)]
    refine (J4 (by omega) ?_).symm
    by_cases hy:0≤y.num
    ·exact hy
    ·rw [if_neg hx,if_neg (by omega: ¬y.num=0),if_pos (by omega)] at h9
     split at h9<;>omega
  rw [he] at h
  exact h
 ·exact Nn hu hv h9
theorem GJ (n:Int) (h1: -9223372036854775808≤n) (h2:n<9223372036854775808) (w:World):
  Calls Tryz.prog 115 #[.int .i64 n] w fun e w'=> ∃v,e= .returned (.tuple #[v,.bool (decide (n<0))])∧M w' v n.natAbs∧Kp w w':=by
 have HO:=Zb (Gl n.natAbs w (by omega))
 by_cases h:n<0
 ·have hb:decide (n<0)=true:=decide_eq_true h
  rw [hb]
  have he:(n.natAbs:Int)= -n:=by omega
  rw [he] at HO
  have e1:IntKind.i64.wrap (n+1)=n+1:=IntWalk.i64_in _ (by omega)
  have e2:IntKind.i64.wrap (-(n+1))= -(n+1):=IntWalk.i64_in _ (by omega)
  have e3:IntKind.u64.wrap (-(n+1))= -(n+1):=IntWalk.u64_in _ (by omega)
  have e4:IntKind.u64.wrap (-(n+1)+1)= -n:=by rw [IntWalk.u64_in _ (by omega)];omega
  have e5:(-(n+1)+1:Int)= -n:=by omega
  clear he
  go_enter Tryz.func115,Tryz.ntmps115
  go_wp2_with (go_at_call 152;(with_reducible refine HO.out.mono ?_);rintro e w1 ⟨v,rfl,hv,k1⟩;refine Hid.out ?_)
  refine Zb ?_
  go_wp2
  go_ret2
  exact ⟨_,rfl,hv,k1⟩
 ·have hb:decide (n<0)=false:=decide_eq_false h
  rw [hb]
  have he:(n.natAbs:Int)=n:=Int.natAbs_of_nonneg (by omega)
  rw [he] at HO
  have e3:IntKind.u64.wrap n=n:=IntWalk.u64_in _ (by omega)
  clear he
  go_enter Tryz.func115,Tryz.ntmps115
  go_wp2_with (go_at_call 152;(with_reducible refine HO.out.mono ?_);rintro e w1 ⟨v,rfl,hv,k1⟩;refine Hid.out ?_)
  refine Zb ?_
  go_wp2
  go_ret2
  exact ⟨_,rfl,hv,k1⟩
set_option maxRecDepth 20000 in
theorem Pg {w:World} (n d:Int) (h1: -9223372036854775808≤n) (h2:n<9223372036854775808) (h3: -9223372036854775808≤d) (h4:d<9223372036854775808) (h0:d≠0):
  Calls Tryz.prog 145 #[.int .i64 n,.int .i64 d] w fun e w'=> ∃v,e= .returned (.tuple #[v,.int .i64 0])∧Ao w' v (AG (decide (n<0) !=decide (d<0)) n.natAbs d.natAbs)∧Kp w w':=by
 have HT:=Zb (Nul.new w)
 have CN:=Zb (fun w'=>GJ n h1 h2 w')
 have CD:=Zb (fun w'=>GJ d h3 h4 w')
 have sz: ∀z:Int,-9223372036854775808≤z→z<9223372036854775808→Sz 2 z.natAbs:=fun z a b=>Aj _ 2 (by simp;omega)
 have hd0:d.natAbs≠0:=by omega
 have CR:=Zb (fun w' s va vb (a:M w' va n.natAbs) (b:M w' vb d.natAbs)=>Fl (neg:=s) a b (sz n h1 h2) (sz d h3 h4) (by omega) (by omega) hd0)
 have hz:(d==0)=false:=by simpa using h0
 obtain ⟨p,hp⟩: ∃p,p=decide (n<0):=⟨_,rfl⟩
 obtain ⟨q,hq⟩: ∃p,p=decide (d<0):=⟨_,rfl⟩
 rw [←hp] at CN⊢
 rw [←hq] at CD⊢
 clear hp hq sz hd0 h0 h1 h2 h3 h4
 go_enter Tryz.func145,Tryz.ntmps145
 have KN:=HT.out.k
 clear KN
 go_wp2_with (go_at_call 115;(with_reducible refine (CN.out _).mono ?_);rintro e w2 ⟨vn,rfl,hvn,k2⟩;refine Hid.out ?_)
 refine Zb ?_
 have T_2:=Zb (HT.out.kp k2)
 clear HT
 have N_2:=Zb hvn
 clear hvn k2
 go_wp2_with (go_at_call 115;(with_reducible refine (CD.out _).mono ?_);rintro e w3 ⟨vd,rfl,hvd,k3⟩;refine Hid.out ?_)
 refine Zb ?_
 have T_3:=Zb (T_2.out.kp k3)
 have N_3:=Zb (N_2.out.kp k3)
 clear T_2 N_2
 have D_3:=Zb hvd
 clear hvd k3
 go_wp2_with (go_at_call 127;(with_reducible refine (CR.out _ _ _ _ N_3.out D_3.out).mono ?_);rintro e w4 ⟨vr,rfl,hvr,k4⟩;refine Hid.out ?_)
 refine Zb ?_
 have T_4:=Zb (T_3.out.kp k4)
 have N_4:=Zb (N_3.out.kp k4)
 have D_4:=Zb (D_3.out.kp k4)
 clear T_3 N_3 D_3
 clear k4
 obtain ⟨sgn,q1,r1,s1,q2,r2,s2,rfl⟩:=hvr.lit
 obtain ⟨⟨e0,e1,e2,f0,f1,f2⟩,HPP,HV,HKF⟩:=AP T_4.out.rr T_4.out.k (Below.refl _ _) hvr (by omega)
 clear hvr
 obtain ⟨k0,k1,k2⟩:=HPP.out
 go_wp2
 exact bodyPost_ret (v:= .tuple #[.agg #[.bool sgn,.slice q1 r1 s1,.slice q2 r2 s2],.int .i64 0]) (by simp [results,Tryz.results145,go_sem,k0,k1,k2]) rfl ⟨_,rfl,HV.out,HKF.out⟩
set_option maxRecDepth 20000 in
theorem Ph {w:World} (n d:Int) (h1: -9223372036854775808≤n) (h2:n<9223372036854775808) (h3: -9223372036854775808≤d) (h4:d<9223372036854775808) (h0:d≠0):
  Calls Tryz.prog 94 #[.int .i64 n,.int .i64 d] w fun e w'=> ∃r,e= .returned r∧Ao w' r (AG (decide (n<0) !=decide (d<0)) n.natAbs d.natAbs)∧Kp w w':=by
 have HT:=Zb (Nul.new w)
 have CM:=Zb (fun w'=>Pg (w:=w') n d h1 h2 h3 h4 h0)
 clear h0 h1 h2 h3 h4
 go_enter Tryz.func94,Tryz.ntmps94
 have KN:=HT.out.k
 clear KN
 go_wp2_with (go_at_call 145;(with_reducible refine (CM.out _).mono ?_);rintro e w2 ⟨vr,rfl,hvr,k2⟩;refine Hid.out ?_)
 refine Zb ?_
 have T_2:=Zb (HT.out.kp k2)
 clear HT
 clear k2
 obtain ⟨sgn,q1,r1,s1,q2,r2,s2,rfl⟩:=hvr.lit
 have VR:=Zb hvr
 clear hvr
 have T_3:=Zb (T_2.out.kp (Kp.alloc _ (Obj.cells #[Value.bool sgn,Value.slice q1 r1 s1,Value.slice q2 r2 s2] 30)))
 have V9_3:=Zb (VR.out.kp (Kp.alloc _ (Obj.cells #[Value.bool sgn,Value.slice q1 r1 s1,Value.slice q2 r2 s2] 30)))
 clear T_2 VR
 obtain ⟨⟨e0,e1,e2,f0,f1,f2⟩,HPP,HV,HKF⟩:=AP T_3.out.rr T_3.out.k (Below.refl _ _) V9_3.out (by omega)
 obtain ⟨k0,k1,k2⟩:=HPP.out
 go_wp2
 exact bodyPost_ret (v:= .agg #[.bool sgn,.slice q1 r1 s1,.slice q2 r2 s2]) (by simp [results,Tryz.results94,go_sem,k0,k1,k2]) rfl ⟨_,rfl,HV.out,HKF.out⟩
set_option maxRecDepth 20000 in
theorem R5 {w:World} (n:Int) (h1: -9223372036854775808≤n) (h2:n<9223372036854775808):
  Calls Tryz.prog 43 #[.int .i64 n] w fun e w'=> ∃r,e= .returned r∧Ao w' r ((n:Rat))∧Kp w w':=by
 have HT:=Zb (Nul.new w)
 have CN:=Zb (fun w'=>GJ n h1 h2 w')
 have hn:AG (decide (n<0)) n.natAbs 1=(n:Rat):=by unfold AG;rw [IW,Rat.mkRat_one]
 rw [←hn]
 have h0:n.natAbs=0→decide (n<0)=false:=fun h=>decide_eq_false (by omega)
 have H0:=Zb h0
 obtain ⟨p,hp⟩: ∃p,p=decide (n<0):=⟨_,rfl⟩
 rw [←hp] at CN H0⊢
 clear hp h1 h2 hn h0
 go_enter Tryz.func43,Tryz.ntmps43
 have KN:=HT.out.k
 clear KN
 go_wp2_with (go_at_call 115;(with_reducible refine (CN.out _).mono ?_);rintro e w2 ⟨vn,rfl,hvn,k2⟩;refine Hid.out ?_)
 refine Zb ?_
 have T_2:=Zb (HT.out.kp k2)
 clear HT
 have N_2:=Zb hvn
 clear hvn k2
 obtain ⟨o9,l9,c9,rfl⟩:=Ct N_2.out
 have VR:=Zb (Ao.of (neg:=p) (by decide) (Nat.gcd_one_right _) N_2.out (by rw [if_pos rfl];exact Ik _) H0.out)
 obtain ⟨⟨e0,e1,e2,f0,f1,f2⟩,HPP,HV,HKF⟩:=AP T_2.out.rr T_2.out.k (Below.refl _ _) VR.out (by omega)
 go_wp2
 obtain ⟨k0,k1,k2⟩:=HPP.out
 exact bodyPost_ret (v:= .agg #[.bool p,.slice o9 l9 c9,.slice none 0 0]) (by simp [results,Tryz.results43,go_sem,k0,k1,k2]) rfl ⟨_,rfl,HV.out,HKF.out⟩
end Go.Proofs.YtnkobfcnflphkaaGreatDoor
