/-
  Several texts in one: Rq, Rq1, Rq5, Rq7.
-/
import Derived.Test.YtnkobfcnflphkaaGreatDoorBk
import Derived.Test.YtnkobfcnflphkaaGreatDoorBi
import Derived.Test.YtnkobfcnflphkaaGreatDoorBy
import Derived.Test.YtnkobfcnflphkaaGreatDoorBc
namespace Go.Proofs.YtnkobfcnflphkaaGreatDoor
open Go.RowKit
set_option maxRecDepth 20000 in
set_option maxHeartbeats 1000000 in
theorem rden_any {w:World} {s:Bool} {num den:Value} {n k:Nat} (hn:M w num n) (hk:M w den k):
  Calls Tryz.prog 126 #[.agg #[.bool s,num,den]] w fun e w'=> ∃v,e= .returned v∧M w' v (if k=0 then 1 else k)∧Kp w w':=by
 have MK:=Lib.hid (fun w' (kk:Kp w w')=>hk.kp kk)
 obtain ⟨no,nl,nc,rfl⟩:=m_slice hn
 obtain ⟨bo,bc,rfl,b1,b2,_,_⟩:=hk
 clear hn
 by_cases h0:k=0
 ·subst h0
  rw [toL_zero] at b1⊢
  clear MK
  go_enter Tryz.func126,Tryz.ntmps126
  go_wp2
  go_ret
  refine ⟨.slice (some ⟨w.heap.size+1,0,none⟩) 1 1,rfl,m_one_q _ _ _ _ ?_ (Nat.le_refl _) (by decide),(Kp.alloc w _).tr (Kp.alloc _ _)⟩
  have hcell:=cell_of_row _ _ 0 _ _ _ (heap_alloc_new (w.alloc (Obj.cells #[Value.bool s,Value.slice no nl nc,Value.slice bo 0 bc] 30)) (Obj.cells #[Value.int IntKind.u32 1] 128))
  rw [World.size_alloc] at hcell
  exact hcell
 ·rw [if_neg h0]
  have hl:=len_pos h0
  obtain ⟨lb,hlb⟩: ∃l,l=(toL k).length:=⟨_,rfl⟩
  rw [←hlb] at b1 hl MK⊢
  have hz:(((lb:Nat):Int)==0)=false:=by simp;omega
  clear hlb h0
  go_enter Tryz.func126,Tryz.ntmps126
  go_wp2
  go_ret
  exact ⟨_,rfl,MK.out _ (by repeat first | exact Below.refl _ _ | apply Kp.dr | exact Kp.alloc _ _),by repeat first | exact Below.refl _ _ | apply Kp.dr | exact Kp.alloc _ _⟩
theorem rden_m {w:World} {s:Bool} {num den:Value} {n:Nat} {x:Rat} (hn:M w num n) (hk:M w den (denOf x)):
  Calls Tryz.prog 126 #[.agg #[.bool s,num,den]] w fun e w'=> ∃v,e= .returned v∧M w' v x.den∧Kp w w':=by
 have:=rden_any (s:=s) hn hk
 rw [den_back] at this
 exact this
theorem trim_lit {w:World} {v:Value} {xs:List Nat} (h:Rd w v xs) (hl:xs.length≤1099511627776):
  Calls Tryz.prog 158 #[v] w fun e w'=> ∃o c,e= .returned (.slice o (toL (val xs)).length c)∧M w' (.slice o (toL (val xs)).length c) (val xs)∧Kp w w':=by
 have hL:Limbs xs:=by obtain ⟨_,_,_,_,_,h,_⟩:=h;exact h
 refine (trim_any v xs w h hl).mono ?_
 rintro e w' ⟨v',rfl,h',k⟩
 rw [←toL_val hL] at h'
 obtain ⟨o,c,rfl,_⟩:=id h'
 exact ⟨o,c,rfl,h',k⟩
theorem one_slice {w:World} {v:Value} (h:M w v 1): ∃b off c,v= .slice (some ⟨b,off,none⟩) 1 c∧w.cell? ⟨b,off,none⟩=some (.int .u32 1):=by
 obtain ⟨o,c,e,hc,hm,hL,hs⟩:=h
 rw [toL_one] at e hs
 obtain ⟨b,off,rfl,hcell⟩:=hs (by simp)
 exact ⟨b,off,c,e,by simpa using hcell 0 (by simp)⟩
theorem not_one {w:World} {v:Value} {n:Nat} (h:M w v n) (hn:n≠1):(∃o l c,v= .slice o l c∧l≠1)∨(∃b off c x,v= .slice (some ⟨b,off,none⟩) 1 c∧w.cell? ⟨b,off,none⟩=some (.int .u32 ((x:Nat):Int))∧x≠1):=by
 obtain ⟨o,c,e,hc,hm,hL,hs⟩:=h
 by_cases h1:(toL n).length=1
 ·right
  obtain ⟨b,off,rfl,hcell⟩:=hs (by rintro h2;rw [h2] at h1;simp at h1)
  refine ⟨b,off,c,n,by rw [e,h1],?_,hn⟩
  have:=hcell 0 (by omega)
  rw [toL_one_limb h1,Nat.add_zero] at this
  exact this
 ·left
  exact ⟨o,_,c,e,h1⟩
set_option maxRecDepth 20000 in
set_option maxHeartbeats 1000000 in
theorem reduce_zero {w:World} {neg:Bool} {a b:Value} {xs ys:List Nat} (ha:Rd w a xs) (hb:Rd w b ys) (hl:xs.length≤1073741824) (hl2:ys.length≤1073741824) (h:val xs=0):
  Calls Tryz.prog 127 #[.bool neg,a,b] w fun e w'=>e= .returned (.agg #[.bool false,.slice none 0 0,.slice none 0 0])∧Kp w w':=by
 have KW:=Kp.alloc w (Obj.cells #[Value.bool false,Value.slice none 0 0,Value.slice none 0 0] 30)
 have HA:=Lib.hid (trim_lit (ha.kp KW) (by omega))
 have HB:=Lib.hid (fun w' kk=>trim_lit ((hb.kp KW).kp (w':=w') kk) (by omega))
 have HRES:=Lib.hid (Res.new w (Value.bool false) (Value.slice none 0 0) (Value.slice none 0 0))
 rw [h,toL_zero] at HA
 have HKW:=Lib.hid KW
 clear ha hb hl hl2 h KW
 go_enter Tryz.func127,Tryz.ntmps127
 go_wp2_with (go_at_call 158;(with_reducible refine HA.out.mono ?_);rintro e w1 ⟨o1,c1,rfl,m1,K1⟩;refine Hid.out ?_)
 refine Lib.hid ?_
 have HB1:=Lib.hid (HB.out w1 K1)
 have HK1:=Lib.hid K1
 clear m1 K1
 go_wp2_with (go_at_call 158;(with_reducible refine HB1.out.mono ?_);rintro e w2 ⟨o2,c2,rfl,m2,K2⟩;refine Hid.out ?_)
 refine Lib.hid ?_
 have HK2:=Lib.hid (HK1.out.tr K2)
 obtain ⟨d0,d1,d2,f0,f1,f2⟩:=(HRES.out.kp HK2.out).cells
 have HP:=Lib.hid ((HRES.out.kp HK2.out).put (.bool false) (.slice none 0 0) (.slice none 0 0)).cells
 unfold stored at HP
 clear m2 K2
 go_wp2
 obtain ⟨k0,k1,k2,_⟩:=HP.out
 exact bodyPost_ret (v:= .agg #[.bool false,.slice none 0 0,.slice none 0 0]) (by simp [results,Tryz.results127,go_sem,k0,k1,k2]) rfl ⟨rfl,(HKW.out.tr HK2.out).put3 (Nat.le_refl _) _ _ _⟩
def Parts (w0 wc:World) (n d:Nat) (va vb:Value):Prop:=M wc va n∧M wc vb d∧Kp w0 wc
set_option maxRecDepth 20000 in
set_option maxHeartbeats 2000000 in
theorem reduce_some {w:World} {neg:Bool} {a b:Value} {xs ys:List Nat} (ha:Rd w a xs) (hb:Rd w b ys) (hl:xs.length≤1073741824) (hl2:ys.length≤1073741824) (h0:val ys≠0) (h:val xs≠0):
  Calls Tryz.prog 127 #[.bool neg,a,b] w fun e w'=> ∃v,e= .returned v∧RatV w' v (ratOf neg (val xs) (val ys))∧Kp w w':=by
 have KW:=Kp.alloc w (Obj.cells #[Value.bool false,Value.slice none 0 0,Value.slice none 0 0] 30)
 have hLa:Limbs xs:=by obtain ⟨_,_,_,_,_,h,_⟩:=ha;exact h
 have hLb:Limbs ys:=by obtain ⟨_,_,_,_,_,h,_⟩:=hb;exact h
 have hsa:(toL (val xs)).length≤1073741824:=Sz.val hLa _ hl
 have hsb:(toL (val ys)).length≤1073741824:=Sz.val hLb _ hl2
 have HA:=Lib.hid (trim_lit (ha.kp KW) (by omega))
 have HB:=Lib.hid (fun w' kk=>trim_lit ((hb.kp KW).kp (w':=w') kk) (by omega))
 have HRES:=Lib.hid (Res.new w (Value.bool false) (Value.slice none 0 0) (Value.slice none 0 0))
 obtain ⟨n,hn⟩: ∃n,n=val xs:=⟨_,rfl⟩
 obtain ⟨d,hd⟩: ∃d,d=val ys:=⟨_,rfl⟩
 rw [←hn] at HA h hsa⊢
 rw [←hd] at HB h0 hsb⊢
 have hlp:=len_pos h
 obtain ⟨la,hla⟩: ∃l,l=(toL n).length:=⟨_,rfl⟩
 rw [←hla] at HA hlp
 have hlz:((la:Int)==0)=false:=beq_eq_false_iff_ne.2 (by omega)
 obtain ⟨g,hg⟩: ∃g,g=Nat.gcd n d:=⟨_,rfl⟩
 have hg0:g≠0:=by rw [hg];exact Nat.ne_of_gt (Nat.gcd_pos_of_pos_right _ (Nat.pos_of_ne_zero h0))
 have HG:=Lib.hid (fun w' va vb (ma:M w' va n) (mb:M w' vb d)=>rgcd_any ma mb hsa hsb)
 rw [←hg] at HG
 have HD1:=Lib.hid (fun w' va vg (ma:M w' va n) (mg:M w' vg g)=>rdiv_any ma mg hsa hg0)
 have HD2:=Lib.hid (fun w' va vg (ma:M w' va d) (mg:M w' vg g)=>rdiv_any ma mg hsb hg0)
 have hlow:=ratOf_low neg (n:=n) (d:=d) (g:=g) (by rw [hg];exact Nat.gcd_dvd_left _ _) (by rw [hg];exact Nat.gcd_dvd_right _ _) h0
 have hcop:Nat.gcd (n/g) (d/g)=1:=by rw [hg];exact low_coprime h0
 have hn0:n/g≠0:=Nat.ne_of_gt (Nat.div_pos (Nat.le_of_dvd (Nat.pos_of_ne_zero h) (by rw [hg];exact Nat.gcd_dvd_left _ _)) (Nat.pos_of_ne_zero hg0))
 have hd0:d/g≠0:=Nat.ne_of_gt (Nat.div_pos (Nat.le_of_dvd (Nat.pos_of_ne_zero h0) (by rw [hg];exact Nat.gcd_dvd_right _ _)) (Nat.pos_of_ne_zero hg0))
 rw [←hlow]
 have HFIN:=Lib.hid (And.intro hcop (And.intro hn0 hd0))
 have HKW:=Lib.hid KW
 have HG1:g=1→Hid (n=n/g∧d=d/g):=fun e=>Lib.hid (by rw [e,Nat.div_one,Nat.div_one];exact ⟨rfl,rfl⟩)
 clear ha hb hl hl2 hLa hLb hsa hsb hn hd h h0 KW hla hg hg0 hlow hcop hn0 hd0
 go_enter Tryz.func127,Tryz.ntmps127
 go_wp2_with (go_at_call 158;(with_reducible refine HA.out.mono ?_);rintro e w1 ⟨o1,c1,rfl,m1,K1⟩;refine Hid.out ?_)
 refine Lib.hid ?_
 have HB1:=Lib.hid (HB.out w1 K1)
 have HM1:=Lib.hid m1
 have HK1:=Lib.hid K1
 clear m1 K1
 go_wp2_with (go_at_call 158;(with_reducible refine HB1.out.mono ?_);rintro e w2 ⟨o2,c2,rfl,m2,K2⟩;refine Hid.out ?_)
 refine Lib.hid ?_
 have HM2:=Lib.hid m2
 have HM1':=Lib.hid (HM1.out.kp K2)
 have HK2:=Lib.hid (HK1.out.tr K2)
 have HG2:=Lib.hid (HG.out w2 _ _ HM1'.out m2)
 clear m2 K2
 go_wp2_with (go_at_call 159;(with_reducible refine HG2.out.mono ?_);rintro e w3 ⟨vg,rfl,mg,K3⟩;refine Hid.out ?_)
 refine Lib.hid ?_
 have HMG:=Lib.hid mg
 have HM13:=Lib.hid (HM1'.out.kp K3)
 have HM23:=Lib.hid (HM2.out.kp K3)
 have HK3:=Lib.hid (HK2.out.tr K3)
 clear mg K3
 obtain ⟨t0,ht0⟩: ∃t,t=decide (g≠1):=⟨_,rfl⟩
 have HT0:=Lib.hid ht0
 clear ht0
 go_upto_region 5 with fail
 go_cut [27] (fun t wc=>t= .bool t0∧w3=wc)
 case first=>
  by_cases hg1:g=1
  ·obtain rfl:t0=false:=by rw [HT0.out];exact decide_eq_false (fun h=>h hg1)
   subst hg1
   obtain ⟨gb,gof,gc,rfl,hgc⟩:=one_slice HMG.out
   go_wp2_with fail
   go_meet
   exact ⟨rfl,rfl⟩
  ·obtain rfl:t0=true:=by rw [HT0.out];exact decide_eq_true hg1
   rcases not_one HMG.out hg1 with ⟨go,gl,gc,rfl,hgl⟩ | ⟨gb,gof,gc,x,rfl,hgc,hx⟩
   ·have hne2:((gl:Int) !=1)=true:=by rw [bne_iff_ne];omega
    clear hg1 HG1
    go_wp2_with fail
    go_meet
    exact ⟨rfl,rfl⟩
   ·have hne2:((x:Int) !=1)=true:=by rw [bne_iff_ne];omega
    clear hg1 HG1
    go_wp2_with fail
    go_meet
    exact ⟨rfl,rfl⟩
 case rest=>
 obtain ⟨rfl,rfl⟩:=hcut
 go_upto_if 27 with fail
 go_cut [1,2] (fun va vb wc=>Parts (w.alloc (Obj.cells #[Value.bool false,Value.slice none 0 0,Value.slice none 0 0] 30)) wc (n/g) (d/g) va vb)
 case first=>
  cases t0
  ·have hg1:g=1:=by have:=of_decide_eq_false HT0.out.symm;omega
   have HE:=HG1 hg1
   clear HG1 hg1
   go_wp2_with fail
   go_meet
   exact ⟨HE.out.1▸HM13.out,HE.out.2▸HM23.out,HK3.out⟩
  ·have HX1:=Lib.hid (HD1.out w3 _ _ HM13.out HMG.out)
   have HX2:=Lib.hid (fun w' (kk:Kp w3 w')=>HD2.out w' _ _ (HM23.out.kp kk) (HMG.out.kp kk))
   clear HG1
   go_wp2_with (go_at_call 160;(with_reducible refine HX1.out.mono ?_);rintro e w4 ⟨q1,r1,rfl,mq1,_,K4⟩;refine Hid.out ?_)
   refine Lib.hid ?_
   have HQ1:=Lib.hid mq1
   have HK4:=Lib.hid K4
   have HX22:=Lib.hid (HX2.out w4 K4)
   clear mq1 K4
   go_wp2_with (go_at_call 160;(with_reducible refine HX22.out.mono ?_);rintro e w5 ⟨q2,r2,rfl,mq2,_,K5⟩;refine Hid.out ?_)
   refine Lib.hid ?_
   have HPA:=Lib.hid (show Parts (w.alloc (Obj.cells #[Value.bool false,Value.slice none 0 0,Value.slice none 0 0] 30)) w5 (n/g) (d/g) q1 q2 from ⟨HQ1.out.kp K5,mq2,(HK3.out.tr HK4.out).tr K5⟩)
   clear mq2 K5
   go_wp2_with fail
   go_meet
   exact HPA.out
 case rest=>
  obtain ⟨mA,mB,KC⟩:=hcut
  have HMA:=Lib.hid mA
  have HKC:=Lib.hid KC
  obtain ⟨ao,al,ac,rfl⟩:=m_slice mA
  have HR:=Lib.hid (HRES.out.kp KC)
  obtain ⟨d0,d1,d2,f0,f1,f2⟩:=HR.out.cells
  by_cases hd1:d/g=1
  ·rw [hd1] at mB
   have HDG:=Lib.hid hd1
   obtain ⟨bb,bof,bc,rfl,hbc⟩:=one_slice mB
   have HP:=Lib.hid (HR.out.put (.bool neg) (.slice ao al ac) (.slice none 0 0)).cells
   have HVA:=Lib.hid (RatV.of (neg:=neg) HFIN.out.2.2 HFIN.out.1 (HMA.out.res HR.out (noLimb_bool _) (noLimb_slice _ _ _) (noLimb_slice _ _ _) (.bool neg) (.slice ao al ac) (.slice none 0 0)) (by rw [if_pos HDG.out];exact m_nil0 _) (fun h=>absurd h HFIN.out.2.1))
   unfold stored at HP HVA
   clear mA mB KC hd1
   go_wp2
   obtain ⟨k0,k1,k2,_⟩:=HP.out
   exact bodyPost_ret (v:= .agg #[.bool neg,.slice ao al ac,.slice none 0 0]) (by simp [results,Tryz.results127,go_sem,k0,k1,k2]) rfl ⟨_,rfl,HVA.out,(HKW.out.tr HKC.out).put3 (Nat.le_refl _) _ _ _⟩
  ·have HDG:=Lib.hid hd1
   obtain ⟨bo,bl,bc,rfl⟩:=m_slice mB
   have HP:=Lib.hid (HR.out.put (.bool neg) (.slice ao al ac) (.slice bo bl bc)).cells
   have HVA:=Lib.hid (RatV.of (neg:=neg) HFIN.out.2.2 HFIN.out.1 (HMA.out.res HR.out (noLimb_bool _) (noLimb_slice _ _ _) (noLimb_slice _ _ _) (.bool neg) (.slice ao al ac) (.slice bo bl bc)) (by rw [if_neg HDG.out];exact mB.res HR.out (noLimb_bool _) (noLimb_slice _ _ _) (noLimb_slice _ _ _) _ _ _) (fun h=>absurd h HFIN.out.2.1))
   unfold stored at HP HVA
   rcases not_one mB hd1 with ⟨go,gl,gc,he,hgl⟩ | ⟨gb,gof,gc,x,he,hgc,hx⟩
   ·obtain ⟨rfl,rfl,rfl⟩:bo=go∧bl=gl∧bc=gc:=by simpa using he
    have hne:((bl:Int)==1)=false:=beq_eq_false_iff_ne.2 (by omega)
    clear mA mB KC hd1 he hgl
    go_wp2
    obtain ⟨k0,k1,k2,_⟩:=HP.out
    exact bodyPost_ret (v:= .agg #[.bool neg,.slice ao al ac,.slice bo bl bc]) (by simp [results,Tryz.results127,go_sem,k0,k1,k2]) rfl ⟨_,rfl,HVA.out,(HKW.out.tr HKC.out).put3 (Nat.le_refl _) _ _ _⟩
   ·obtain ⟨rfl,rfl,rfl⟩:bo=some ⟨gb,gof,none⟩∧bl=1∧bc=gc:=by simpa using he
    have hne:((x:Int)==1)=false:=beq_eq_false_iff_ne.2 (by omega)
    clear mA mB KC hd1 he hx
    go_wp2
    obtain ⟨k0,k1,k2,_⟩:=HP.out
    exact bodyPost_ret (v:= .agg #[.bool neg,.slice ao al ac,.slice (some ⟨gb,gof,none⟩) 1 bc]) (by simp [results,Tryz.results127,go_sem,k0,k1,k2]) rfl ⟨_,rfl,HVA.out,(HKW.out.tr HKC.out).put3 (Nat.le_refl _) _ _ _⟩
theorem reduce_any {w:World} {neg:Bool} {a b:Value} {xs ys:List Nat} (ha:Rd w a xs) (hb:Rd w b ys) (hl:xs.length≤1073741824) (hl2:ys.length≤1073741824) (h0:val ys≠0):
  Calls Tryz.prog 127 #[.bool neg,a,b] w fun e w'=> ∃v,e= .returned v∧RatV w' v (ratOf neg (val xs) (val ys))∧Kp w w':=by
 by_cases h:val xs=0
 ·refine (reduce_zero ha hb hl hl2 h).mono ?_
  rintro e w' ⟨he,k⟩
  refine ⟨_,he,?_,k⟩
  rw [h,ratOf_zero]
  exact RatV.zero w'
 ·exact reduce_some ha hb hl hl2 h0 h
theorem reduce_m {w:World} {neg:Bool} {a b:Value} {n d:Nat} (ha:M w a n) (hb:M w b d) {j k:Nat} (hs:Sz j n) (ht:Sz k d) (hj:j≤1073741824) (hk:k≤1073741824) (h0:d≠0):
  Calls Tryz.prog 127 #[.bool neg,a,b] w fun e w'=> ∃v,e= .returned v∧RatV w' v (ratOf neg n d)∧Kp w w':=by
 have:=reduce_any (neg:=neg) ha hb (Nat.le_trans hs hj) (Nat.le_trans ht hk) (by rw [val_toL];exact h0)
 rw [val_toL,val_toL] at this
 exact this
end Go.Proofs.YtnkobfcnflphkaaGreatDoor
namespace Go.Proofs.YtnkobfcnflphkaaGreatDoor
open Go.RowKit
set_option maxRecDepth 20000 in
set_option maxHeartbeats 1000000 in
theorem rqsign_any {w:World} {v:Value} {x:Rat} (h:RatV w v x):
  Calls Tryz.prog 58 #[v] w fun e w'=>e= .returned (.int .i64 (sgnR x))∧Kp w w':=by
 obtain ⟨num,den,rfl,hn,hk⟩:=h
 obtain ⟨ao,ac,rfl,a1,a2,_,_⟩:=hn
 obtain ⟨bo,lb,bc,rfl⟩:=m_slice hk
 clear hk
 unfold sgnR
 by_cases e0:x.num=0
 ·rw [e0]
  rw [show (0:Int).natAbs=0 from rfl,toL_zero,if_pos rfl]
  rw [e0,show (0:Int).natAbs=0 from rfl,toL_zero] at a1
  rw [show decide ((0:Int)<0)=false from rfl]
  clear e0
  go_enter Tryz.func58,Tryz.ntmps58
  go_wp2
  go_ret
  exact ⟨rfl,by repeat first | exact Below.refl _ _ | apply Kp.drew | exact Kp.alloc _ _⟩
 ·have hl:=len_pos (n:=x.num.natAbs) (by omega)
  rw [if_neg e0]
  obtain ⟨la,hla⟩: ∃l,l=(toL x.num.natAbs).length:=⟨_,rfl⟩
  rw [←hla] at a1 hl⊢
  have hz:(((la:Nat):Int)==0)=false:=by simp;omega
  obtain ⟨s,hs⟩: ∃s,s=decide (x.num<0):=⟨_,rfl⟩
  have he:(if x.num<0 then (-1:Int) else 1)=if s then-1 else 1:=by rw [hs];simp
  rw [he,←hs]
  clear hla e0 hs he
  cases s
  all_goals
   go_enter Tryz.func58,Tryz.ntmps58
   go_wp2
   go_ret
   exact ⟨rfl,by repeat first | exact Below.refl _ _ | apply Kp.drew | exact Kp.alloc _ _⟩
theorem m_len {w:World} {o:Option Addr} {l c n:Nat} (h:M w (.slice o l c) n):l=(toL n).length:=by
 obtain ⟨o',c',e,_⟩:=h
 have:=(by simpa using e:o=o'∧l=(toL n).length∧c=c')
 exact this.2.1
theorem m_len_zero {w:World} {o:Option Addr} {l c n:Nat} (h:M w (.slice o l c) n):l=0↔n=0:=by
 rw [m_len h,List.length_eq_zero_iff,toL_nil_iff]
theorem RatV.neg_mk {w:World} {x:Rat} {b:Bool} {u v:Value} (hb:b=decide ((-x).num<0)) (h1:M w u x.num.natAbs) (h2:M w v (denOf x)):RatV w (.agg #[.bool b,u,v]) (-x):=by
 refine ⟨u,v,by rw [hb],?_,?_⟩
 ·rw [Rat.neg_num,Int.natAbs_neg];exact h1
 ·unfold denOf;rw [Rat.neg_den];exact h2
set_option maxRecDepth 20000 in
set_option maxHeartbeats 4000000 in
theorem rqneg_any {w:World} {u:Value} {x:Rat} (hu:RatV w u x):
  Calls Tryz.prog 60 #[u] w fun e w'=> ∃r,e= .returned r∧RatV w' r (-x)∧Kp w w':=by
 obtain ⟨a1,l1,c1,a2,l2,c2,rfl,m1,m2⟩:=hu.parts
 have HT:=Lib.hid (One.new w (.bool (decide (x.num<0))) (.slice a1 l1 c1) (.slice a2 l2 c2))
 have HU:=Lib.hid hu
 have Hm1:=Lib.hid m1
 have Hm2:=Lib.hid m2
 obtain ⟨p,hp⟩: ∃b,b=decide (x.num<0):=⟨_,rfl⟩
 try rw [←hp] at HT
 try rw [←hp] at HU
 try rw [←hp] at Hm1
 try rw [←hp] at Hm2
 try rw [←hp]
 have HPp:=Lib.hid hp
 clear hu m1 m2 hp
 have hl:=m_len_zero Hm1.out
 by_cases h0:x.num.natAbs=0
 ·obtain rfl:=hl.2 h0
  have hx:x=0:=Rat.num_eq_zero.1 (Int.natAbs_eq_zero.1 h0)
  subst hx
  obtain rfl:p=false:=by rw [HPp.out];decide
  clear h0 hl
  go_enter Tryz.func60,Tryz.ntmps60
  go_wp2
  exact bodyPost_ret (v:= .agg #[.bool false,.slice a1 0 c1,.slice a2 l2 c2]) (by simp [results,Tryz.results60,go_sem]) rfl ⟨_,rfl,RatV.neg_mk (by decide) (Hm1.out.kp ((Kp.alloc w _).tr (Kp.alloc _ _))) (Hm2.out.kp ((Kp.alloc w _).tr (Kp.alloc _ _))),((Kp.alloc w _).tr (Kp.alloc _ _))⟩
 ·have hl0:0<l1:=by omega
  have hn0:x.num≠0:=fun e=>h0 (by rw [e];rfl)
  clear h0 hl
  have hb:(!p)=decide ((-x).num<0):=by
   rw [Rat.neg_num,HPp.out]
   by_cases h:x.num<0
   ·rw [decide_eq_true h,decide_eq_false (by omega)];rfl
   ·rw [decide_eq_false h,decide_eq_true (by omega)];rfl
  have HB:=Lib.hid hb
  clear hb hn0
  cases p
  ·go_enter Tryz.func60,Tryz.ntmps60
   go_wp2
   exact bodyPost_ret (v:= .agg #[.bool true,.slice a1 l1 c1,.slice a2 l2 c2]) (by simp [results,Tryz.results60,go_sem]) rfl ⟨_,rfl,RatV.neg_mk HB.out (Hm1.out.kp ((Kp.alloc w _).tr (Kp.alloc _ _))) (Hm2.out.kp ((Kp.alloc w _).tr (Kp.alloc _ _))),((Kp.alloc w _).tr (Kp.alloc _ _))⟩
  ·go_enter Tryz.func60,Tryz.ntmps60
   go_wp2
   exact bodyPost_ret (v:= .agg #[.bool false,.slice a1 l1 c1,.slice a2 l2 c2]) (by simp [results,Tryz.results60,go_sem]) rfl ⟨_,rfl,RatV.neg_mk HB.out (Hm1.out.kp ((Kp.alloc w _).tr (Kp.alloc _ _))) (Hm2.out.kp ((Kp.alloc w _).tr (Kp.alloc _ _))),((Kp.alloc w _).tr (Kp.alloc _ _))⟩
end Go.Proofs.YtnkobfcnflphkaaGreatDoor
namespace Go.Proofs.YtnkobfcnflphkaaGreatDoor
open Go.RowKit
theorem cmpv_eqb (m n:Nat):decide (m=n)=(cmpv m n==0):=by
 by_cases h:m=n
 ·rw [decide_eq_true h,cmpv_eq h];rfl
 ·rw [decide_eq_false h]
  symm
  refine beq_eq_false_iff_ne.2 ?_
  rcases Nat.lt_or_gt_of_ne h with h1 | h1
  ·rw [cmpv_lt h1];decide
  ·rw [cmpv_gt h1];decide
theorem cmpv_swap (m n:Nat):cmpv n m= -cmpv m n:=by
 rcases Nat.lt_trichotomy m n with h | h | h
 ·rw [cmpv_lt h,cmpv_gt h];rfl
 ·rw [cmpv_eq h,cmpv_eq h.symm];rfl
 ·rw [cmpv_lt h,cmpv_gt h]
set_option maxRecDepth 20000 in
set_option maxHeartbeats 4000000 in
theorem rqsame_any {w:World} {u:Value} {x:Rat} (hu:RatV w u x) {v:Value} {y:Rat} (hv:RatV w v y):
  Calls Tryz.prog 19 #[u,v] w fun e w'=>e= .returned (.bool (decide (x=y)))∧Kp w w':=by
 rw [same_parts,cmpv_eqb,cmpv_eqb]
 obtain ⟨a1,l1,c1,a2,l2,c2,rfl,m1,m2⟩:=hu.parts
 obtain ⟨a3,l3,c3,a4,l4,c4,rfl,m3,m4⟩:=hv.parts
 have HT:=Lib.hid (P2.new w (.bool (decide (x.num<0))) (.slice a1 l1 c1) (.slice a2 l2 c2) (.bool (decide (y.num<0))) (.slice a3 l3 c3) (.slice a4 l4 c4))
 have HU:=Lib.hid hu
 have Hm1:=Lib.hid m1
 have Hm2:=Lib.hid m2
 have HV:=Lib.hid hv
 have Hm3:=Lib.hid m3
 have Hm4:=Lib.hid m4
 have CN:=Lib.hid (fun w' (a:M w' (.slice a1 l1 c1) x.num.natAbs) (b:M w' (.slice a3 l3 c3) y.num.natAbs)=>rcmp_any _ _ _ _ w' a b)
 have CK:=Lib.hid (fun w' (a:M w' (.slice a2 l2 c2) (denOf x)) (b:M w' (.slice a4 l4 c4) (denOf y))=>rcmp_any _ _ _ _ w' a b)
 obtain ⟨p,hp⟩: ∃b,b=decide (x.num<0):=⟨_,rfl⟩
 try rw [←hp] at HT
 try rw [←hp] at HU
 try rw [←hp] at Hm1
 try rw [←hp] at Hm2
 try rw [←hp] at HV
 try rw [←hp] at Hm3
 try rw [←hp] at Hm4
 try rw [←hp] at CN
 try rw [←hp] at CK
 try rw [←hp]
 have HPp:=Lib.hid hp
 obtain ⟨q,hq⟩: ∃b,b=decide (y.num<0):=⟨_,rfl⟩
 try rw [←hq] at HT
 try rw [←hq] at HU
 try rw [←hq] at Hm1
 try rw [←hq] at Hm2
 try rw [←hq] at HV
 try rw [←hq] at Hm3
 try rw [←hq] at Hm4
 try rw [←hq] at CN
 try rw [←hq] at CK
 try rw [←hq]
 have HPq:=Lib.hid hq
 clear hu m1 m2 hp hv m3 m4 hq
 obtain ⟨cn,hcn⟩: ∃c,c=cmpv x.num.natAbs y.num.natAbs:=⟨_,rfl⟩
 obtain ⟨ck,hck⟩: ∃c,c=cmpv (denOf x) (denOf y):=⟨_,rfl⟩
 rw [←hcn] at CN⊢
 rw [←hck] at CK⊢
 clear hcn hck
 have hpq:p=q∨q=!p:=by cases p<;>cases q<;>simp
 rcases hpq with hpq | hpq
 ·subst hpq
  have hpp:(p==p)=true:=by simp
  by_cases hc:cn=0
  ·subst hc
   have hz:((0:Int)==0)=true:=rfl
   have HPS:=Lib.hid hpp
   clear hpp
   go_enter Tryz.func19,Tryz.ntmps19
   have KN:=HT.out.k
   have U_e:=Lib.hid (HU.out.kp KN)
   have m1_e:=Lib.hid (Hm1.out.kp KN)
   have m2_e:=Lib.hid (Hm2.out.kp KN)
   have V_e:=Lib.hid (HV.out.kp KN)
   have m3_e:=Lib.hid (Hm3.out.kp KN)
   have m4_e:=Lib.hid (Hm4.out.kp KN)
   clear KN
   obtain ⟨g0,g1,g2,_⟩:=HT.out.ra.cells
   obtain ⟨h0,h1,h2,_⟩:=HT.out.rb.cells
   go_wp2_with (go_at_call 82;(with_reducible refine (CN.out _ m1_e.out m3_e.out).mono ?_);rintro e w2 ⟨rfl,k2⟩;refine Hid.out ?_)
   refine Lib.hid ?_
   have T_2:=Lib.hid (HT.out.kp k2)
   have U_2:=Lib.hid (U_e.out.kp k2)
   have m1_2:=Lib.hid (m1_e.out.kp k2)
   have m2_2:=Lib.hid (m2_e.out.kp k2)
   have V_2:=Lib.hid (V_e.out.kp k2)
   have m3_2:=Lib.hid (m3_e.out.kp k2)
   have m4_2:=Lib.hid (m4_e.out.kp k2)
   clear HT U_e m1_e m2_e V_e m3_e m4_e
   clear k2
   obtain ⟨g0,g1,g2,_⟩:=T_2.out.ra.cells
   obtain ⟨h0,h1,h2,_⟩:=T_2.out.rb.cells
   go_wp2_with (go_at_call 82;(with_reducible refine (CK.out _ m2_2.out m4_2.out).mono ?_);rintro e w3 ⟨rfl,k3⟩;refine Hid.out ?_)
   refine Lib.hid ?_
   have T_3:=Lib.hid (T_2.out.kp k3)
   have U_3:=Lib.hid (U_2.out.kp k3)
   have m1_3:=Lib.hid (m1_2.out.kp k3)
   have m2_3:=Lib.hid (m2_2.out.kp k3)
   have V_3:=Lib.hid (V_2.out.kp k3)
   have m3_3:=Lib.hid (m3_2.out.kp k3)
   have m4_3:=Lib.hid (m4_2.out.kp k3)
   clear T_2 U_2 m1_2 m2_2 V_2 m3_2 m4_2
   clear k3
   obtain ⟨g0,g1,g2,_⟩:=T_3.out.ra.cells
   obtain ⟨h0,h1,h2,_⟩:=T_3.out.rb.cells
   go_wp2
   go_ret
   exact ⟨ret_bool (by rw [HPS.out];simp),T_3.out.k⟩
  ·have hcb:(cn==0)=false:=beq_eq_false_iff_ne.2 hc
   have HPS:=Lib.hid hpp
   have HCB:=Lib.hid hcb
   clear hc hpp
   go_enter Tryz.func19,Tryz.ntmps19
   have KN:=HT.out.k
   have U_e:=Lib.hid (HU.out.kp KN)
   have m1_e:=Lib.hid (Hm1.out.kp KN)
   have m2_e:=Lib.hid (Hm2.out.kp KN)
   have V_e:=Lib.hid (HV.out.kp KN)
   have m3_e:=Lib.hid (Hm3.out.kp KN)
   have m4_e:=Lib.hid (Hm4.out.kp KN)
   clear KN
   obtain ⟨g0,g1,g2,_⟩:=HT.out.ra.cells
   obtain ⟨h0,h1,h2,_⟩:=HT.out.rb.cells
   go_wp2_with (go_at_call 82;(with_reducible refine (CN.out _ m1_e.out m3_e.out).mono ?_);rintro e w2 ⟨rfl,k2⟩;refine Hid.out ?_)
   refine Lib.hid ?_
   have T_2:=Lib.hid (HT.out.kp k2)
   have U_2:=Lib.hid (U_e.out.kp k2)
   have m1_2:=Lib.hid (m1_e.out.kp k2)
   have m2_2:=Lib.hid (m2_e.out.kp k2)
   have V_2:=Lib.hid (V_e.out.kp k2)
   have m3_2:=Lib.hid (m3_e.out.kp k2)
   have m4_2:=Lib.hid (m4_e.out.kp k2)
   clear HT U_e m1_e m2_e V_e m3_e m4_e
   clear k2
   obtain ⟨g0,g1,g2,_⟩:=T_2.out.ra.cells
   obtain ⟨h0,h1,h2,_⟩:=T_2.out.rb.cells
   go_wp2
   go_ret
   exact ⟨ret_bool (by rw [HPS.out,HCB.out];rfl),T_2.out.k⟩
 ·subst hpq
  cases p
  all_goals
   go_enter Tryz.func19,Tryz.ntmps19
   have KN:=HT.out.k
   have U_e:=Lib.hid (HU.out.kp KN)
   have m1_e:=Lib.hid (Hm1.out.kp KN)
   have m2_e:=Lib.hid (Hm2.out.kp KN)
   have V_e:=Lib.hid (HV.out.kp KN)
   have m3_e:=Lib.hid (Hm3.out.kp KN)
   have m4_e:=Lib.hid (Hm4.out.kp KN)
   clear KN
   obtain ⟨g0,g1,g2,_⟩:=HT.out.ra.cells
   obtain ⟨h0,h1,h2,_⟩:=HT.out.rb.cells
   go_wp2
   go_ret
   exact ⟨ret_bool (by simp),HT.out.k⟩
set_option maxRecDepth 20000 in
set_option maxHeartbeats 4000000 in
theorem rqcmp_signs {w:World} {u:Value} {x:Rat} (hu:RatV w u x) {v:Value} {y:Rat} (hv:RatV w v y) (h9:sgnR x≠sgnR y):
  Calls Tryz.prog 59 #[u,v] w fun e w'=>e= .returned (.int .i64 (cmpR x y))∧Kp w w':=by
 have hv:cmpR x y=if sgnR x<sgnR y then-1 else 1:=by
  rw [cmpR_signs h9]
  split<;>omega
 rw [hv]
 clear hv
 obtain ⟨a1,l1,c1,a2,l2,c2,rfl,m1,m2⟩:=hu.parts
 obtain ⟨a3,l3,c3,a4,l4,c4,rfl,m3,m4⟩:=hv.parts
 have HT:=Lib.hid (P2.new w (.bool (decide (x.num<0))) (.slice a1 l1 c1) (.slice a2 l2 c2) (.bool (decide (y.num<0))) (.slice a3 l3 c3) (.slice a4 l4 c4))
 have HU:=Lib.hid hu
 have HV:=Lib.hid hv
 have CA:=Lib.hid (fun w' a (ha:RatV w' a x)=>rqsign_any ha)
 have CB:=Lib.hid (fun w' a (ha:RatV w' a y)=>rqsign_any ha)
 obtain ⟨p,hp⟩: ∃b,b=decide (x.num<0):=⟨_,rfl⟩
 try rw [←hp] at HT
 try rw [←hp] at HU
 try rw [←hp] at HV
 try rw [←hp] at CA
 try rw [←hp] at CB
 try rw [←hp]
 have HPp:=Lib.hid hp
 obtain ⟨q,hq⟩: ∃b,b=decide (y.num<0):=⟨_,rfl⟩
 try rw [←hq] at HT
 try rw [←hq] at HU
 try rw [←hq] at HV
 try rw [←hq] at CA
 try rw [←hq] at CB
 try rw [←hq]
 have HPq:=Lib.hid hq
 clear hu m1 m2 hp hv m3 m4 hq
 obtain ⟨sx,hsx⟩: ∃s,s=sgnR x:=⟨_,rfl⟩
 obtain ⟨sy,hsy⟩: ∃s,s=sgnR y:=⟨_,rfl⟩
 rw [←hsx] at CA h9⊢
 rw [←hsy] at CB h9⊢
 clear hsx hsy
 have hne:(sx !=sy)=true:=by rw [bne_iff_ne];exact h9
 by_cases hlt:sx<sy
 ·rw [if_pos hlt]
  have hdl:decide (sx<sy)=true:=decide_eq_true hlt
  clear h9
  go_enter Tryz.func59,Tryz.ntmps59
  have KN:=HT.out.k
  have U_e:=Lib.hid (HU.out.kp KN)
  have V_e:=Lib.hid (HV.out.kp KN)
  clear KN
  obtain ⟨g0,g1,g2,_⟩:=HT.out.ra.cells
  obtain ⟨h0,h1,h2,_⟩:=HT.out.rb.cells
  go_upto_region 1 with fail
  have T_2:=Lib.hid (HT.out.kp (Below.refl _ _).drew)
  have U_2:=Lib.hid (U_e.out.kp (Below.refl _ _).drew)
  have V_2:=Lib.hid (V_e.out.kp (Below.refl _ _).drew)
  clear HT U_e V_e
  go_region_held3 (fun w'=>w'.cell? ⟨w.heap.size,0,none⟩=some (.bool p)∧w'.cell? ⟨w.heap.size,1,none⟩=some (.slice a1 l1 c1)∧w'.cell? ⟨w.heap.size,2,none⟩=some (.slice a2 l2 c2)∧w'.cell? ⟨w.heap.size+1,0,none⟩=some (.bool q)∧w'.cell? ⟨w.heap.size+1,1,none⟩=some (.slice a3 l3 c3)∧w'.cell? ⟨w.heap.size+1,2,none⟩=some (.slice a4 l4 c4))
   (first | (refine ⟨?_,?_,?_,?_,?_,?_⟩<;>assumption) | go_keep)
   (first
    | (go_at_call 58;(with_reducible refine (CA.out _ _ U_2.out).mono ?_);rintro e w3 ⟨rfl,k3⟩;have T_3:=Lib.hid (T_2.out.kp k3);have U_3:=Lib.hid (U_2.out.kp k3);have V_3:=Lib.hid (V_2.out.kp k3);clear T_2 U_2 V_2;clear k3;obtain ⟨g0,g1,g2,_⟩:=T_3.out.ra.cells;obtain ⟨h0,h1,h2,_⟩:=T_3.out.rb.cells)
    | (go_at_call 58;(with_reducible refine (CB.out _ _ V_3.out).mono ?_);rintro e w4 ⟨rfl,k4⟩;have T_4:=Lib.hid (T_3.out.kp k4);have U_4:=Lib.hid (U_3.out.kp k4);have V_4:=Lib.hid (V_3.out.kp k4);clear T_3 U_3 V_3;clear k4;obtain ⟨g0,g1,g2,_⟩:=T_4.out.ra.cells;obtain ⟨h0,h1,h2,_⟩:=T_4.out.rb.cells))
  go_wp2
  go_ret
  exact ⟨rfl,T_4.out.k⟩
 ·rw [if_neg hlt]
  have hdl:decide (sx<sy)=false:=decide_eq_false hlt
  clear h9
  go_enter Tryz.func59,Tryz.ntmps59
  have KN:=HT.out.k
  have U_e:=Lib.hid (HU.out.kp KN)
  have V_e:=Lib.hid (HV.out.kp KN)
  clear KN
  obtain ⟨g0,g1,g2,_⟩:=HT.out.ra.cells
  obtain ⟨h0,h1,h2,_⟩:=HT.out.rb.cells
  go_upto_region 1 with fail
  have T_2:=Lib.hid (HT.out.kp (Below.refl _ _).drew)
  have U_2:=Lib.hid (U_e.out.kp (Below.refl _ _).drew)
  have V_2:=Lib.hid (V_e.out.kp (Below.refl _ _).drew)
  clear HT U_e V_e
  go_region_held3 (fun w'=>w'.cell? ⟨w.heap.size,0,none⟩=some (.bool p)∧w'.cell? ⟨w.heap.size,1,none⟩=some (.slice a1 l1 c1)∧w'.cell? ⟨w.heap.size,2,none⟩=some (.slice a2 l2 c2)∧w'.cell? ⟨w.heap.size+1,0,none⟩=some (.bool q)∧w'.cell? ⟨w.heap.size+1,1,none⟩=some (.slice a3 l3 c3)∧w'.cell? ⟨w.heap.size+1,2,none⟩=some (.slice a4 l4 c4))
   (first | (refine ⟨?_,?_,?_,?_,?_,?_⟩<;>assumption) | go_keep)
   (first
    | (go_at_call 58;(with_reducible refine (CA.out _ _ U_2.out).mono ?_);rintro e w3 ⟨rfl,k3⟩;have T_3:=Lib.hid (T_2.out.kp k3);have U_3:=Lib.hid (U_2.out.kp k3);have V_3:=Lib.hid (V_2.out.kp k3);clear T_2 U_2 V_2;clear k3;obtain ⟨g0,g1,g2,_⟩:=T_3.out.ra.cells;obtain ⟨h0,h1,h2,_⟩:=T_3.out.rb.cells)
    | (go_at_call 58;(with_reducible refine (CB.out _ _ V_3.out).mono ?_);rintro e w4 ⟨rfl,k4⟩;have T_4:=Lib.hid (T_3.out.kp k4);have U_4:=Lib.hid (U_3.out.kp k4);have V_4:=Lib.hid (V_3.out.kp k4);clear T_3 U_3 V_3;clear k4;obtain ⟨g0,g1,g2,_⟩:=T_4.out.ra.cells;obtain ⟨h0,h1,h2,_⟩:=T_4.out.rb.cells))
  go_wp2
  go_ret
  exact ⟨rfl,T_4.out.k⟩
set_option maxRecDepth 20000 in
set_option maxHeartbeats 4000000 in
theorem rqcmp_sizes {w:World} {u:Value} {x:Rat} (hu:RatV w u x) {v:Value} {y:Rat} (hv:RatV w v y) {j k:Nat} (hs:RSz j x) (ht:RSz k y) (hj:j≤500000000) (hk:k≤500000000) (h9:sgnR x=sgnR y):
  Calls Tryz.prog 59 #[u,v] w fun e w'=>e= .returned (.int .i64 (if decide (x.num<0)=true then-cmpv (x.num.natAbs*y.den) (y.num.natAbs*x.den) else cmpv (x.num.natAbs*y.den) (y.num.natAbs*x.den)))∧Kp w w':=by
 obtain ⟨a1,l1,c1,a2,l2,c2,rfl,m1,m2⟩:=hu.parts
 obtain ⟨a3,l3,c3,a4,l4,c4,rfl,m3,m4⟩:=hv.parts
 have HT:=Lib.hid (P2.new w (.bool (decide (x.num<0))) (.slice a1 l1 c1) (.slice a2 l2 c2) (.bool (decide (y.num<0))) (.slice a3 l3 c3) (.slice a4 l4 c4))
 have HU:=Lib.hid hu
 have Hm1:=Lib.hid m1
 have Hm2:=Lib.hid m2
 have HV:=Lib.hid hv
 have Hm3:=Lib.hid m3
 have Hm4:=Lib.hid m4
 have CDA:=Lib.hid (fun w' (a:M w' (.slice a1 l1 c1) x.num.natAbs) (b:M w' (.slice a2 l2 c2) (denOf x))=>rden_m (s:=decide (x.num<0)) a b)
 have CDB:=Lib.hid (fun w' (a:M w' (.slice a3 l3 c3) y.num.natAbs) (b:M w' (.slice a4 l4 c4) (denOf y))=>rden_m (s:=decide (y.num<0)) a b)
 have CA:=Lib.hid (fun w' a (ha:RatV w' a x)=>rqsign_any ha)
 have CB:=Lib.hid (fun w' a (ha:RatV w' a y)=>rqsign_any ha)
 have CM1:=Lib.hid (fun w' va vb (a:M w' va (x.num.natAbs)) (b:M w' vb (y.den))=>rmul_any a b hs.1 ht.2 (by omega) (by omega))
 have CM2:=Lib.hid (fun w' va vb (a:M w' va (y.num.natAbs)) (b:M w' vb (x.den))=>rmul_any a b ht.1 hs.2 (by omega) (by omega))
 have CC:=Lib.hid (fun w' va vb (a:M w' va (x.num.natAbs*y.den)) (b:M w' vb (y.num.natAbs*x.den))=>rcmp_any va vb _ _ w' a b)
 obtain ⟨p,hp⟩: ∃b,b=decide (x.num<0):=⟨_,rfl⟩
 try rw [←hp] at HT
 try rw [←hp] at HU
 try rw [←hp] at Hm1
 try rw [←hp] at Hm2
 try rw [←hp] at HV
 try rw [←hp] at Hm3
 try rw [←hp] at Hm4
 try rw [←hp] at CDA
 try rw [←hp] at CDB
 try rw [←hp] at CA
 try rw [←hp] at CB
 try rw [←hp] at CM1
 try rw [←hp] at CM2
 try rw [←hp] at CC
 try rw [←hp]
 have HPp:=Lib.hid hp
 obtain ⟨q,hq⟩: ∃b,b=decide (y.num<0):=⟨_,rfl⟩
 try rw [←hq] at HT
 try rw [←hq] at HU
 try rw [←hq] at Hm1
 try rw [←hq] at Hm2
 try rw [←hq] at HV
 try rw [←hq] at Hm3
 try rw [←hq] at Hm4
 try rw [←hq] at CDA
 try rw [←hq] at CDB
 try rw [←hq] at CA
 try rw [←hq] at CB
 try rw [←hq] at CM1
 try rw [←hq] at CM2
 try rw [←hq] at CC
 try rw [←hq]
 have HPq:=Lib.hid hq
 clear hu m1 m2 hp hv m3 m4 hq
 obtain ⟨sx,hsx⟩: ∃s,s=sgnR x:=⟨_,rfl⟩
 rw [←h9] at CB
 rw [←hsx] at CA CB
 clear hsx h9 hs ht hj hk
 have hcb: -1≤cmpv (x.num.natAbs*y.den) (y.num.natAbs*x.den)∧cmpv (x.num.natAbs*y.den) (y.num.natAbs*x.den)≤1:=by unfold cmpv;split<;>first | omega | (split<;>omega)
 obtain ⟨cc,hcc⟩: ∃c,c=cmpv (x.num.natAbs*y.den) (y.num.natAbs*x.den):=⟨_,rfl⟩
 rw [←hcc] at CC hcb⊢
 clear hcc
 obtain ⟨hc1,hc2⟩:=hcb
 have hsb:(sx !=sx)=false:=by simp
 cases p
 ·skip
  go_enter Tryz.func59,Tryz.ntmps59
  have KN:=HT.out.k
  have U_e:=Lib.hid (HU.out.kp KN)
  have m1_e:=Lib.hid (Hm1.out.kp KN)
  have m2_e:=Lib.hid (Hm2.out.kp KN)
  have V_e:=Lib.hid (HV.out.kp KN)
  have m3_e:=Lib.hid (Hm3.out.kp KN)
  have m4_e:=Lib.hid (Hm4.out.kp KN)
  clear KN
  obtain ⟨g0,g1,g2,_⟩:=HT.out.ra.cells
  obtain ⟨h0,h1,h2,_⟩:=HT.out.rb.cells
  go_upto_region 1 with fail
  have T_2:=Lib.hid (HT.out.kp (Below.refl _ _).drew)
  have U_2:=Lib.hid (U_e.out.kp (Below.refl _ _).drew)
  have m1_2:=Lib.hid (m1_e.out.kp (Below.refl _ _).drew)
  have m2_2:=Lib.hid (m2_e.out.kp (Below.refl _ _).drew)
  have V_2:=Lib.hid (V_e.out.kp (Below.refl _ _).drew)
  have m3_2:=Lib.hid (m3_e.out.kp (Below.refl _ _).drew)
  have m4_2:=Lib.hid (m4_e.out.kp (Below.refl _ _).drew)
  clear HT U_e m1_e m2_e V_e m3_e m4_e
  go_region_held3 (fun w'=>w'.cell? ⟨w.heap.size,0,none⟩=some (.bool false)∧w'.cell? ⟨w.heap.size,1,none⟩=some (.slice a1 l1 c1)∧w'.cell? ⟨w.heap.size,2,none⟩=some (.slice a2 l2 c2)∧w'.cell? ⟨w.heap.size+1,0,none⟩=some (.bool q)∧w'.cell? ⟨w.heap.size+1,1,none⟩=some (.slice a3 l3 c3)∧w'.cell? ⟨w.heap.size+1,2,none⟩=some (.slice a4 l4 c4))
   (first | (refine ⟨?_,?_,?_,?_,?_,?_⟩<;>assumption) | go_keep)
   (first
    | (go_at_call 58;(with_reducible refine (CA.out _ _ U_2.out).mono ?_);rintro e w3 ⟨rfl,k3⟩;have T_3:=Lib.hid (T_2.out.kp k3);have U_3:=Lib.hid (U_2.out.kp k3);have m1_3:=Lib.hid (m1_2.out.kp k3);have m2_3:=Lib.hid (m2_2.out.kp k3);have V_3:=Lib.hid (V_2.out.kp k3);have m3_3:=Lib.hid (m3_2.out.kp k3);have m4_3:=Lib.hid (m4_2.out.kp k3);clear T_2 U_2 m1_2 m2_2 V_2 m3_2 m4_2;clear k3;obtain ⟨g0,g1,g2,_⟩:=T_3.out.ra.cells;obtain ⟨h0,h1,h2,_⟩:=T_3.out.rb.cells)
    | (go_at_call 58;(with_reducible refine (CB.out _ _ V_3.out).mono ?_);rintro e w4 ⟨rfl,k4⟩;have T_4:=Lib.hid (T_3.out.kp k4);have U_4:=Lib.hid (U_3.out.kp k4);have m1_4:=Lib.hid (m1_3.out.kp k4);have m2_4:=Lib.hid (m2_3.out.kp k4);have V_4:=Lib.hid (V_3.out.kp k4);have m3_4:=Lib.hid (m3_3.out.kp k4);have m4_4:=Lib.hid (m4_3.out.kp k4);clear T_3 U_3 m1_3 m2_3 V_3 m3_3 m4_3;clear k4;obtain ⟨g0,g1,g2,_⟩:=T_4.out.ra.cells;obtain ⟨h0,h1,h2,_⟩:=T_4.out.rb.cells))
  go_upto_region 6 with fail
  have T_5:=Lib.hid (T_4.out.kp (Below.refl _ _).drew)
  have U_5:=Lib.hid (U_4.out.kp (Below.refl _ _).drew)
  have m1_5:=Lib.hid (m1_4.out.kp (Below.refl _ _).drew)
  have m2_5:=Lib.hid (m2_4.out.kp (Below.refl _ _).drew)
  have V_5:=Lib.hid (V_4.out.kp (Below.refl _ _).drew)
  have m3_5:=Lib.hid (m3_4.out.kp (Below.refl _ _).drew)
  have m4_5:=Lib.hid (m4_4.out.kp (Below.refl _ _).drew)
  clear T_4 U_4 m1_4 m2_4 V_4 m3_4 m4_4
  go_region_held3 (fun w'=>w'.cell? ⟨w.heap.size,0,none⟩=some (.bool false)∧w'.cell? ⟨w.heap.size,1,none⟩=some (.slice a1 l1 c1)∧w'.cell? ⟨w.heap.size,2,none⟩=some (.slice a2 l2 c2)∧w'.cell? ⟨w.heap.size+1,0,none⟩=some (.bool q)∧w'.cell? ⟨w.heap.size+1,1,none⟩=some (.slice a3 l3 c3)∧w'.cell? ⟨w.heap.size+1,2,none⟩=some (.slice a4 l4 c4))
   (first | (refine ⟨?_,?_,?_,?_,?_,?_⟩<;>assumption) | go_keep)
   (first
    | (go_at_call 126;(with_reducible refine (CDB.out _ m3_5.out m4_5.out).mono ?_);rintro e w6 ⟨vB,rfl,hB,k6⟩;have T_6:=Lib.hid (T_5.out.kp k6);have U_6:=Lib.hid (U_5.out.kp k6);have m1_6:=Lib.hid (m1_5.out.kp k6);have m2_6:=Lib.hid (m2_5.out.kp k6);have V_6:=Lib.hid (V_5.out.kp k6);have m3_6:=Lib.hid (m3_5.out.kp k6);have m4_6:=Lib.hid (m4_5.out.kp k6);clear T_5 U_5 m1_5 m2_5 V_5 m3_5 m4_5;have B_6:=Lib.hid hB;clear hB k6;obtain ⟨g0,g1,g2,_⟩:=T_6.out.ra.cells;obtain ⟨h0,h1,h2,_⟩:=T_6.out.rb.cells)
    | (go_at_call 125;(with_reducible refine (CM1.out _ _ _ m1_6.out B_6.out).mono ?_);rintro e w7 ⟨vC,rfl,hC,k7⟩;have T_7:=Lib.hid (T_6.out.kp k7);have U_7:=Lib.hid (U_6.out.kp k7);have m1_7:=Lib.hid (m1_6.out.kp k7);have m2_7:=Lib.hid (m2_6.out.kp k7);have V_7:=Lib.hid (V_6.out.kp k7);have m3_7:=Lib.hid (m3_6.out.kp k7);have m4_7:=Lib.hid (m4_6.out.kp k7);have B_7:=Lib.hid (B_6.out.kp k7);clear T_6 U_6 m1_6 m2_6 V_6 m3_6 m4_6 B_6;have C_7:=Lib.hid hC;clear hC k7;obtain ⟨g0,g1,g2,_⟩:=T_7.out.ra.cells;obtain ⟨h0,h1,h2,_⟩:=T_7.out.rb.cells)
    | (go_at_call 126;(with_reducible refine (CDA.out _ m1_7.out m2_7.out).mono ?_);rintro e w8 ⟨vA,rfl,hA,k8⟩;have T_8:=Lib.hid (T_7.out.kp k8);have U_8:=Lib.hid (U_7.out.kp k8);have m1_8:=Lib.hid (m1_7.out.kp k8);have m2_8:=Lib.hid (m2_7.out.kp k8);have V_8:=Lib.hid (V_7.out.kp k8);have m3_8:=Lib.hid (m3_7.out.kp k8);have m4_8:=Lib.hid (m4_7.out.kp k8);have B_8:=Lib.hid (B_7.out.kp k8);have C_8:=Lib.hid (C_7.out.kp k8);clear T_7 U_7 m1_7 m2_7 V_7 m3_7 m4_7 B_7 C_7;have A_8:=Lib.hid hA;clear hA k8;obtain ⟨g0,g1,g2,_⟩:=T_8.out.ra.cells;obtain ⟨h0,h1,h2,_⟩:=T_8.out.rb.cells)
    | (go_at_call 125;(with_reducible refine (CM2.out _ _ _ m3_8.out A_8.out).mono ?_);rintro e w9 ⟨vD,rfl,hD,k9⟩;have T_9:=Lib.hid (T_8.out.kp k9);have U_9:=Lib.hid (U_8.out.kp k9);have m1_9:=Lib.hid (m1_8.out.kp k9);have m2_9:=Lib.hid (m2_8.out.kp k9);have V_9:=Lib.hid (V_8.out.kp k9);have m3_9:=Lib.hid (m3_8.out.kp k9);have m4_9:=Lib.hid (m4_8.out.kp k9);have B_9:=Lib.hid (B_8.out.kp k9);have C_9:=Lib.hid (C_8.out.kp k9);have A_9:=Lib.hid (A_8.out.kp k9);clear T_8 U_8 m1_8 m2_8 V_8 m3_8 m4_8 B_8 C_8 A_8;have D_9:=Lib.hid hD;clear hD k9;obtain ⟨g0,g1,g2,_⟩:=T_9.out.ra.cells;obtain ⟨h0,h1,h2,_⟩:=T_9.out.rb.cells)
    | (go_at_call 82;(with_reducible refine (CC.out _ _ _ C_9.out D_9.out).mono ?_);rintro e w10 ⟨rfl,k10⟩;have T_10:=Lib.hid (T_9.out.kp k10);have U_10:=Lib.hid (U_9.out.kp k10);have m1_10:=Lib.hid (m1_9.out.kp k10);have m2_10:=Lib.hid (m2_9.out.kp k10);have V_10:=Lib.hid (V_9.out.kp k10);have m3_10:=Lib.hid (m3_9.out.kp k10);have m4_10:=Lib.hid (m4_9.out.kp k10);have B_10:=Lib.hid (B_9.out.kp k10);have C_10:=Lib.hid (C_9.out.kp k10);have A_10:=Lib.hid (A_9.out.kp k10);have D_10:=Lib.hid (D_9.out.kp k10);clear T_9 U_9 m1_9 m2_9 V_9 m3_9 m4_9 B_9 C_9 A_9 D_9;clear k10;obtain ⟨g0,g1,g2,_⟩:=T_10.out.ra.cells;obtain ⟨h0,h1,h2,_⟩:=T_10.out.rb.cells))
  go_wp2
  go_ret
  exact ⟨by simp,T_10.out.k⟩
 ·skip
  go_enter Tryz.func59,Tryz.ntmps59
  have KN:=HT.out.k
  have U_e:=Lib.hid (HU.out.kp KN)
  have m1_e:=Lib.hid (Hm1.out.kp KN)
  have m2_e:=Lib.hid (Hm2.out.kp KN)
  have V_e:=Lib.hid (HV.out.kp KN)
  have m3_e:=Lib.hid (Hm3.out.kp KN)
  have m4_e:=Lib.hid (Hm4.out.kp KN)
  clear KN
  obtain ⟨g0,g1,g2,_⟩:=HT.out.ra.cells
  obtain ⟨h0,h1,h2,_⟩:=HT.out.rb.cells
  go_upto_region 1 with fail
  have T_2:=Lib.hid (HT.out.kp (Below.refl _ _).drew)
  have U_2:=Lib.hid (U_e.out.kp (Below.refl _ _).drew)
  have m1_2:=Lib.hid (m1_e.out.kp (Below.refl _ _).drew)
  have m2_2:=Lib.hid (m2_e.out.kp (Below.refl _ _).drew)
  have V_2:=Lib.hid (V_e.out.kp (Below.refl _ _).drew)
  have m3_2:=Lib.hid (m3_e.out.kp (Below.refl _ _).drew)
  have m4_2:=Lib.hid (m4_e.out.kp (Below.refl _ _).drew)
  clear HT U_e m1_e m2_e V_e m3_e m4_e
  go_region_held3 (fun w'=>w'.cell? ⟨w.heap.size,0,none⟩=some (.bool true)∧w'.cell? ⟨w.heap.size,1,none⟩=some (.slice a1 l1 c1)∧w'.cell? ⟨w.heap.size,2,none⟩=some (.slice a2 l2 c2)∧w'.cell? ⟨w.heap.size+1,0,none⟩=some (.bool q)∧w'.cell? ⟨w.heap.size+1,1,none⟩=some (.slice a3 l3 c3)∧w'.cell? ⟨w.heap.size+1,2,none⟩=some (.slice a4 l4 c4))
   (first | (refine ⟨?_,?_,?_,?_,?_,?_⟩<;>assumption) | go_keep)
   (first
    | (go_at_call 58;(with_reducible refine (CA.out _ _ U_2.out).mono ?_);rintro e w3 ⟨rfl,k3⟩;have T_3:=Lib.hid (T_2.out.kp k3);have U_3:=Lib.hid (U_2.out.kp k3);have m1_3:=Lib.hid (m1_2.out.kp k3);have m2_3:=Lib.hid (m2_2.out.kp k3);have V_3:=Lib.hid (V_2.out.kp k3);have m3_3:=Lib.hid (m3_2.out.kp k3);have m4_3:=Lib.hid (m4_2.out.kp k3);clear T_2 U_2 m1_2 m2_2 V_2 m3_2 m4_2;clear k3;obtain ⟨g0,g1,g2,_⟩:=T_3.out.ra.cells;obtain ⟨h0,h1,h2,_⟩:=T_3.out.rb.cells)
    | (go_at_call 58;(with_reducible refine (CB.out _ _ V_3.out).mono ?_);rintro e w4 ⟨rfl,k4⟩;have T_4:=Lib.hid (T_3.out.kp k4);have U_4:=Lib.hid (U_3.out.kp k4);have m1_4:=Lib.hid (m1_3.out.kp k4);have m2_4:=Lib.hid (m2_3.out.kp k4);have V_4:=Lib.hid (V_3.out.kp k4);have m3_4:=Lib.hid (m3_3.out.kp k4);have m4_4:=Lib.hid (m4_3.out.kp k4);clear T_3 U_3 m1_3 m2_3 V_3 m3_3 m4_3;clear k4;obtain ⟨g0,g1,g2,_⟩:=T_4.out.ra.cells;obtain ⟨h0,h1,h2,_⟩:=T_4.out.rb.cells))
  go_upto_region 6 with fail
  have T_5:=Lib.hid (T_4.out.kp (Below.refl _ _).drew)
  have U_5:=Lib.hid (U_4.out.kp (Below.refl _ _).drew)
  have m1_5:=Lib.hid (m1_4.out.kp (Below.refl _ _).drew)
  have m2_5:=Lib.hid (m2_4.out.kp (Below.refl _ _).drew)
  have V_5:=Lib.hid (V_4.out.kp (Below.refl _ _).drew)
  have m3_5:=Lib.hid (m3_4.out.kp (Below.refl _ _).drew)
  have m4_5:=Lib.hid (m4_4.out.kp (Below.refl _ _).drew)
  clear T_4 U_4 m1_4 m2_4 V_4 m3_4 m4_4
  go_region_held3 (fun w'=>w'.cell? ⟨w.heap.size,0,none⟩=some (.bool true)∧w'.cell? ⟨w.heap.size,1,none⟩=some (.slice a1 l1 c1)∧w'.cell? ⟨w.heap.size,2,none⟩=some (.slice a2 l2 c2)∧w'.cell? ⟨w.heap.size+1,0,none⟩=some (.bool q)∧w'.cell? ⟨w.heap.size+1,1,none⟩=some (.slice a3 l3 c3)∧w'.cell? ⟨w.heap.size+1,2,none⟩=some (.slice a4 l4 c4))
   (first | (refine ⟨?_,?_,?_,?_,?_,?_⟩<;>assumption) | go_keep)
   (first
    | (go_at_call 126;(with_reducible refine (CDB.out _ m3_5.out m4_5.out).mono ?_);rintro e w6 ⟨vB,rfl,hB,k6⟩;have T_6:=Lib.hid (T_5.out.kp k6);have U_6:=Lib.hid (U_5.out.kp k6);have m1_6:=Lib.hid (m1_5.out.kp k6);have m2_6:=Lib.hid (m2_5.out.kp k6);have V_6:=Lib.hid (V_5.out.kp k6);have m3_6:=Lib.hid (m3_5.out.kp k6);have m4_6:=Lib.hid (m4_5.out.kp k6);clear T_5 U_5 m1_5 m2_5 V_5 m3_5 m4_5;have B_6:=Lib.hid hB;clear hB k6;obtain ⟨g0,g1,g2,_⟩:=T_6.out.ra.cells;obtain ⟨h0,h1,h2,_⟩:=T_6.out.rb.cells)
    | (go_at_call 125;(with_reducible refine (CM1.out _ _ _ m1_6.out B_6.out).mono ?_);rintro e w7 ⟨vC,rfl,hC,k7⟩;have T_7:=Lib.hid (T_6.out.kp k7);have U_7:=Lib.hid (U_6.out.kp k7);have m1_7:=Lib.hid (m1_6.out.kp k7);have m2_7:=Lib.hid (m2_6.out.kp k7);have V_7:=Lib.hid (V_6.out.kp k7);have m3_7:=Lib.hid (m3_6.out.kp k7);have m4_7:=Lib.hid (m4_6.out.kp k7);have B_7:=Lib.hid (B_6.out.kp k7);clear T_6 U_6 m1_6 m2_6 V_6 m3_6 m4_6 B_6;have C_7:=Lib.hid hC;clear hC k7;obtain ⟨g0,g1,g2,_⟩:=T_7.out.ra.cells;obtain ⟨h0,h1,h2,_⟩:=T_7.out.rb.cells)
    | (go_at_call 126;(with_reducible refine (CDA.out _ m1_7.out m2_7.out).mono ?_);rintro e w8 ⟨vA,rfl,hA,k8⟩;have T_8:=Lib.hid (T_7.out.kp k8);have U_8:=Lib.hid (U_7.out.kp k8);have m1_8:=Lib.hid (m1_7.out.kp k8);have m2_8:=Lib.hid (m2_7.out.kp k8);have V_8:=Lib.hid (V_7.out.kp k8);have m3_8:=Lib.hid (m3_7.out.kp k8);have m4_8:=Lib.hid (m4_7.out.kp k8);have B_8:=Lib.hid (B_7.out.kp k8);have C_8:=Lib.hid (C_7.out.kp k8);clear T_7 U_7 m1_7 m2_7 V_7 m3_7 m4_7 B_7 C_7;have A_8:=Lib.hid hA;clear hA k8;obtain ⟨g0,g1,g2,_⟩:=T_8.out.ra.cells;obtain ⟨h0,h1,h2,_⟩:=T_8.out.rb.cells)
    | (go_at_call 125;(with_reducible refine (CM2.out _ _ _ m3_8.out A_8.out).mono ?_);rintro e w9 ⟨vD,rfl,hD,k9⟩;have T_9:=Lib.hid (T_8.out.kp k9);have U_9:=Lib.hid (U_8.out.kp k9);have m1_9:=Lib.hid (m1_8.out.kp k9);have m2_9:=Lib.hid (m2_8.out.kp k9);have V_9:=Lib.hid (V_8.out.kp k9);have m3_9:=Lib.hid (m3_8.out.kp k9);have m4_9:=Lib.hid (m4_8.out.kp k9);have B_9:=Lib.hid (B_8.out.kp k9);have C_9:=Lib.hid (C_8.out.kp k9);have A_9:=Lib.hid (A_8.out.kp k9);clear T_8 U_8 m1_8 m2_8 V_8 m3_8 m4_8 B_8 C_8 A_8;have D_9:=Lib.hid hD;clear hD k9;obtain ⟨g0,g1,g2,_⟩:=T_9.out.ra.cells;obtain ⟨h0,h1,h2,_⟩:=T_9.out.rb.cells)
    | (go_at_call 82;(with_reducible refine (CC.out _ _ _ C_9.out D_9.out).mono ?_);rintro e w10 ⟨rfl,k10⟩;have T_10:=Lib.hid (T_9.out.kp k10);have U_10:=Lib.hid (U_9.out.kp k10);have m1_10:=Lib.hid (m1_9.out.kp k10);have m2_10:=Lib.hid (m2_9.out.kp k10);have V_10:=Lib.hid (V_9.out.kp k10);have m3_10:=Lib.hid (m3_9.out.kp k10);have m4_10:=Lib.hid (m4_9.out.kp k10);have B_10:=Lib.hid (B_9.out.kp k10);have C_10:=Lib.hid (C_9.out.kp k10);have A_10:=Lib.hid (A_9.out.kp k10);have D_10:=Lib.hid (D_9.out.kp k10);clear T_9 U_9 m1_9 m2_9 V_9 m3_9 m4_9 B_9 C_9 A_9 D_9;clear k10;obtain ⟨g0,g1,g2,_⟩:=T_10.out.ra.cells;obtain ⟨h0,h1,h2,_⟩:=T_10.out.rb.cells))
  go_wp2
  go_ret
  exact ⟨rfl,T_10.out.k⟩
theorem rqcmp_any {w:World} {u:Value} {x:Rat} (hu:RatV w u x) {v:Value} {y:Rat} (hv:RatV w v y) {j k:Nat} (hs:RSz j x) (ht:RSz k y) (hj:j≤500000000) (hk:k≤500000000):
  Calls Tryz.prog 59 #[u,v] w fun e w'=>e= .returned (.int .i64 (cmpR x y))∧Kp w w':=by
 by_cases h9:sgnR x=sgnR y
 ·have h:=rqcmp_sizes hu hv hs ht hj hk h9
  have he:(if decide (x.num<0)=true then-cmpv (x.num.natAbs*y.den) (y.num.natAbs*x.den) else cmpv (x.num.natAbs*y.den) (y.num.natAbs*x.den))=cmpR x y:=by
   unfold sgnR at h9
   by_cases hx:x.num<0
   ·rw [if_pos (decide_eq_true hx),←cmpv_swap]
    refine (cmpR_neg (by omega) ?_).symm
    by_cases hy:y.num≤0
    ·exact hy
    ·rw [if_neg (by omega),if_pos hx,if_neg (by omega),if_neg (by omega)] at h9
     omega
   ·rw [if_neg (by rw [decide_eq_false hx];decide)]
    refine (cmpR_pos (by omega) ?_).symm
    by_cases hy:0≤y.num
    ·exact hy
    ·rw [if_neg hx,if_neg (by omega: ¬y.num=0),if_pos (by omega)] at h9
     split at h9<;>omega
  rw [he] at h
  exact h
 ·exact rqcmp_signs hu hv h9
end Go.Proofs.YtnkobfcnflphkaaGreatDoor
namespace Go.Proofs.YtnkobfcnflphkaaGreatDoor
open Go.RowKit
set_option maxRecDepth 20000 in
set_option maxHeartbeats 1000000 in
theorem rqsize_any (n:Int) (h1: -9223372036854775808≤n) (h2:n<9223372036854775808) (w:World):
  Calls Tryz.prog 115 #[.int .i64 n] w fun e w'=> ∃v,e= .returned (.tuple #[v,.bool (decide (n<0))])∧M w' v n.natAbs∧Kp w w':=by
 have HO:=Lib.hid (rof_any n.natAbs w (by omega))
 by_cases h:n<0
 ·have hb:decide (n<0)=true:=decide_eq_true h
  rw [hb]
  have he:(n.natAbs:Int)= -n:=by omega
  rw [he] at HO
  have e1:IntKind.i64.wrap (n+1)=n+1:=IntWalk.i64_in _ (by omega)
  have e2:IntKind.i64.wrap (-(n+1))= -(n+1):=IntWalk.i64_in _ (by omega)
  have e3:IntKind.u64.wrap (-(n+1))= -(n+1):=IntWalk.u64_in _ (by omega)
  have e4:IntKind.u64.wrap (-(n+1)+1)= -n:=by rw [IntWalk.u64_in _ (by omega)];omega
  have e5:(-(n+1)+1:Int)= -n:=by omega
  clear he
  go_enter Tryz.func115,Tryz.ntmps115
  go_wp2_with (go_at_call 152;(with_reducible refine HO.out.mono ?_);rintro e w1 ⟨v,rfl,hv,k1⟩;refine Hid.out ?_)
  refine Lib.hid ?_
  go_wp2
  go_ret2
  exact ⟨_,rfl,hv,k1⟩
 ·have hb:decide (n<0)=false:=decide_eq_false h
  rw [hb]
  have he:(n.natAbs:Int)=n:=Int.natAbs_of_nonneg (by omega)
  rw [he] at HO
  have e3:IntKind.u64.wrap n=n:=IntWalk.u64_in _ (by omega)
  clear he
  go_enter Tryz.func115,Tryz.ntmps115
  go_wp2_with (go_at_call 152;(with_reducible refine HO.out.mono ?_);rintro e w1 ⟨v,rfl,hv,k1⟩;refine Hid.out ?_)
  refine Lib.hid ?_
  go_wp2
  go_ret2
  exact ⟨_,rfl,hv,k1⟩
set_option maxRecDepth 20000 in
set_option maxHeartbeats 4000000 in
theorem rqmake_any {w:World} (n d:Int) (h1: -9223372036854775808≤n) (h2:n<9223372036854775808) (h3: -9223372036854775808≤d) (h4:d<9223372036854775808) (h0:d≠0):
  Calls Tryz.prog 145 #[.int .i64 n,.int .i64 d] w fun e w'=> ∃v,e= .returned (.tuple #[v,.int .i64 0])∧RatV w' v (ratOf (decide (n<0) !=decide (d<0)) n.natAbs d.natAbs)∧Kp w w':=by
 have HT:=Lib.hid (Nul.new w)
 have CN:=Lib.hid (fun w'=>rqsize_any n h1 h2 w')
 have CD:=Lib.hid (fun w'=>rqsize_any d h3 h4 w')
 have sz: ∀z:Int,-9223372036854775808≤z→z<9223372036854775808→Sz 2 z.natAbs:=fun z a b=>length_toL_le _ 2 (by simp;omega)
 have hd0:d.natAbs≠0:=by omega
 have CR:=Lib.hid (fun w' s va vb (a:M w' va n.natAbs) (b:M w' vb d.natAbs)=>reduce_m (neg:=s) a b (sz n h1 h2) (sz d h3 h4) (by omega) (by omega) hd0)
 have hz:(d==0)=false:=by simpa using h0
 obtain ⟨p,hp⟩: ∃p,p=decide (n<0):=⟨_,rfl⟩
 obtain ⟨q,hq⟩: ∃p,p=decide (d<0):=⟨_,rfl⟩
 rw [←hp] at CN⊢
 rw [←hq] at CD⊢
 clear hp hq sz hd0 h0 h1 h2 h3 h4
 go_enter Tryz.func145,Tryz.ntmps145
 have KN:=HT.out.k
 clear KN
 go_wp2_with (go_at_call 115;(with_reducible refine (CN.out _).mono ?_);rintro e w2 ⟨vn,rfl,hvn,k2⟩;refine Hid.out ?_)
 refine Lib.hid ?_
 have T_2:=Lib.hid (HT.out.kp k2)
 clear HT
 have N_2:=Lib.hid hvn
 clear hvn k2
 go_wp2_with (go_at_call 115;(with_reducible refine (CD.out _).mono ?_);rintro e w3 ⟨vd,rfl,hvd,k3⟩;refine Hid.out ?_)
 refine Lib.hid ?_
 have T_3:=Lib.hid (T_2.out.kp k3)
 have N_3:=Lib.hid (N_2.out.kp k3)
 clear T_2 N_2
 have D_3:=Lib.hid hvd
 clear hvd k3
 go_wp2_with (go_at_call 127;(with_reducible refine (CR.out _ _ _ _ N_3.out D_3.out).mono ?_);rintro e w4 ⟨vr,rfl,hvr,k4⟩;refine Hid.out ?_)
 refine Lib.hid ?_
 have T_4:=Lib.hid (T_3.out.kp k4)
 have N_4:=Lib.hid (N_3.out.kp k4)
 have D_4:=Lib.hid (D_3.out.kp k4)
 clear T_3 N_3 D_3
 clear k4
 obtain ⟨sgn,q1,r1,s1,q2,r2,s2,rfl⟩:=hvr.lit
 obtain ⟨⟨e0,e1,e2,f0,f1,f2⟩,HPP,HV,HKF⟩:=rat_ends T_4.out.rr T_4.out.k (Below.refl _ _) hvr (by omega)
 clear hvr
 obtain ⟨k0,k1,k2⟩:=HPP.out
 go_wp2
 exact bodyPost_ret (v:= .tuple #[.agg #[.bool sgn,.slice q1 r1 s1,.slice q2 r2 s2],.int .i64 0]) (by simp [results,Tryz.results145,go_sem,k0,k1,k2]) rfl ⟨_,rfl,HV.out,HKF.out⟩
set_option maxRecDepth 20000 in
set_option maxHeartbeats 4000000 in
theorem rqfrac_any {w:World} (n d:Int) (h1: -9223372036854775808≤n) (h2:n<9223372036854775808) (h3: -9223372036854775808≤d) (h4:d<9223372036854775808) (h0:d≠0):
  Calls Tryz.prog 94 #[.int .i64 n,.int .i64 d] w fun e w'=> ∃r,e= .returned r∧RatV w' r (ratOf (decide (n<0) !=decide (d<0)) n.natAbs d.natAbs)∧Kp w w':=by
 have HT:=Lib.hid (Nul.new w)
 have CM:=Lib.hid (fun w'=>rqmake_any (w:=w') n d h1 h2 h3 h4 h0)
 clear h0 h1 h2 h3 h4
 go_enter Tryz.func94,Tryz.ntmps94
 have KN:=HT.out.k
 clear KN
 go_wp2_with (go_at_call 145;(with_reducible refine (CM.out _).mono ?_);rintro e w2 ⟨vr,rfl,hvr,k2⟩;refine Hid.out ?_)
 refine Lib.hid ?_
 have T_2:=Lib.hid (HT.out.kp k2)
 clear HT
 clear k2
 obtain ⟨sgn,q1,r1,s1,q2,r2,s2,rfl⟩:=hvr.lit
 have VR:=Lib.hid hvr
 clear hvr
 have T_3:=Lib.hid (T_2.out.kp (Kp.alloc _ (Obj.cells #[Value.bool sgn,Value.slice q1 r1 s1,Value.slice q2 r2 s2] 30)))
 have V9_3:=Lib.hid (VR.out.kp (Kp.alloc _ (Obj.cells #[Value.bool sgn,Value.slice q1 r1 s1,Value.slice q2 r2 s2] 30)))
 clear T_2 VR
 obtain ⟨⟨e0,e1,e2,f0,f1,f2⟩,HPP,HV,HKF⟩:=rat_ends T_3.out.rr T_3.out.k (Below.refl _ _) V9_3.out (by omega)
 obtain ⟨k0,k1,k2⟩:=HPP.out
 go_wp2
 exact bodyPost_ret (v:= .agg #[.bool sgn,.slice q1 r1 s1,.slice q2 r2 s2]) (by simp [results,Tryz.results94,go_sem,k0,k1,k2]) rfl ⟨_,rfl,HV.out,HKF.out⟩
set_option maxRecDepth 20000 in
set_option maxHeartbeats 4000000 in
theorem rqint_any {w:World} (n:Int) (h1: -9223372036854775808≤n) (h2:n<9223372036854775808):
  Calls Tryz.prog 43 #[.int .i64 n] w fun e w'=> ∃r,e= .returned r∧RatV w' r ((n:Rat))∧Kp w w':=by
 have HT:=Lib.hid (Nul.new w)
 have CN:=Lib.hid (fun w'=>rqsize_any n h1 h2 w')
 have hn:ratOf (decide (n<0)) n.natAbs 1=(n:Rat):=by unfold ratOf;rw [sg_self,Rat.mkRat_one]
 rw [←hn]
 have h0:n.natAbs=0→decide (n<0)=false:=fun h=>decide_eq_false (by omega)
 have H0:=Lib.hid h0
 obtain ⟨p,hp⟩: ∃p,p=decide (n<0):=⟨_,rfl⟩
 rw [←hp] at CN H0⊢
 clear hp h1 h2 hn h0
 go_enter Tryz.func43,Tryz.ntmps43
 have KN:=HT.out.k
 clear KN
 go_wp2_with (go_at_call 115;(with_reducible refine (CN.out _).mono ?_);rintro e w2 ⟨vn,rfl,hvn,k2⟩;refine Hid.out ?_)
 refine Lib.hid ?_
 have T_2:=Lib.hid (HT.out.kp k2)
 clear HT
 have N_2:=Lib.hid hvn
 clear hvn k2
 obtain ⟨o9,l9,c9,rfl⟩:=m_slice N_2.out
 have VR:=Lib.hid (RatV.of (neg:=p) (by decide) (Nat.gcd_one_right _) N_2.out (by rw [if_pos rfl];exact m_nil0 _) H0.out)
 obtain ⟨⟨e0,e1,e2,f0,f1,f2⟩,HPP,HV,HKF⟩:=rat_ends T_2.out.rr T_2.out.k (Below.refl _ _) VR.out (by omega)
 go_wp2
 obtain ⟨k0,k1,k2⟩:=HPP.out
 exact bodyPost_ret (v:= .agg #[.bool p,.slice o9 l9 c9,.slice none 0 0]) (by simp [results,Tryz.results43,go_sem,k0,k1,k2]) rfl ⟨_,rfl,HV.out,HKF.out⟩
end Go.Proofs.YtnkobfcnflphkaaGreatDoor
