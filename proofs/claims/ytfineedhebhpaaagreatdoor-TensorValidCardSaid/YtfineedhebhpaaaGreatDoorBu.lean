/-
  Several texts in one: Rq9, Rqa, Qva, Rva, Vv.
-/
import Derived.Test.YtfineedhebhpaaaGreatDoorBr
import Derived.Test.YtfineedhebhpaaaGreatDoorBg
import Derived.Test.YtfineedhebhpaaaGreatDoorBs
import Derived.Test.YtfineedhebhpaaaGreatDoorBk
import Derived.Test.YtfineedhebhpaaaGreatDoorBy
import Derived.Test.YtfineedhebhpaaaGreatDoorBl
import Derived.Test.YtfineedhebhpaaaGreatDoorBp
namespace Go.Proofs.YtfineedhebhpaaaGreatDoor
open Lib renaming hid→Yt
set_option maxHeartbeats 16000000
open Go.RowKit
set_option maxRecDepth 20000 in
theorem U8 {w:World} {p:Bool} {a b:Value} {n:Nat} (ha:M w a n) (hb:M w b 1):
  Calls Tryz.prog 162 #[.agg #[.bool p,a,b]] w fun e w'=>e= .returned (.bool false)∧Kp w w':=by
 have HN:=Yt (fun w' (kk:Kp w w')=>Fn (ha.kp kk))
 have HD:=Yt (fun w' (kk:Kp w w')=>Fn (hb.kp kk))
 have HI:=Yt (fun w' (kk:Kp w w')=>Cz (hb.kp kk))
 rw [show decide (1=1)=true from rfl] at HI
 obtain ⟨a1,l1,c1,rfl⟩:=BQ ha
 obtain ⟨a2,l2,c2,rfl⟩:=BQ hb
 have HK:=Yt (fun o1=>Kp.alloc w o1)
 clear ha hb
 go_enter Tryz.func162,Tryz.ntmps162
 go_wp2_with (first
  | (go_at_call 212;first|((with_reducible refine (HN.out _ (HK.out _)).mono ?_);rintro e w1 ⟨rfl,rfl⟩)|((with_reducible refine (HD.out _ (HK.out _)).mono ?_);rintro e w1 ⟨rfl,rfl⟩))
  | (go_at_call 213;(with_reducible refine (HI.out _ (HK.out _)).mono ?_);rintro e w1 ⟨rfl,rfl⟩))
 go_wp2
 go_ret
 exact ⟨rfl,HK.out _⟩
theorem RK {w:World} {v:Value} {xs:List Nat} {t:Bool} (h:Rd w v xs) (e:El xs=t):
  Calls Tryz.prog 215 #[v] w fun e w'=>e= .returned (.bool t)∧w=w':=by
 have:=OM v _ w h
 rw [e] at this
 exact this
theorem Gu {w:World} {v:Value} {n:Nat} (h:M w v n):
  Calls Tryz.prog 215 #[v] w fun e w'=>e= .returned (.bool true)∧w=w':=
 RK h (Je n)
set_option maxRecDepth 20000 in
set_option maxRecDepth 20000 in
set_option maxRecDepth 20000 in
set_option maxRecDepth 20000 in
set_option maxRecDepth 20000 in
set_option maxRecDepth 20000 in
theorem Tx {w:World} {p:Bool} {a b:Value} {n k:Nat} (ha:M w a n) (hb:M w b k) (h0:n≠0) (h1:k≠1) {j:Nat} (hs:(toL n).length≤j) (hs2:(toL (if k=0 then 1 else k)).length≤j) (hk:j≤1073741824):
  Calls Tryz.prog 163 #[.agg #[.bool p,a,b]] w fun e w'=>e= .returned (.bool (Nat.gcd n (if k=0 then 1 else k)==1))∧Kp w w':=by
 have HN:=Yt (fun w' (kk:Kp w w')=>Gu (ha.kp kk))
 have HD:=Yt (fun w' (kk:Kp w w')=>Gu (hb.kp kk))
 have HK:=Yt (fun o1=>Kp.alloc w o1)
 have HM:=Yt (fun w' (kk:Kp w w')=>Jx (s:=p) (ha.kp kk) (hb.kp kk))
 obtain ⟨d,hd⟩: ∃d,d=(if k=0 then 1 else k):=⟨_,rfl⟩
 rw [←hd] at HM hs2⊢
 have HC:=Yt (fun w' vd (kk:Kp w w') (m:M w' vd d)=>Jw (ha.kp kk) m (Nat.le_trans hs hk) (Nat.le_trans hs2 hk))
 obtain ⟨g,hg⟩: ∃g,g=Nat.gcd n d:=⟨_,rfl⟩
 rw [←hg] at HC⊢
 have hl:=DV h0
 obtain ⟨a1,l1,c1,rfl⟩:=BQ ha
 have hz:((l1:Int)==0)=false:=beq_eq_false_iff_ne.2 (by have:=Wz ha;omega)
 clear h0 hd hs hs2 hg hl
 by_cases hg1:g=1
 ·subst hg1
  rw [show ((1:Nat)==1)=true from rfl]
  have hb2:=hb.kp (Kp.alloc w (Obj.cells #[Value.bool p,.slice a1 l1 c1,b] 34))
  rcases Gz hb2 h1 with ⟨o2,l2,c2,rfl,hl⟩|⟨bb,off,c2,x,rfl,hc,hx⟩
  ·have hz1:((l2:Int)==1)=false:=beq_eq_false_iff_ne.2 (by omega)
   have HPAR:=Yt (Res.new w (.bool p) (.slice a1 l1 c1) (.slice o2 l2 c2))
   clear h1 hb hb2 ha
   go_enter Tryz.func163,Tryz.ntmps163
   go_wp2_with (go_at_call 215;first|((with_reducible refine (HN.out _ (HK.out _)).mono ?_);rintro e w1 ⟨rfl,rfl⟩)|((with_reducible refine (HD.out _ (HK.out _)).mono ?_);rintro e w1 ⟨rfl,rfl⟩))
   go_wp2
   go_region_with (first
    | (go_at_call 128;(refine (HM.out _ (by repeat first|exact Below.refl _ _|apply Kp.on|apply Kp.up)).mono ?_);rintro e w1 ⟨vd,rfl,hvd,K1⟩;have HVD:=Yt hvd;have HK1:=Yt K1;obtain ⟨p0,p1,p2,_⟩:=((HPAR.out.kp (Kp.on (Below.refl _ _))).kp K1).cells)
    | (go_at_call 195;(refine (HC.out _ _ ((HK.out _).on.tr HK1.out) HVD.out).mono ?_);rintro e w2 ⟨vg,rfl,hvg,K2⟩;have HK2:=Yt K2;obtain ⟨gb,go,gc,rfl,hgc⟩:=Fm hvg;clear hvg K2))
   all_goals go_wp2
   all_goals go_ret
   all_goals exact ⟨rfl,((HK.out _).on.tr HK1.out).tr HK2.out⟩
  ·have hz1:((x:Int)==1)=false:=beq_eq_false_iff_ne.2 (by omega)
   have HPAR:=Yt (Res.new w (.bool p) (.slice a1 l1 c1) (.slice (some ⟨bb,off,none⟩) 1 c2))
   clear h1 hb hb2 ha
   go_enter Tryz.func163,Tryz.ntmps163
   go_wp2_with (go_at_call 215;first|((with_reducible refine (HN.out _ (HK.out _)).mono ?_);rintro e w1 ⟨rfl,rfl⟩)|((with_reducible refine (HD.out _ (HK.out _)).mono ?_);rintro e w1 ⟨rfl,rfl⟩))
   go_wp2
   go_region_with (first
    | (go_at_call 128;(refine (HM.out _ (by repeat first|exact Below.refl _ _|apply Kp.on|apply Kp.up)).mono ?_);rintro e w1 ⟨vd,rfl,hvd,K1⟩;have HVD:=Yt hvd;have HK1:=Yt K1;obtain ⟨p0,p1,p2,_⟩:=((HPAR.out.kp (Kp.on (Below.refl _ _))).kp K1).cells)
    | (go_at_call 195;(refine (HC.out _ _ ((HK.out _).on.tr HK1.out) HVD.out).mono ?_);rintro e w2 ⟨vg,rfl,hvg,K2⟩;have HK2:=Yt K2;obtain ⟨gb,go,gc,rfl,hgc⟩:=Fm hvg;clear hvg K2))
   all_goals go_wp2
   all_goals go_ret
   all_goals exact ⟨rfl,((HK.out _).on.tr HK1.out).tr HK2.out⟩
 ·rw [show (g==1)=false from beq_eq_false_iff_ne.2 hg1]
  have hb2:=hb.kp (Kp.alloc w (Obj.cells #[Value.bool p,.slice a1 l1 c1,b] 34))
  rcases Gz hb2 h1 with ⟨o2,l2,c2,rfl,hl⟩|⟨bb,off,c2,x,rfl,hc,hx⟩
  ·have hz1:((l2:Int)==1)=false:=beq_eq_false_iff_ne.2 (by omega)
   have HPAR:=Yt (Res.new w (.bool p) (.slice a1 l1 c1) (.slice o2 l2 c2))
   clear h1 hb hb2 ha
   go_enter Tryz.func163,Tryz.ntmps163
   go_wp2_with (go_at_call 215;first|((with_reducible refine (HN.out _ (HK.out _)).mono ?_);rintro e w1 ⟨rfl,rfl⟩)|((with_reducible refine (HD.out _ (HK.out _)).mono ?_);rintro e w1 ⟨rfl,rfl⟩))
   go_wp2
   go_region_with (first
    | (go_at_call 128;(refine (HM.out _ (by repeat first|exact Below.refl _ _|apply Kp.on|apply Kp.up)).mono ?_);rintro e w1 ⟨vd,rfl,hvd,K1⟩;have HVD:=Yt hvd;have HK1:=Yt K1;obtain ⟨p0,p1,p2,_⟩:=((HPAR.out.kp (Kp.on (Below.refl _ _))).kp K1).cells)
    | (go_at_call 195;(refine (HC.out _ _ ((HK.out _).on.tr HK1.out) HVD.out).mono ?_);rintro e w2 ⟨vg,rfl,hvg,K2⟩;have HK2:=Yt K2;have HVG:=Yt hvg;obtain ⟨go,gl,gc,rfl⟩:=BQ hvg;clear hvg K2))
   all_goals
    (rcases Gz HVG.out hg1 with ⟨o9,l9,c9,e9,hgl⟩|⟨gb,go9,gc9,gx,e9,hgc,hgx⟩
     ·obtain ⟨rfl,rfl,rfl⟩:=(by simpa using e9:go=o9∧gl=l9∧gc=c9)
      have hq:((gl:Int)==1)=false:=beq_eq_false_iff_ne.2 (by omega)
      clear hgl e9 HVG
      go_wp2
      go_ret
      exact ⟨rfl,((HK.out _).on.tr HK1.out).tr HK2.out⟩
     ·obtain ⟨rfl,rfl,rfl⟩:=(by simpa using e9:go=some ⟨gb,go9,none⟩∧gl=1∧gc=gc9)
      have hq:((gx:Int)==1)=false:=beq_eq_false_iff_ne.2 (by omega)
      clear hgx e9 HVG
      go_wp2
      go_ret
      exact ⟨rfl,((HK.out _).on.tr HK1.out).tr HK2.out⟩)
  ·have hz1:((x:Int)==1)=false:=beq_eq_false_iff_ne.2 (by omega)
   have HPAR:=Yt (Res.new w (.bool p) (.slice a1 l1 c1) (.slice (some ⟨bb,off,none⟩) 1 c2))
   clear h1 hb hb2 ha
   go_enter Tryz.func163,Tryz.ntmps163
   go_wp2_with (go_at_call 215;first|((with_reducible refine (HN.out _ (HK.out _)).mono ?_);rintro e w1 ⟨rfl,rfl⟩)|((with_reducible refine (HD.out _ (HK.out _)).mono ?_);rintro e w1 ⟨rfl,rfl⟩))
   go_wp2
   go_region_with (first
    | (go_at_call 128;(refine (HM.out _ (by repeat first|exact Below.refl _ _|apply Kp.on|apply Kp.up)).mono ?_);rintro e w1 ⟨vd,rfl,hvd,K1⟩;have HVD:=Yt hvd;have HK1:=Yt K1;obtain ⟨p0,p1,p2,_⟩:=((HPAR.out.kp (Kp.on (Below.refl _ _))).kp K1).cells)
    | (go_at_call 195;(refine (HC.out _ _ ((HK.out _).on.tr HK1.out) HVD.out).mono ?_);rintro e w2 ⟨vg,rfl,hvg,K2⟩;have HK2:=Yt K2;have HVG:=Yt hvg;obtain ⟨go,gl,gc,rfl⟩:=BQ hvg;clear hvg K2))
   all_goals
    (rcases Gz HVG.out hg1 with ⟨o9,l9,c9,e9,hgl⟩|⟨gb,go9,gc9,gx,e9,hgc,hgx⟩
     ·obtain ⟨rfl,rfl,rfl⟩:=(by simpa using e9:go=o9∧gl=l9∧gc=c9)
      have hq:((gl:Int)==1)=false:=beq_eq_false_iff_ne.2 (by omega)
      clear hgl e9 HVG
      go_wp2
      go_ret
      exact ⟨rfl,((HK.out _).on.tr HK1.out).tr HK2.out⟩
     ·obtain ⟨rfl,rfl,rfl⟩:=(by simpa using e9:go=some ⟨gb,go9,none⟩∧gl=1∧gc=gc9)
      have hq:((gx:Int)==1)=false:=beq_eq_false_iff_ne.2 (by omega)
      clear hgx e9 HVG
      go_wp2
      go_ret
      exact ⟨rfl,((HK.out _).on.tr HK1.out).tr HK2.out⟩)
set_option maxRecDepth 20000 in
theorem Tv {w:World} {p:Bool} {a b:Value} (ha:M w a 0) (hb:M w b 0) (hp:p=false):
  Calls Tryz.prog 163 #[.agg #[.bool p,a,b]] w fun e w'=>e= .returned (.bool true)∧Kp w w':=by
 subst hp
 have HN:=Yt (fun w' (kk:Kp w w')=>Gu (ha.kp kk))
 have HD:=Yt (fun w' (kk:Kp w w')=>Gu (hb.kp kk))
 have HK:=Yt (fun o1=>Kp.alloc w o1)
 have HM:=Yt (fun w' (kk:Kp w w')=>Jx (s:=false) (ha.kp kk) (hb.kp kk))
 rw [if_pos rfl] at HM
 have HC:=Yt (fun w' vd (kk:Kp w w') (m:M w' vd 1)=>Jw (ha.kp kk) m (by rw [Az];decide) (by rw [FB];decide))
 rw [Nat.gcd_one_right] at HC
 obtain ⟨a1,c1,rfl,h2,h3,_,_⟩:=ha
 obtain ⟨o2,c2,rfl,h4,h5,_,_⟩:=hb
 simp only [Az,List.length_nil] at HN HD HM HC h2 h3 h4 h5⊢
 have HPAR:=Yt (Res.new w (.bool false) (.slice a1 0 c1) (.slice o2 0 c2))
 go_enter Tryz.func163,Tryz.ntmps163
 go_wp2_with (go_at_call 215;first|((with_reducible refine (HN.out _ (HK.out _)).mono ?_);rintro e w1 ⟨rfl,rfl⟩)|((with_reducible refine (HD.out _ (HK.out _)).mono ?_);rintro e w1 ⟨rfl,rfl⟩))
 go_wp2
 go_region_with (first
  | (go_at_call 128;(refine (HM.out _ (by repeat first|exact Below.refl _ _|apply Kp.on|apply Kp.up)).mono ?_);rintro e w1 ⟨vd,rfl,hvd,K1⟩;have HVD:=Yt hvd;have HK1:=Yt K1;obtain ⟨p0,p1,p2,_⟩:=((HPAR.out.kp (Kp.on (Below.refl _ _))).kp K1).cells)
  | (go_at_call 195;(refine (HC.out _ _ ((HK.out _).on.tr HK1.out) HVD.out).mono ?_);rintro e w2 ⟨vg,rfl,hvg,K2⟩;have HK2:=Yt K2;obtain ⟨gb,go,gc,rfl,hgc⟩:=Fm hvg;clear hvg K2))
 all_goals go_wp2
 all_goals go_ret
 all_goals exact ⟨rfl,((HK.out _).on.tr HK1.out).tr HK2.out⟩
theorem Pe {w:World} {v:Value} {x:Rat} (h:Ax w v x) (hs:RSz 17 x) (hT:Tz w):
  Calls Tryz.prog 162 #[v] w fun e w'=>e= .returned (.bool true)∧Kp w w':=by
 by_cases h0:x.num=0
 ·exact Ou h h0
 ·exact Ov h h0 hs (by decide) hT
end Go.Proofs.YtfineedhebhpaaaGreatDoor
