/-
  Several texts in one: Div, Div2, Div3.
-/
import Derived.Test.YtfineedhebhpaaaGreatDoorBd
import Derived.Test.YtfineedhebhpaaaGreatDoorBb
namespace Go.Proofs.YtfineedhebhpaaaGreatDoor
open Lib renaming hid→Yt
open Nat renaming le_refl→Yu
set_option maxHeartbeats 16000000
open Go.RowKit
theorem Pq (n:Nat) (w:World) (hn:n<18446744073709551616):
  Calls Tryz.prog 281 #[.int .u64 n] w fun e w'=> ∃v',e= .returned v'∧Row w' w.heap.size v' n∧Kp w w':=by
 have hL:Ai [n % 4294967296,n/4294967296]:=Ai.cons (by omega) (Ai.cons (by omega) Ai.nil)
 have hv:val [n % 4294967296,n/4294967296]=n:=by simp [val];omega
 have HO:=Yt (Own.alloc_new w 31 [n % 4294967296,n/4294967296])
 have HL:=Yt hL
 have HV:=Yt hv
 clear hL hv
 go_enter Tryz.func281,Tryz.ntmps281
 go_wp2_with (go_at_call 267;refine (Cg (some ⟨w.heap.size,0,none⟩) 2 2 [n % 4294967296,n/4294967296] _ rfl (Yu _) (by unfold maxLen;omega) HO.out.sl).mono ?_;rintro e w1 ⟨rfl,rfl⟩)
 go_ret
 exact ⟨_,rfl,HO.out.row HL.out (Yu _) rfl HV.out (by unfold maxLen;simp),Kp.alloc _ _⟩
theorem m_nil (w:World):M w (.slice none 0 0) 0:=by
 refine ⟨none,0,?_,?_,Nat.zero_le _,BG 0,?_⟩
 ·rw [Az];rfl
 ·rw [Az];exact Yu _
 ·rw [Az];exact fun h=>absurd rfl h
theorem G4 {X:List Nat} (ht:Aq X=X) (h0:0<X.length):X.getD (X.length-1) 0≠0:=by
 intro e
 have h1:=CT X (X.length-1) (by omega)
 rw [show X.length-1+1=X.length by omega,List.take_of_length_le (Yu _),e] at h1
 have h2:=FQ (X.take (X.length-1))
 rw [←h1,ht] at h2
 have h4:=AC (X.take (X.length-1))
 rw [←h2,List.length_take] at h4
 omega
theorem Own.whole {w:World} {g:Nat} {X:List Nat} (h:Own w 31 g X) (hL:Ai X) (ht:Aq X=X) {base:Nat} (hb:base≤g) (hm:X.length≤maxLen):Row w base (.slice (some ⟨g,0,none⟩) X.length X.length) (val X):=by
 have:=h.row hL hb rfl rfl hm
 rwa [ht] at this
set_option maxRecDepth 20000 in
theorem NZ (a b:Value) (xs ys:List Nat) (w:World) (ha:Rd w a xs) (hb:Rd w b ys) (hl:xs.length≤549755813888) (hn:val ys≠0) (hlt:val xs<val ys):
  Calls Tryz.prog 262 #[a,b] w fun e w'=> ∃q r,e= .returned (.tuple #[q,r,.int .i64 0])∧M w' q (val xs/val ys)∧Row w' w.heap.size r (val xs % val ys)∧Kp w w':=by
 obtain ⟨ao,ac,rfl,a1,a2,a3,a4⟩:=ha
 obtain ⟨bo,bc,rfl,b1,b2,b3,b4⟩:=hb
 have HA:=Yt (BE ao ac xs w a1 a2 a4)
 have HB:=Yt (BE bo bc ys w b1 b2 b4)
 have ra:=Do a1 a2 a3 a4
 have rb:=Do b1 b2 b3 b4
 have A3:=Yt (AP a3)
 have B3:=Yt (AP b3)
 have B4:=A6 ys▸b4.take (Aq ys).length
 have A4:=A6 xs▸a4.take (Aq xs).length
 have ex:=BK xs
 have ey:=BK ys
 have ti:=B9 a3
 have tj:=B9 b3
 have hal:=AC xs
 have hbl:=AC ys
 unfold maxLen at a2 b2
 clear a3 b3 a4 b4
 obtain ⟨X,hX⟩: ∃X,X=Aq xs:=⟨_,rfl⟩
 obtain ⟨Y,hY⟩: ∃Y,Y=Aq ys:=⟨_,rfl⟩
 rw [←hX] at HA ra A3 A4 ex ti hal
 rw [←hY] at HB rb B3 B4 ey tj hbl
 rw [←ex,←ey] at hlt
 rw [←ey] at hn
 rw [←ex,←ey]
 clear hX hY ex ey
 have HC:=Yt (Ee _ _ X Y w ra rb)
 have hY0:0<Y.length:=by
  rcases Nat.eq_zero_or_pos Y.length with e|e
  ·rw [List.length_eq_zero_iff.1 e] at hn;exact absurd rfl hn
  ·exact e
 have HRA:=Yt ra
 have HRB:=Yt rb
 have HTI:=Yt ti
 have HTJ:=Yt tj
 have HN:=Yt hn
 clear ra rb ti tj hn
 have hne:(((Y.length:Nat):Int)==0)=false:=beq_eq_false_iff_ne.2 (by omega)
 have HV:=Yt (CY hlt)
 have HD:=Yt (Nat.div_eq_of_lt hlt)
 have HM:=Yt (Nat.mod_eq_of_lt hlt)
 clear hlt
 go_enter Tryz.func262,Tryz.ntmps262
 go_wp2_with (first
  | (go_at_call 267;first|((with_reducible refine HA.out.mono ?_);rintro e w1 ⟨rfl,rfl⟩)|((with_reducible refine HB.out.mono ?_);rintro e w1 ⟨rfl,rfl⟩))
  | (go_at_call 238;refine HC.out.mono ?_;rintro e w2 ⟨rfl,K2⟩;refine Hid.out ?_))
 refine Yt ?_
 rw [HV.out]
 have HCP:=Yt (DP _ X w2 (HRA.out.kp K2) (by omega))
 rw [HTI.out] at HCP
 go_wp2_with (go_at_call 280;refine HCP.out.mono ?_;rintro e w3 ⟨g,hg,rfl,hO,K3⟩;refine Hid.out ?_)
 refine Yt ?_
 have HO:=Yt hO
 clear hO
 go_wp2
 go_ret3
 rw [HD.out,HM.out]
 exact ⟨_,_,rfl,m_nil _,HO.out.whole A3.out HTI.out (Nat.le_trans K2.size hg) (by unfold maxLen;omega),K2.tr K3⟩
set_option maxRecDepth 20000 in
theorem Lg (a b:Value) (xs ys:List Nat) (w:World) (ha:Rd w a xs) (hb:Rd w b ys) (_hl:xs.length≤549755813888) (hn:val ys≠0) (hge: ¬val xs<val ys) (h2:(Aq xs).length≤2):
  Calls Tryz.prog 262 #[a,b] w fun e w'=> ∃q r,e= .returned (.tuple #[q,r,.int .i64 0])∧M w' q (val xs/val ys)∧Row w' w.heap.size r (val xs % val ys)∧Kp w w':=by
 obtain ⟨ao,ac,rfl,a1,a2,a3,a4⟩:=ha
 obtain ⟨bo,bc,rfl,b1,b2,b3,b4⟩:=hb
 have HA:=Yt (BE ao ac xs w a1 a2 a4)
 have HB:=Yt (BE bo bc ys w b1 b2 b4)
 have ra:=Do a1 a2 a3 a4
 have rb:=Do b1 b2 b3 b4
 have A3:=Yt (AP a3)
 have B3:=Yt (AP b3)
 have B4:=A6 ys▸b4.take (Aq ys).length
 have A4:=A6 xs▸a4.take (Aq xs).length
 have ex:=BK xs
 have ey:=BK ys
 have ti:=B9 a3
 have tj:=B9 b3
 have hal:=AC xs
 have hbl:=AC ys
 unfold maxLen at a2 b2
 clear a3 b3 a4 b4
 obtain ⟨X,hX⟩: ∃X,X=Aq xs:=⟨_,rfl⟩
 obtain ⟨Y,hY⟩: ∃Y,Y=Aq ys:=⟨_,rfl⟩
 rw [←hX] at HA ra A3 A4 ex ti hal
 rw [←hY] at HB rb B3 B4 ey tj hbl
 rw [←ex,←ey] at hge
 rw [←ey] at hn
 rw [←hX] at h2
 rw [←ex,←ey]
 clear hX hY ex ey
 have HC:=Yt (Ee _ _ X Y w ra rb)
 have hY0:0<Y.length:=by
  rcases Nat.eq_zero_or_pos Y.length with e|e
  ·rw [List.length_eq_zero_iff.1 e] at hn;exact absurd rfl hn
  ·exact e
 have HRA:=Yt ra
 have HRB:=Yt rb
 have HTI:=Yt ti
 have HTJ:=Yt tj
 have HN:=Yt hn
 clear ra rb ti tj hn
 have hne:(((Y.length:Nat):Int)==0)=false:=beq_eq_false_iff_ne.2 (by omega)
 have hYX:Y.length≤X.length:=by
  rcases Nat.lt_or_ge X.length Y.length with h|h
  ·exact absurd (Cq A3.out B3.out (by rw [HTI.out,HTJ.out];exact h)) hge
  ·exact h
 have hcv:(BZ (val X) (val Y)<0)=False:=by
  refine eq_false ?_
  rcases Nat.lt_or_eq_of_le (Nat.le_of_not_lt hge) with h|h
  ·rw [C4 h];omega
  ·rw [Ed h.symm];omega
 have hx:val X<18446744073709551616:=by
  have h1:=Cf A3.out
  have h3:(4294967296:Nat)^X.length≤4294967296^2:=Nat.pow_le_pow_right (by omega) h2
  omega
 have hy:val Y<18446744073709551616:=by omega
 obtain ⟨x,hxe⟩: ∃x,x=val X:=⟨_,rfl⟩
 obtain ⟨y,hye⟩: ∃y,y=val Y:=⟨_,rfl⟩
 have HS1:=Yt (fun w' (k:Kp w w')=>Eh _ X w' (HRA.out.kp k) h2)
 have HS2:=Yt (fun w' (k:Kp w w')=>Eh _ Y w' (HRB.out.kp k) (by omega))
 obtain ⟨c,hce⟩: ∃c,c=BZ (val X) (val Y):=⟨_,rfl⟩
 rw [←hxe] at HS1 hx hge
 rw [←hye] at HS2 hy hge
 rw [←hce] at hcv HC
 rw [←hxe,←hye]
 rw [←hye] at HN
 have hy0:0<y:=Nat.pos_of_ne_zero HN.out
 have hy1:((y:Int)==0)=false:=beq_eq_false_iff_ne.2 (by omega)
 have hqt:(x:Int).tdiv (y:Int)=((x/y:Nat):Int):=rfl
 have hrt:(x:Int).tmod (y:Int)=((x % y:Nat):Int):=rfl
 obtain ⟨q,hq⟩: ∃q,q=x/y:=⟨_,rfl⟩
 obtain ⟨r,hr⟩: ∃r,r=x % y:=⟨_,rfl⟩
 rw [←hq] at hqt
 rw [←hr] at hrt
 rw [←hq,←hr]
 have hqb:q≤x:=by rw [hq];exact Nat.div_le_self _ _
 have hrb:r<y:=by rw [hr];exact Nat.mod_lt _ hy0
 clear hxe hye hge hq hr hce
 go_enter Tryz.func262,Tryz.ntmps262
 go_wp2_with (first
  | (go_at_call 267;first|((with_reducible refine HA.out.mono ?_);rintro e w1 ⟨rfl,rfl⟩)|((with_reducible refine HB.out.mono ?_);rintro e w1 ⟨rfl,rfl⟩))
  | (go_at_call 238;refine HC.out.mono ?_;rintro e w2 ⟨rfl,K2⟩;refine Hid.out ?_))
 refine Yt ?_
 go_wp2_with (first
  | (go_at_call 283;first|((with_reducible refine (HS1.out _ K2).mono ?_);rintro e w3 ⟨rfl,rfl⟩)|((with_reducible refine (HS2.out _ K2).mono ?_);rintro e w3 ⟨rfl,rfl⟩)))
 have hqw:IntKind.u64.wrap (q:Int)=(q:Int):=IntWalk.u64_in _ (by omega)
 have hrw:IntKind.u64.wrap (r:Int)=(r:Int):=IntWalk.u64_in _ (by omega)
 have HQ:=Yt (fun w'=>Pq q w' (by omega))
 have HR:=Yt (fun w'=>Pq r w' (by omega))
 go_region_with (first
  | (go_at_call_of 281 (Value.int .u64 (q:Int));refine (HQ.out _).mono ?_;rintro e w5 ⟨v5,rfl,h5,K5⟩)
  | (go_at_call_of 281 (Value.int .u64 (r:Int));refine (HR.out _).mono ?_;rintro e w6 ⟨v6,rfl,h6,K6⟩))
 all_goals go_wp2_with fail
 all_goals go_ret3
 all_goals have K2d:Kp w w3.drew:=K2.drew
 all_goals first
  | exact ⟨v5,v6,rfl,h5.m.kp K6,h6.mono (K2d.tr K5).size,(K2d.tr K5).tr K6⟩
  | exact ⟨v5,v6,rfl,h5.m,(h6.kp K5).mono K2d.size,(K2d.tr K6).tr K5⟩
theorem Ow {Y:List Nat} {d:Nat} (h1:Y.length=1) (e:d=Y.getD 0 0):val Y=d:=by
 match Y,h1,e with
 | [y],_,e=>simp [List.getD] at e;simp [val,e]
set_option maxRecDepth 20000 in
theorem Uy (a b:Value) (xs ys:List Nat) (w:World) (ha:Rd w a xs) (hb:Rd w b ys) (hl:xs.length≤549755813888) (hn:val ys≠0) (hge: ¬val xs<val ys) (h2:2<(Aq xs).length) (h1:(Aq ys).length=1):
  Calls Tryz.prog 262 #[a,b] w fun e w'=> ∃q r,e= .returned (.tuple #[q,r,.int .i64 0])∧M w' q (val xs/val ys)∧Row w' w.heap.size r (val xs % val ys)∧Kp w w':=by
 obtain ⟨ao,ac,rfl,a1,a2,a3,a4⟩:=ha
 obtain ⟨bo,bc,rfl,b1,b2,b3,b4⟩:=hb
 have HA:=Yt (BE ao ac xs w a1 a2 a4)
 have HB:=Yt (BE bo bc ys w b1 b2 b4)
 have ra:=Do a1 a2 a3 a4
 have rb:=Do b1 b2 b3 b4
 have A3:=Yt (AP a3)
 have B3:=Yt (AP b3)
 have B4:=A6 ys▸b4.take (Aq ys).length
 have A4:=A6 xs▸a4.take (Aq xs).length
 have ex:=BK xs
 have ey:=BK ys
 have ti:=B9 a3
 have tj:=B9 b3
 have hal:=AC xs
 have hbl:=AC ys
 unfold maxLen at a2 b2
 clear a3 b3 a4 b4
 obtain ⟨X,hX⟩: ∃X,X=Aq xs:=⟨_,rfl⟩
 obtain ⟨Y,hY⟩: ∃Y,Y=Aq ys:=⟨_,rfl⟩
 rw [←hX] at HA ra A3 A4 ex ti hal
 rw [←hY] at HB rb B3 B4 ey tj hbl
 rw [←ex,←ey] at hge
 rw [←ey] at hn
 rw [←hX] at h2
 rw [←hY] at h1
 rw [←ex,←ey]
 clear hX hY ex ey
 have HC:=Yt (Ee _ _ X Y w ra rb)
 have hY0:0<Y.length:=by
  rcases Nat.eq_zero_or_pos Y.length with e|e
  ·rw [List.length_eq_zero_iff.1 e] at hn;exact absurd rfl hn
  ·exact e
 have HRA:=Yt ra
 have HRB:=Yt rb
 have HTI:=Yt ti
 have HTJ:=Yt tj
 have HN:=Yt hn
 clear ra rb ti tj hn
 have hne:(((Y.length:Nat):Int)==0)=false:=beq_eq_false_iff_ne.2 (by omega)
 have hcv:(BZ (val X) (val Y)<0)=False:=by
  refine eq_false ?_
  rcases Nat.lt_or_eq_of_le (Nat.le_of_not_lt hge) with h|h
  ·rw [C4 h];omega
  ·rw [Ed h.symm];omega
 obtain ⟨c,hce⟩: ∃c,c=BZ (val X) (val Y):=⟨_,rfl⟩
 rw [←hce] at hcv HC
 have HGE:=Yt hge
 obtain ⟨bb,boff,d,rfl,hcell,hd,HD⟩:=B4.at B3.out 0 (by omega)
 have hyd:val Y=d:=Ow h1 HD.out
 have hd0:0<d:=by rw [←hyd];exact Nat.pos_of_ne_zero HN.out
 have heq:(((Y.length:Nat):Int)==1)=true:=beq_iff_eq.2 (by omega)
 have HYD:=Yt hyd
 clear hyd h1 hge hce
 go_enter Tryz.func262,Tryz.ntmps262
 go_wp2_with (first
  | (go_at_call 267;first|((with_reducible refine HA.out.mono ?_);rintro e w1 ⟨rfl,rfl⟩)|((with_reducible refine HB.out.mono ?_);rintro e w1 ⟨rfl,rfl⟩))
  | (go_at_call 238;refine HC.out.mono ?_;rintro e w2 ⟨rfl,K2⟩;refine Hid.out ?_))
 refine Yt ?_
 have HCP:=Yt (DP _ X w2 (HRA.out.kp K2) (by omega))
 rw [HTI.out] at HCP
 have hcell2:=(K2.cell (p:=⟨bb,boff,none⟩) (World.block_lt_of_cell? w _ hcell)).trans hcell
 go_wp2_with (go_at_call 280;refine HCP.out.mono ?_;rintro e w3 ⟨g,hg,rfl,hO3,K3⟩;refine Hid.out ?_)
 refine Yt ?_
 have hgw:w.heap.size≤g:=Nat.le_trans K2.size hg
 have hcell3:=(K3.cell (p:=⟨bb,boff,none⟩) (World.block_lt_of_cell? w2 _ hcell2)).trans hcell2
 have HDL:=Yt (Gi g X.length X.length d X w3 hO3 A3.out (Yu _) (by omega) (Yu _) hd0 hd)
 rw [List.take_length] at HDL
 clear hO3
 go_wp2_with (go_at_call 288;refine HDL.out.mono ?_;rintro e w4 ⟨Q,rfl,hO4,hL4,hl4,hv4,hon⟩;refine Hid.out ?_)
 refine Yt ?_
 have hr:val X % d<d:=Nat.mod_lt _ hd0
 rw [List.take_of_length_le (by omega)] at hv4
 have HO4:=Yt hO4
 have HL4:=Yt hL4
 have Hl4:=Yt hl4
 have Hv4:=Yt hv4
 have K4:=hon.kp (K2.tr K3) hgw
 have HTQ:=Yt (Cg (some ⟨g,0,none⟩) X.length X.length Q w4 hl4 (Yu _) (by unfold maxLen;omega) hO4.sl)
 have HOF:=Yt (Pq (val X % d) w4 (by omega))
 clear hO4 hL4 hl4 hv4 hon
 go_wp2_with (first
  | (go_at_call 267;refine HTQ.out.mono ?_;rintro e w5 ⟨rfl,rfl⟩)
  | (go_at_call 281;refine HOF.out.mono ?_;rintro e w6 ⟨v6,rfl,h6,K6⟩))
 go_ret3
 have hq:=HO4.out.mag HL4.out _ X.length Hv4.out (by rw [Hl4.out];exact Yu _) (by unfold maxLen;omega)
 rw [HYD.out]
 exact ⟨_,_,rfl,hq.kp K6,h6.mono K4.size,K4.tr K6⟩
set_option maxRecDepth 20000 in
theorem UA (a b:Value) (xs ys:List Nat) (w:World) (ha:Rd w a xs) (hb:Rd w b ys) (hl:xs.length≤549755813888) (hn:val ys≠0) (hge: ¬val xs<val ys) (h2:2<(Aq xs).length) (h1:2≤(Aq ys).length) (hlow:(Aq ys).getD 0 0≠0):
  Calls Tryz.prog 262 #[a,b] w fun e w'=> ∃q r,e= .returned (.tuple #[q,r,.int .i64 0])∧M w' q (val xs/val ys)∧Row w' w.heap.size r (val xs % val ys)∧Kp w w':=by
 obtain ⟨ao,ac,rfl,a1,a2,a3,a4⟩:=ha
 obtain ⟨bo,bc,rfl,b1,b2,b3,b4⟩:=hb
 have HA:=Yt (BE ao ac xs w a1 a2 a4)
 have HB:=Yt (BE bo bc ys w b1 b2 b4)
 have ra:=Do a1 a2 a3 a4
 have rb:=Do b1 b2 b3 b4
 have A3:=Yt (AP a3)
 have B3:=Yt (AP b3)
 have B4:=A6 ys▸b4.take (Aq ys).length
 have A4:=A6 xs▸a4.take (Aq xs).length
 have ex:=BK xs
 have ey:=BK ys
 have ti:=B9 a3
 have tj:=B9 b3
 have hal:=AC xs
 have hbl:=AC ys
 unfold maxLen at a2 b2
 clear a3 b3 a4 b4
 obtain ⟨X,hX⟩: ∃X,X=Aq xs:=⟨_,rfl⟩
 obtain ⟨Y,hY⟩: ∃Y,Y=Aq ys:=⟨_,rfl⟩
 rw [←hX] at HA ra A3 A4 ex ti hal
 rw [←hY] at HB rb B3 B4 ey tj hbl
 rw [←ex,←ey] at hge
 rw [←ey] at hn
 rw [←hX] at h2
 rw [←hY] at h1 hlow
 have htop:=G4 tj
 rw [←ex,←ey]
 clear hX hY ex ey
 have HC:=Yt (Ee _ _ X Y w ra rb)
 have hY0:0<Y.length:=by
  rcases Nat.eq_zero_or_pos Y.length with e|e
  ·rw [List.length_eq_zero_iff.1 e] at hn;exact absurd rfl hn
  ·exact e
 have HRA:=Yt ra
 have HRB:=Yt rb
 have HTI:=Yt ti
 have HTJ:=Yt tj
 have HN:=Yt hn
 clear ra rb ti tj hn
 have hne:(((Y.length:Nat):Int)==0)=false:=beq_eq_false_iff_ne.2 (by omega)
 have hcv:(BZ (val X) (val Y)<0)=False:=by
  refine eq_false ?_
  rcases Nat.lt_or_eq_of_le (Nat.le_of_not_lt hge) with h|h
  ·rw [C4 h];omega
  ·rw [Ed h.symm];omega
 obtain ⟨c,hce⟩: ∃c,c=BZ (val X) (val Y):=⟨_,rfl⟩
 rw [←hce] at hcv HC
 have HGE:=Yt hge
 have hYX:Y.length≤X.length:=by
  rcases Nat.lt_or_ge X.length Y.length with h|h
  ·exact absurd (Cq A3.out B3.out (by rw [HTI.out,HTJ.out];exact h)) hge
  ·exact h
 obtain ⟨bb,boff,d,rfl,hcell,hd,HD⟩:=B4.at B3.out 0 (by omega)
 have hd0:((d:Int)==0)=false:=beq_eq_false_iff_ne.2 (by rw [HD.out];omega)
 have heq:(((Y.length:Nat):Int)==1)=false:=beq_eq_false_iff_ne.2 (by omega)
 have HTP:=Yt (htop (by omega))
 clear htop hge hce hlow
 go_enter Tryz.func262,Tryz.ntmps262
 go_wp2_with (first
  | (go_at_call 267;first|((with_reducible refine HA.out.mono ?_);rintro e w1 ⟨rfl,rfl⟩)|((with_reducible refine HB.out.mono ?_);rintro e w1 ⟨rfl,rfl⟩))
  | (go_at_call 238;refine HC.out.mono ?_;rintro e w2 ⟨rfl,K2⟩;refine Hid.out ?_))
 refine Yt ?_
 have hcell2:=(K2.cell (p:=⟨bb,boff,none⟩) (World.block_lt_of_cell? w _ hcell)).trans hcell
 have HDL:=Yt (JX _ _ X Y w2 (HRA.out.kp K2) (HRB.out.kp K2) (by omega) h1 hYX HTP.out)
 go_wp2_with (go_at_call 290;refine HDL.out.mono ?_;rintro e w3 ⟨q,r,rfl,hq,hr,K3⟩;refine Hid.out ?_)
 refine Yt ?_
 go_wp2
 go_ret3
 exact ⟨_,_,rfl,hq,hr.mono K2.size,K2.tr K3⟩
theorem N0 (a b:Value) (xs ys:List Nat) (w:World) (ha:Rd w a xs) (hb:Rd w b ys) (hl:xs.length≤549755813888) (hn:val ys≠0) (hlow:(Aq ys).getD 0 0≠0):
  Calls Tryz.prog 262 #[a,b] w fun e w'=> ∃q r,e= .returned (.tuple #[q,r,.int .i64 0])∧M w' q (val xs/val ys)∧Row w' w.heap.size r (val xs % val ys)∧Kp w w':=by
 by_cases hlt:val xs<val ys
 ·exact NZ a b xs ys w ha hb hl hn hlt
 ·by_cases h2:(Aq xs).length≤2
  ·exact Lg a b xs ys w ha hb hl hn hlt h2
  ·have h1:1≤(Aq ys).length:=by
    rcases Nat.eq_zero_or_pos (Aq ys).length with e|e
    ·rw [List.length_eq_zero_iff.1 e] at hlow
     exact absurd rfl hlow
    ·exact e
   by_cases h3:(Aq ys).length=1
   ·exact Uy a b xs ys w ha hb hl hn hlt (by omega) h3
   ·exact UA a b xs ys w ha hb hl hn hlt (by omega) (by omega) hlow
theorem Rf {Y:List Nat} (h:Y.getD 0 0≠0):(Aq Y).getD 0 0≠0:=by
 match Y,h with
 | [],h=>exact absurd rfl h
 | y::ys,h=>
   have hy:y≠0:=by simpa using h
   unfold Aq
   rw [if_neg (fun e=>hy e.2)]
   simpa using hy
theorem IS (X:List Nat) (k:Nat) (h:k≤X.length):val X=val (X.take k)+4294967296^k*val (X.drop k):=by
 have:=Cb (X.take k) (X.drop k)
 rwa [List.take_append_drop,List.length_take,Nat.min_eq_left h] at this
theorem Wa {X Y:List Nat} {k:Nat} (hX:Ai X) (hkx:k≤X.length) (hky:k≤Y.length) (hz:val (Y.take k)=0):
  val X/val Y=val (X.drop k)/val (Y.drop k)∧val X % val Y=val (X.take k)+4294967296^k*(val (X.drop k) % val (Y.drop k)):=by
 have e1:=IS X k hkx
 have e2:=IS Y k hky
 have h3:=Cf (hX.take k)
 rw [List.length_take,Nat.min_eq_left hkx] at h3
 rw [hz,Nat.zero_add] at e2
 have hK:0<(4294967296:Nat)^k:=Nat.pow_pos (by omega)
 rw [e1,e2]
 generalize (4294967296:Nat)^k=K at*
 generalize val (X.take k)=l at*
 generalize val (X.drop k)=x at*
 generalize val (Y.drop k)=y at*
 constructor
 ·rw [←Nat.div_div_eq_div_mul,Nat.add_mul_div_left _ _ hK,Nat.div_eq_of_lt h3,Nat.zero_add]
 ·have h4:=Nat.div_add_mod x y
  rcases Nat.eq_zero_or_pos y with h0|h0
  ·rw [h0,Nat.mul_zero,Nat.mod_zero,Nat.mod_zero]
  ·have h5:=Nat.mod_lt x h0
   generalize x % y=r at*
   generalize x/y=q at*
   have e3:l+K*x=K*y*q+(l+K*r):=by
    rw [←h4,Nat.mul_add,Nat.mul_assoc]
    omega
   have h6:l+K*r<K*y:=by
    have:=Nat.mul_le_mul_left K (show r+1≤y from h5)
    rw [Nat.mul_add,Nat.mul_one] at this
    omega
   rw [e3,Nat.mul_add_mod,Nat.mod_eq_of_lt h6]
set_option maxRecDepth 20000 in
theorem V8 (a b:Value) (xs ys:List Nat) (w:World) (ha:Rd w a xs) (hb:Rd w b ys) (hl:xs.length≤549755813888) (hn:val ys≠0) (hge: ¬val xs<val ys) (h2:2<(Aq xs).length) (h1:2≤(Aq ys).length) (hlow:(Aq ys).getD 0 0=0) (hT:Tz w):
  Calls Tryz.prog 262 #[a,b] w fun e w'=> ∃q r,e= .returned (.tuple #[q,r,.int .i64 0])∧M w' q (val xs/val ys)∧Row w' w.heap.size r (val xs % val ys)∧Kp w w':=by
 obtain ⟨ao,ac,rfl,a1,a2,a3,a4⟩:=ha
 obtain ⟨bo,bc,rfl,b1,b2,b3,b4⟩:=hb
 have HA:=Yt (BE ao ac xs w a1 a2 a4)
 have HB:=Yt (BE bo bc ys w b1 b2 b4)
 have ra:=Do a1 a2 a3 a4
 have rb:=Do b1 b2 b3 b4
 have A3:=Yt (AP a3)
 have B3:=Yt (AP b3)
 have B4:=A6 ys▸b4.take (Aq ys).length
 have A4:=A6 xs▸a4.take (Aq xs).length
 have ex:=BK xs
 have ey:=BK ys
 have ti:=B9 a3
 have tj:=B9 b3
 have hal:=AC xs
 have hbl:=AC ys
 unfold maxLen at a2 b2
 clear a3 b3 a4 b4
 obtain ⟨X,hX⟩: ∃X,X=Aq xs:=⟨_,rfl⟩
 obtain ⟨Y,hY⟩: ∃Y,Y=Aq ys:=⟨_,rfl⟩
 rw [←hX] at HA ra A3 A4 ex ti hal
 rw [←hY] at HB rb B3 B4 ey tj hbl
 rw [←ex,←ey] at hge
 rw [←ey] at hn
 rw [←hX] at h2
 rw [←hY] at h1 hlow
 rw [←ex,←ey]
 clear hX hY ex ey
 have HC:=Yt (Ee _ _ X Y w ra rb)
 have hY0:0<Y.length:=by
  rcases Nat.eq_zero_or_pos Y.length with e|e
  ·rw [List.length_eq_zero_iff.1 e] at hn;exact absurd rfl hn
  ·exact e
 have HRA:=Yt ra
 have HRB:=Yt rb
 have HTI:=Yt ti
 have HTJ:=Yt tj
 have HN:=Yt hn
 clear ra rb ti tj hn
 have hne:(((Y.length:Nat):Int)==0)=false:=beq_eq_false_iff_ne.2 (by omega)
 have hcv:(BZ (val X) (val Y)<0)=False:=by
  refine eq_false ?_
  rcases Nat.lt_or_eq_of_le (Nat.le_of_not_lt hge) with h|h
  ·rw [C4 h];omega
  ·rw [Ed h.symm];omega
 obtain ⟨c,hce⟩: ∃c,c=BZ (val X) (val Y):=⟨_,rfl⟩
 rw [←hce] at hcv HC
 have HGE:=Yt hge
 have hYX:Y.length≤X.length:=by
  rcases Nat.lt_or_ge X.length Y.length with h|h
  ·exact absurd (Cq A3.out B3.out (by rw [HTI.out,HTJ.out];exact h)) hge
  ·exact h
 obtain ⟨bb,boff,d,rfl,hcell,hd,HD⟩:=B4.at B3.out 0 (by omega)
 obtain ⟨ab,aoff,rfl,_⟩:=A4.cell (by omega)
 have hd0:d=0:=by rw [HD.out,hlow]
 subst hd0
 have heq:(((Y.length:Nat):Int)==1)=false:=beq_eq_false_iff_ne.2 (by omega)
 have HLOW:=Yt hlow
 have HT:=Yt hT
 clear hge hce hlow hT
 go_enter Tryz.func262,Tryz.ntmps262
 go_wp2_with (first
  | (go_at_call 267;first|((with_reducible refine HA.out.mono ?_);rintro e w1 ⟨rfl,rfl⟩)|((with_reducible refine HB.out.mono ?_);rintro e w1 ⟨rfl,rfl⟩))
  | (go_at_call 238;refine HC.out.mono ?_;rintro e w2 ⟨rfl,K2⟩;refine Hid.out ?_))
 refine Yt ?_
 have hcell2:=(K2.cell (p:=⟨bb,boff,none⟩) (World.block_lt_of_cell? w _ hcell)).trans hcell
 obtain ⟨k,t,m,hk,ht,hYt,hz,hYk,hct⟩:=Jf _ Y w2 (HRB.out.kp K2) HN.out (by omega) (HT.out.kp K2)
 have hk0:0<k:=by
  rcases Nat.eq_zero_or_pos k with e|e
  ·rw [e] at hYk;exact absurd HLOW.out hYk
  ·exact e
 obtain ⟨T,hT⟩: ∃T,T=32*k+t:=⟨_,rfl⟩
 rw [←hT] at hct
 have hTk:(T:Int)/32=(k:Int):=by omega
 have hTt:(T:Int).tdiv 32=(k:Int):=by rw [show (32:Int)=((32:Nat):Int) from rfl,GH];omega
 have HCT:=Yt hct
 have hxd:(X.drop k).length=X.length-k:=List.length_drop
 have hyd:(Y.drop k).length=Y.length-k:=List.length_drop
 have ha2:Rd w2 (.slice (some ⟨ab,aoff+k,none⟩) (X.length-k) (ac-k)) (X.drop k):=⟨_,ac-k,by rw [hxd],by rw [hxd];omega,by unfold maxLen;omega,A3.out.drop k,(A4.kp K2).drop k⟩
 have hb2:Rd w2 (.slice (some ⟨bb,boff+k,none⟩) (Y.length-k) (bc-k)) (Y.drop k):=⟨_,bc-k,by rw [hyd],by rw [hyd];omega,by unfold maxLen;omega,B3.out.drop k,(B4.kp K2).drop k⟩
 have hyn:val (Y.drop k)≠0:=by
  intro e
  have:=IS Y k (by omega)
  rw [hz,e] at this
  exact HN.out (by rw [this];rfl)
 have hbase:=fun w5 (kk:Kp w2 w5)=>N0 _ _ (X.drop k) (Y.drop k) w5 (ha2.kp kk) (hb2.kp kk) (by rw [hxd];omega) hyn (Rf (by simpa [List.getD,List.getElem?_drop] using hYk))
 have hcut:=Wa A3.out (show k≤X.length by omega) (show k≤Y.length by omega) hz
 have HBASE:=Yt hbase
 have HCUT:=Yt hcut
 have hA:=Yt A4
 clear hbase hcut hct hz hYk hYt hxd hyd ha2 hb2 hyn hT A4 B4
 go_upto_region 15 with (go_at_call 284;refine HCT.out.mono ?_;rintro e w3 ⟨rfl,rfl⟩)
 go_cut [4,5,6] (fun s4 s5 s6 wx=>s6= .int .i64 0∧M wx s4 (val (X.drop k)/val (Y.drop k))∧Row wx w.heap.size s5 (val (X.drop k) % val (Y.drop k))∧Kp w wx)
 case first=>
  go_region_with (go_at_call 262;refine (HBASE.out _ (Below.refl _ _).drew).mono ?_;rintro e w4 ⟨q,r,rfl,hq,hr,K4⟩)
  all_goals go_wp2_with fail
  all_goals go_simp
  all_goals (go_meet;exact ⟨rfl,hq,hr.mono K2.drew.size,(show Kp w w3.drew from K2.drew).tr K4⟩)
 case rest=>
  obtain ⟨rfl,hq,hr,K4⟩:=hcut
  obtain ⟨w5,rfl⟩: ∃w5,w5=wc:=⟨_,rfl⟩
  clear HA HB HC HBASE HCT
  obtain ⟨gr,P,rc,rfl,hgr,hOr,hLr,hr1,hr2,hr3,hr4⟩:=hr
  obtain ⟨R,hR⟩: ∃R,R=toL (val (X.drop k) % val (Y.drop k)):=⟨_,rfl⟩
  have hRL:Ai R:=by rw [hR];exact BG _
  have hRv:val R=val (X.drop k) % val (Y.drop k):=by rw [hR];exact Ar _
  rw [←hR] at hr1 hr4⊢
  have hRs:Sl w5 (some ⟨gr,0,none⟩) R:=by rw [←hr4];exact hOr.sl.take _
  have hRl:R.length≤X.length:=by
   rw [hR]
   refine Nat.le_trans (AM _ (val (X.drop k)) (Nat.mod_le _ _)) ?_
   rw [BY (A3.out.drop k)]
   refine Nat.le_trans (AC _) ?_
   rw [List.length_drop]
   omega
  have hKA:(X.take k).length=k:=by rw [List.length_take];omega
  have HCAT:=Yt (fun w6 (kk:Kp w5 w6) h0 h1=>PI w5.heap.size ab aoff ac gr 0 rc (X.take k) R w6 h0 h1 (((hA.out.take k).kp K4).kp kk) (hRs.kp kk) (A3.out.take k) hRL (by omega) (by omega))
  rw [hKA] at HCAT
  have HRL:=Yt hRL
  have HRV:=Yt hRv
  have HQ:=Yt hq
  clear hOr hLr hr4 hR hRL hRv hRs hq hr1 hr2 hr3
  go_wp2_with (go_at_call 289;refine (HCAT.out _ (Kp.alloc _ _) ?_ ?_).mono ?_;(simp [World.cell?_alloc_new]);(simp [World.cell?_alloc_new]);rintro e w6 ⟨g,cc,P2,rfl,hg,hO,hL,hPl,hc1,hc2,hPt,K6⟩;refine Hid.out ?_)
  refine Yt ?_
  have hrem:val (P2.take (k+R.length))=val X % val Y:=by
   rw [hPt,Cb,hKA,HRV.out]
   exact HCUT.out.2.symm
  have hplen:(P2.take (k+R.length)).length=k+R.length:=by rw [List.length_take];omega
  have HTR:=Yt (Cg (some ⟨g,0,none⟩) (k+R.length) cc (P2.take (k+R.length)) w6 hplen hc1 hc2 (hO.sl.take _))
  have hg2:w.heap.size≤g:=by
   have h1:=K4.size
   have h2:w5.heap.size≤(w5.alloc (Obj.cells #[Value.slice (some ⟨ab,aoff,none⟩) k ac,Value.slice (some ⟨gr,0,none⟩) R.length rc] 32)).heap.size:=(Kp.alloc w5 _).size
   omega
  have HROW:=Yt (hO.rowTake hL hg2 (by omega) (by omega) hrem hc2)
  have K7:Kp w w6:=(K4.tr (Kp.alloc _ _)).tr K6
  have HQ6:=Yt ((HQ.out.kp (Kp.alloc _ _)).kp K6)
  clear hO hL hPl hPt hrem hplen
  go_wp2_with (go_at_call 267;refine HTR.out.mono ?_;rintro e w7 ⟨rfl,rfl⟩)
  go_ret3
  rw [HCUT.out.1]
  exact ⟨_,_,rfl,HQ6.out,HROW.out,K7⟩
theorem Ux (a b:Value) (xs ys:List Nat) (w:World) (ha:Rd w a xs) (hb:Rd w b ys) (hl:xs.length≤549755813888) (hn:val ys≠0) (hT:Tz w):
  Calls Tryz.prog 262 #[a,b] w fun e w'=> ∃q r,e= .returned (.tuple #[q,r,.int .i64 0])∧M w' q (val xs/val ys)∧Row w' w.heap.size r (val xs % val ys)∧Kp w w':=by
 by_cases hlow:(Aq ys).getD 0 0=0
 ·by_cases hlt:val xs<val ys
  ·exact NZ a b xs ys w ha hb hl hn hlt
  ·by_cases h2:(Aq xs).length≤2
   ·exact Lg a b xs ys w ha hb hl hn hlt h2
   ·have h1:2≤(Aq ys).length:=by
     rcases Nat.lt_or_ge (Aq ys).length 2 with h|h
     ·exfalso
      apply hn
      rw [←BK ys]
      match Aq ys,h,hlow with
      | [],_,_=>rfl
      | [y],_,e=>simp at e;simp [val,e]
     ·exact h
    exact V8 a b xs ys w ha hb hl hn hlt (by omega) h1 hlow hT
 ·exact N0 a b xs ys w ha hb hl hn hlow
theorem QG {w:World} {a b:Value} {m n:Nat} (ha:M w a m) (hb:M w b n) {k:Nat} (hs:Sz k m) (hk:k≤549755813888) (hn:n≠0) (hT:Tz w):
  Calls Tryz.prog 262 #[a,b] w fun e w'=> ∃q r,e= .returned (.tuple #[q,r,.int .i64 0])∧M w' q (m/n)∧Row w' w.heap.size r (m % n)∧Kp w w':=by
 have:=Ux a b _ _ w ha hb (Nat.le_trans hs hk) (by rw [Ar];exact hn) hT
 rw [Ar,Ar] at this
 exact this
end Go.Proofs.YtfineedhebhpaaaGreatDoor
