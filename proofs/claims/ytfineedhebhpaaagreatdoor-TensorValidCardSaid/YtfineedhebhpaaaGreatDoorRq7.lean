/-
  brepkernelref02.size, Make, Frac, Int: by walking their texts.
-/
import Derived.Test.YtfineedhebhpaaaGreatDoorBr
import Derived.Test.YtfineedhebhpaaaGreatDoorBc
namespace Go.Proofs.YtfineedhebhpaaaGreatDoor
open Lib renaming hid→Yt
set_option maxHeartbeats 16000000
open Go.RowKit
set_option maxRecDepth 20000 in
theorem GN (n:Int) (h1: -9223372036854775808≤n) (h2:n<9223372036854775808) (w:World):
  Calls Tryz.prog 130 #[.int .i64 n] w fun e w'=> ∃v,e= .returned (.tuple #[v,.bool (decide (n<0))])∧M w' v n.natAbs∧Kp w w':=by
 have HO:=Yt (Gt n.natAbs w (by omega))
 by_cases h:n<0
 ·have hb:decide (n<0)=true:=decide_eq_true h
  rw [hb]
  have he:(n.natAbs:Int)= -n:=by omega
  rw [he] at HO
  have e1:IntKind.i64.wrap (n+1)=n+1:=IntWalk.i64_in _ (by omega)
  have e2:IntKind.i64.wrap (-(n+1))= -(n+1):=IntWalk.i64_in _ (by omega)
  have e3:IntKind.u64.wrap (-(n+1))= -(n+1):=IntWalk.u64_in _ (by omega)
  have e4:IntKind.u64.wrap (-(n+1)+1)= -n:=by rw [IntWalk.u64_in _ (by omega)];omega
  have e5:(-(n+1)+1:Int)= -n:=by omega
  clear he
  go_enter Tryz.func130,Tryz.ntmps130
  go_wp2_with (go_at_call 198;(with_reducible refine HO.out.mono ?_);rintro e w1 ⟨v,rfl,hv,k1⟩;refine Hid.out ?_)
  refine Yt ?_
  go_wp2
  go_ret2
  exact ⟨_,rfl,hv,k1⟩
 ·have hb:decide (n<0)=false:=decide_eq_false h
  rw [hb]
  have he:(n.natAbs:Int)=n:=Int.natAbs_of_nonneg (by omega)
  rw [he] at HO
  have e3:IntKind.u64.wrap n=n:=IntWalk.u64_in _ (by omega)
  clear he
  go_enter Tryz.func130,Tryz.ntmps130
  go_wp2_with (go_at_call 198;(with_reducible refine HO.out.mono ?_);rintro e w1 ⟨v,rfl,hv,k1⟩;refine Hid.out ?_)
  refine Yt ?_
  go_wp2
  go_ret2
  exact ⟨_,rfl,hv,k1⟩
set_option maxRecDepth 20000 in
theorem OU {w:World} (n d:Int) (h1: -9223372036854775808≤n) (h2:n<9223372036854775808) (h3: -9223372036854775808≤d) (h4:d<9223372036854775808) (h0:d≠0):
  Calls Tryz.prog 155 #[.int .i64 n,.int .i64 d] w fun e w'=> ∃v,e= .returned (.tuple #[v,.int .i64 0])∧Ax w' v (AE (decide (n<0) !=decide (d<0)) n.natAbs d.natAbs)∧Kp w w':=by
 have HT:=Yt (Nul.new w)
 have CN:=Yt (fun w'=>GN n h1 h2 w')
 have CD:=Yt (fun w'=>GN d h3 h4 w')
 have sz: ∀z:Int,-9223372036854775808≤z→z<9223372036854775808→Sz 2 z.natAbs:=fun z a b=>Al _ 2 (by simp;omega)
 have hd0:d.natAbs≠0:=by omega
 have CR:=Yt (fun w' s va vb (a:M w' va n.natAbs) (b:M w' vb d.natAbs)=>Fj (neg:=s) a b (sz n h1 h2) (sz d h3 h4) (by omega) (by omega) hd0)
 have hz:(d==0)=false:=by simpa using h0
 obtain ⟨p,hp⟩: ∃p,p=decide (n<0):=⟨_,rfl⟩
 obtain ⟨q,hq⟩: ∃p,p=decide (d<0):=⟨_,rfl⟩
 rw [←hp] at CN⊢
 rw [←hq] at CD⊢
 clear hp hq sz hd0 h0 h1 h2 h3 h4
 go_enter Tryz.func155,Tryz.ntmps155
 have KN:=HT.out.k
 clear KN
 go_wp2_with (go_at_call 130;(with_reducible refine (CN.out _).mono ?_);rintro e w2 ⟨vn,rfl,hvn,k2⟩;refine Hid.out ?_)
 refine Yt ?_
 have T_2:=Yt (HT.out.kp k2)
 clear HT
 have N_2:=Yt hvn
 clear hvn k2
 go_wp2_with (go_at_call 130;(with_reducible refine (CD.out _).mono ?_);rintro e w3 ⟨vd,rfl,hvd,k3⟩;refine Hid.out ?_)
 refine Yt ?_
 have T_3:=Yt (T_2.out.kp k3)
 have N_3:=Yt (N_2.out.kp k3)
 clear T_2 N_2
 have D_3:=Yt hvd
 clear hvd k3
 go_wp2_with (go_at_call 126;(with_reducible refine (CR.out _ _ _ _ N_3.out D_3.out).mono ?_);rintro e w4 ⟨vr,rfl,hvr,k4⟩;refine Hid.out ?_)
 refine Yt ?_
 have T_4:=Yt (T_3.out.kp k4)
 have N_4:=Yt (N_3.out.kp k4)
 have D_4:=Yt (D_3.out.kp k4)
 clear T_3 N_3 D_3
 clear k4
 obtain ⟨sgn,q1,r1,s1,q2,r2,s2,rfl⟩:=hvr.lit
 obtain ⟨⟨e0,e1,e2,f0,f1,f2⟩,HPP,HV,HKF⟩:=Bz T_4.out.rr T_4.out.k (Below.refl _ _) hvr (by omega)
 clear hvr
 obtain ⟨k0,k1,k2⟩:=HPP.out
 go_wp2
 exact bodyPost_ret (v:= .tuple #[.agg #[.bool sgn,.slice q1 r1 s1,.slice q2 r2 s2],.int .i64 0]) (by simp [results,Tryz.results155,go_sem,k0,k1,k2]) rfl ⟨_,rfl,HV.out,HKF.out⟩
set_option maxRecDepth 20000 in
theorem OV {w:World} (n d:Int) (h1: -9223372036854775808≤n) (h2:n<9223372036854775808) (h3: -9223372036854775808≤d) (h4:d<9223372036854775808) (h0:d≠0):
  Calls Tryz.prog 78 #[.int .i64 n,.int .i64 d] w fun e w'=> ∃r,e= .returned r∧Ax w' r (AE (decide (n<0) !=decide (d<0)) n.natAbs d.natAbs)∧Kp w w':=by
 have HT:=Yt (Nul.new w)
 have CM:=Yt (fun w'=>OU (w:=w') n d h1 h2 h3 h4 h0)
 clear h0 h1 h2 h3 h4
 go_enter Tryz.func78,Tryz.ntmps78
 have KN:=HT.out.k
 clear KN
 go_wp2_with (go_at_call 155;(with_reducible refine (CM.out _).mono ?_);rintro e w2 ⟨vr,rfl,hvr,k2⟩;refine Hid.out ?_)
 refine Yt ?_
 have T_2:=Yt (HT.out.kp k2)
 clear HT
 clear k2
 obtain ⟨sgn,q1,r1,s1,q2,r2,s2,rfl⟩:=hvr.lit
 have VR:=Yt hvr
 clear hvr
 have T_3:=Yt (T_2.out.kp (Kp.alloc _ (Obj.cells #[Value.bool sgn,Value.slice q1 r1 s1,Value.slice q2 r2 s2] 34)))
 have V9_3:=Yt (VR.out.kp (Kp.alloc _ (Obj.cells #[Value.bool sgn,Value.slice q1 r1 s1,Value.slice q2 r2 s2] 34)))
 clear T_2 VR
 obtain ⟨⟨e0,e1,e2,f0,f1,f2⟩,HPP,HV,HKF⟩:=Bz T_3.out.rr T_3.out.k (Below.refl _ _) V9_3.out (by omega)
 obtain ⟨k0,k1,k2⟩:=HPP.out
 go_wp2
 exact bodyPost_ret (v:= .agg #[.bool sgn,.slice q1 r1 s1,.slice q2 r2 s2]) (by simp [results,Tryz.results78,go_sem,k0,k1,k2]) rfl ⟨_,rfl,HV.out,HKF.out⟩
set_option maxRecDepth 20000 in
theorem RI {w:World} (n:Int) (h1: -9223372036854775808≤n) (h2:n<9223372036854775808):
  Calls Tryz.prog 59 #[.int .i64 n] w fun e w'=> ∃r,e= .returned r∧Ax w' r ((n:Rat))∧Kp w w':=by
 have HT:=Yt (Nul.new w)
 have CN:=Yt (fun w'=>GN n h1 h2 w')
 have hn:AE (decide (n<0)) n.natAbs 1=(n:Rat):=by unfold AE;rw [IW,Rat.mkRat_one]
 rw [←hn]
 have h0:n.natAbs=0→decide (n<0)=false:=fun h=>decide_eq_false (by omega)
 have H0:=Yt h0
 obtain ⟨p,hp⟩: ∃p,p=decide (n<0):=⟨_,rfl⟩
 rw [←hp] at CN H0⊢
 clear hp h1 h2 hn h0
 go_enter Tryz.func59,Tryz.ntmps59
 have KN:=HT.out.k
 clear KN
 go_wp2_with (go_at_call 130;(with_reducible refine (CN.out _).mono ?_);rintro e w2 ⟨vn,rfl,hvn,k2⟩;refine Hid.out ?_)
 refine Yt ?_
 have T_2:=Yt (HT.out.kp k2)
 clear HT
 have N_2:=Yt hvn
 clear hvn k2
 obtain ⟨o9,l9,c9,rfl⟩:=BQ N_2.out
 have VR:=Yt (Ax.of (neg:=p) (by decide) (Nat.gcd_one_right _) N_2.out (by rw [if_pos rfl];exact Ij _) H0.out)
 obtain ⟨⟨e0,e1,e2,f0,f1,f2⟩,HPP,HV,HKF⟩:=Bz T_2.out.rr T_2.out.k (Below.refl _ _) VR.out (by omega)
 go_wp2
 obtain ⟨k0,k1,k2⟩:=HPP.out
 exact bodyPost_ret (v:= .agg #[.bool p,.slice o9 l9 c9,.slice none 0 0]) (by simp [results,Tryz.results59,go_sem,k0,k1,k2]) rfl ⟨_,rfl,HV.out,HKF.out⟩
end Go.Proofs.YtfineedhebhpaaaGreatDoor
