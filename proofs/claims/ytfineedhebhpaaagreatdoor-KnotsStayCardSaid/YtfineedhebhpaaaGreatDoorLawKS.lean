/-
  KnotsStay, by contracts.
-/
import Derived.Test.YtfineedhebhpaaaGreatDoorIb
import Derived.Test.YtfineedhebhpaaaGreatDoorHn
import Derived.Test.YtfineedhebhpaaaGreatDoorIc
import Derived.Test.YtfineedhebhpaaaGreatDoorGs
import Derived.Test.YtfineedhebhpaaaGreatDoorIh
import Derived.Test.YtfineedhebhpaaaGreatDoorIi
import Derived.Test.YtfineedhebhpaaaGreatDoorIj
namespace Go.Proofs.YtfineedhebhpaaaGreatDoor
open Nat renaming le_refl→Xv
open Go.RowKit
set_option linter.unusedVariables false
set_option linter.unusedSimpArgs false
set_option maxRecDepth 20000
set_option maxHeartbeats 4000000
namespace kstay
section
variable {K:List Rat} {p:Nat} {t0 u t:Rat} {mid:List (Rat×Nat)}
theorem U0 (l:List Int): ∃t0 u mid,Kns (mdK l) (mdP l) t0 u mid:=by
 obtain ⟨t0,u,mid,h1,h2,h3⟩:=OU (l:=l) (p:=mdP l) (inner:=6) (n:=(nxt l 0 5).2) (OP l).1
 exact ⟨t0,u,mid,h1,h2,h3⟩
theorem Ve (hk:Kns K p t0 u mid):t0<u:=List.rel_of_pairwise_cons (Iv.1 hk.inc) (List.mem_append_right mid (List.mem_singleton.2 rfl))
theorem PV (hk:Kns K p t0 u mid) (hp:1≤p) (hl:K.length-p-1≤40):T0 K p ((D3 K).all fun x=>okR K.length p x.1)=0:=by
 obtain ⟨h1,h2⟩:=Wj hp hk.ok hk.inc
 rw [←hk.eq] at h1 h2
 have:=hk.len
 unfold T0
 rw [if_neg (by omega),if_neg (by omega),h1,h2]
 rfl
theorem IK {i:Nat} {c:Rat} : ∀ {m:Nat},(∀x,1≤x→x≤m→K.getD (i+x) 0=c)→smR K i m=((m:Nat):Rat)*c
 | 0,_=>by simp [smR]
 | m+1,h=>by
   show smR K i m+K.getD (i+(m+1)) 0=_
   rw [IK (m:=m) fun x h1 h2=>h x h1 (by omega),h (m+1) (by omega) (Xv _)]
   have:((m+1:Nat):Rat)=((m:Nat):Rat)+1:=by push_cast;rfl
   rw [this]
   grind
theorem VE (hp:1≤p) (c:Rat):((p:Nat):Rat)*c*(((1:Int):Rat)/((p:Int):Rat))=c:=by
 have hp0:((p:Int):Rat)≠0:=by exact_mod_cast (show (p:Int)≠0 by omega)
 have e1:((p:Nat):Rat)=((p:Int):Rat):=by rw [Rat.intCast_natCast]
 have e2:((1:Int):Rat)=1:=rfl
 rw [e1,e2,Rat.div_def]
 have h3:=Rat.mul_inv_cancel _ hp0
 generalize ((p:Int):Rat)=y at*
 generalize y⁻¹=z at*
 grind
theorem Tv (hk:Kns K p t0 u mid) (hp:1≤p):smR K 0 p*(((1:Int):Rat)/((p:Int):Rat))=t0:=by
 rw [IK (c:=t0) fun x h1 h2=>hk.first (by omega),VE hp]
theorem Tu (hk:Kns K p t0 u mid) (hp:1≤p):smR K (K.length-p-1-1) p*(((1:Int):Rat)/((p:Int):Rat))=u:=by
 have:=hk.len
 rw [IK (c:=u) fun x h1 h2=>hk.last (by omega) (by omega),VE hp]
theorem VX {i:Int} (h:t0≤u):t0≤t0+E7 i*(u-t0)∧t0+E7 i*(u-t0)≤u:=by
 obtain ⟨h1,h2⟩:=S9 i
 generalize E7 i=r at*
 have a:0≤r*(u-t0):=Rat.mul_nonneg h1 (by grind)
 have b:0≤(1-r)*(u-t0):=Rat.mul_nonneg h2 (by grind)
 constructor<;>grind
end
theorem Tk {l:List Int} {b:Bool} (h:decide ((l.length:Int)≤500)=b):Ctr Tryz.prog Amb 11 [.one (.ints l)] (.one (.v (.bool b))):=h▸Vm l
theorem Si {j k:Nat} {l:List Rat} (h:l.length≤1000000000):Ctr Tryz.prog Amb 21 [.one (BI j l),.one (BI k l)] (.one (.v (.bool true))):=by
 have:=NV (j:=j) (k:=k) (l:=l) (m:=l) h h
 rwa [decide_eq_true rfl] at this
theorem Sj {j k:Nat} {x y:Rat} (h:x=y):Ctr Tryz.prog Amb 18 [nm j x,nm k y] (.one (.v (.bool true))):=by
 have:=Ou (j:=j) (k:=k) (x:=x) (y:=y)
 rwa [decide_eq_true h] at this
theorem WF {x y:Rat} (h:x<y):Cm x y<0:=by unfold Cm;rw [if_pos h];decide
theorem P9 {x y:Rat} (h:x≤y):Cm x y≤0:=by
 unfold Cm
 split
 ·decide
 ·rw [if_neg (Rat.not_lt.2 h)];exact Int.le_refl 0
theorem WI:Ctr Tryz.prog Amb 62 [] (.one (.v (.bool true))):=Sx (by
 have h:=G4 (l:=kn7) (j:=2) (p:=2) (by decide) (by decide)
 rwa [show ((D3 kn7).all fun x=>okR kn7.length 2 x.1)=true by decide+kernel] at h)
theorem law {l:List Int} {i:Int} (hb: ∀x∈l,-9223372036854775808≤x∧x<9223372036854775808) (hi1: -9223372036854775808≤i) (hi2:i<9223372036854775808):
  Ctr Tryz.prog Amb 10 [.one (.ints l),.one (.v (.int .i64 i))] (.one (.v (.bool true))):=by
 have hA8:=WI
 by_cases hL:(l.length:Int)≤500
 ·have hl:l.length≤1000000:=by omega
  have D1:=Tk (decide_eq_true hL)
  have M1:=WA hb hl
  have hp:=OP l
  obtain ⟨k1,k2⟩:2*mdP l+2≤(mdK l).length∧(mdK l).length≤2*mdP l+2+6:=U4 (l:=l) (p:=mdP l) (inner:=6) (n:=(nxt l 0 5).2)
  obtain ⟨t0,u,mid,hk⟩:=U0 l
  have htu:=Ve hk
  generalize mdK l=K at*
  generalize mdP l=p at*
  have e0:=hk.fst
  have eu:=hk.lst
  have hd:Ea K-Fz K≠0:=by rw [e0,eu];grind
  have hmk:=hk.mir e0 eu
  have hml:(GN K).length=K.length:=by unfold GN;rw [List.length_map,List.length_reverse]
  have V1:=Mm (j:=50) (l:=K) (by decide) (by omega) (by omega)
  have V2:=Mm (j:=3*50+6) (l:=GN K) (by decide) (by omega) (by omega)
  rw [hk.mir2] at V2
  have C1:=IP (j:=3*50+6) (p:=p) (l:=GN K) (by decide) (by omega) (by omega) (G4 (by omega) (by omega))
  rw [PV hmk (by omega) (by omega)] at C1
  generalize GN K=M at*
  have J1:=IW (n:= -1) rfl
  have J5:=IW (n:=5) rfl
  have hab:((-1:Int):Rat)<((5:Int):Rat):=by decide+kernel
  have hak:=hk.aff e0 eu htu hab
  have hal:(GA K ((-1:Int):Rat) ((5:Int):Rat)).length=K.length:=by unfold GA;rw [List.length_map]
  have A1:=Mn (j:=50) (ja:=2) (jb:=2) (l:=K) (a:=((-1:Int):Rat)) (b:=((5:Int):Rat)) (by decide) (by decide) (by decide) (by omega) (by omega) hd
  rw [if_pos hab] at A1
  have hd2:Ea (GA K ((-1:Int):Rat) ((5:Int):Rat))-Fz (GA K ((-1:Int):Rat) ((5:Int):Rat))≠0:=by rw [hak.fst,hak.lst];grind
  have A2:=Mn (j:=2*2+2+4*50+16) (ja:=50) (jb:=50) (l:=GA K ((-1:Int):Rat) ((5:Int):Rat)) (a:=t0) (b:=u) (by decide) (by decide) (by decide) (by omega) (by omega) hd2
  rw [if_pos htu,hk.aff2 htu hab] at A2
  have C2:=IP (j:=2*2+2+4*50+16) (p:=p) (l:=GA K ((-1:Int):Rat) ((5:Int):Rat)) (by decide) (by omega) (by omega) (G4 (by omega) (by omega))
  rw [PV hak (by omega) (by omega)] at C2
  clear hd2 hak
  generalize ((-1:Int):Rat)=am at*
  generalize ((5:Int):Rat)=bm at*
  generalize GA K am bm=X at*
  have G1:=IO (j:=50) (p:=p) (l:=K) (by decide) (by omega) (by omega) (by omega)
  obtain ⟨N,hN⟩: ∃N,N=K.length-p-1:=⟨_,rfl⟩
  obtain ⟨gv,hgv⟩: ∃gv:Nat→Rat,gv=fun i=>smR K i p*(((1:Int):Rat)/((p:Int):Rat)):=⟨_,rfl⟩
  have hG: ∀i,i<N→(Ge K p)[((i:Nat):Int).toNat]?=some (gv i):=fun i h=>by rw [Int.toNat_natCast,hgv];exact U9 (by omega)
  have hGa: ∀i,i+1<N→gv i≤gv (i+1):=fun i h=>by rw [hgv];exact hk.grev_asc (by omega) (by omega)
  have hG0:gv 0=t0:=by rw [hgv];exact Tv hk (by omega)
  have hG1:gv (N-1)=u:=by rw [hgv,hN];exact Tu hk (by omega)
  have hGl:(Ge K p).length=N:=by unfold Ge;rw [List.length_map,List.length_range,hN]
  clear hgv
  generalize Ge K p=G at*
  have hjg:p*(50+3)+4≤1000:=Nat.le_trans (Nat.add_le_add_right (Nat.mul_le_mul_right _ (show p≤5 by omega)) 4) (by decide)
  generalize p*(50+3)+4=jg at*
  have W1:=RE (j1:=50) (j2:=50) (a:=t0) (b:=u) hi1 hi2 (by decide) (by decide)
  have W1':Ctr Tryz.prog Amb 75 [.agg [.q t0 50 0,.q t0 50 1,.q t0 50 2,.q u 50 0,.q u 50 1,.q u 50 2],.one (.v (.int .i64 i))] (nm 160 (t0+E7 i*(u-t0))):=W1
  obtain ⟨w1,w2⟩:=VX (i:=i) (Rat.le_of_lt htu)
  clear W1
  generalize t0+E7 i*(u-t0)=t at*
  obtain ⟨e,he,hI⟩:=hk.ivR_in w1 w2
  have I1:=N8 (j:=50) (jt:=160) (l:=K) (t:=t) (p:=((p:Nat):Int)) (by omega) (by omega) (by decide) (by decide)
  rw [hI] at I1
  have he1:=he.low
  have he2:=he.high
  have hxe:=LC (l:=K) (i:=e) (by omega)
  have hxf:=LC (l:=K) (i:=e+1) (by omega)
  have hle:K.getD e 0≤t:=he.begins
  have hlf:t≤K.getD (e+1) 0:=by
   rcases he.ends with h|⟨_,h⟩
   ·exact Rat.le_of_lt h
   ·exact h
  have hlt:=he.lt
  have hx0:=Nn (l:=K) (by omega)
  have hx1:=M6 (l:=K) (by omega)
  rw [e0] at hx0
  rw [eu] at hx1
  generalize K.getD e 0=xe at*
  generalize K.getD (e+1) 0=xf at*
  have N1:=QT (j:=50) (jt:=160) (J:=160) (l:=K) (t:=t) (by decide) (by decide) (by decide) (by omega) (by omega)
  have hil:(Fb t K).length=K.length+1:=FP
  have T1:=PA (j:=160) (jt:=160) (l:=Fb t K) (t:=t) (by omega)
  have T2:=PA (j:=50) (jt:=160) (l:=K) (t:=t) (by omega)
  rw [Pt] at T1
  have htm:=NU t K
  generalize tms t K=tm at*
  generalize Fb t K=S at*
  have S1:=Si (j:=3*(3*50+6)+6) (k:=50) (l:=K) (by omega)
  have S2:=Si (j:=2*50+50+4*(2*2+2+4*50+16)+16) (k:=50) (l:=K) (by omega)
  have Z1:=Sj (j:=jg) (k:=50) hG0
  have Z2:=Sj (j:=jg) (k:=50) hG1
  have P1:=PJ (j:=50) (k:=160) (x:=xe) (y:=t) (by decide) (by decide)
  have P2:=PJ (j:=160) (k:=50) (x:=t) (y:=xf) (by decide) (by decide)
  have P3:=PJ (j:=50) (k:=50) (x:=xe) (y:=xf) (by decide) (by decide)
  have q1:=JH (k:= .i64) (decide_eq_true (P9 hle))
  have q2:=JH (k:= .i64) (decide_eq_true (P9 hlf))
  have q3:=BL (k:= .i64) (decide_eq_true (WF hlt))
  have a1:=BD (k:= .i64) (show (IntKind.i64).wrap ((tm:Int)+1)=((tm+1:Nat):Int) from IntWalk.i64_in _ (by omega))
  have q4:=Fx (k:= .i64) (decide_eq_true (rfl:((tm+1:Nat):Int)=((tm+1:Nat):Int)))
  have s1:=Cq (k:= .i64) (show (IntKind.i64).wrap ((K.length:Int)-1)=((K.length-1:Nat):Int) by rw [show ((K.length:Int)-1)=((K.length-1:Nat):Int) by omega];exact IntWalk.i64_in _ (by omega))
  have n1:=Gg (k:= .i64) (decide_eq_false (show ¬(((M.length:Nat):Int)≠((K.length:Nat):Int)) from fun h=>h (by rw [hml])))
  have n0:=Gg (k:= .i64) (decide_eq_false (show ¬((0:Int)≠0) from fun h=>h rfl))
  have d1:=Cq (k:= .i64) (show (IntKind.i64).wrap (((K.length:Nat):Int)-((p:Nat):Int))=((K.length-p:Nat):Int) by rw [show ((K.length:Int)-(p:Int))=((K.length-p:Nat):Int) by omega];exact IntWalk.i64_in _ (by omega))
  have d2:=Cq (k:= .i64) (show (IntKind.i64).wrap (((K.length-p:Nat):Int)-1)=((N:Nat):Int) by rw [show (((K.length-p:Nat):Int)-1)=((N:Nat):Int) by omega];exact IntWalk.i64_in _ (by omega))
  have n2:=Gg (k:= .i64) (decide_eq_false (show ¬(((G.length:Nat):Int)≠((N:Nat):Int)) from fun h=>h (by rw [hGl])))
  have n3:=BL (k:= .i64) (decide_eq_false (show ¬((e:Nat):Int)<((p:Nat):Int) by omega))
  have n4:=Ky (k:= .i64) (decide_eq_false (show ¬((e:Nat):Int)≥((N:Nat):Int) by omega))
  refine AK Tryz.func10 rfl rfl rfl rfl rfl rfl ?_
  intro W0 base D μ0 hA hD
  repeat (first
   | refine Aj ?_|refine Ae ?_|refine Ac rfl ?_|refine Ad rfl ?_
   | ((first|refine An (by kernel_rfl) ?_|refine Az (by kernel_rfl) (by kernel_rfl) (by kernel_rfl) ?_)
      repeat (first
       | refine BP (hl:=?_)
       | refine Aq (hl:=?_)
       | refine Ai (hl:=?_)
       | refine AA (hl:=?_)
       | refine Ay (hl:=?_)
       | refine AG (hl:=?_)
       | refine DQ (hl:=?_)
       | refine DR (hl:=?_)
       | refine CT (hl:=?_)
       | refine AJ (hl:=?_)
       | refine Ak (hl:=?_)
       | refine Cy (hl:=?_)
       | refine BA (hl:=?_)
       | refine BB (hl:=?_)
       | refine AR (hl:=?_)
       | refine AO (hl:=?_)
       | refine AN (hl:=?_)
       | refine AP (hl:=?_)
       | refine AB (hl:=?_)
       | refine Av (hl:=?_)
       | refine Ap hA (hc:=D1) (hl:=?_)
       | refine Ap hA (hc:=M1) (hl:=?_)
       | refine Ap hA (hc:=V1) (hl:=?_)
       | refine Ap hA (hc:=J1) (hl:=?_)
       | refine Ap hA (hc:=J5) (hl:=?_)
       | refine Ap hA (hc:=A1) (hl:=?_)
       | refine Ap hA (hc:=A2) (hl:=?_)
       | refine Ap hA (hc:=G1) (hl:=?_)
       | refine Ap hA (hc:=W1') (hl:=?_)
       | refine Ap hA (hc:=I1) (hl:=?_)
       | refine Cz (i:=0) hx0 (by omega) (hl:=?_)
       | refine Cz hx1 (by omega) (hl:=?_))
      apply Ab.nil;try refine And.intro (by kernel_rfl) ?_)
   | refine Ag ?_|refine Ah ?_)
  refine Cs (fun m σ=> ∃r:Nat,m=N-r∧1≤r∧r≤N∧Wk ⟨W0,base,D,221,[],μ0⟩ σ [(5,.one (BI 50 K)),(6,Au (p:Nat)),(7,.one (BI (3*50+6) M)),(8,.one (BI (2*2+2+4*50+16) X)),(10,.one (BI (2*50+50+4*(2*2+2+4*50+16)+16) K)),(12,.one (BI jg G)),(13,.one (.ptr 13 0)),(14,Au (e:Nat)),(16,Au (r:Nat))] [(13,nmC 160 t)]) (n:=N-1) ⟨1,rfl,by omega,by omega,?_⟩ ?_
  ·exact BN
  clear D1 M1 V1 J1 J5 A1 A2 G1 W1' I1 n1 n0 d1 d2 n2 n3 n4
  intro m σ hI
  obtain ⟨r,hm,hr1,hr0,hw⟩:=hI
  refine C7 hw ?_
  clear hw
  by_cases hr:r<N
  ·have bi:=BL (k:= .i64) (decide_eq_true (show ((r:Nat):Int)<((G.length:Nat):Int) by omega))
   have hin:=BD (k:= .i64) (show (IntKind.i64).wrap ((r:Int)+1)=((r+1:Nat):Int) from IntWalk.i64_in _ (by omega))
   have sb:=Cq (k:= .i64) (show (IntKind.i64).wrap ((r:Int)-1)=((r-1:Nat):Int) by rw [show ((r:Int)-1)=((r-1:Nat):Int) by omega];exact IntWalk.i64_in _ (by omega))
   have g1:=hG (r-1) (by omega)
   have g2:=hG r hr
   have hle2:=hGa (r-1) (by omega)
   rw [show r-1+1=r by omega] at hle2
   have Q1:=PJ (j:=jg) (k:=jg) (x:=gv (r-1)) (y:=gv r) (by omega) (by omega)
   have bg:=DY (k:= .i64) (decide_eq_false (show ¬Cm (gv (r-1)) (gv r)>0 from fun h=>Rat.not_lt.2 hle2 (LI.1 h)))
   generalize gv (r-1)=y0 at*
   generalize gv r=y1 at*
   clear S1 S2 Z1 Z2 P1 P2 P3 N1 T1 T2 C1 C2 V2
   repeat (first
    | refine Aj ?_|refine Ae ?_|refine Ac rfl ?_|refine Ad rfl ?_
    | ((first|refine An (by kernel_rfl) ?_|refine Az (by kernel_rfl) (by kernel_rfl) (by kernel_rfl) ?_)
       repeat (first
        | refine BP (hl:=?_)
        | refine Aq (hl:=?_)
        | refine Ai (hl:=?_)
        | refine AA (hl:=?_)
        | refine Ay (hl:=?_)
        | refine AG (hl:=?_)
        | refine DQ (hl:=?_)
        | refine DR (hl:=?_)
        | refine CT (hl:=?_)
        | refine AJ (hl:=?_)
        | refine Ak (hl:=?_)
        | refine Cy (hl:=?_)
        | refine BA (hl:=?_)
        | refine BB (hl:=?_)
        | refine AR (hl:=?_)
        | refine AO (hl:=?_)
        | refine AN (hl:=?_)
        | refine AP (hl:=?_)
        | refine AB (hl:=?_)
        | refine Av (hl:=?_)
        | refine Ap hA (hc:=Q1) (hl:=?_)
        | refine Cz g1 (by omega) (hl:=?_)
        | refine Cz g2 (by omega) (hl:=?_))
       apply Ab.nil;try refine And.intro (by kernel_rfl) ?_)
    | refine Ag ?_|refine Ah ?_)
   refine ⟨m-1,by omega,r+1,by omega,by omega,by omega,?_⟩
   exact BN
  obtain rfl:r=N:=by omega
  have bi:=BL (k:= .i64) (decide_eq_false (show ¬((r:Nat):Int)<((G.length:Nat):Int) by omega))
  have g1:=hG 0 (by omega)
  have g2:=hG (r-1) (by omega)
  replace g1:G[(0:Int).toNat]?=some (gv 0):=g1
  have c0:=Fx (k:= .i64) (decide_eq_true (rfl:(0:Int)=0))
  have sg:=Cq (k:= .i64) (show (IntKind.i64).wrap (((G.length:Nat):Int)-1)=((r-1:Nat):Int) by rw [show (((G.length:Nat):Int)-1)=((r-1:Nat):Int) by omega];exact IntWalk.i64_in _ (by omega))
  have ae:=BD (k:= .i64) (show (IntKind.i64).wrap ((e:Int)+1)=((e+1:Nat):Int) from IntWalk.i64_in _ (by omega))
  repeat (first
   | refine Aj ?_|refine Ae ?_|refine Ac rfl ?_|refine Ad rfl ?_
   | ((first|refine An (by kernel_rfl) ?_|refine Az (by kernel_rfl) (by kernel_rfl) (by kernel_rfl) ?_)
      repeat (first
       | refine BP (hl:=?_)
       | refine Aq (hl:=?_)
       | refine Ai (hl:=?_)
       | refine AA (hl:=?_)
       | refine Ay (hl:=?_)
       | refine AG (hl:=?_)
       | refine DQ (hl:=?_)
       | refine DR (hl:=?_)
       | refine CT (hl:=?_)
       | refine AJ (hl:=?_)
       | refine Ak (hl:=?_)
       | refine Cy (hl:=?_)
       | refine BA (hl:=?_)
       | refine BB (hl:=?_)
       | refine AR (hl:=?_)
       | refine AO (hl:=?_)
       | refine AN (hl:=?_)
       | refine AP (hl:=?_)
       | refine AB (hl:=?_)
       | refine Av (hl:=?_)
       | refine Ap hA (hc:=C1) (hl:=?_)
       | refine Ap hA (hc:=C2) (hl:=?_)
       | refine Ap hA (hc:=V2) (hl:=?_)
       | refine Ap hA (hc:=S1) (hl:=?_)
       | refine Ap hA (hc:=S2) (hl:=?_)
       | refine Ap hA (hc:=Z1) (hl:=?_)
       | refine Ap hA (hc:=Z2) (hl:=?_)
       | refine Ap hA (hc:=P1) (hl:=?_)
       | refine Ap hA (hc:=P2) (hl:=?_)
       | refine Ap hA (hc:=P3) (hl:=?_)
       | refine Ap hA (hc:=N1) (hl:=?_)
       | refine Ap hA (hc:=T1) (hl:=?_)
       | refine Ap hA (hc:=T2) (hl:=?_)
       | refine Ap hA (hc:=hA8) (hl:=?_)
       | refine Cz (i:=0) hx0 (by omega) (hl:=?_)
       | refine Cz (i:=0) g1 (by omega) (hl:=?_)
       | refine Cz hx1 (by omega) (hl:=?_)
       | refine Cz g2 (by omega) (hl:=?_)
       | refine Cz hxe (by omega) (hl:=?_)
       | refine Cz hxf (by omega) (hl:=?_))
      apply Ab.nil;try refine And.intro (by kernel_rfl) ?_)
   | refine Ag ?_|refine Ah ?_)
  refine AU (And.intro (Or.inr rfl) ?_)
  exact Cw
 ·have D1:=Tk (decide_eq_false hL)
  refine AK Tryz.func10 rfl rfl rfl rfl rfl rfl ?_
  intro W0 base D μ0 hA hD
  repeat (first
   | refine Aj ?_|refine Ae ?_|refine Ac rfl ?_|refine Ad rfl ?_|refine Ud 6 ?_
   | ((first|refine An (by kernel_rfl) ?_|refine Az (by kernel_rfl) (by kernel_rfl) (by kernel_rfl) ?_)
      repeat (first
       | refine BP (hl:=?_)
       | refine Aq (hl:=?_)
       | refine Ai (hl:=?_)
       | refine AA (hl:=?_)
       | refine Ay (hl:=?_)
       | refine AG (hl:=?_)
       | refine DQ (hl:=?_)
       | refine DR (hl:=?_)
       | refine CT (hl:=?_)
       | refine V3 (hl:=?_)
       | refine EK 0 (hl:=?_)
       | refine EK 3 (hl:=?_)
       | refine EK 6 (hl:=?_)
       | refine Ak (hl:=?_)
       | refine Cy (hl:=?_)
       | refine BA (hl:=?_)
       | refine BB (hl:=?_)
       | refine AR (hl:=?_)
       | refine AO (hl:=?_)
       | refine AN (hl:=?_)
       | refine AP (hl:=?_)
       | refine AB (hl:=?_)
       | refine Av (hl:=?_)
       | refine JX 1000 (hl:=?_)
       | refine JX 2000 (hl:=?_)
       | refine Ap hA (hc:=D1) (hl:=?_)
       | refine Ap hA (hc:=hA8) (hl:=?_))
      apply Ab.nil;try refine And.intro (by kernel_rfl) ?_)
   | refine Ag ?_|refine Ah ?_)
  refine AU (And.intro (Or.inr rfl) ?_)
  exact Cw
end kstay
end Go.Proofs.YtfineedhebhpaaaGreatDoor
