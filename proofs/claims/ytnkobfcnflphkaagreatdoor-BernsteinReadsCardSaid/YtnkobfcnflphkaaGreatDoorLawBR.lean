/-
  BernsteinReads, by contracts.
-/
import Derived.Test.YtnkobfcnflphkaaGreatDoorHr
import Derived.Test.YtnkobfcnflphkaaGreatDoorHy
import Derived.Test.YtnkobfcnflphkaaGreatDoorLawBT
namespace Go.Proofs.YtnkobfcnflphkaaGreatDoor
open List renaming getElem?_eq_getElem→Zd
open Nat renaming le_refl→Zc
open Go.RowKit
set_option linter.unusedVariables false
set_option linter.unusedSimpArgs false
set_option maxRecDepth 20000
set_option maxHeartbeats 8000000
namespace breads
theorem law {l:List Int} {c:Int} (hb: ∀x∈l,-9223372036854775808≤x∧x<9223372036854775808) (hc1: -9223372036854775808≤c) (hc2:c<9223372036854775808):
  Ctr Tryz.prog Amb 4 [.one (.ints l),.one (.v (.int .i64 c))] (.one (.v (.bool true))):=by
 by_cases hL:(l.length:Int)≤500
 ·have hl:l.length≤1000000:=by omega
  have D1:=evals.light' (decide_eq_true hL)
  have P1:=U8 (k:=17) (n:=0) (deg:=7) hb hl (Nat.zero_le _) (by decide)
  have hps:=Wo l 7 0 (Nat.zero_le _)
  obtain ⟨hp1,hp2⟩:=ND l 7 0
  have hpr:=NC l 7 0
  generalize (GN l 7 0).1=p at*
  generalize (GN l 7 0).2=ps at*
  have P2:=U8 (k:=17) (n:=ps) (deg:=7) hb hl hps (by decide)
  obtain ⟨hq1,hq2⟩:=ND l 7 ps
  have hqr:=NC l 7 ps
  generalize (GN l 7 ps).1=q0 at*
  generalize (GN l 7 ps).2=qs at*
  obtain ⟨d,hd⟩: ∃d,p.length=d+1:=⟨p.length-1,by omega⟩
  obtain ⟨x,t,hpe⟩: ∃x t,p=x::t:=by
   cases p with
   | nil=>cases hd
   | cons x t=>exact ⟨x,t,rfl⟩
  have X2:=Ia (j:=2) (d:=d) (n:=d+1) (J:=1000) hd (by omega) (by omega) (by decide) (by decide) (fun c hc k hk=>(Hk hd hc hpr k hk).mono (by omega))
  rw [show d+1-d=1 by omega] at X2
  have hlr:=Hk (e:=1) hd (by omega) hpr
  have hmn:(if (40:Int)<((p.length:Nat):Int) then (40:Int) else ((p.length:Nat):Int))=((d+1:Nat):Int):=by rw [if_neg (by omega)];omega
  obtain ⟨Q,hQ⟩: ∃Q,Q=tab (d+1+1) (BM (cf p) d 1):=⟨_,rfl⟩
  rw [←hQ] at X2
  have hQl:Q.length=d+1+1:=by rw [hQ];simp
  have hQr: ∀r∈Q,RSz 28 r:=fun r hrr=>by
   obtain ⟨i,hi,he⟩:=List.getElem_of_mem hrr
   have h2:Q[i]?=some (BM (cf p) d 1 i):=by rw [hQ];exact Dm (by omega)
   rw [Zd hi,he] at h2
   rw [Option.some.inj h2]
   exact (hlr i (by omega)).mono (by omega)
  clear hQ hlr
  have hbl:0<(An (nmD 1000) Q).length:=Cb (n:=3) inferInstance (by decide) (by omega)
  obtain ⟨q,hqq⟩: ∃q:List Rat,(c.tmod 2=0∧q=Q)∨(¬c.tmod 2=0∧q=q0):=by
   by_cases h:c.tmod 2=0
   ·exact ⟨Q,.inl ⟨h,rfl⟩⟩
   ·exact ⟨q0,.inr ⟨h,rfl⟩⟩
  obtain ⟨e,he,he8⟩: ∃e,q.length=e+1∧e≤8:=by
   rcases hqq with ⟨_,rfl⟩|⟨_,rfl⟩
   ·exact ⟨d+1,hQl,by omega⟩
   ·exact ⟨q.length-1,by omega,by omega⟩
  have hqs: ∀r∈q,RSz 28 r:=fun r hr=>by
   rcases hqq with ⟨_,rfl⟩|⟨_,rfl⟩
   ·exact hQr r hr
   ·exact (hqr r hr).mono (by decide)
  have hqs2: ∀r∈q,RSz 1000 r:=fun r hr=>(hqs r hr).mono (by decide)
  have hps2: ∀r∈p,RSz 1000 r:=fun r hr=>(hpr r hr).mono (by decide)
  have hje:(e+1)*28≤9*28:=Nat.mul_le_mul (by omega) (Zc _)
  have F1:=He (j:=1000) he (by omega) (by decide) hqs2
  have F2:=G9 (j:=1000) he (by omega) (by decide) hqs2
  have B1:Ctr Tryz.prog Amb 28 [.one (Ap 2 p)] (sp (2+2+1) (mnA x t) (2+2+1) (mxA x t)):=by rw [hpe];exact RT (by rw [hpe,List.length_cons] at hd;omega) (by decide) (by rw [←hpe];exact hpr)
  have B2:Ctr Tryz.prog Amb 29 [.one (Ap 2 p)] (sp 2 (mnA x t) 2 (mxA x t)):=by rw [hpe];exact RM (by rw [hpe,List.length_cons] at hd;omega) (by decide) (by rw [←hpe];exact hpr)
  have B3:=VW (j1:=2+2+1) (j2:=2+2+1) (j3:=2) (j4:=2) (a:=mnA x t) (b:=mxA x t)
  have V1:=LF (j:=2) (l:=p) (by omega)
  have V2:=Lv (j:=2) (l:=p) (by omega)
  have T1:=Jp (j:=2) hd (by omega) (by decide) hpr
  have T2:=Jg (j:=2) hd (by omega) (by decide) hpr
  have M1:=(XQ (j:=28) he (by omega) (by decide) hqs).shortArg (j:=1000) hqs
  have M2:=(XF (j:=28) he (by omega) (by omega) hqs).shortArg (j:=1000) hqs
  have S1:Ctr Tryz.prog Amb 38 [.one (Ap 2 p),.one (Ap 1000 q)] (.one (.v (.bool (O3 p q d e)))):=BF.weak (Wb (j:=1000) hd he (by omega) (by omega) (by decide) hps2 hqs2) (.cons (Ent.one' rfl (Ag.ratsLe (by decide))) (.cons (Ent.of_eq rfl) .nil)) (Ent.of_eq rfl)
  have S2:Ctr Tryz.prog Amb 39 [.one (Ap 2 p),.one (Ap 1000 q)] (.one (.v (.bool (O3 p q d e)))):=BF.weak (VX (j:=1000) (J:=100000) hd he (by omega) (by omega) hps2 hqs2 (by decide) (by decide)) (.cons (Ent.one' rfl (Ag.ratsLe (by decide))) (.cons (Ent.of_eq rfl) .nil)) (Ent.of_eq rfl)
  have Z1:=LE (j:=2) (l:=p) (by omega) (by omega) rfl
  have Z2:=Qx (j:=2) (l:=p) (by omega) rfl
  have Z3:Ctr Tryz.prog Amb 40 [.one (Ap 2 [0,0])] (.one (.v (.bool true))):=LE (j:=2) (l:= [0,0]) (b:=false) (by decide) (by decide) (by decide+kernel)
  unfold Cs at T1 T2
  obtain ⟨L1,hL1⟩: ∃L,L=tab (e+1) (DC (cf q) e):=⟨_,rfl⟩
  obtain ⟨L2,hL2⟩: ∃L,L=tab (d+1) (EP (cf p) d):=⟨_,rfl⟩
  obtain ⟨L3,hL3⟩: ∃L,L=RH q e:=⟨_,rfl⟩
  have g1:L1.length≤1000000:=by rw [hL1];simp;omega
  have g2:L2.length≤1000000:=by rw [hL2];simp;omega
  have g3:L3.length≤1000000:=by
   rw [hL3]
   unfold RH
   rw [Ef]
   have:=(Lt (c:=EP (cf q) e) (k:=e+1) (by omega)).2
   omega
  rw [←hL1] at F1 F2
  rw [←hL2] at T1 T2
  rw [←hL3] at M1 M2
  have Q1:=Xc (j:=5000000) (k:=90000) (l:=L1) rfl g1
  have Q2:=Jh (j:=5000000) (k:=200000) (l:=L2) (m:=L2) (by omega) (by omega)
  rw [decide_eq_true rfl] at Q2
  have Q3:=Xc (j:=5000000) (k:=90000) (l:=L3) rfl g3
  clear hL1 hL2 hL3 hpe hqs hqs2 hps2 hQr hqr hpr
  generalize O3 p q d e=sb at*
  generalize p.any nzB=zb at*
  generalize Gw 0 p=vn at*
  generalize mnA x t=lo at*
  generalize mxA x t=hi at*
  have vv:=De (k:= .i64) (decide_eq_true (show ((vn:Nat):Int)=((vn:Nat):Int) from rfl))
  have sbb:(sb==sb)=true:=by cases sb<;>rfl
  have zbb:((!zb)==(!zb))=true:=by cases zb<;>rfl
  have rm:=Vo (k:= .i64) (a:=c) (b:=2) (by decide)
  rcases hqq with ⟨h2,rfl⟩|⟨h2,rfl⟩
  ·have q2:=De (k:= .i64) (decide_eq_true h2)
   refine Am Tryz.func4 rfl rfl rfl rfl rfl rfl ?_
   intro W0 base D μ0 hA hD
   repeat (first
    | refine Af ?_|refine Ac ?_|refine Aa rfl ?_|refine Ab rfl ?_
    | ((first|refine AI (by kernel_rfl) ?_|refine BL (by kernel_rfl) (by kernel_rfl) (by kernel_rfl) ?_)
       repeat (first
        | refine DM (hl:=?_)
        | refine AZ (hl:=?_)
        | refine AC (hl:=?_)
        | refine C7 (hl:=?_)
        | refine C8 (hl:=?_)
        | refine Dc (hl:=?_)
        | refine B5 (hl:=?_)
        | refine FT (hl:=?_)
        | refine Da (hl:=?_)
        | refine Db (hl:=?_)
        | refine CH (hl:=?_)
        | refine Cv (hl:=?_)
        | refine Cu (hl:=?_)
        | refine Cw (hl:=?_)
        | refine Cj (hl:=?_)
        | refine Cf (hl:=?_)
        | refine Ay hA (hc:=D1) (hl:=?_)
        | refine Lq hA (hc:=U7 l) (hl:=?_)
        | refine Dz hA (hc:=P1) (hl:=?_)
        | refine Dz hA (hc:=P2) (hl:=?_)
        | refine MH hA [] X2 hbl (hl:=?_))
       apply Ai.nil;try refine And.intro (by kernel_rfl) ?_)
    | refine Ad ?_|refine Ae ?_)
   refine BG 21 hD (ss:= [(6,.one (Ap 2 p)),(7,.one (Ap 1000 q))]) (bs:= []) ?_ ?_
   ·rw [←hQl]
    exact In
   repeat (first
    | refine Af ?_|refine Ac ?_|refine Aa rfl ?_|refine Ab rfl ?_
    | ((first|refine AI (by kernel_rfl) ?_|refine BL (by kernel_rfl) (by kernel_rfl) (by kernel_rfl) ?_)
       repeat (first
        | (refine W8 (by first|exact trivial|exact rfl) rfl rfl rfl (by first|exact sbb|exact zbb) ?_)
        | refine Ks (f:=nmD 2) (la:= [0,0]) (hl:=?_)
        | refine DM (hl:=?_)
        | refine AZ (hl:=?_)
        | refine AC (hl:=?_)
        | refine C7 (hl:=?_)
        | refine C8 (hl:=?_)
        | refine Dc (hl:=?_)
        | refine B5 (hl:=?_)
        | refine FT (hl:=?_)
        | refine Da (hl:=?_)
        | refine Db (hl:=?_)
        | refine CH (hl:=?_)
        | refine Cv (hl:=?_)
        | refine Cu (hl:=?_)
        | refine Cw (hl:=?_)
        | refine Cj (hl:=?_)
        | refine Cf (hl:=?_)
        | refine Ay hA (hc:=F1) (hl:=?_)
        | refine Ay hA (hc:=F2) (hl:=?_)
        | refine Ay hA (hc:=B1) (hl:=?_)
        | refine Ay hA (hc:=B2) (hl:=?_)
        | refine Ay hA (hc:=B3) (hl:=?_)
        | refine Ay hA (hc:=V1) (hl:=?_)
        | refine Ay hA (hc:=V2) (hl:=?_)
        | refine Ay hA (hc:=T1) (hl:=?_)
        | refine Ay hA (hc:=T2) (hl:=?_)
        | refine Ay hA (hc:=Q2) (hl:=?_)
        | refine Ay hA (hc:=Q1) (hl:=?_)
        | refine Ay hA (hc:=M1) (hl:=?_)
        | refine Ay hA (hc:=M2) (hl:=?_)
        | refine Ay hA (hc:=Q3) (hl:=?_)
        | refine Ay hA (hc:=S1) (hl:=?_)
        | refine Ay hA (hc:=S2) (hl:=?_)
        | refine Ay hA (hc:=Z1) (hl:=?_)
        | refine Ay hA (hc:=Z2) (hl:=?_)
        | refine Ay hA (hc:=Z3) (hl:=?_)
        | refine Ay hA (hc:=Qi) (hl:=?_))
       apply Ai.nil;try refine And.intro (by kernel_rfl) ?_)
    | refine Ad ?_|refine Ae ?_)
   refine As (And.intro (Or.inr rfl) ?_)
   exact AX
  ·have q2:=De (k:= .i64) (decide_eq_false h2)
   refine Am Tryz.func4 rfl rfl rfl rfl rfl rfl ?_
   intro W0 base D μ0 hA hD
   repeat (first
    | refine Af ?_|refine Ac ?_|refine Aa rfl ?_|refine Ab rfl ?_
    | ((first|refine AI (by kernel_rfl) ?_|refine BL (by kernel_rfl) (by kernel_rfl) (by kernel_rfl) ?_)
       repeat (first
        | refine DM (hl:=?_)
        | refine AZ (hl:=?_)
        | refine AC (hl:=?_)
        | refine C7 (hl:=?_)
        | refine C8 (hl:=?_)
        | refine Dc (hl:=?_)
        | refine B5 (hl:=?_)
        | refine FT (hl:=?_)
        | refine Da (hl:=?_)
        | refine Db (hl:=?_)
        | refine CH (hl:=?_)
        | refine Cv (hl:=?_)
        | refine Cu (hl:=?_)
        | refine Cw (hl:=?_)
        | refine Cj (hl:=?_)
        | refine Cf (hl:=?_)
        | refine Ay hA (hc:=D1) (hl:=?_)
        | refine Lq hA (hc:=U7 l) (hl:=?_)
        | refine Dz hA (hc:=P1) (hl:=?_)
        | refine Dz hA (hc:=P2) (hl:=?_))
       apply Ai.nil;try refine And.intro (by kernel_rfl) ?_)
    | refine Ad ?_|refine Ae ?_)
   refine A5 (ss:= [(6,.one (Ap 2 p)),(7,.one (Ap 1000 q))]) (bs:= []) ?_ ?_
   ·exact AS
   repeat (first
    | refine Af ?_|refine Ac ?_|refine Aa rfl ?_|refine Ab rfl ?_
    | ((first|refine AI (by kernel_rfl) ?_|refine BL (by kernel_rfl) (by kernel_rfl) (by kernel_rfl) ?_)
       repeat (first
        | (refine W8 (by first|exact trivial|exact rfl) rfl rfl rfl (by first|exact sbb|exact zbb) ?_)
        | refine Ks (f:=nmD 2) (la:= [0,0]) (hl:=?_)
        | refine DM (hl:=?_)
        | refine AZ (hl:=?_)
        | refine AC (hl:=?_)
        | refine C7 (hl:=?_)
        | refine C8 (hl:=?_)
        | refine Dc (hl:=?_)
        | refine B5 (hl:=?_)
        | refine FT (hl:=?_)
        | refine Da (hl:=?_)
        | refine Db (hl:=?_)
        | refine CH (hl:=?_)
        | refine Cv (hl:=?_)
        | refine Cu (hl:=?_)
        | refine Cw (hl:=?_)
        | refine Cj (hl:=?_)
        | refine Cf (hl:=?_)
        | refine Ay hA (hc:=F1) (hl:=?_)
        | refine Ay hA (hc:=F2) (hl:=?_)
        | refine Ay hA (hc:=B1) (hl:=?_)
        | refine Ay hA (hc:=B2) (hl:=?_)
        | refine Ay hA (hc:=B3) (hl:=?_)
        | refine Ay hA (hc:=V1) (hl:=?_)
        | refine Ay hA (hc:=V2) (hl:=?_)
        | refine Ay hA (hc:=T1) (hl:=?_)
        | refine Ay hA (hc:=T2) (hl:=?_)
        | refine Ay hA (hc:=Q2) (hl:=?_)
        | refine Ay hA (hc:=Q1) (hl:=?_)
        | refine Ay hA (hc:=M1) (hl:=?_)
        | refine Ay hA (hc:=M2) (hl:=?_)
        | refine Ay hA (hc:=Q3) (hl:=?_)
        | refine Ay hA (hc:=S1) (hl:=?_)
        | refine Ay hA (hc:=S2) (hl:=?_)
        | refine Ay hA (hc:=Z1) (hl:=?_)
        | refine Ay hA (hc:=Z2) (hl:=?_)
        | refine Ay hA (hc:=Z3) (hl:=?_)
        | refine Ay hA (hc:=Qi) (hl:=?_))
       apply Ai.nil;try refine And.intro (by kernel_rfl) ?_)
    | refine Ad ?_|refine Ae ?_)
   refine As (And.intro (Or.inr rfl) ?_)
   exact AX
 ·have D1:=evals.light' (decide_eq_false hL)
  refine Am Tryz.func4 rfl rfl rfl rfl rfl rfl ?_
  intro W0 base D μ0 hA hD
  have:=Qi
  repeat (first|refine Af ?_|refine Ac ?_|refine Aa rfl ?_|refine Ab rfl ?_|refine Ak ?_|refine Al ?_|refine Ad ?_|refine Ae ?_)
  refine As (And.intro (Or.inr rfl) ?_)
  exact AX
end breads
end Go.Proofs.YtnkobfcnflphkaaGreatDoor
