/-
  KnotsChanges, by contracts.
-/
import Derived.Test.YtoabfmaagnmlhaaGreatDoorNm
import Derived.Test.YtoabfmaagnmlhaaGreatDoorNn
import Derived.Test.YtoabfmaagnmlhaaGreatDoorGs
namespace Go.Proofs.YtoabfmaagnmlhaaGreatDoor
open Go.RowKit
set_option linter.unusedVariables false
set_option linter.unusedSimpArgs false
set_option maxRecDepth 20000
set_option maxHeartbeats 4000000
namespace kchanges
theorem QI {l:List Int} {b:Bool} (h:decide ((l.length:Int)≤500)=b):Ctr Tryz.prog Amb 11 [.one (.ints l)] (.one (.v (.bool b))):=h▸Ss l
theorem Mc {j k:Nat} {l:List Rat} (h:l.length≤1000000000):Ctr Tryz.prog Amb 25 [.one (BF j l),.one (BF k l)] (.one (.v (.bool true))):=by
 have:=L6 (j:=j) (k:=k) (l:=l) (m:=l) h h
 rwa [decide_eq_true rfl] at this
theorem TO:Ctr Tryz.prog Amb 12 [] (.one (.v (.bool true))):=P4 (by
 have h:=Oz (l:=kn7) (j:=2) (p:=2) (by decide) (by decide)
 rwa [show ((Fn kn7).all fun x=>okR kn7.length 2 x.1)=true by decide+kernel] at h)
theorem law {l:List Int} {a b:Int} (hb: ∀x∈l,-9223372036854775808≤x∧x<9223372036854775808) (ha1: -9223372036854775808≤a) (ha2:a<9223372036854775808) (hb1: -9223372036854775808≤b) (hb2:b<9223372036854775808):
  Ctr Tryz.prog Amb 5 [.one (.ints l),.one (.v (.int .i64 a)),.one (.v (.int .i64 b))] (.one (.v (.bool true))):=by
 have hA8:=TO
 by_cases hL:(l.length:Int)≤500
 ·have hl:l.length≤1000000:=by omega
  have D1:=QI (decide_eq_true hL)
  have M1:=TE hb hl
  have hp:=QE l
  obtain ⟨k1,k2⟩:=Sc (l:=l) (p:=mdP l) (inner:=6) (n:=(nxt l 0 5).2)
  have hw:=QM (l:=l) (p:=mdP l) (inner:=6) (n:=(nxt l 0 5).2)
  obtain ⟨K,hK⟩: ∃K,K=mdK l:=⟨_,rfl⟩
  have hK':knR l (mdP l) 6 (nxt l 0 5).2=K:=hK.symm
  rw [hK'] at k1 k2 hw
  rw [←hK] at M1
  clear hK hK'
  generalize mdP l=p at*
  have R1:=SS (n:=a) (d:=3) ha1 ha2 (by decide) (by decide)
  have R2:=SS (n:=b) (d:=2) hb1 hb2 (by decide) (by decide)
  generalize RZ a 3=x at*
  generalize RZ b 2=y at*
  have A1:=P5 (j:=50) (ja:=2) (jb:=2) (l:=K) (a:=x) (b:=y) (by decide) (by decide) (by decide) (by omega) (by omega) hw
  have A2:=Ot (j:=50) (ja:=2) (jb:=2) (l:=K) (a:=x) (b:=y) (by decide) (by decide) (by decide) (by omega) (by omega) hw
  have G1:=Hh (j:=50) (p:=p) (l:=K) (by decide) (by omega) (by omega) (by omega)
  have G2:=KI (j:=50) (p:=p) (l:=K) (by decide) (by omega) (by omega) (by omega)
  have V1:=PX (j:=50) (l:=K) (by decide) (by omega) (by omega)
  have V2:=Oq (j:=50) (l:=K) (by decide) (by omega) (by omega)
  have hg:(Fu K p).length≤1000000000:=by unfold Fu;rw [List.length_map,List.length_range];omega
  have hm:(IG K).length≤1000000000:=by unfold IG;rw [List.length_map,List.length_reverse];omega
  have S2:=Mc (j:=p*(50+3)+4) (k:=p*(50+3)+4) hg
  have S3:=Mc (j:=3*50+6) (k:=3*50+6) hm
  obtain ⟨E,Z,hz,B1,B2⟩: ∃(E:Int) (Z:List Rat),Z.length≤1000000000∧Ctr Tryz.prog Amb 30 [.one (BF 50 K),nm 2 x,nm 2 y] (.tup [.one (BF (2*2+2+4*50+16) Z),AK E])∧Ctr Tryz.prog Amb 31 [.one (BF 50 K),nm 2 x,nm 2 y] (.tup [.one (BF (2*2+2+4*50+16) Z),AK E]):=by
   by_cases hxy:x<y
   ·rw [if_pos hxy] at A1 A2
    exact ⟨_,_,by unfold Pp;rw [List.length_map];omega,A1,A2⟩
   ·rw [if_neg hxy] at A1 A2
    exact ⟨_,_,by decide,A1,A2⟩
  clear A1 A2 hw
  have S1:=Mc (j:=2*2+2+4*50+16) (k:=2*2+2+4*50+16) hz
  have bE:=LY (k:= .i64) (decide_eq_true (rfl:E=E))
  generalize Fu K p=G at*
  generalize IG K=V at*
  generalize p*(50+3)+4=jg at*
  refine AW Tryz.func5 rfl rfl rfl rfl rfl rfl ?_
  intro W0 base D μ0 hA hD
  repeat (first
   | refine Aq ?_|refine Ah ?_|refine Af rfl ?_|refine Ag rfl ?_
   | ((first|refine Ae (by kernel_rfl) ?_|refine Ak (by kernel_rfl) (by kernel_rfl) (by kernel_rfl) ?_)
      repeat (first
       | refine AN (hl:=?_)
       | refine Al (hl:=?_)
       | refine Ad (hl:=?_)
       | refine BW (hl:=?_)
       | refine Ax (hl:=?_)
       | refine BI (hl:=?_)
       | refine AH (hl:=?_)
       | refine AI (hl:=?_)
       | refine AU (hl:=?_)
       | refine Ar hA (hc:=D1) (hl:=?_)
       | refine Ar hA (hc:=M1) (hl:=?_)
       | refine Ar hA (hc:=R1) (hl:=?_)
       | refine Ar hA (hc:=R2) (hl:=?_)
       | refine Ar hA (hc:=B1) (hl:=?_)
       | refine Ar hA (hc:=B2) (hl:=?_))
      apply Ai.nil;try refine And.intro (by kernel_rfl) ?_)
   | refine Am ?_|refine An ?_)
  refine Dp (ss:= [(7,.one (BF 50 K)),(8,AK (p:Nat)),(9,.one (BF (2*2+2+4*50+16) Z)),(10,AK E),(11,.one (BF (2*2+2+4*50+16) Z)),(12,AK E)]) (bs:= []) ?_ ?_
  ·refine AT ?_ ?_ rfl
   ·repeat (first|exact Ac|(refine List.forall_mem_cons.2 ⟨?_,?_⟩;focus (first|exact Ent.of_eq rfl|(refine Ent.one' rfl ?_;(first|exact Aa.ratsLe (by omega)|exact Aa.ratsNil|exact Aa.glNil|(refine Aa.int ?_;omega)|(refine Aa.glLen ?_;first|omega|simp)|exact Aa.of_eq rfl|(refine Aa.q rfl ?_;omega)|exact Z0 _|exact Z2 _|exact Aa.z0 (k:=0)|exact Aa.z1 (k:=0)|exact Aa.z2 (k:=0)|exact Aa.z0|exact Aa.z1|exact Aa.z2))|(refine Ent.agg' rfl ?_;(repeat (first|exact EntL.nil' rfl|(refine EntL.cons' rfl ?_ ?_;focus (first|exact Aa.ratsLe (by omega)|exact Aa.ratsNil|exact Aa.glNil|(refine Aa.int ?_;omega)|(refine Aa.glLen ?_;first|omega|simp)|exact Aa.of_eq rfl|(refine Aa.q rfl ?_;omega)|exact Z0 _|exact Z2 _|exact Aa.z0 (k:=0)|exact Aa.z1 (k:=0)|exact Aa.z2 (k:=0)|exact Aa.z0|exact Aa.z1|exact Aa.z2))));done))))
   ·repeat (first|exact Ac|(refine List.forall_mem_cons.2 ⟨?_,?_⟩;focus (first|exact Ap inferInstance|(refine AG rfl ?_ rfl;focus ((repeat (first|exact EntL.nil' rfl|(refine EntL.cons' rfl ?_ ?_;focus (first|exact Aa.ratsLe (by omega)|exact Aa.ratsNil|exact Aa.glNil|(refine Aa.int ?_;omega)|(refine Aa.glLen ?_;first|omega|simp)|exact Aa.of_eq rfl|(refine Aa.q rfl ?_;omega)|exact Z0 _|exact Z2 _|exact Aa.z0 (k:=0)|exact Aa.z1 (k:=0)|exact Aa.z2 (k:=0)|exact Aa.z0|exact Aa.z1|exact Aa.z2))));done)))))
  repeat (first
   | refine Aq ?_|refine Ah ?_|refine Af rfl ?_|refine Ag rfl ?_
   | ((first|refine Ae (by kernel_rfl) ?_|refine Ak (by kernel_rfl) (by kernel_rfl) (by kernel_rfl) ?_)
      repeat (first
       | refine AN (hl:=?_)
       | refine Al (hl:=?_)
       | refine Ad (hl:=?_)
       | refine BW (hl:=?_)
       | refine Ax (hl:=?_)
       | refine BI (hl:=?_)
       | refine AH (hl:=?_)
       | refine AI (hl:=?_)
       | refine AU (hl:=?_)
       | refine Ar hA (hc:=S1) (hl:=?_)
       | refine Ar hA (hc:=G1) (hl:=?_)
       | refine Ar hA (hc:=G2) (hl:=?_)
       | refine Ar hA (hc:=S2) (hl:=?_)
       | refine Ar hA (hc:=V1) (hl:=?_)
       | refine Ar hA (hc:=V2) (hl:=?_)
       | refine Ar hA (hc:=S3) (hl:=?_)
       | refine Ar hA (hc:=hA8) (hl:=?_))
      apply Ai.nil;try refine And.intro (by kernel_rfl) ?_)
   | refine Am ?_|refine An ?_)
  refine A9 (And.intro (Or.inr rfl) ?_)
  exact Ct
 ·have D1:=QI (decide_eq_false hL)
  refine AW Tryz.func5 rfl rfl rfl rfl rfl rfl ?_
  intro W0 base D μ0 hA hD
  repeat (first
   | refine Aq ?_|refine Ah ?_|refine Af rfl ?_|refine Ag rfl ?_
   | ((first|refine Ae (by kernel_rfl) ?_|refine Ak (by kernel_rfl) (by kernel_rfl) (by kernel_rfl) ?_)
      repeat (first
       | refine AN (hl:=?_)
       | refine Al (hl:=?_)
       | refine Ad (hl:=?_)
       | refine BW (hl:=?_)
       | refine Ax (hl:=?_)
       | refine BI (hl:=?_)
       | refine AH (hl:=?_)
       | refine AI (hl:=?_)
       | refine AU (hl:=?_)
       | refine Ar hA (hc:=D1) (hl:=?_)
       | refine Ar hA (hc:=hA8) (hl:=?_))
      apply Ai.nil;try refine And.intro (by kernel_rfl) ?_)
   | refine Am ?_|refine An ?_)
  refine A9 (And.intro (Or.inr rfl) ?_)
  exact Ct
end kchanges
end Go.Proofs.YtoabfmaagnmlhaaGreatDoor
