/-
  Several texts in one: Ss, Sb.
-/
import Derived.Test.YtnkobfcnflphkaaGreatDoorGs
namespace Go.Proofs.YtnkobfcnflphkaaGreatDoor
open Go.RowKit
set_option linter.unusedVariables false
set_option linter.unusedSimpArgs false
set_option maxRecDepth 20000
set_option maxHeartbeats 4000000
abbrev sp (j:Nat) (x:Rat) (k:Nat) (y:Rat):AV:= .agg [.q x j 0,.q x j 1,.q x j 2,.q y k 0,.q y k 1,.q y k 2]
theorem I0 {j k:Nat} {x y:Rat} {b:Bool} (h:decide (x=y)=b):Ctr Tryz.prog Amb 19 [nm j x,nm k y] (.one (.v (.bool b))):=h▸TS
section
variable {j1 j2 j3 j4:Nat} {a b c d x:Rat}
theorem Qy (h1:j1≤1000000):Ctr Tryz.prog Amb 77 [nm j1 a] (sp j1 a j1 a):=by
 refine Am Tryz.func77 rfl rfl rfl rfl rfl rfl ?_
 intro W0 base D μ0 hA hD
 repeat (first
  | refine Af ?_|refine Ac ?_|refine Aa rfl ?_|refine Ab rfl ?_
  | (refine AI (by kernel_rfl) ?_
     repeat (first
      | refine BU (hl:=?_)
      | refine BN (hl:=?_)
      | refine Gz (hl:=?_)
      | refine ER (hl:=?_)
      | refine C7 (hl:=?_)
      | refine C8 (hl:=?_))
     apply Ai.nil)
  | refine Ad ?_|refine Ae ?_)
 refine As (And.intro (Or.inr rfl) ?_)
 exact AX
theorem YY (h1:j1≤1000000) (h2:j2≤1000000):Ctr Tryz.prog Amb 72 [nm j1 a,nm j2 b] (sp (j1+j2+1) (mn a b) (j1+j2+1) (mx a b)):=by
 refine Am Tryz.func72 rfl rfl rfl rfl rfl rfl ?_
 intro W0 base D μ0 hA hD
 repeat (first
  | refine Af ?_|refine Ac ?_|refine Aa rfl ?_|refine Ab rfl ?_
  | ((first|refine AI (by kernel_rfl) ?_|refine BL (by kernel_rfl) (by kernel_rfl) (by kernel_rfl) ?_)
     repeat (first
      | refine BU (hl:=?_)
      | refine BN (hl:=?_)
      | refine Gz (hl:=?_)
      | refine ER (hl:=?_)
      | refine C7 (hl:=?_)
      | refine C8 (hl:=?_)
      | (refine EA hA (hc:=YP ?_ ?_) (hl:=?_);omega;omega)
      | (refine EA hA (hc:=YQ ?_ ?_) (hl:=?_);omega;omega))
     apply Ai.nil;try refine And.intro (by kernel_rfl) ?_)
  | refine Ad ?_|refine Ae ?_)
 refine As (And.intro (Or.inr rfl) ?_)
 exact AX
theorem XH {p q:Bool} (hp:decide (a=c)=p) (hq:decide (b=d)=q):Ctr Tryz.prog Amb 27 [sp j1 a j2 b,sp j3 c j4 d] (.one (.v (.bool (p&&q)))):=by
 refine Am Tryz.func27 rfl rfl rfl rfl rfl rfl ?_
 intro W0 base D μ0 hA hD
 cases p
 ·repeat (first
   | refine Af ?_|refine Ac ?_|refine Aa rfl ?_|refine Ab rfl ?_
   | (refine AI (by kernel_rfl) ?_
      repeat (first
       | refine DM (hl:=?_)
       | refine AZ (hl:=?_)
       | refine AC (hl:=?_)
       | refine BU (hl:=?_)
       | refine C6 (hl:=?_)
       | refine Gz (hl:=?_)
       | refine Da (hl:=?_)
       | refine Db (hl:=?_)
       | refine EA hA (hc:=I0 hp) (hl:=?_)
       | refine EA hA (hc:=I0 hq) (hl:=?_))
      apply Ai.nil)
   | refine Ad ?_|refine Ae ?_)
  refine As (And.intro (Or.inr rfl) ?_)
  exact AX
 ·repeat (first
   | refine Af ?_|refine Ac ?_|refine Aa rfl ?_|refine Ab rfl ?_
   | (refine AI (by kernel_rfl) ?_
      repeat (first
       | refine DM (hl:=?_)
       | refine AZ (hl:=?_)
       | refine AC (hl:=?_)
       | refine BU (hl:=?_)
       | refine C6 (hl:=?_)
       | refine Gz (hl:=?_)
       | refine Da (hl:=?_)
       | refine Db (hl:=?_)
       | refine EA hA (hc:=I0 hp) (hl:=?_)
       | refine EA hA (hc:=I0 hq) (hl:=?_))
      apply Ai.nil)
   | refine Ad ?_|refine Ae ?_)
  refine As (And.intro (Or.inr rfl) ?_)
  exact AX
theorem XJ (h1:j1≤1000000) (h2:j2≤1000000) (h3:j3≤1000000) (h4:j4≤1000000):Ctr Tryz.prog Amb 76 [sp j1 a j2 b,sp j3 c j4 d] (sp (j1+j3+1) (mn a c) (j2+j4+1) (mx b d)):=by
 refine Am Tryz.func76 rfl rfl rfl rfl rfl rfl ?_
 intro W0 base D μ0 hA hD
 repeat (first
  | refine Af ?_|refine Ac ?_|refine Aa rfl ?_|refine Ab rfl ?_
  | ((first|refine AI (by kernel_rfl) ?_|refine BL (by kernel_rfl) (by kernel_rfl) (by kernel_rfl) ?_)
     repeat (first
      | refine BU (hl:=?_)
      | refine C6 (hl:=?_)
      | refine BN (hl:=?_)
      | refine Gz (hl:=?_)
      | refine ER (hl:=?_)
      | refine C7 (hl:=?_)
      | refine C8 (hl:=?_)
      | (refine EA hA (hc:=Yw ?_ ?_) (hl:=?_);omega;omega)
      | (refine EA hA (hc:=Yx ?_ ?_) (hl:=?_);omega;omega))
     apply Ai.nil;try refine And.intro (by kernel_rfl) ?_)
  | refine Ad ?_|refine Ae ?_)
 refine As (And.intro (Or.inr rfl) ?_)
 exact AX
end
end Go.Proofs.YtnkobfcnflphkaaGreatDoor
