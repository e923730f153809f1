/-
  Several texts in one: Zr, Zs.
-/
import Derived.Test.YtfineedhebhpaaaGreatDoorHu
namespace Go.Proofs.YtfineedhebhpaaaGreatDoor
open Go.RowKit
set_option linter.unusedVariables false
set_option linter.unusedSimpArgs false
set_option maxRecDepth 20000
set_option maxHeartbeats 4000000
theorem IB.add {D B C:Nat} {x y:Rat} (h:IB D B x) (k:IB D C y):IB D (B+C) (x+y):=by
 obtain ⟨z,h1,h2⟩:=h
 obtain ⟨w,k1,k2⟩:=k
 refine ⟨z+w,by rw [Rat.intCast_add,←h1,←k1];grind,Nat.le_trans (Int.natAbs_add_le _ _) (by omega)⟩
theorem IB.mul {D E B C:Nat} {x y:Rat} (h:IB D B x) (k:IB E C y):IB (D*E) (B*C) (x*y):=by
 obtain ⟨z,h1,h2⟩:=h
 obtain ⟨w,k1,k2⟩:=k
 refine ⟨z*w,by rw [Int.natCast_mul,Rat.intCast_mul,Rat.intCast_mul,←h1,←k1];grind,by rw [Int.natAbs_mul];exact Nat.mul_le_mul h2 k2⟩
theorem IB.zero {D B:Nat} :IB D B 0:=⟨0,by rw [Rat.zero_mul];rfl,Nat.zero_le _⟩
theorem VE {js ja i:Nat} {l:List Rat} {s x y:Rat} (hi:i≤1000) (hx:l[((i+1:Nat):Int).toNat]?=some x) (hy:l[((i:Nat):Int).toNat]?=some y) (h1:js≤10000000) (h2:ja≤10000000):
  BJ Tryz.prog Amb 185 [Ay (i:Nat),.one (.ptr 901 0),.one (.ptr 902 0)] [(901,nmC js s,nmC js s),(902,[AH ja l],[AH ja l])] (nm (js+(ja+ja+3)+2) (s*(x-y))):=by
 have D1:=Li (j:=ja) (k:=ja) (x:=x) (y:=y) (by omega) (by omega)
 have M1:=GJ (j:=js) (k:=ja+ja+3) (x:=s) (y:=x-y) (by omega) (by omega)
 have hin:=BW (k:= .i64) (show (IntKind.i64).wrap ((i:Int)+1)=((i+1:Nat):Int) from IntWalk.i64_in _ (by omega))
 apply Aj Tryz.func185 rfl rfl rfl rfl rfl
 case hin=>simp [inA,inC]
 intro W0 base D μ0 hA hD
 repeat (first|refine Ag ?_|refine Ac ?_|refine Aa rfl ?_|refine Ab rfl ?_|refine Am ?_|refine An ?_|refine Ad ?_|refine Ae ?_)
 refine Ap (And.intro (Or.inr rfl) ?_)
 exact Sh (hb:=by repeat (first|exact Ak|refine List.forall_mem_cons.2 ⟨⟨rfl,rfl,rfl⟩,?_⟩))
def Wb (f:Nat→Rat) (d:Nat):List Rat:=if d=0 then [0] else tab d fun i=>((d:Int):Rat)*(f (i+1)-f i)
theorem VD {j d:Nat} {p:List Rat} (hp:p.length=d+1) (hd:d≤1000) (h2:j≤1000000):
  Ctr Tryz.prog Amb 116 [.one (AH j p)] (.one (AH (2+(j+j+3)+2) (Wb (cf p) d))):=by
 have w1:=Cl (k:= .i64) (show (IntKind.i64).wrap ((p.length:Int)-1)=(d:Int) by rw [show ((p.length:Int)-1)=(d:Int) by omega];exact IntWalk.i64_in _ (by omega))
 unfold Wb
 by_cases h0:d=0
 ·rw [if_pos h0]
  subst h0
  have w2:=AS (k:= .i64) (decide_eq_true (show ((0:Nat):Int)<1 by omega))
  refine Aj Tryz.func116 rfl rfl rfl rfl rfl rfl ?_
  intro W0 base D μ0 hA hD
  repeat (first|refine Ag ?_|refine Ac ?_|refine Aa rfl ?_|refine Ab rfl ?_|refine Am ?_|refine An ?_|refine Ad ?_|refine Ae ?_)
  refine A8 (ss:= [(2,.one (.gl 12 p.length 3))]) (bs:= [(12,Ao (nmD (2+(j+j+3)+2)) (List.replicate p.length 0))]) ?_ ?_
  ·exact BF
  rw [hp]
  refine A5 12 hD (ss:= [(2,.one (AH (2+(j+j+3)+2) [0]))]) (bs:= []) ?_ ?_
  ·exact QB (List.forall_mem_cons.2 ⟨GW (f:=nmD (2+(j+j+3)+2)) (l:= [(0:Rat)]) inferInstance,Ak⟩) Ak rfl
  refine Ap (And.intro (Or.inr rfl) ?_)
  exact AA
 ·rw [if_neg h0]
  obtain ⟨c,rfl⟩: ∃c,d=c+1:=⟨d-1,by omega⟩
  have w2:=AS (k:= .i64) (decide_eq_false (show ¬((c+1:Nat):Int)<1 by omega))
  have w3:=Cl (k:= .i64) (show (IntKind.i64).wrap (((c+1:Nat):Int)-1)=(c:Int) by rw [show (((c+1:Nat):Int)-1)=(c:Int) by omega];exact IntWalk.i64_in _ (by omega))
  have I1:=US (n:=((c+1:Nat):Int)) (by rw [decide_eq_true (show-9223372036854775808≤((c+1:Nat):Int) by omega),decide_eq_true (show ((c+1:Nat):Int)<9223372036854775808 by omega)];rfl)
  have B1:=b31 (g:=185) (n:=c) (J:=2+(j+j+3)+2) (h:=fun i=>(((c+1:Nat):Int):Rat)*(cf p (i+1)-cf p i)) (c0:= .q (((c+1:Nat):Int):Rat) 2 0) (c1:= .q (((c+1:Nat):Int):Rat) 2 1) (c2:= .q (((c+1:Nat):Int):Rat) 2 2) (c3:=AH j p) rfl rfl rfl rfl rfl rfl rfl rfl (k1:=4) (k2:=1) (by omega) (fun i hi=>VE (by omega) (Qx (by omega)) (Qx (by omega)) (by omega) (by omega)) (by decide)
  unfold EX at B1
  generalize (((c+1:Nat):Int):Rat)=s at*
  generalize (tab (c+1) fun i=>s*(cf p (i+1)-cf p i))=R at*
  refine Aj Tryz.func116 rfl rfl rfl rfl rfl rfl ?_
  intro W0 base D μ0 hA hD
  repeat (first|refine Ag ?_|refine Ac ?_|refine Aa rfl ?_|refine Ab rfl ?_|refine Am ?_|refine An ?_|refine Ad ?_|refine Ae ?_)
  refine Ap (And.intro (Or.inr rfl) ?_)
  exact AA
end Go.Proofs.YtfineedhebhpaaaGreatDoor
