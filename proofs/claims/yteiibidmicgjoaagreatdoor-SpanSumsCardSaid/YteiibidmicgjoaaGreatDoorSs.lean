/-
  Dice.Span, by the engine.
-/
import Derived.Test.YteiibidmicgjoaaGreatDoorGs
namespace Go.Proofs.YteiibidmicgjoaaGreatDoor
open Go.RowKit
set_option linter.unusedVariables false
set_option linter.unusedSimpArgs false
set_option maxRecDepth 20000
set_option maxHeartbeats 4000000
abbrev sp (j:Nat) (x:Rat) (k:Nat) (y:Rat):AV:= .agg [.q x j 0,.q x j 1,.q x j 2,.q y k 0,.q y k 1,.q y k 2]
def spanD (l:List Int) (n:Nat):Rat×Rat×Nat:=(mn (numb l n).1 (numb l (numb l n).2).1,mx (numb l n).1 (numb l (numb l n).2).1,(numb l (numb l n).2).2)
theorem d_span0 {l:List Int} {n:Nat} (hb: ∀x∈l,-9223372036854775808≤x∧x<9223372036854775808) (hl:l.length≤1000000) (hn:n≤l.length):
  CtrM Tryz.prog Amb 12 [.one (.ptr 900 0)] [(900,diceC l n,diceC l (spanD l n).2.2)] (sp 5 (spanD l n).1 5 (spanD l n).2.1):=by
 have N1:=d_number (k:=900) hb hl hn
 have N2:=d_number (k:=900) hb hl (numb_bd l n hn)
 apply ctr_body Tryz.func12 rfl rfl rfl rfl rfl
 case hin=>simp [inA,inC]
 intro W0 base D μ0 hA
 repeat (first
  | refine aw_seq ?_
  | refine aw_block ?_
  | refine aw_condT rfl ?_
  | refine aw_condF rfl ?_
  | (refine aw_plainK (by kernel_rfl) ?_
     repeat (first
      | (apply u_move;(case hg=>first | exact trivial | exact rfl);(case hd=>exact rfl);(case hx=>exact rfl))
      | (apply u_load;(case hg=>first | exact trivial | exact rfl);(case hd=>exact rfl);(case hx=>exact rfl);(case hz=>exact rfl))
      | (apply u_store;(case hg=>first | exact trivial | exact rfl);(case hd=>exact rfl);(case hx=>exact rfl);(case hy=>exact rfl);(case hc=>kernel_rfl))
      | (apply u_alloc;(case hg=>first | exact trivial | exact rfl);(case hd=>exact rfl);(case hf=>exact rfl))
      | (apply u_buildS;(case hg=>first | exact trivial | exact rfl);(case hd=>exact rfl);(case hx=>exact rfl);(case hy=>exact rfl);(case hc=>exact rfl))
      | (apply u_buildA;(case hg=>first | exact trivial | exact rfl);(case hd=>exact rfl);(case hx=>exact rfl);(case hy=>exact rfl);(case hc=>exact rfl))
      | (apply u_callM hA (ro:= []) (rw:= [_]) (hc:=N1);(case hg=>(first | exact trivial | exact rfl));(case hd=>exact rfl);(case hcl=>exact rfl);(case has=>exact Ents.of_eq rfl);(case hro=>exact fun p hp=>by cases hp);(case hrw=>exact fun p hp=>by obtain rfl:=List.mem_singleton.1 hp;rfl);(case hb=>exact rfl);(case hnd=>simp))
      | (apply u_callM hA (ro:= []) (rw:= [_]) (hc:=N2);(case hg=>(first | exact trivial | exact rfl));(case hd=>exact rfl);(case hcl=>exact rfl);(case has=>exact Ents.of_eq rfl);(case hro=>exact fun p hp=>by cases hp);(case hrw=>exact fun p hp=>by obtain rfl:=List.mem_singleton.1 hp;rfl);(case hb=>exact rfl);(case hnd=>simp))
      | (apply u_call hA (hc:=r_min ?s0 ?s1);(case hg=>(first | exact trivial | exact rfl));(case hd=>exact rfl);(case hcl=>exact rfl);(case has=>(first | exact Ents.of_eq rfl | ((repeat (first | exact Ents.nil' rfl | (refine Ents.cons' rfl ?_ ?_;focus (first | exact Ent.of_eq rfl | (refine Ent.agg' rfl ?_;(repeat (first | exact EntL.nil' rfl | (refine EntL.cons' rfl ?_ ?_;focus (first | exact EntC.of_eq rfl | (refine EntC.q rfl ?_;omega) | exact Z0 _ | exact Z2 _ | exact EntC.z0 (k:=0) | exact EntC.z1 (k:=0) | exact EntC.z2 (k:=0) | exact EntC.z0 | exact EntC.z1 | exact EntC.z2))));done) | (refine Ent.one' rfl ?_;(first | exact EntC.of_eq rfl | (refine EntC.q rfl ?_;omega) | exact Z0 _ | exact Z2 _ | exact EntC.z0 (k:=0) | exact EntC.z1 (k:=0) | exact EntC.z2 (k:=0) | exact EntC.z0 | exact EntC.z1 | exact EntC.z2))))));done)));(case s0=>omega);(case s1=>omega))
      | (apply u_call hA (hc:=r_max ?s0 ?s1);(case hg=>(first | exact trivial | exact rfl));(case hd=>exact rfl);(case hcl=>exact rfl);(case has=>(first | exact Ents.of_eq rfl | ((repeat (first | exact Ents.nil' rfl | (refine Ents.cons' rfl ?_ ?_;focus (first | exact Ent.of_eq rfl | (refine Ent.agg' rfl ?_;(repeat (first | exact EntL.nil' rfl | (refine EntL.cons' rfl ?_ ?_;focus (first | exact EntC.of_eq rfl | (refine EntC.q rfl ?_;omega) | exact Z0 _ | exact Z2 _ | exact EntC.z0 (k:=0) | exact EntC.z1 (k:=0) | exact EntC.z2 (k:=0) | exact EntC.z0 | exact EntC.z1 | exact EntC.z2))));done) | (refine Ent.one' rfl ?_;(first | exact EntC.of_eq rfl | (refine EntC.q rfl ?_;omega) | exact Z0 _ | exact Z2 _ | exact EntC.z0 (k:=0) | exact EntC.z1 (k:=0) | exact EntC.z2 (k:=0) | exact EntC.z0 | exact EntC.z1 | exact EntC.z2))))));done)));(case s0=>omega);(case s1=>omega)))
     apply RunK.nil)
  | (refine aw_drawK (by kernel_rfl) (by kernel_rfl) (by kernel_rfl) ?_
     repeat (first
      | (apply u_move;(case hg=>first | exact trivial | exact rfl);(case hd=>exact rfl);(case hx=>exact rfl))
      | (apply u_load;(case hg=>first | exact trivial | exact rfl);(case hd=>exact rfl);(case hx=>exact rfl);(case hz=>exact rfl))
      | (apply u_store;(case hg=>first | exact trivial | exact rfl);(case hd=>exact rfl);(case hx=>exact rfl);(case hy=>exact rfl);(case hc=>kernel_rfl))
      | (apply u_alloc;(case hg=>first | exact trivial | exact rfl);(case hd=>exact rfl);(case hf=>exact rfl))
      | (apply u_buildS;(case hg=>first | exact trivial | exact rfl);(case hd=>exact rfl);(case hx=>exact rfl);(case hy=>exact rfl);(case hc=>exact rfl))
      | (apply u_buildA;(case hg=>first | exact trivial | exact rfl);(case hd=>exact rfl);(case hx=>exact rfl);(case hy=>exact rfl);(case hc=>exact rfl))
      | (apply u_callM hA (ro:= []) (rw:= [_]) (hc:=N1);(case hg=>(first | exact trivial | exact rfl));(case hd=>exact rfl);(case hcl=>exact rfl);(case has=>exact Ents.of_eq rfl);(case hro=>exact fun p hp=>by cases hp);(case hrw=>exact fun p hp=>by obtain rfl:=List.mem_singleton.1 hp;rfl);(case hb=>exact rfl);(case hnd=>simp))
      | (apply u_callM hA (ro:= []) (rw:= [_]) (hc:=N2);(case hg=>(first | exact trivial | exact rfl));(case hd=>exact rfl);(case hcl=>exact rfl);(case has=>exact Ents.of_eq rfl);(case hro=>exact fun p hp=>by cases hp);(case hrw=>exact fun p hp=>by obtain rfl:=List.mem_singleton.1 hp;rfl);(case hb=>exact rfl);(case hnd=>simp))
      | (apply u_call hA (hc:=r_min ?s0 ?s1);(case hg=>(first | exact trivial | exact rfl));(case hd=>exact rfl);(case hcl=>exact rfl);(case has=>(first | exact Ents.of_eq rfl | ((repeat (first | exact Ents.nil' rfl | (refine Ents.cons' rfl ?_ ?_;focus (first | exact Ent.of_eq rfl | (refine Ent.agg' rfl ?_;(repeat (first | exact EntL.nil' rfl | (refine EntL.cons' rfl ?_ ?_;focus (first | exact EntC.of_eq rfl | (refine EntC.q rfl ?_;omega) | exact Z0 _ | exact Z2 _ | exact EntC.z0 (k:=0) | exact EntC.z1 (k:=0) | exact EntC.z2 (k:=0) | exact EntC.z0 | exact EntC.z1 | exact EntC.z2))));done) | (refine Ent.one' rfl ?_;(first | exact EntC.of_eq rfl | (refine EntC.q rfl ?_;omega) | exact Z0 _ | exact Z2 _ | exact EntC.z0 (k:=0) | exact EntC.z1 (k:=0) | exact EntC.z2 (k:=0) | exact EntC.z0 | exact EntC.z1 | exact EntC.z2))))));done)));(case s0=>omega);(case s1=>omega))
      | (apply u_call hA (hc:=r_max ?s0 ?s1);(case hg=>(first | exact trivial | exact rfl));(case hd=>exact rfl);(case hcl=>exact rfl);(case has=>(first | exact Ents.of_eq rfl | ((repeat (first | exact Ents.nil' rfl | (refine Ents.cons' rfl ?_ ?_;focus (first | exact Ent.of_eq rfl | (refine Ent.agg' rfl ?_;(repeat (first | exact EntL.nil' rfl | (refine EntL.cons' rfl ?_ ?_;focus (first | exact EntC.of_eq rfl | (refine EntC.q rfl ?_;omega) | exact Z0 _ | exact Z2 _ | exact EntC.z0 (k:=0) | exact EntC.z1 (k:=0) | exact EntC.z2 (k:=0) | exact EntC.z0 | exact EntC.z1 | exact EntC.z2))));done) | (refine Ent.one' rfl ?_;(first | exact EntC.of_eq rfl | (refine EntC.q rfl ?_;omega) | exact Z0 _ | exact Z2 _ | exact EntC.z0 (k:=0) | exact EntC.z1 (k:=0) | exact EntC.z2 (k:=0) | exact EntC.z0 | exact EntC.z1 | exact EntC.z2))))));done)));(case s0=>omega);(case s1=>omega)))
     apply RunK.nil
     refine And.intro (by kernel_rfl) ?_)
  | refine aw_skip ?_
  | refine aw_exit ?_)
 refine aw_ret ?_
 refine And.intro (Or.inr rfl) ?_
 refine fin_oneM (by first | exact ResIs.tmp rfl | exact ResIs.cell inferInstance rfl rfl rfl rfl) (by (first | exact Ent.of_eq rfl | (refine Ent.agg' rfl ?_;(repeat (first | exact EntL.nil' rfl | (refine EntL.cons' rfl ?_ ?_;focus (first | exact EntC.of_eq rfl | (refine EntC.q rfl ?_;omega) | exact Z0 _ | exact Z2 _ | exact EntC.z0 (k:=0) | exact EntC.z1 (k:=0) | exact EntC.z2 (k:=0) | exact EntC.z0 | exact EntC.z1 | exact EntC.z2))));done) | (refine Ent.one' rfl ?_;(first | exact EntC.of_eq rfl | (refine EntC.q rfl ?_;omega) | exact Z0 _ | exact Z2 _ | exact EntC.z0 (k:=0) | exact EntC.z1 (k:=0) | exact EntC.z2 (k:=0) | exact EntC.z0 | exact EntC.z1 | exact EntC.z2)))) rfl (by first | exact EntL.of_eq rfl | (repeat (first | exact EntL.nil' rfl | refine EntL.cons' rfl (by first | exact EntC.of_eq rfl | exact EntC.q rfl (by omega) | exact Z0 _ | exact Z2 _ | exact EntC.z0 (k:=0) | exact EntC.z1 (k:=0) | exact EntC.z2 (k:=0)) ?_))) rfl
theorem d_span {l:List Int} {n k:Nat} (hb: ∀x∈l,-9223372036854775808≤x∧x<9223372036854775808) (hl:l.length≤1000000) (hn:n≤l.length):
  CtrM Tryz.prog Amb 12 [.one (.ptr k 0)] [(k,diceC l n,diceC l (spanD l n).2.2)] (sp 5 (spanD l n).1 5 (spanD l n).2.1):=
 (d_span0 hb hl hn).at1 k rfl rfl
theorem mn_le_mx (x y:Rat):0≤mx x y-mn x y:=by
 unfold mx mn
 by_cases hxy:x<y
 ·have e:cmpR x y= -1:=by unfold cmpR;rw [if_pos hxy]
  rw [e,if_neg (by decide),if_pos (by decide)];grind
 ·by_cases hyx:y<x
  ·have e:cmpR x y=1:=by unfold cmpR;rw [if_neg hxy,if_pos hyx]
   rw [e,if_pos (by decide),if_neg (by decide)];grind
  ·have e:cmpR x y=0:=by unfold cmpR;rw [if_neg hxy,if_neg hyx]
   rw [e,if_pos (by decide)];grind
theorem spanD_le (l:List Int) (n:Nat):0≤(spanD l n).2.1-(spanD l n).1:=mn_le_mx _ _
end Go.Proofs.YteiibidmicgjoaaGreatDoor
