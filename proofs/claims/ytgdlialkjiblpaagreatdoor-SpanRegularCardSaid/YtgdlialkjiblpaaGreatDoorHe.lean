/-
  Several texts in one: Wm, Wd.
-/
import Derived.Test.YtgdlialkjiblpaaGreatDoorHc
namespace Go.Proofs.YtgdlialkjiblpaaGreatDoor
set_option linter.unusedVariables false
set_option maxHeartbeats 4000000
def d2 (a b c d e f g h:Rat):Rat×Rat:=((mulS a b g h).1-(mulS c d e f).2,(mulS a b g h).2-(mulS c d e f).1)
theorem d2_has {a b c d e f g h x y z w:Rat} (x1:a≤x) (x2:x≤b) (y1:c≤y) (y2:y≤d) (z1:e≤z) (z2:z≤f) (w1:g≤w) (w2:w≤h):(d2 a b c d e f g h).1≤x*w-y*z∧x*w-y*z≤(d2 a b c d e f g h).2:=by
 have p:=mulS_has x1 x2 w1 w2
 have q:=mulS_has y1 y2 z1 z2
 unfold d2
 simp only []
 generalize mulS a b g h=m at*
 generalize mulS c d e f=n at*
 generalize x*w=s at*
 generalize y*z=t at*
 grind
theorem d2_le {a b c d e f g h:Rat} (h1:a≤b) (h2:c≤d) (h3:e≤f) (h4:g≤h):(d2 a b c d e f g h).1≤(d2 a b c d e f g h).2:=
 have p:=d2_has (Rat.le_refl (a:=a)) h1 (Rat.le_refl (a:=c)) h2 (Rat.le_refl (a:=e)) h3 (Rat.le_refl (a:=g)) h4
 Rat.le_trans p.1 p.2
theorem d2_T {a b c d e f g h:Rat} (h1:a≤b) (h2:c≤d) (h3:e≤f) (h4:g≤h):((mulT a b g h).1+ -(mulT c d e f).2,(mulT a b g h).2+ -(mulT c d e f).1)=d2 a b c d e f g h:=by
 unfold d2
 rw [mulS_T h1 h4,mulS_T h2 h3,Rat.sub_eq_add_neg,Rat.sub_eq_add_neg]
def d3 (a0 b0 a1 b1 a2 b2 a3 b3 a4 b4 a5 b5 a6 b6 a7 b7 a8 b8:Rat):Rat×Rat:=((mulS a0 b0 (d2 a4 b4 a5 b5 a7 b7 a8 b8).1 (d2 a4 b4 a5 b5 a7 b7 a8 b8).2).1-(mulS a1 b1 (d2 a3 b3 a5 b5 a6 b6 a8 b8).1 (d2 a3 b3 a5 b5 a6 b6 a8 b8).2).2+(mulS a2 b2 (d2 a3 b3 a4 b4 a6 b6 a7 b7).1 (d2 a3 b3 a4 b4 a6 b6 a7 b7).2).1,(mulS a0 b0 (d2 a4 b4 a5 b5 a7 b7 a8 b8).1 (d2 a4 b4 a5 b5 a7 b7 a8 b8).2).2-(mulS a1 b1 (d2 a3 b3 a5 b5 a6 b6 a8 b8).1 (d2 a3 b3 a5 b5 a6 b6 a8 b8).2).1+(mulS a2 b2 (d2 a3 b3 a4 b4 a6 b6 a7 b7).1 (d2 a3 b3 a4 b4 a6 b6 a7 b7).2).2)
theorem d3_T {a0 b0 a1 b1 a2 b2 a3 b3 a4 b4 a5 b5 a6 b6 a7 b7 a8 b8:Rat} (h0:a0≤b0) (h1:a1≤b1) (h2:a2≤b2) (h3:a3≤b3) (h4:a4≤b4) (h5:a5≤b5) (h6:a6≤b6) (h7:a7≤b7) (h8:a8≤b8):((mulT a0 b0 (d2 a4 b4 a5 b5 a7 b7 a8 b8).1 (d2 a4 b4 a5 b5 a7 b7 a8 b8).2).1+ -(mulT a1 b1 (d2 a3 b3 a5 b5 a6 b6 a8 b8).1 (d2 a3 b3 a5 b5 a6 b6 a8 b8).2).2+(mulT a2 b2 (d2 a3 b3 a4 b4 a6 b6 a7 b7).1 (d2 a3 b3 a4 b4 a6 b6 a7 b7).2).1,(mulT a0 b0 (d2 a4 b4 a5 b5 a7 b7 a8 b8).1 (d2 a4 b4 a5 b5 a7 b7 a8 b8).2).2+ -(mulT a1 b1 (d2 a3 b3 a5 b5 a6 b6 a8 b8).1 (d2 a3 b3 a5 b5 a6 b6 a8 b8).2).1+(mulT a2 b2 (d2 a3 b3 a4 b4 a6 b6 a7 b7).1 (d2 a3 b3 a4 b4 a6 b6 a7 b7).2).2)=d3 a0 b0 a1 b1 a2 b2 a3 b3 a4 b4 a5 b5 a6 b6 a7 b7 a8 b8:=by
 unfold d3
 rw [mulS_T h0 (d2_le h4 h5 h7 h8),mulS_T h1 (d2_le h3 h5 h6 h8),mulS_T h2 (d2_le h3 h4 h6 h7),Rat.sub_eq_add_neg,Rat.sub_eq_add_neg]
def sar (x0 x1 x2 x3 x4 x5 x6 x7 x8:Rat):Rat:=0+(1*x0*x4*x8-1*x0*x5*x7)+(1*x1*x5*x6-1*x1*x3*x8)+(1*x2*x3*x7-1*x2*x4*x6)
theorem d3_has {a0 b0 a1 b1 a2 b2 a3 b3 a4 b4 a5 b5 a6 b6 a7 b7 a8 b8 x0 x1 x2 x3 x4 x5 x6 x7 x8:Rat} (l0:a0≤x0) (u0:x0≤b0) (l1:a1≤x1) (u1:x1≤b1) (l2:a2≤x2) (u2:x2≤b2) (l3:a3≤x3) (u3:x3≤b3) (l4:a4≤x4) (u4:x4≤b4) (l5:a5≤x5) (u5:x5≤b5) (l6:a6≤x6) (u6:x6≤b6) (l7:a7≤x7) (u7:x7≤b7) (l8:a8≤x8) (u8:x8≤b8):(d3 a0 b0 a1 b1 a2 b2 a3 b3 a4 b4 a5 b5 a6 b6 a7 b7 a8 b8).1≤sar x0 x1 x2 x3 x4 x5 x6 x7 x8∧sar x0 x1 x2 x3 x4 x5 x6 x7 x8≤(d3 a0 b0 a1 b1 a2 b2 a3 b3 a4 b4 a5 b5 a6 b6 a7 b7 a8 b8).2:=by
 have e:sar x0 x1 x2 x3 x4 x5 x6 x7 x8=x0*(x4*x8-x5*x7)-x1*(x3*x8-x5*x6)+x2*(x3*x7-x4*x6):=by unfold sar;grind
 rw [e]
 have p0:=d2_has l4 u4 l5 u5 l7 u7 l8 u8
 have q0:=mulS_has l0 u0 p0.1 p0.2
 have p1:=d2_has l3 u3 l5 u5 l6 u6 l8 u8
 have q1:=mulS_has l1 u1 p1.1 p1.2
 have p2:=d2_has l3 u3 l4 u4 l6 u6 l7 u7
 have q2:=mulS_has l2 u2 p2.1 p2.2
 unfold d3
 simp only []
 generalize (mulS a0 b0 (d2 a4 b4 a5 b5 a7 b7 a8 b8).1 (d2 a4 b4 a5 b5 a7 b7 a8 b8).2)=m0 at*
 generalize x0*(x4*x8-x5*x7)=s0 at*
 generalize (mulS a1 b1 (d2 a3 b3 a5 b5 a6 b6 a8 b8).1 (d2 a3 b3 a5 b5 a6 b6 a8 b8).2)=m1 at*
 generalize x1*(x3*x8-x5*x6)=s1 at*
 generalize (mulS a2 b2 (d2 a3 b3 a4 b4 a6 b6 a7 b7).1 (d2 a3 b3 a4 b4 a6 b6 a7 b7).2)=m2 at*
 generalize x2*(x3*x7-x4*x6)=s2 at*
 clear p0 p1 p2
 grind
end Go.Proofs.YtgdlialkjiblpaaGreatDoor
namespace Go.Proofs.YtgdlialkjiblpaaGreatDoor
open Go.RowKit
set_option linter.unusedVariables false
set_option linter.unusedSimpArgs false
set_option maxRecDepth 20000
set_option maxHeartbeats 4000000
section
variable {P:Program} {X:Ctx} {ops l:List Oper} {σ:St} {K:List Eff→St→Prop} {dst:Option Tmp} {ty:TypeId} {pos:String} {af:Array Edge} {gd:Option (Nat×Bool)}
theorem v_buildF {t:TypeId} {parts:Array (Nat×Operand)} {z:Value} {n:Nat} [hZ:Zer P t z] [hB:BldA P t n] (hg:gOk ops σ.s gd:=by first | exact trivial | exact rfl) (hd:dB X.n dst=true:=by exact rfl)
  (hy:((parts.toList.map (fun p=>(p.1,evC σ.s p.2))).all fun p=>(acells p.2).all nlB)=true:=by kernel_rfl)
  (hc:(fillC (fun i=>some (i*n,n)) (z.cells.toList.map .v) (parts.toList.map (fun p=>(p.1,evC σ.s p.2)))).isSome=true:=by kernel_rfl)
  (hl:RunK P X ops l (σ.app dst ⟨.agg ((fillC (fun i=>some (i*n,n)) (z.cells.toList.map .v) (parts.toList.map (fun p=>(p.1,evC σ.s p.2)))).getD []),[],[],[]⟩) (fun es σ'=>K (⟨.agg ((fillC (fun i=>some (i*n,n)) (z.cells.toList.map .v) (parts.toList.map (fun p=>(p.1,evC σ.s p.2)))).getD []),[],[],[]⟩::es) σ')):
  RunK P X ops (⟨dst,.build t parts,ty,pos,af,gd⟩::l) σ K:=by
 obtain ⟨cs,hcs⟩:=Option.isSome_iff_exists.1 hc
 rw [hcs] at hl
 exact u_buildA (hZ:=hZ) (hB:=hB) hg hd rfl hy hcs hl
theorem v_callK {A:World→Prop} [MonoA A] {c:Call} {f:FuncId} [hF:Fun P f] {us:List AV} {R:AV} (hA:A X.W0) (hc:Ctr P A f us R) (hg:gOk ops σ.s gd:=by first | exact trivial | exact rfl) (hd:dB X.n dst=true:=by exact rfl) (hcl:calleeOf σ.s c.callee=some (f,[]):=by exact rfl) (has:c.args.toList.map (evC σ.s)=us:=by kernel_rfl)
  (hl:RunK P X ops l (σ.app dst ⟨R,[],[],[]⟩) (fun es σ'=>K (⟨R,[],[],[]⟩::es) σ')):
  RunK P X ops (⟨dst,.call c,ty,pos,af,gd⟩::l) σ K:=u_call hA hg hd hcl (Ents.of_eq has) hc hl
end
section
variable {j:Nat} {a0 b0 a1 b1 a2 b2 a3 b3 a4 b4 a5 b5 a6 b6 a7 b7 a8 b8:Rat}
theorem s_det2 (hj:j≤10000):Ctr Tryz.prog Amb 16 [.agg [.q a0 j 0,.q a0 j 1,.q a0 j 2,.q b0 j 0,.q b0 j 1,.q b0 j 2,.q a1 j 0,.q a1 j 1,.q a1 j 2,.q b1 j 0,.q b1 j 1,.q b1 j 2,.q a2 j 0,.q a2 j 1,.q a2 j 2,.q b2 j 0,.q b2 j 1,.q b2 j 2,.q a3 j 0,.q a3 j 1,.q a3 j 2,.q b3 j 0,.q b3 j 1,.q b3 j 2]] (sp (2*(j+j+j+j)+5+(2*(j+j+j+j)+5)+3) (d2 a0 b0 a1 b1 a2 b2 a3 b3).1 (2*(j+j+j+j)+5+(2*(j+j+j+j)+5)+3) (d2 a0 b0 a1 b1 a2 b2 a3 b3).2):=by
 have M1:=s_mul (j1:=j) (j2:=j) (j3:=j) (j4:=j) (a:=a0) (b:=b0) (c:=a3) (d:=b3) (by omega) (by omega) (by omega) (by omega)
 have M2:=s_mul (j1:=j) (j2:=j) (j3:=j) (j4:=j) (a:=a1) (b:=b1) (c:=a2) (d:=b2) (by omega) (by omega) (by omega) (by omega)
 unfold d2
 simp only []
 generalize mulS a0 b0 a3 b3=p at*
 generalize mulS a1 b1 a2 b2=q at*
 refine ctr_body Tryz.func16 rfl rfl rfl rfl rfl rfl ?_
 intro W0 base D μ0 hA hD
 repeat (first
  | refine aw_seq ?_ | refine aw_block ?_ | refine aw_condT rfl ?_ | refine aw_condF rfl ?_
  | ((first | refine aw_plainK (by kernel_rfl) ?_ | refine aw_drawK (by kernel_rfl) (by kernel_rfl) (by kernel_rfl) ?_)
     repeat (first
      | refine v_load (hl:=?_)
      | refine v_store (hl:=?_)
      | refine v_box (hl:=?_)
      | refine v_alloc (hl:=?_)
      | refine v_indexAddr (hl:=?_)
      | refine v_callE hA (hc:=M1) (hl:=?_)
      | refine v_callE hA (hc:=M2) (hl:=?_)
      | (refine v_callE hA (hc:=s_sub ?_ ?_ ?_ ?_) (hl:=?_);omega;omega;omega;omega))
     apply RunK.nil;try refine And.intro (by kernel_rfl) ?_)
  | refine aw_skip ?_ | refine aw_exit ?_)
 refine aw_ret (And.intro (Or.inr rfl) ?_)
 exact f_one
theorem t_det2 (h0:a0≤b0) (h1:a1≤b1) (h2:a2≤b2) (h3:a3≤b3) (hj:j≤10000):Ctr Tryz.prog Amb 17 [.agg [.q a0 j 0,.q a0 j 1,.q a0 j 2,.q b0 j 0,.q b0 j 1,.q b0 j 2,.q a1 j 0,.q a1 j 1,.q a1 j 2,.q b1 j 0,.q b1 j 1,.q b1 j 2,.q a2 j 0,.q a2 j 1,.q a2 j 2,.q b2 j 0,.q b2 j 1,.q b2 j 2,.q a3 j 0,.q a3 j 1,.q a3 j 2,.q b3 j 0,.q b3 j 1,.q b3 j 2]] (sp (2*(j+j+j+j)+11+(2*(j+j+j+j)+11+1)+3) (d2 a0 b0 a1 b1 a2 b2 a3 b3).1 (2*(j+j+j+j)+11+(2*(j+j+j+j)+11+1)+3) (d2 a0 b0 a1 b1 a2 b2 a3 b3).2):=by
 have M1:=t_mul (j1:=j) (j2:=j) (j3:=j) (j4:=j) (a:=a0) (b:=b0) (c:=a3) (d:=b3) (by omega) (by omega) (by omega) (by omega)
 have M2:=t_mul (j1:=j) (j2:=j) (j3:=j) (j4:=j) (a:=a1) (b:=b1) (c:=a2) (d:=b2) (by omega) (by omega) (by omega) (by omega)
 rw [←d2_T h0 h1 h2 h3]
 simp only []
 generalize mulT a0 b0 a3 b3=p at*
 generalize mulT a1 b1 a2 b2=q at*
 refine ctr_body Tryz.func17 rfl rfl rfl rfl rfl rfl ?_
 intro W0 base D μ0 hA hD
 repeat (first
  | refine aw_seq ?_ | refine aw_block ?_ | refine aw_condT rfl ?_ | refine aw_condF rfl ?_
  | ((first | refine aw_plainK (by kernel_rfl) ?_ | refine aw_drawK (by kernel_rfl) (by kernel_rfl) (by kernel_rfl) ?_)
     repeat (first
      | refine v_load (hl:=?_)
      | refine v_store (hl:=?_)
      | refine v_box (hl:=?_)
      | refine v_alloc (hl:=?_)
      | refine v_indexAddr (hl:=?_)
      | refine v_callE hA (hc:=M1) (hl:=?_)
      | refine v_callE hA (hc:=M2) (hl:=?_)
      | (refine v_callE hA (hc:=t_sub ?_ ?_ ?_ ?_) (hl:=?_);omega;omega;omega;omega))
     apply RunK.nil;try refine And.intro (by kernel_rfl) ?_)
  | refine aw_skip ?_ | refine aw_exit ?_)
 refine aw_ret (And.intro (Or.inr rfl) ?_)
 exact f_one
theorem s_below0:Ctr Tryz.prog Amb 56 [.agg [.q a0 j 0,.q a0 j 1,.q a0 j 2,.q b0 j 0,.q b0 j 1,.q b0 j 2,.q a1 j 0,.q a1 j 1,.q a1 j 2,.q b1 j 0,.q b1 j 1,.q b1 j 2,.q a2 j 0,.q a2 j 1,.q a2 j 2,.q b2 j 0,.q b2 j 1,.q b2 j 2,.q a3 j 0,.q a3 j 1,.q a3 j 2,.q b3 j 0,.q b3 j 1,.q b3 j 2,.q a4 j 0,.q a4 j 1,.q a4 j 2,.q b4 j 0,.q b4 j 1,.q b4 j 2,.q a5 j 0,.q a5 j 1,.q a5 j 2,.q b5 j 0,.q b5 j 1,.q b5 j 2,.q a6 j 0,.q a6 j 1,.q a6 j 2,.q b6 j 0,.q b6 j 1,.q b6 j 2,.q a7 j 0,.q a7 j 1,.q a7 j 2,.q b7 j 0,.q b7 j 1,.q b7 j 2,.q a8 j 0,.q a8 j 1,.q a8 j 2,.q b8 j 0,.q b8 j 1,.q b8 j 2],.one (.v (.int .i64 0))] (.agg [.q a4 j 0,.q a4 j 1,.q a4 j 2,.q b4 j 0,.q b4 j 1,.q b4 j 2,.q a5 j 0,.q a5 j 1,.q a5 j 2,.q b5 j 0,.q b5 j 1,.q b5 j 2,.q a7 j 0,.q a7 j 1,.q a7 j 2,.q b7 j 0,.q b7 j 1,.q b7 j 2,.q a8 j 0,.q a8 j 1,.q a8 j 2,.q b8 j 0,.q b8 j 1,.q b8 j 2]):=by
 refine ctr_body Tryz.func56 rfl rfl rfl rfl rfl rfl ?_
 intro W0 base D μ0 hA hD
 repeat (first
  | refine aw_seq ?_ | refine aw_block ?_ | refine aw_condT rfl ?_ | refine aw_condF rfl ?_
  | ((first | refine aw_plainK (by kernel_rfl) ?_ | refine aw_drawK (by kernel_rfl) (by kernel_rfl) (by kernel_rfl) ?_)
     repeat (first
      | refine v_move (hl:=?_)
      | refine v_assign (hl:=?_)
      | refine v_load (hl:=?_)
      | refine v_store (hl:=?_)
      | refine v_box (hl:=?_)
      | refine v_alloc (hl:=?_)
      | refine v_bin (hl:=?_)
      | refine v_indexAddr (hl:=?_)
      | refine v_eqBool (hl:=?_)
      | refine v_buildF (hl:=?_))
     apply RunK.nil;try refine And.intro (by kernel_rfl) ?_)
  | refine aw_skip ?_ | refine aw_exit ?_)
 refine aw_ret (And.intro (Or.inr rfl) ?_)
 exact f_one (hE:=(Ent.of_eq (by kernel_rfl)))
theorem s_below1:Ctr Tryz.prog Amb 56 [.agg [.q a0 j 0,.q a0 j 1,.q a0 j 2,.q b0 j 0,.q b0 j 1,.q b0 j 2,.q a1 j 0,.q a1 j 1,.q a1 j 2,.q b1 j 0,.q b1 j 1,.q b1 j 2,.q a2 j 0,.q a2 j 1,.q a2 j 2,.q b2 j 0,.q b2 j 1,.q b2 j 2,.q a3 j 0,.q a3 j 1,.q a3 j 2,.q b3 j 0,.q b3 j 1,.q b3 j 2,.q a4 j 0,.q a4 j 1,.q a4 j 2,.q b4 j 0,.q b4 j 1,.q b4 j 2,.q a5 j 0,.q a5 j 1,.q a5 j 2,.q b5 j 0,.q b5 j 1,.q b5 j 2,.q a6 j 0,.q a6 j 1,.q a6 j 2,.q b6 j 0,.q b6 j 1,.q b6 j 2,.q a7 j 0,.q a7 j 1,.q a7 j 2,.q b7 j 0,.q b7 j 1,.q b7 j 2,.q a8 j 0,.q a8 j 1,.q a8 j 2,.q b8 j 0,.q b8 j 1,.q b8 j 2],.one (.v (.int .i64 1))] (.agg [.q a3 j 0,.q a3 j 1,.q a3 j 2,.q b3 j 0,.q b3 j 1,.q b3 j 2,.q a5 j 0,.q a5 j 1,.q a5 j 2,.q b5 j 0,.q b5 j 1,.q b5 j 2,.q a6 j 0,.q a6 j 1,.q a6 j 2,.q b6 j 0,.q b6 j 1,.q b6 j 2,.q a8 j 0,.q a8 j 1,.q a8 j 2,.q b8 j 0,.q b8 j 1,.q b8 j 2]):=by
 refine ctr_body Tryz.func56 rfl rfl rfl rfl rfl rfl ?_
 intro W0 base D μ0 hA hD
 repeat (first
  | refine aw_seq ?_ | refine aw_block ?_ | refine aw_condT rfl ?_ | refine aw_condF rfl ?_
  | ((first | refine aw_plainK (by kernel_rfl) ?_ | refine aw_drawK (by kernel_rfl) (by kernel_rfl) (by kernel_rfl) ?_)
     repeat (first
      | refine v_move (hl:=?_)
      | refine v_assign (hl:=?_)
      | refine v_load (hl:=?_)
      | refine v_store (hl:=?_)
      | refine v_box (hl:=?_)
      | refine v_alloc (hl:=?_)
      | refine v_bin (hl:=?_)
      | refine v_indexAddr (hl:=?_)
      | refine v_eqBool (hl:=?_)
      | refine v_buildF (hl:=?_))
     apply RunK.nil;try refine And.intro (by kernel_rfl) ?_)
  | refine aw_skip ?_ | refine aw_exit ?_)
 refine aw_ret (And.intro (Or.inr rfl) ?_)
 exact f_one (hE:=(Ent.of_eq (by kernel_rfl)))
theorem s_below2:Ctr Tryz.prog Amb 56 [.agg [.q a0 j 0,.q a0 j 1,.q a0 j 2,.q b0 j 0,.q b0 j 1,.q b0 j 2,.q a1 j 0,.q a1 j 1,.q a1 j 2,.q b1 j 0,.q b1 j 1,.q b1 j 2,.q a2 j 0,.q a2 j 1,.q a2 j 2,.q b2 j 0,.q b2 j 1,.q b2 j 2,.q a3 j 0,.q a3 j 1,.q a3 j 2,.q b3 j 0,.q b3 j 1,.q b3 j 2,.q a4 j 0,.q a4 j 1,.q a4 j 2,.q b4 j 0,.q b4 j 1,.q b4 j 2,.q a5 j 0,.q a5 j 1,.q a5 j 2,.q b5 j 0,.q b5 j 1,.q b5 j 2,.q a6 j 0,.q a6 j 1,.q a6 j 2,.q b6 j 0,.q b6 j 1,.q b6 j 2,.q a7 j 0,.q a7 j 1,.q a7 j 2,.q b7 j 0,.q b7 j 1,.q b7 j 2,.q a8 j 0,.q a8 j 1,.q a8 j 2,.q b8 j 0,.q b8 j 1,.q b8 j 2],.one (.v (.int .i64 2))] (.agg [.q a3 j 0,.q a3 j 1,.q a3 j 2,.q b3 j 0,.q b3 j 1,.q b3 j 2,.q a4 j 0,.q a4 j 1,.q a4 j 2,.q b4 j 0,.q b4 j 1,.q b4 j 2,.q a6 j 0,.q a6 j 1,.q a6 j 2,.q b6 j 0,.q b6 j 1,.q b6 j 2,.q a7 j 0,.q a7 j 1,.q a7 j 2,.q b7 j 0,.q b7 j 1,.q b7 j 2]):=by
 refine ctr_body Tryz.func56 rfl rfl rfl rfl rfl rfl ?_
 intro W0 base D μ0 hA hD
 repeat (first
  | refine aw_seq ?_ | refine aw_block ?_ | refine aw_condT rfl ?_ | refine aw_condF rfl ?_
  | ((first | refine aw_plainK (by kernel_rfl) ?_ | refine aw_drawK (by kernel_rfl) (by kernel_rfl) (by kernel_rfl) ?_)
     repeat (first
      | refine v_move (hl:=?_)
      | refine v_assign (hl:=?_)
      | refine v_load (hl:=?_)
      | refine v_store (hl:=?_)
      | refine v_box (hl:=?_)
      | refine v_alloc (hl:=?_)
      | refine v_bin (hl:=?_)
      | refine v_indexAddr (hl:=?_)
      | refine v_eqBool (hl:=?_)
      | refine v_buildF (hl:=?_))
     apply RunK.nil;try refine And.intro (by kernel_rfl) ?_)
  | refine aw_skip ?_ | refine aw_exit ?_)
 refine aw_ret (And.intro (Or.inr rfl) ?_)
 exact f_one (hE:=(Ent.of_eq (by kernel_rfl)))
theorem s_det3 (hj:j≤100):Ctr Tryz.prog Amb 14 [.agg [.q a0 j 0,.q a0 j 1,.q a0 j 2,.q b0 j 0,.q b0 j 1,.q b0 j 2,.q a1 j 0,.q a1 j 1,.q a1 j 2,.q b1 j 0,.q b1 j 1,.q b1 j 2,.q a2 j 0,.q a2 j 1,.q a2 j 2,.q b2 j 0,.q b2 j 1,.q b2 j 2,.q a3 j 0,.q a3 j 1,.q a3 j 2,.q b3 j 0,.q b3 j 1,.q b3 j 2,.q a4 j 0,.q a4 j 1,.q a4 j 2,.q b4 j 0,.q b4 j 1,.q b4 j 2,.q a5 j 0,.q a5 j 1,.q a5 j 2,.q b5 j 0,.q b5 j 1,.q b5 j 2,.q a6 j 0,.q a6 j 1,.q a6 j 2,.q b6 j 0,.q b6 j 1,.q b6 j 2,.q a7 j 0,.q a7 j 1,.q a7 j 2,.q b7 j 0,.q b7 j 1,.q b7 j 2,.q a8 j 0,.q a8 j 1,.q a8 j 2,.q b8 j 0,.q b8 j 1,.q b8 j 2]] (sp ((2*(j+j+(2*(j+j+j+j)+5+(2*(j+j+j+j)+5)+3)+(2*(j+j+j+j)+5+(2*(j+j+j+j)+5)+3))+5)+(2*(j+j+(2*(j+j+j+j)+5+(2*(j+j+j+j)+5)+3)+(2*(j+j+j+j)+5+(2*(j+j+j+j)+5)+3))+5)+3+(2*(j+j+(2*(j+j+j+j)+5+(2*(j+j+j+j)+5)+3)+(2*(j+j+j+j)+5+(2*(j+j+j+j)+5)+3))+5)+3) (d3 a0 b0 a1 b1 a2 b2 a3 b3 a4 b4 a5 b5 a6 b6 a7 b7 a8 b8).1 ((2*(j+j+(2*(j+j+j+j)+5+(2*(j+j+j+j)+5)+3)+(2*(j+j+j+j)+5+(2*(j+j+j+j)+5)+3))+5)+(2*(j+j+(2*(j+j+j+j)+5+(2*(j+j+j+j)+5)+3)+(2*(j+j+j+j)+5+(2*(j+j+j+j)+5)+3))+5)+3+(2*(j+j+(2*(j+j+j+j)+5+(2*(j+j+j+j)+5)+3)+(2*(j+j+j+j)+5+(2*(j+j+j+j)+5)+3))+5)+3) (d3 a0 b0 a1 b1 a2 b2 a3 b3 a4 b4 a5 b5 a6 b6 a7 b7 a8 b8).2):=by
 have D0:=s_det2 (j:=j) (a0:=a4) (b0:=b4) (a1:=a5) (b1:=b5) (a2:=a7) (b2:=b7) (a3:=a8) (b3:=b8) (by omega)
 have M0:=s_mul (j1:=j) (j2:=j) (j3:=(2*(j+j+j+j)+5+(2*(j+j+j+j)+5)+3)) (j4:=(2*(j+j+j+j)+5+(2*(j+j+j+j)+5)+3)) (a:=a0) (b:=b0) (c:=(d2 a4 b4 a5 b5 a7 b7 a8 b8).1) (d:=(d2 a4 b4 a5 b5 a7 b7 a8 b8).2) (by omega) (by omega) (by omega) (by omega)
 have D1:=s_det2 (j:=j) (a0:=a3) (b0:=b3) (a1:=a5) (b1:=b5) (a2:=a6) (b2:=b6) (a3:=a8) (b3:=b8) (by omega)
 have M1:=s_mul (j1:=j) (j2:=j) (j3:=(2*(j+j+j+j)+5+(2*(j+j+j+j)+5)+3)) (j4:=(2*(j+j+j+j)+5+(2*(j+j+j+j)+5)+3)) (a:=a1) (b:=b1) (c:=(d2 a3 b3 a5 b5 a6 b6 a8 b8).1) (d:=(d2 a3 b3 a5 b5 a6 b6 a8 b8).2) (by omega) (by omega) (by omega) (by omega)
 have D2:=s_det2 (j:=j) (a0:=a3) (b0:=b3) (a1:=a4) (b1:=b4) (a2:=a6) (b2:=b6) (a3:=a7) (b3:=b7) (by omega)
 have M2:=s_mul (j1:=j) (j2:=j) (j3:=(2*(j+j+j+j)+5+(2*(j+j+j+j)+5)+3)) (j4:=(2*(j+j+j+j)+5+(2*(j+j+j+j)+5)+3)) (a:=a2) (b:=b2) (c:=(d2 a3 b3 a4 b4 a6 b6 a7 b7).1) (d:=(d2 a3 b3 a4 b4 a6 b6 a7 b7).2) (by omega) (by omega) (by omega) (by omega)
 unfold d3
 simp only []
 generalize mulS a0 b0 (d2 a4 b4 a5 b5 a7 b7 a8 b8).1 (d2 a4 b4 a5 b5 a7 b7 a8 b8).2=m0 at*
 generalize mulS a1 b1 (d2 a3 b3 a5 b5 a6 b6 a8 b8).1 (d2 a3 b3 a5 b5 a6 b6 a8 b8).2=m1 at*
 generalize mulS a2 b2 (d2 a3 b3 a4 b4 a6 b6 a7 b7).1 (d2 a3 b3 a4 b4 a6 b6 a7 b7).2=m2 at*
 generalize d2 a4 b4 a5 b5 a7 b7 a8 b8=p0 at*
 generalize d2 a3 b3 a5 b5 a6 b6 a8 b8=p1 at*
 generalize d2 a3 b3 a4 b4 a6 b6 a7 b7=p2 at*
 have S1:=s_sub (j1:=(2*(j+j+(2*(j+j+j+j)+5+(2*(j+j+j+j)+5)+3)+(2*(j+j+j+j)+5+(2*(j+j+j+j)+5)+3))+5)) (j2:=(2*(j+j+(2*(j+j+j+j)+5+(2*(j+j+j+j)+5)+3)+(2*(j+j+j+j)+5+(2*(j+j+j+j)+5)+3))+5)) (j3:=(2*(j+j+(2*(j+j+j+j)+5+(2*(j+j+j+j)+5)+3)+(2*(j+j+j+j)+5+(2*(j+j+j+j)+5)+3))+5)) (j4:=(2*(j+j+(2*(j+j+j+j)+5+(2*(j+j+j+j)+5)+3)+(2*(j+j+j+j)+5+(2*(j+j+j+j)+5)+3))+5)) (a:=m0.1) (b:=m0.2) (c:=m1.1) (d:=m1.2) (by omega) (by omega) (by omega) (by omega)
 have A1:=s_add (j1:=(2*(j+j+(2*(j+j+j+j)+5+(2*(j+j+j+j)+5)+3)+(2*(j+j+j+j)+5+(2*(j+j+j+j)+5)+3))+5)+(2*(j+j+(2*(j+j+j+j)+5+(2*(j+j+j+j)+5)+3)+(2*(j+j+j+j)+5+(2*(j+j+j+j)+5)+3))+5)+3) (j2:=(2*(j+j+(2*(j+j+j+j)+5+(2*(j+j+j+j)+5)+3)+(2*(j+j+j+j)+5+(2*(j+j+j+j)+5)+3))+5)+(2*(j+j+(2*(j+j+j+j)+5+(2*(j+j+j+j)+5)+3)+(2*(j+j+j+j)+5+(2*(j+j+j+j)+5)+3))+5)+3) (j3:=(2*(j+j+(2*(j+j+j+j)+5+(2*(j+j+j+j)+5)+3)+(2*(j+j+j+j)+5+(2*(j+j+j+j)+5)+3))+5)) (j4:=(2*(j+j+(2*(j+j+j+j)+5+(2*(j+j+j+j)+5)+3)+(2*(j+j+j+j)+5+(2*(j+j+j+j)+5)+3))+5)) (a:=m0.1-m1.2) (b:=m0.2-m1.1) (c:=m2.1) (d:=m2.2) (by omega) (by omega) (by omega) (by omega)
 refine ctr_body Tryz.func14 rfl rfl rfl rfl rfl rfl ?_
 intro W0 base D μ0 hA hD
 repeat (first
  | refine aw_seq ?_ | refine aw_block ?_ | refine aw_condT rfl ?_ | refine aw_condF rfl ?_ | refine aw_loopN 6 ?_
  | ((first | refine aw_plainK (by kernel_rfl) ?_ | refine aw_drawK (by kernel_rfl) (by kernel_rfl) (by kernel_rfl) ?_)
     repeat (first
      | refine v_move (hl:=?_)
      | refine v_assign (hl:=?_)
      | refine v_load (hl:=?_)
      | refine v_store (hl:=?_)
      | refine v_box (hl:=?_)
      | refine v_alloc (hl:=?_)
      | refine v_binL (hl:=?_)
      | refine v_indexAddrTo 0 (hl:=?_)
      | refine v_indexAddrTo 3 (hl:=?_)
      | refine v_indexAddrTo 6 (hl:=?_)
      | refine v_indexAddr (hl:=?_)
      | refine v_allocAt 1000 (hl:=?_)
      | refine v_boxAt 1000 (hl:=?_)
      | refine v_allocAt 2000 (hl:=?_)
      | refine v_boxAt 2000 (hl:=?_)
      | refine v_callE hA (hc:=s_below0) (hl:=?_)
      | refine v_callE hA (hc:=s_below1) (hl:=?_)
      | refine v_callE hA (hc:=s_below2) (hl:=?_)
      | refine v_callE hA (hc:=D0) (hl:=?_)
      | refine v_callE hA (hc:=D1) (hl:=?_)
      | refine v_callE hA (hc:=D2) (hl:=?_)
      | refine v_callE hA (hc:=M0) (hl:=?_)
      | refine v_callE hA (hc:=M1) (hl:=?_)
      | refine v_callE hA (hc:=M2) (hl:=?_)
      | refine v_callK hA (hc:=S1) (dst:=some 24) (hl:=?_)
      | refine v_callK hA (hc:=A1) (dst:=some 27) (hl:=?_))
     apply RunK.nil;try refine And.intro (by kernel_rfl) ?_)
  | refine aw_skip ?_ | refine aw_exit ?_)
 refine aw_ret (And.intro (Or.inr rfl) ?_)
 exact f_one (hE:=(Ent.of_eq (by kernel_rfl)))
theorem t_det3 (h0:a0≤b0) (h1:a1≤b1) (h2:a2≤b2) (h3:a3≤b3) (h4:a4≤b4) (h5:a5≤b5) (h6:a6≤b6) (h7:a7≤b7) (h8:a8≤b8) (hj:j≤100):Ctr Tryz.prog Amb 15 [.agg [.q a0 j 0,.q a0 j 1,.q a0 j 2,.q b0 j 0,.q b0 j 1,.q b0 j 2,.q a1 j 0,.q a1 j 1,.q a1 j 2,.q b1 j 0,.q b1 j 1,.q b1 j 2,.q a2 j 0,.q a2 j 1,.q a2 j 2,.q b2 j 0,.q b2 j 1,.q b2 j 2,.q a3 j 0,.q a3 j 1,.q a3 j 2,.q b3 j 0,.q b3 j 1,.q b3 j 2,.q a4 j 0,.q a4 j 1,.q a4 j 2,.q b4 j 0,.q b4 j 1,.q b4 j 2,.q a5 j 0,.q a5 j 1,.q a5 j 2,.q b5 j 0,.q b5 j 1,.q b5 j 2,.q a6 j 0,.q a6 j 1,.q a6 j 2,.q b6 j 0,.q b6 j 1,.q b6 j 2,.q a7 j 0,.q a7 j 1,.q a7 j 2,.q b7 j 0,.q b7 j 1,.q b7 j 2,.q a8 j 0,.q a8 j 1,.q a8 j 2,.q b8 j 0,.q b8 j 1,.q b8 j 2]] (sp ((2*(j+j+(2*(j+j+j+j)+11+(2*(j+j+j+j)+11+1)+3)+(2*(j+j+j+j)+11+(2*(j+j+j+j)+11+1)+3))+11)+((2*(j+j+(2*(j+j+j+j)+11+(2*(j+j+j+j)+11+1)+3)+(2*(j+j+j+j)+11+(2*(j+j+j+j)+11+1)+3))+11)+1)+3+(2*(j+j+(2*(j+j+j+j)+11+(2*(j+j+j+j)+11+1)+3)+(2*(j+j+j+j)+11+(2*(j+j+j+j)+11+1)+3))+11)+3) (d3 a0 b0 a1 b1 a2 b2 a3 b3 a4 b4 a5 b5 a6 b6 a7 b7 a8 b8).1 ((2*(j+j+(2*(j+j+j+j)+11+(2*(j+j+j+j)+11+1)+3)+(2*(j+j+j+j)+11+(2*(j+j+j+j)+11+1)+3))+11)+((2*(j+j+(2*(j+j+j+j)+11+(2*(j+j+j+j)+11+1)+3)+(2*(j+j+j+j)+11+(2*(j+j+j+j)+11+1)+3))+11)+1)+3+(2*(j+j+(2*(j+j+j+j)+11+(2*(j+j+j+j)+11+1)+3)+(2*(j+j+j+j)+11+(2*(j+j+j+j)+11+1)+3))+11)+3) (d3 a0 b0 a1 b1 a2 b2 a3 b3 a4 b4 a5 b5 a6 b6 a7 b7 a8 b8).2):=by
 have D0:=t_det2 (j:=j) (a0:=a4) (b0:=b4) (a1:=a5) (b1:=b5) (a2:=a7) (b2:=b7) (a3:=a8) (b3:=b8) h4 h5 h7 h8 (by omega)
 have M0:=t_mul (j1:=j) (j2:=j) (j3:=(2*(j+j+j+j)+11+(2*(j+j+j+j)+11+1)+3)) (j4:=(2*(j+j+j+j)+11+(2*(j+j+j+j)+11+1)+3)) (a:=a0) (b:=b0) (c:=(d2 a4 b4 a5 b5 a7 b7 a8 b8).1) (d:=(d2 a4 b4 a5 b5 a7 b7 a8 b8).2) (by omega) (by omega) (by omega) (by omega)
 have D1:=t_det2 (j:=j) (a0:=a3) (b0:=b3) (a1:=a5) (b1:=b5) (a2:=a6) (b2:=b6) (a3:=a8) (b3:=b8) h3 h5 h6 h8 (by omega)
 have M1:=t_mul (j1:=j) (j2:=j) (j3:=(2*(j+j+j+j)+11+(2*(j+j+j+j)+11+1)+3)) (j4:=(2*(j+j+j+j)+11+(2*(j+j+j+j)+11+1)+3)) (a:=a1) (b:=b1) (c:=(d2 a3 b3 a5 b5 a6 b6 a8 b8).1) (d:=(d2 a3 b3 a5 b5 a6 b6 a8 b8).2) (by omega) (by omega) (by omega) (by omega)
 have D2:=t_det2 (j:=j) (a0:=a3) (b0:=b3) (a1:=a4) (b1:=b4) (a2:=a6) (b2:=b6) (a3:=a7) (b3:=b7) h3 h4 h6 h7 (by omega)
 have M2:=t_mul (j1:=j) (j2:=j) (j3:=(2*(j+j+j+j)+11+(2*(j+j+j+j)+11+1)+3)) (j4:=(2*(j+j+j+j)+11+(2*(j+j+j+j)+11+1)+3)) (a:=a2) (b:=b2) (c:=(d2 a3 b3 a4 b4 a6 b6 a7 b7).1) (d:=(d2 a3 b3 a4 b4 a6 b6 a7 b7).2) (by omega) (by omega) (by omega) (by omega)
 rw [←d3_T h0 h1 h2 h3 h4 h5 h6 h7 h8]
 simp only []
 generalize mulT a0 b0 (d2 a4 b4 a5 b5 a7 b7 a8 b8).1 (d2 a4 b4 a5 b5 a7 b7 a8 b8).2=m0 at*
 generalize mulT a1 b1 (d2 a3 b3 a5 b5 a6 b6 a8 b8).1 (d2 a3 b3 a5 b5 a6 b6 a8 b8).2=m1 at*
 generalize mulT a2 b2 (d2 a3 b3 a4 b4 a6 b6 a7 b7).1 (d2 a3 b3 a4 b4 a6 b6 a7 b7).2=m2 at*
 generalize d2 a4 b4 a5 b5 a7 b7 a8 b8=p0 at*
 generalize d2 a3 b3 a5 b5 a6 b6 a8 b8=p1 at*
 generalize d2 a3 b3 a4 b4 a6 b6 a7 b7=p2 at*
 have S1:=t_sub (j1:=(2*(j+j+(2*(j+j+j+j)+11+(2*(j+j+j+j)+11+1)+3)+(2*(j+j+j+j)+11+(2*(j+j+j+j)+11+1)+3))+11)) (j2:=(2*(j+j+(2*(j+j+j+j)+11+(2*(j+j+j+j)+11+1)+3)+(2*(j+j+j+j)+11+(2*(j+j+j+j)+11+1)+3))+11)) (j3:=(2*(j+j+(2*(j+j+j+j)+11+(2*(j+j+j+j)+11+1)+3)+(2*(j+j+j+j)+11+(2*(j+j+j+j)+11+1)+3))+11)) (j4:=(2*(j+j+(2*(j+j+j+j)+11+(2*(j+j+j+j)+11+1)+3)+(2*(j+j+j+j)+11+(2*(j+j+j+j)+11+1)+3))+11)) (a:=m0.1) (b:=m0.2) (c:=m1.1) (d:=m1.2) (by omega) (by omega) (by omega) (by omega)
 have A1:=t_add (j1:=(2*(j+j+(2*(j+j+j+j)+11+(2*(j+j+j+j)+11+1)+3)+(2*(j+j+j+j)+11+(2*(j+j+j+j)+11+1)+3))+11)+((2*(j+j+(2*(j+j+j+j)+11+(2*(j+j+j+j)+11+1)+3)+(2*(j+j+j+j)+11+(2*(j+j+j+j)+11+1)+3))+11)+1)+3) (j2:=(2*(j+j+(2*(j+j+j+j)+11+(2*(j+j+j+j)+11+1)+3)+(2*(j+j+j+j)+11+(2*(j+j+j+j)+11+1)+3))+11)+((2*(j+j+(2*(j+j+j+j)+11+(2*(j+j+j+j)+11+1)+3)+(2*(j+j+j+j)+11+(2*(j+j+j+j)+11+1)+3))+11)+1)+3) (j3:=(2*(j+j+(2*(j+j+j+j)+11+(2*(j+j+j+j)+11+1)+3)+(2*(j+j+j+j)+11+(2*(j+j+j+j)+11+1)+3))+11)) (j4:=(2*(j+j+(2*(j+j+j+j)+11+(2*(j+j+j+j)+11+1)+3)+(2*(j+j+j+j)+11+(2*(j+j+j+j)+11+1)+3))+11)) (a:=m0.1+ -m1.2) (b:=m0.2+ -m1.1) (c:=m2.1) (d:=m2.2) (by omega) (by omega) (by omega) (by omega)
 refine ctr_body Tryz.func15 rfl rfl rfl rfl rfl rfl ?_
 intro W0 base D μ0 hA hD
 repeat (first
  | refine aw_seq ?_ | refine aw_block ?_ | refine aw_condT rfl ?_ | refine aw_condF rfl ?_
  | ((first | refine aw_plainK (by kernel_rfl) ?_ | refine aw_drawK (by kernel_rfl) (by kernel_rfl) (by kernel_rfl) ?_)
     repeat (first
      | refine v_load (hl:=?_)
      | refine v_store (hl:=?_)
      | refine v_box (hl:=?_)
      | refine v_alloc (hl:=?_)
      | refine v_indexAddr (hl:=?_)
      | refine v_buildF (hl:=?_)
      | refine v_callK hA (hc:=D0) (dst:=some 21) (hl:=?_)
      | refine v_callK hA (hc:=D1) (dst:=some 37) (hl:=?_)
      | refine v_callK hA (hc:=D2) (dst:=some 53) (hl:=?_)
      | refine v_callK hA (hc:=M0) (dst:=some 58) (hl:=?_)
      | refine v_callK hA (hc:=M1) (dst:=some 63) (hl:=?_)
      | refine v_callK hA (hc:=M2) (dst:=some 69) (hl:=?_)
      | refine v_callK hA (hc:=S1) (dst:=some 64) (hl:=?_)
      | refine v_callK hA (hc:=A1) (dst:=some 70) (hl:=?_))
     apply RunK.nil;try refine And.intro (by kernel_rfl) ?_)
  | refine aw_skip ?_ | refine aw_exit ?_)
 refine aw_ret (And.intro (Or.inr rfl) ?_)
 exact f_one (hE:=(Ent.of_eq (by kernel_rfl)))
end
end Go.Proofs.YtgdlialkjiblpaaGreatDoor
