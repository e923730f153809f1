/-
  Several texts in one: Va, Vb, Zba, Zbb.
-/
import Derived.Test.YtnkobfcnflphkaaGreatDoorHb
import Derived.Test.YtnkobfcnflphkaaGreatDoorHy
namespace Go.Proofs.YtnkobfcnflphkaaGreatDoor
open Go.RowKit
set_option linter.unusedVariables false
set_option linter.unusedSimpArgs false
set_option maxRecDepth 20000
set_option maxHeartbeats 4000000
abbrev pt (j:Nat) (x y z:Rat):AV:= .agg [.q x j 0,.q x j 1,.q x j 2,.q y j 0,.q y j 1,.q y j 2,.q z j 0,.q z j 1,.q z j 2]
theorem sgn_zero {x:Rat} (h:x=0):sgnR x=0:=sgnR_eq.2 h
theorem c_sign0 {j:Nat} {x:Rat} (h:x=0):Ctr Tryz.prog Amb 85 [nm j x] (.one (.v (.int .i64 0))):=sgn_zero h▸c_sign
theorem c_sign' {j:Nat} {x:Rat} {n:Int} (h:sgnR x=n):Ctr Tryz.prog Amb 85 [nm j x] (.one (.v (.int .i64 n))):=h▸c_sign
section
variable {j k:Nat} {a b c x y z r:Rat}
theorem v_add (h1:j≤1000000) (h2:k≤1000000):Ctr Tryz.prog Amb 67 [pt j a b c,pt k x y z] (pt (j+k+3) (a+x) (b+y) (c+z)):=by
 refine ctr_body Tryz.func67 rfl rfl rfl rfl rfl rfl ?_
 intro W0 base D μ0 hA hD
 repeat (first
  | refine aw_seq ?_ | refine aw_block ?_ | refine aw_condT rfl ?_ | refine aw_condF rfl ?_ | refine aw_loopN 6 ?_
  | ((first | refine aw_plainK (by kernel_rfl) ?_ | refine aw_drawK (by kernel_rfl) (by kernel_rfl) (by kernel_rfl) ?_)
     repeat (first
      | refine v_move (hl:=?_)
      | refine v_assign (hl:=?_)
      | refine v_load (hl:=?_)
      | refine v_store (hl:=?_)
      | refine v_box (hl:=?_)
      | refine v_alloc (hl:=?_)
      | refine v_binL (hl:=?_)
      | refine v_indexAddrTo 0 (hl:=?_)
      | refine v_indexAddrTo 3 (hl:=?_)
      | refine v_indexAddrTo 6 (hl:=?_)
      | refine v_indexAddr (hl:=?_)
      | refine v_allocAt 1000 (hl:=?_)
      | refine v_boxAt 1000 (hl:=?_)
      | refine v_allocAt 2000 (hl:=?_)
      | refine v_boxAt 2000 (hl:=?_)
      | (refine v_call hA (hc:=c_add ?_ ?_) (hl:=?_);omega;omega))
     apply RunK.nil;try refine And.intro (by kernel_rfl) ?_)
  | refine aw_skip ?_ | refine aw_exit ?_)
 refine aw_ret (And.intro (Or.inr rfl) ?_)
 exact f_one (hE:=(Ent.of_eq (by kernel_rfl)))
theorem v_sub (h1:j≤1000000) (h2:k≤1000000):Ctr Tryz.prog Amb 83 [pt j a b c,pt k x y z] (pt (j+k+3) (a-x) (b-y) (c-z)):=by
 refine ctr_body Tryz.func83 rfl rfl rfl rfl rfl rfl ?_
 intro W0 base D μ0 hA hD
 repeat (first
  | refine aw_seq ?_ | refine aw_block ?_ | refine aw_condT rfl ?_ | refine aw_condF rfl ?_ | refine aw_loopN 6 ?_
  | ((first | refine aw_plainK (by kernel_rfl) ?_ | refine aw_drawK (by kernel_rfl) (by kernel_rfl) (by kernel_rfl) ?_)
     repeat (first
      | refine v_move (hl:=?_)
      | refine v_assign (hl:=?_)
      | refine v_load (hl:=?_)
      | refine v_store (hl:=?_)
      | refine v_box (hl:=?_)
      | refine v_alloc (hl:=?_)
      | refine v_binL (hl:=?_)
      | refine v_indexAddrTo 0 (hl:=?_)
      | refine v_indexAddrTo 3 (hl:=?_)
      | refine v_indexAddrTo 6 (hl:=?_)
      | refine v_indexAddr (hl:=?_)
      | refine v_allocAt 1000 (hl:=?_)
      | refine v_boxAt 1000 (hl:=?_)
      | refine v_allocAt 2000 (hl:=?_)
      | refine v_boxAt 2000 (hl:=?_)
      | (refine v_call hA (hc:=c_sub ?_ ?_) (hl:=?_);omega;omega))
     apply RunK.nil;try refine And.intro (by kernel_rfl) ?_)
  | refine aw_skip ?_ | refine aw_exit ?_)
 refine aw_ret (And.intro (Or.inr rfl) ?_)
 exact f_one (hE:=(Ent.of_eq (by kernel_rfl)))
theorem v_dot (h1:j≤1000000) (h2:k≤1000000):Ctr Tryz.prog Amb 84 [pt j a b c,pt k x y z] (nm (3*(j+k)+15) (0+a*x+b*y+c*z)):=by
 refine ctr_body Tryz.func84 rfl rfl rfl rfl rfl rfl ?_
 intro W0 base D μ0 hA hD
 repeat (first
  | refine aw_seq ?_ | refine aw_block ?_ | refine aw_condT rfl ?_ | refine aw_condF rfl ?_ | refine aw_loopN 6 ?_
  | ((first | refine aw_plainK (by kernel_rfl) ?_ | refine aw_drawK (by kernel_rfl) (by kernel_rfl) (by kernel_rfl) ?_)
     repeat (first
      | refine v_move (hl:=?_)
      | refine v_assign (hl:=?_)
      | refine v_load (hl:=?_)
      | refine v_store (hl:=?_)
      | refine v_box (hl:=?_)
      | refine v_alloc (hl:=?_)
      | refine v_binL (hl:=?_)
      | refine v_indexAddrTo 0 (hl:=?_)
      | refine v_indexAddrTo 3 (hl:=?_)
      | refine v_indexAddrTo 6 (hl:=?_)
      | refine v_indexAddr (hl:=?_)
      | refine v_allocAt 1000 (hl:=?_)
      | refine v_boxAt 1000 (hl:=?_)
      | refine v_allocAt 2000 (hl:=?_)
      | refine v_boxAt 2000 (hl:=?_)
      | (refine v_call hA (hc:=c_mul ?_ ?_) (hl:=?_);omega;omega)
      | (refine v_call hA (hc:=c_add ?_ ?_) (hl:=?_);omega;omega))
     apply RunK.nil;try refine And.intro (by kernel_rfl) ?_)
  | refine aw_skip ?_ | refine aw_exit ?_)
 refine aw_ret (And.intro (Or.inr rfl) ?_)
 exact f_one
theorem v_cross (h1:j≤1000000) (h2:k≤1000000):Ctr Tryz.prog Amb 68 [pt j a b c,pt k x y z] (pt (j+k+2+(j+k+2)+3) (b*z-c*y) (c*x-a*z) (a*y-b*x)):=by
 refine ctr_body Tryz.func68 rfl rfl rfl rfl rfl rfl ?_
 intro W0 base D μ0 hA hD
 repeat (first
  | refine aw_seq ?_ | refine aw_block ?_ | refine aw_condT rfl ?_ | refine aw_condF rfl ?_ | refine aw_loopN 6 ?_
  | ((first | refine aw_plainK (by kernel_rfl) ?_ | refine aw_drawK (by kernel_rfl) (by kernel_rfl) (by kernel_rfl) ?_)
     repeat (first
      | refine v_move (hl:=?_)
      | refine v_assign (hl:=?_)
      | refine v_load (hl:=?_)
      | refine v_store (hl:=?_)
      | refine v_box (hl:=?_)
      | refine v_alloc (hl:=?_)
      | refine v_binL (hl:=?_)
      | refine v_indexAddrTo 0 (hl:=?_)
      | refine v_indexAddrTo 3 (hl:=?_)
      | refine v_indexAddrTo 6 (hl:=?_)
      | refine v_indexAddr (hl:=?_)
      | refine v_allocAt 1000 (hl:=?_)
      | refine v_boxAt 1000 (hl:=?_)
      | refine v_allocAt 2000 (hl:=?_)
      | refine v_boxAt 2000 (hl:=?_)
      | (refine v_call hA (hc:=c_mul ?_ ?_) (hl:=?_);omega;omega)
      | (refine v_call hA (hc:=c_sub ?_ ?_) (hl:=?_);omega;omega))
     apply RunK.nil;try refine And.intro (by kernel_rfl) ?_)
  | refine aw_skip ?_ | refine aw_exit ?_)
 refine aw_ret (And.intro (Or.inr rfl) ?_)
 exact f_one (hE:=(Ent.of_eq (by kernel_rfl)))
theorem w_same {p q s:Bool} (hp:decide (a=x)=p) (hq:decide (b=y)=q) (hs:decide (c=z)=s):Ctr Tryz.prog Amb 65 [pt j a b c,pt k x y z] (.one (.v (.bool (p&&(q&&s))))):=by
 refine ctr_body Tryz.func65 rfl rfl rfl rfl rfl rfl ?_
 intro W0 base D μ0 hA hD
 cases p
 ·repeat (first
   | refine aw_seq ?_ | refine aw_block ?_ | refine aw_condT rfl ?_ | refine aw_condF rfl ?_
   | (refine aw_plainK (by kernel_rfl) ?_
      repeat (first
       | refine v_skip (hl:=?_)
       | refine v_move (hl:=?_)
       | refine v_assign (hl:=?_)
       | refine v_load (hl:=?_)
       | refine v_box (hl:=?_)
       | refine v_indexAddr (hl:=?_)
       | refine v_pickT (hl:=?_)
       | refine v_pickF (hl:=?_)
       | refine v_call hA (hc:=r_same' hp) (hl:=?_)
       | refine v_call hA (hc:=r_same' hq) (hl:=?_)
       | refine v_call hA (hc:=r_same' hs) (hl:=?_))
      apply RunK.nil)
   | refine aw_skip ?_ | refine aw_exit ?_)
  refine aw_ret (And.intro (Or.inr rfl) ?_)
  exact f_one
 ·cases q
  ·repeat (first
    | refine aw_seq ?_ | refine aw_block ?_ | refine aw_condT rfl ?_ | refine aw_condF rfl ?_
    | (refine aw_plainK (by kernel_rfl) ?_
       repeat (first
        | refine v_skip (hl:=?_)
        | refine v_move (hl:=?_)
        | refine v_assign (hl:=?_)
        | refine v_load (hl:=?_)
        | refine v_box (hl:=?_)
        | refine v_indexAddr (hl:=?_)
        | refine v_pickT (hl:=?_)
        | refine v_pickF (hl:=?_)
        | refine v_call hA (hc:=r_same' hp) (hl:=?_)
        | refine v_call hA (hc:=r_same' hq) (hl:=?_)
        | refine v_call hA (hc:=r_same' hs) (hl:=?_))
       apply RunK.nil)
    | refine aw_skip ?_ | refine aw_exit ?_)
   refine aw_ret (And.intro (Or.inr rfl) ?_)
   exact f_one
  ·cases s
   ·repeat (first
     | refine aw_seq ?_ | refine aw_block ?_ | refine aw_condT rfl ?_ | refine aw_condF rfl ?_
     | (refine aw_plainK (by kernel_rfl) ?_
        repeat (first
         | refine v_skip (hl:=?_)
         | refine v_move (hl:=?_)
         | refine v_assign (hl:=?_)
         | refine v_load (hl:=?_)
         | refine v_box (hl:=?_)
         | refine v_indexAddr (hl:=?_)
         | refine v_pickT (hl:=?_)
         | refine v_pickF (hl:=?_)
         | refine v_call hA (hc:=r_same' hp) (hl:=?_)
         | refine v_call hA (hc:=r_same' hq) (hl:=?_)
         | refine v_call hA (hc:=r_same' hs) (hl:=?_))
        apply RunK.nil)
     | refine aw_skip ?_ | refine aw_exit ?_)
    refine aw_ret (And.intro (Or.inr rfl) ?_)
    exact f_one
   ·repeat (first
     | refine aw_seq ?_ | refine aw_block ?_ | refine aw_condT rfl ?_ | refine aw_condF rfl ?_
     | (refine aw_plainK (by kernel_rfl) ?_
        repeat (first
         | refine v_skip (hl:=?_)
         | refine v_move (hl:=?_)
         | refine v_assign (hl:=?_)
         | refine v_load (hl:=?_)
         | refine v_box (hl:=?_)
         | refine v_indexAddr (hl:=?_)
         | refine v_pickT (hl:=?_)
         | refine v_pickF (hl:=?_)
         | refine v_call hA (hc:=r_same' hp) (hl:=?_)
         | refine v_call hA (hc:=r_same' hq) (hl:=?_)
         | refine v_call hA (hc:=r_same' hs) (hl:=?_))
        apply RunK.nil)
     | refine aw_skip ?_ | refine aw_exit ?_)
    refine aw_ret (And.intro (Or.inr rfl) ?_)
    exact f_one
theorem w_sameT (h1:a=x) (h2:b=y) (h3:c=z):Ctr Tryz.prog Amb 65 [pt j a b c,pt k x y z] (.one (.v (.bool true))):=w_same (decide_eq_true h1) (decide_eq_true h2) (decide_eq_true h3)
end
end Go.Proofs.YtnkobfcnflphkaaGreatDoor
namespace Go.Proofs.YtnkobfcnflphkaaGreatDoor
open Go.RowKit
set_option linter.unusedVariables false
set_option linter.unusedSimpArgs false
set_option maxRecDepth 20000
set_option maxHeartbeats 4000000
theorem cmp1 {x y:Rat} (h:y<x):cmpR x y=1:=by
 unfold cmpR
 rw [if_neg (Rat.not_lt.2 (Rat.le_of_lt h)),if_pos h]
theorem c_sign1 {j:Nat} {x:Rat} (h:x=1):Ctr Tryz.prog Amb 85 [nm j x] (.one (.v (.int .i64 1))):=by
 subst h
 exact c_sign' (by decide)
theorem r_one:Ctr Tryz.prog Amb 43 [.one (.v (.int .i64 1))] (nm 2 1):=by
 have h:=r_int (n:=1) rfl
 rwa [show ((1:Int):Rat)=1 from rfl] at h
def pX (l:List Int) (n:Nat):Rat:=(numb l n).1
def pY (l:List Int) (n:Nat):Rat:=(numb l (numb l n).2).1
def pZ (l:List Int) (n:Nat):Rat:=(numb l (numb l (numb l n).2).2).1
def pN (l:List Int) (n:Nat):Nat:=(numb l (numb l (numb l n).2).2).2
theorem pN_bd (l:List Int) (n:Nat) (h:n≤l.length):pN l n≤l.length:=numb_bd l _ (numb_bd l _ (numb_bd l n h))
theorem d_point0 {l:List Int} {n:Nat} (hb: ∀x∈l,-9223372036854775808≤x∧x<9223372036854775808) (hl:l.length≤1000000) (hn:n≤l.length):
  CtrM Tryz.prog Amb 12 [.one (.ptr 900 0)] [(900,diceC l n,diceC l (pN l n))] (pt 2 (pX l n) (pY l n) (pZ l n)):=by
 have N1:=d_number (k:=900) hb hl hn
 have N2:=d_number (k:=900) hb hl (numb_bd l n hn)
 have N3:=d_number (k:=900) hb hl (numb_bd l _ (numb_bd l n hn))
 apply ctr_body Tryz.func12 rfl rfl rfl rfl rfl
 case hin=>simp [inA,inC]
 intro W0 base D μ0 hA hD
 repeat (first
  | refine aw_seq ?_ | refine aw_block ?_ | refine aw_condT rfl ?_ | refine aw_condF rfl ?_
  | (refine aw_plainK (by kernel_rfl) ?_
     repeat (first
      | refine v_move (hl:=?_)
      | refine v_store (hl:=?_)
      | refine v_alloc (hl:=?_)
      | refine v_buildS (hl:=?_)
      | refine v_buildA (hl:=?_)
      | refine v_callM hA (hc:=N1) (hl:=?_)
      | refine v_callM hA (hc:=N2) (hl:=?_)
      | refine v_callM hA (hc:=N3) (hl:=?_))
     apply RunK.nil)
  | refine aw_skip ?_ | refine aw_exit ?_)
 refine aw_ret (And.intro (Or.inr rfl) ?_)
 exact f_oneM
theorem d_point {l:List Int} {n k:Nat} (hb: ∀x∈l,-9223372036854775808≤x∧x<9223372036854775808) (hl:l.length≤1000000) (hn:n≤l.length):
  CtrM Tryz.prog Amb 12 [.one (.ptr k 0)] [(k,diceC l n,diceC l (pN l n))] (pt 2 (pX l n) (pY l n) (pZ l n)):=
 (d_point0 hb hl hn).at1 k rfl rfl
theorem w_unit0:Ctr Tryz.prog Amb 62 [.one (.v (.int .i64 0))] (pt 2 1 0 0):=by
 refine ctr_body Tryz.func62 rfl rfl rfl rfl rfl rfl ?_
 intro W0 base D μ0 hA hD
 repeat (first
  | refine aw_seq ?_ | refine aw_block ?_ | refine aw_condT rfl ?_ | refine aw_condF rfl ?_
  | (refine aw_plainK (by kernel_rfl) ?_
     repeat (first
      | refine v_move (hl:=?_)
      | refine v_load (hl:=?_)
      | refine v_store (hl:=?_)
      | refine v_alloc (hl:=?_)
      | refine v_indexAddr (hl:=?_)
      | refine v_call hA (hc:=r_one) (hl:=?_))
     apply RunK.nil)
  | refine aw_skip ?_ | refine aw_exit ?_)
 refine aw_ret (And.intro (Or.inr rfl) ?_)
 exact f_one
theorem w_unit1:Ctr Tryz.prog Amb 62 [.one (.v (.int .i64 1))] (pt 2 0 1 0):=by
 refine ctr_body Tryz.func62 rfl rfl rfl rfl rfl rfl ?_
 intro W0 base D μ0 hA hD
 repeat (first
  | refine aw_seq ?_ | refine aw_block ?_ | refine aw_condT rfl ?_ | refine aw_condF rfl ?_
  | (refine aw_plainK (by kernel_rfl) ?_
     repeat (first
      | refine v_move (hl:=?_)
      | refine v_load (hl:=?_)
      | refine v_store (hl:=?_)
      | refine v_alloc (hl:=?_)
      | refine v_indexAddr (hl:=?_)
      | refine v_call hA (hc:=r_one) (hl:=?_))
     apply RunK.nil)
  | refine aw_skip ?_ | refine aw_exit ?_)
 refine aw_ret (And.intro (Or.inr rfl) ?_)
 exact f_one
theorem w_unit2:Ctr Tryz.prog Amb 62 [.one (.v (.int .i64 2))] (pt 2 0 0 1):=by
 refine ctr_body Tryz.func62 rfl rfl rfl rfl rfl rfl ?_
 intro W0 base D μ0 hA hD
 repeat (first
  | refine aw_seq ?_ | refine aw_block ?_ | refine aw_condT rfl ?_ | refine aw_condF rfl ?_
  | (refine aw_plainK (by kernel_rfl) ?_
     repeat (first
      | refine v_move (hl:=?_)
      | refine v_load (hl:=?_)
      | refine v_store (hl:=?_)
      | refine v_alloc (hl:=?_)
      | refine v_indexAddr (hl:=?_)
      | refine v_call hA (hc:=r_one) (hl:=?_))
     apply RunK.nil)
  | refine aw_skip ?_ | refine aw_exit ?_)
 refine aw_ret (And.intro (Or.inr rfl) ?_)
 exact f_one
abbrev pln (j:Nat) (x y z:Rat) (k:Nat) (d:Rat):AV:= .agg [.q x j 0,.q x j 1,.q x j 2,.q y j 0,.q y j 1,.q y j 2,.q z j 0,.q z j 1,.q z j 2,.q d k 0,.q d k 1,.q d k 2]
section
variable {i j k m:Nat} {a b c x y z u v w d:Rat}
theorem v_zeroF (h1:a=0) (h2:b=0) (h3:c=1):Ctr Tryz.prog Amb 137 [pt j a b c] (.one (.v (.bool false))):=by
 refine ctr_body Tryz.func137 rfl rfl rfl rfl rfl rfl ?_
 intro W0 base D μ0 hA hD
 repeat (first
  | refine aw_seq ?_ | refine aw_block ?_ | refine aw_condT rfl ?_ | refine aw_condF rfl ?_ | refine aw_loopN 6 ?_
  | (refine aw_plainK (by kernel_rfl) ?_
     repeat (first
      | refine v_move (hl:=?_)
      | refine v_assign (hl:=?_)
      | refine v_load (hl:=?_)
      | refine v_box (hl:=?_)
      | refine v_binL (hl:=?_)
      | refine v_indexAddrTo 0 (hl:=?_)
      | refine v_indexAddrTo 3 (hl:=?_)
      | refine v_indexAddrTo 6 (hl:=?_)
      | refine v_indexAddr (hl:=?_)
      | refine v_boxAt 1000 (hl:=?_)
      | refine v_boxAt 2000 (hl:=?_)
      | refine v_call hA (hc:=c_sign0 h1) (hl:=?_)
      | refine v_call hA (hc:=c_sign0 h2) (hl:=?_)
      | refine v_call hA (hc:=c_sign1 h3) (hl:=?_))
     apply RunK.nil)
  | refine aw_skip ?_ | refine aw_exit ?_)
 refine aw_ret (And.intro (Or.inr rfl) ?_)
 exact f_one
theorem v_through (h1:j≤10000) (h2:k≤10000) (h3:m≤10000) (h:Ctr Tryz.prog Amb 137 [pt (k+j+3+(m+j+3)+2+(k+j+3+(m+j+3)+2)+3) ((y-b)*(w-c)-(z-c)*(v-b)) ((z-c)*(u-a)-(x-a)*(w-c)) ((x-a)*(v-b)-(y-b)*(u-a))] (.one (.v (.bool false)))):
  Ctr Tryz.prog Amb 63 [pt j a b c,pt k x y z,pt m u v w] (.tup [pln (k+j+3+(m+j+3)+2+(k+j+3+(m+j+3)+2)+3) ((y-b)*(w-c)-(z-c)*(v-b)) ((z-c)*(u-a)-(x-a)*(w-c)) ((x-a)*(v-b)-(y-b)*(u-a)) (3*(k+j+3+(m+j+3)+2+(k+j+3+(m+j+3)+2)+3+j)+15) (0+((y-b)*(w-c)-(z-c)*(v-b))*a+((z-c)*(u-a)-(x-a)*(w-c))*b+((x-a)*(v-b)-(y-b)*(u-a))*c),.one (.v (.int .i64 0))]):=by
 refine ctr_body Tryz.func63 rfl rfl rfl rfl rfl rfl ?_
 intro W0 base D μ0 hA hD
 repeat (first
  | refine aw_seq ?_ | refine aw_block ?_ | refine aw_condT rfl ?_ | refine aw_condF rfl ?_
  | ((first | refine aw_plainK (by kernel_rfl) ?_ | refine aw_drawK (by kernel_rfl) (by kernel_rfl) (by kernel_rfl) ?_)
     repeat (first
      | refine v_assign (hl:=?_)
      | refine v_load (hl:=?_)
      | refine v_store (hl:=?_)
      | refine v_box (hl:=?_)
      | refine v_alloc (hl:=?_)
      | refine v_buildS (hl:=?_)
      | refine v_buildA (hl:=?_)
      | (refine v_call hA (hc:=v_sub ?_ ?_) (hl:=?_);omega;omega)
      | (refine v_call hA (hc:=v_cross ?_ ?_) (hl:=?_);omega;omega)
      | refine v_call hA (hc:=h) (hl:=?_)
      | (refine v_call hA (hc:=v_dot ?_ ?_) (hl:=?_);omega;omega))
     apply RunK.nil;try refine And.intro (by kernel_rfl) ?_)
  | refine aw_skip ?_ | refine aw_exit ?_)
 refine aw_ret (And.intro (Or.inr rfl) ?_)
 exact f_two
theorem v_side (h1:j≤100000) (h2:k≤1000000) (h3:m≤100000) {n:Int} (h:cmpR (0+x*u+y*v+z*w) d=n):Ctr Tryz.prog Amb 66 [pln j x y z k d,pt m u v w] (.one (.v (.int .i64 n))):=by
 subst h
 refine ctr_body Tryz.func66 rfl rfl rfl rfl rfl rfl ?_
 intro W0 base D μ0 hA hD
 repeat (first
  | refine aw_seq ?_ | refine aw_block ?_ | refine aw_condT rfl ?_ | refine aw_condF rfl ?_
  | ((first | refine aw_plainK (by kernel_rfl) ?_ | refine aw_drawK (by kernel_rfl) (by kernel_rfl) (by kernel_rfl) ?_)
     repeat (first
      | refine v_assign (hl:=?_)
      | refine v_load (hl:=?_)
      | refine v_fieldAddr (hl:=?_)
      | refine v_box (hl:=?_)
      | (refine v_call hA (hc:=v_dot ?_ ?_) (hl:=?_);omega;omega)
      | (refine v_call hA (hc:=c_cmp ?_ ?_) (hl:=?_);omega;omega))
     apply RunK.nil;try refine And.intro (by kernel_rfl) ?_)
  | refine aw_skip ?_ | refine aw_exit ?_)
 refine aw_ret (And.intro (Or.inr rfl) ?_)
 exact f_one
theorem v_side1 (h1:j≤100000) (h2:k≤1000000) (h3:m≤100000) (h:d<0+x*u+y*v+z*w):Ctr Tryz.prog Amb 66 [pln j x y z k d,pt m u v w] (.one (.v (.int .i64 1))):=v_side h1 h2 h3 (cmp1 h)
theorem v_orient2 (h1:j≤10000) (h2:k≤10000) (h3:m≤10000) {n:Int} (h:cmpR ((x-a)*(v-b)) ((y-b)*(u-a))=n):Ctr Tryz.prog Amb 64 [pt j a b c,pt k x y z,pt m u v w] (.one (.v (.int .i64 n))):=by
 subst h
 have M1:=c_mul (j:=k+j+3) (k:=m+j+3) (x:=x-a) (y:=v-b) (by omega) (by omega)
 have M2:=c_mul (j:=k+j+3) (k:=m+j+3) (x:=y-b) (y:=u-a) (by omega) (by omega)
 have M3:=c_cmp (j:=k+j+3+(m+j+3)+2) (k:=k+j+3+(m+j+3)+2) (x:=(x-a)*(v-b)) (y:=(y-b)*(u-a)) (by omega) (by omega)
 refine ctr_body Tryz.func64 rfl rfl rfl rfl rfl rfl ?_
 intro W0 base D μ0 hA hD
 repeat (first
  | refine aw_seq ?_ | refine aw_block ?_ | refine aw_condT rfl ?_ | refine aw_condF rfl ?_ | refine aw_loopN 6 ?_
  | ((first | refine aw_plainK (by kernel_rfl) ?_ | refine aw_drawK (by kernel_rfl) (by kernel_rfl) (by kernel_rfl) ?_)
     repeat (first
      | refine v_move (hl:=?_)
      | refine v_assign (hl:=?_)
      | refine v_load (hl:=?_)
      | refine v_store (hl:=?_)
      | refine v_box (hl:=?_)
      | refine v_alloc (hl:=?_)
      | refine v_binL (hl:=?_)
      | refine v_indexAddrTo 0 (hl:=?_)
      | refine v_indexAddrTo 3 (hl:=?_)
      | refine v_indexAddrTo 6 (hl:=?_)
      | refine v_indexAddr (hl:=?_)
      | refine v_allocAt 1000 (hl:=?_)
      | refine v_boxAt 1000 (hl:=?_)
      | refine v_allocAt 2000 (hl:=?_)
      | refine v_boxAt 2000 (hl:=?_)
      | (refine v_call hA (hc:=c_sub ?_ ?_) (hl:=?_);omega;omega)
      | (apply u_call (dst:=some 36) hA (hc:=M1);(case hg=>trivial);(case hd=>rfl);(case hcl=>rfl);(case has=>exact Ents.of_eq (by kernel_rfl)))
      | (apply u_call (dst:=some 41) hA (hc:=M2);(case hg=>trivial);(case hd=>rfl);(case hcl=>rfl);(case has=>exact Ents.of_eq (by kernel_rfl)))
      | (apply u_call (dst:=some 42) hA (hc:=M3);(case hg=>trivial);(case hd=>rfl);(case hcl=>rfl);(case has=>exact Ents.of_eq (by kernel_rfl))))
     apply RunK.nil;try refine And.intro (by kernel_rfl) ?_)
  | refine aw_skip ?_ | refine aw_exit ?_)
 refine aw_ret (And.intro (Or.inr rfl) ?_)
 exact f_one
end
theorem awake_ok:Ctr Tryz.prog Amb 10 [] (.one (.v (.bool true))):=by
 have T:=v_through (j:=0) (k:=2) (m:=2) (a:=0) (b:=0) (c:=0) (x:=1) (y:=0) (z:=0) (u:=0) (v:=1) (w:=0) (by decide) (by decide) (by decide) (v_zeroF (by grind) (by grind) (by grind))
 have O:=v_orient2 (j:=0) (k:=2) (m:=2) (a:=0) (b:=0) (c:=0) (x:=1) (y:=0) (z:=0) (u:=0) (v:=1) (w:=0) (by decide) (by decide) (by decide) (cmp1 (by grind))
 refine ctr_body Tryz.func10 rfl rfl rfl rfl rfl rfl ?_
 intro W0 base D μ0 hA hD
 repeat (first
  | refine aw_seq ?_ | refine aw_block ?_ | refine aw_condT rfl ?_ | refine aw_condF rfl ?_
  | ((first | refine aw_plainK (by kernel_rfl) ?_ | refine aw_drawK (by kernel_rfl) (by kernel_rfl) (by kernel_rfl) ?_)
     repeat (first
      | refine v_skip (hl:=?_)
      | refine v_move (hl:=?_)
      | refine v_assign (hl:=?_)
      | refine v_load (hl:=?_)
      | refine v_fieldAddr (hl:=?_)
      | refine v_store (hl:=?_)
      | refine v_alloc (hl:=?_)
      | refine v_buildS (hl:=?_)
      | refine v_buildA (hl:=?_)
      | refine v_extract (hl:=?_)
      | refine v_bin (hl:=?_)
      | refine v_pickT (hl:=?_)
      | refine v_pickF (hl:=?_)
      | refine v_eqBool (hl:=?_)
      | refine v_call hA (hc:=w_unit0) (hl:=?_)
      | refine v_call hA (hc:=w_unit1) (hl:=?_)
      | refine v_call hA (hc:=w_unit2) (hl:=?_)
      | refine v_call hA (hc:=T) (hl:=?_)
      | refine v_call hA (hc:=O) (hl:=?_)
      | (refine v_call hA (hc:=w_sameT ?_ ?_ ?_) (hl:=?_);grind;grind;grind)
      | (refine v_call hA (hc:=v_cross ?_ ?_) (hl:=?_);omega;omega)
      | (refine v_call hA (hc:=v_add ?_ ?_) (hl:=?_);omega;omega)
      | (refine v_call hA (hc:=v_side1 ?_ ?_ ?_ ?_) (hl:=?_);omega;omega;omega;grind))
     apply RunK.nil;try refine And.intro (by kernel_rfl) ?_)
  | refine aw_skip ?_ | refine aw_exit ?_)
 refine aw_ret (And.intro (Or.inr rfl) ?_)
 exact f_one
end Go.Proofs.YtnkobfcnflphkaaGreatDoor
namespace Go.Proofs.YtnkobfcnflphkaaGreatDoor
open Go.RowKit
set_option linter.unusedVariables false
set_option linter.unusedSimpArgs false
set_option maxRecDepth 20000
set_option maxHeartbeats 2000000
abbrev ptC (j:Nat) (x:Rat) (k:Nat) (y:Rat) (m:Nat) (z:Rat):List C:= [.q x j 0,.q x j 1,.q x j 2,.q y k 0,.q y k 1,.q y k 2,.q z m 0,.q z m 1,.q z m 2]
section
variable {j k:Nat} {a b c x y z r:Rat}
theorem w_sub (h1:j≤1000000) (h2:k≤1000000):Ctr Tryz.prog Amb 89 [pt j a b c,pt k x y z] (pt (j+k+3) (a-x) (b-y) (c-z)):=by
 have S1:=r_sub (j:=j) (k:=k) (x:=a) (y:=x) (by omega) (by omega)
 have S2:=r_sub (j:=j) (k:=k) (x:=b) (y:=y) (by omega) (by omega)
 have S3:=r_sub (j:=j) (k:=k) (x:=c) (y:=z) (by omega) (by omega)
 refine ctr_body Tryz.func89 rfl rfl rfl rfl rfl rfl ?_
 intro W0 base D μ0 hA hD
 repeat (first
  | refine aw_seq ?_ | refine aw_block ?_ | refine aw_condT rfl ?_ | refine aw_condF rfl ?_
  | ((first | refine aw_plainK (by kernel_rfl) ?_ | refine aw_drawK (by kernel_rfl) (by kernel_rfl) (by kernel_rfl) ?_)
     repeat (first
      | refine v_move (hl:=?_)
      | refine v_assign (hl:=?_)
      | refine v_load (hl:=?_)
      | refine v_store (hl:=?_)
      | refine v_box (hl:=?_)
      | refine v_alloc (hl:=?_)
      | refine v_bin (hl:=?_)
      | refine v_indexAddr (hl:=?_)
      | refine v_loadF (hl:=?_))
     apply RunK.nil;try refine And.intro (by kernel_rfl) ?_)
  | refine aw_skip ?_ | refine aw_exit ?_)
 refine aw_loop (fun n σ=>(n=3∧Wk ⟨W0,base,D,20,[],μ0⟩ σ [(2,.one (.ptr 2 0)),(3,.one (.ptr 3 0)),(4,.one (.ptr 4 0)),(5,errV 0)] [(2,ptC j a j b j c),(3,ptC k x k y k z),(4,ptC 0 0 0 0 0 0)])∨(n=2∧Wk ⟨W0,base,D,20,[],μ0⟩ σ [(2,.one (.ptr 2 0)),(3,.one (.ptr 3 0)),(4,.one (.ptr 4 0)),(5,errV 1)] [(2,ptC (j+k+3) (a-x) j b j c),(3,ptC k x k y k z),(4,ptC 0 0 0 0 0 0)])∨(n=1∧Wk ⟨W0,base,D,20,[],μ0⟩ σ [(2,.one (.ptr 2 0)),(3,.one (.ptr 3 0)),(4,.one (.ptr 4 0)),(5,errV 2)] [(2,ptC (j+k+3) (a-x) (j+k+3) (b-y) j c),(3,ptC k x k y k z),(4,ptC 0 0 0 0 0 0)])∨(n=0∧Wk ⟨W0,base,D,20,[],μ0⟩ σ [(2,.one (.ptr 2 0)),(3,.one (.ptr 3 0)),(4,.one (.ptr 4 0)),(5,errV 3)] [(2,ptC (j+k+3) (a-x) (j+k+3) (b-y) (j+k+3) (c-z)),(3,ptC k x k y k z),(4,ptC 0 0 0 0 0 0)])) (n:=3) (.inl ⟨rfl,?_⟩) ?_
 ·exact wk_a
 intro n σ hI
 rcases hI with ⟨rfl,hw⟩ | ⟨rfl,hw⟩ | ⟨rfl,hw⟩ | ⟨rfl,hw⟩
 ·refine aw_wk hw ?_
  clear hw
  repeat (first
   | refine aw_seq ?_ | refine aw_block ?_ | refine aw_condT rfl ?_ | refine aw_condF rfl ?_
   | ((first | refine aw_plainK (by kernel_rfl) ?_ | refine aw_drawK (by kernel_rfl) (by kernel_rfl) (by kernel_rfl) ?_)
      repeat (first
       | refine v_move (hl:=?_)
       | refine v_assign (hl:=?_)
       | refine v_load (hl:=?_)
       | refine v_store (hl:=?_)
       | refine v_box (hl:=?_)
       | refine v_alloc (hl:=?_)
       | refine v_bin (hl:=?_)
       | refine v_indexAddr (hl:=?_)
       | refine v_loadF (hl:=?_)
       | refine v_callE hA (hc:=S1) (hl:=?_))
      apply RunK.nil;try refine And.intro (by kernel_rfl) ?_)
   | refine aw_skip ?_ | refine aw_exit ?_)
  refine ⟨2,by decide,.inr (.inl ⟨rfl,?_⟩)⟩
  exact wk_a
 ·refine aw_wk hw ?_
  clear hw
  repeat (first
   | refine aw_seq ?_ | refine aw_block ?_ | refine aw_condT rfl ?_ | refine aw_condF rfl ?_
   | ((first | refine aw_plainK (by kernel_rfl) ?_ | refine aw_drawK (by kernel_rfl) (by kernel_rfl) (by kernel_rfl) ?_)
      repeat (first
       | refine v_move (hl:=?_)
       | refine v_assign (hl:=?_)
       | refine v_load (hl:=?_)
       | refine v_store (hl:=?_)
       | refine v_box (hl:=?_)
       | refine v_alloc (hl:=?_)
       | refine v_bin (hl:=?_)
       | refine v_indexAddr (hl:=?_)
       | refine v_loadF (hl:=?_)
       | refine v_callE hA (hc:=S2) (hl:=?_))
      apply RunK.nil;try refine And.intro (by kernel_rfl) ?_)
   | refine aw_skip ?_ | refine aw_exit ?_)
  refine ⟨1,by decide,.inr (.inr (.inl ⟨rfl,?_⟩))⟩
  exact wk_a
 ·refine aw_wk hw ?_
  clear hw
  repeat (first
   | refine aw_seq ?_ | refine aw_block ?_ | refine aw_condT rfl ?_ | refine aw_condF rfl ?_
   | ((first | refine aw_plainK (by kernel_rfl) ?_ | refine aw_drawK (by kernel_rfl) (by kernel_rfl) (by kernel_rfl) ?_)
      repeat (first
       | refine v_move (hl:=?_)
       | refine v_assign (hl:=?_)
       | refine v_load (hl:=?_)
       | refine v_store (hl:=?_)
       | refine v_box (hl:=?_)
       | refine v_alloc (hl:=?_)
       | refine v_bin (hl:=?_)
       | refine v_indexAddr (hl:=?_)
       | refine v_loadF (hl:=?_)
       | refine v_callE hA (hc:=S3) (hl:=?_))
      apply RunK.nil;try refine And.intro (by kernel_rfl) ?_)
   | refine aw_skip ?_ | refine aw_exit ?_)
  refine ⟨0,by decide,.inr (.inr (.inr ⟨rfl,?_⟩))⟩
  exact wk_a
 ·refine aw_wk hw ?_
  clear hw
  repeat (first
   | refine aw_seq ?_ | refine aw_block ?_ | refine aw_condT rfl ?_ | refine aw_condF rfl ?_
   | ((first | refine aw_plainK (by kernel_rfl) ?_ | refine aw_drawK (by kernel_rfl) (by kernel_rfl) (by kernel_rfl) ?_)
      repeat (first
       | refine v_move (hl:=?_)
       | refine v_assign (hl:=?_)
       | refine v_load (hl:=?_)
       | refine v_store (hl:=?_)
       | refine v_box (hl:=?_)
       | refine v_alloc (hl:=?_)
       | refine v_bin (hl:=?_)
       | refine v_indexAddr (hl:=?_)
       | refine v_loadF (hl:=?_))
      apply RunK.nil;try refine And.intro (by kernel_rfl) ?_)
   | refine aw_skip ?_ | refine aw_exit ?_)
  refine aw_ret (And.intro (Or.inr rfl) ?_)
  exact f_one (hE:=(Ent.of_eq (by kernel_rfl)))
theorem w_add (h1:j≤1000000) (h2:k≤1000000):Ctr Tryz.prog Amb 91 [pt j a b c,pt k x y z] (pt (j+k+3) (a+x) (b+y) (c+z)):=by
 have S1:=r_add (j:=j) (k:=k) (x:=a) (y:=x) (by omega) (by omega)
 have S2:=r_add (j:=j) (k:=k) (x:=b) (y:=y) (by omega) (by omega)
 have S3:=r_add (j:=j) (k:=k) (x:=c) (y:=z) (by omega) (by omega)
 refine ctr_body Tryz.func91 rfl rfl rfl rfl rfl rfl ?_
 intro W0 base D μ0 hA hD
 repeat (first
  | refine aw_seq ?_ | refine aw_block ?_ | refine aw_condT rfl ?_ | refine aw_condF rfl ?_
  | ((first | refine aw_plainK (by kernel_rfl) ?_ | refine aw_drawK (by kernel_rfl) (by kernel_rfl) (by kernel_rfl) ?_)
     repeat (first
      | refine v_move (hl:=?_)
      | refine v_assign (hl:=?_)
      | refine v_load (hl:=?_)
      | refine v_store (hl:=?_)
      | refine v_box (hl:=?_)
      | refine v_alloc (hl:=?_)
      | refine v_bin (hl:=?_)
      | refine v_indexAddr (hl:=?_)
      | refine v_loadF (hl:=?_))
     apply RunK.nil;try refine And.intro (by kernel_rfl) ?_)
  | refine aw_skip ?_ | refine aw_exit ?_)
 refine aw_loop (fun n σ=>(n=3∧Wk ⟨W0,base,D,20,[],μ0⟩ σ [(2,.one (.ptr 2 0)),(3,.one (.ptr 3 0)),(4,.one (.ptr 4 0)),(5,errV 0)] [(2,ptC j a j b j c),(3,ptC k x k y k z),(4,ptC 0 0 0 0 0 0)])∨(n=2∧Wk ⟨W0,base,D,20,[],μ0⟩ σ [(2,.one (.ptr 2 0)),(3,.one (.ptr 3 0)),(4,.one (.ptr 4 0)),(5,errV 1)] [(2,ptC (j+k+3) (a+x) j b j c),(3,ptC k x k y k z),(4,ptC 0 0 0 0 0 0)])∨(n=1∧Wk ⟨W0,base,D,20,[],μ0⟩ σ [(2,.one (.ptr 2 0)),(3,.one (.ptr 3 0)),(4,.one (.ptr 4 0)),(5,errV 2)] [(2,ptC (j+k+3) (a+x) (j+k+3) (b+y) j c),(3,ptC k x k y k z),(4,ptC 0 0 0 0 0 0)])∨(n=0∧Wk ⟨W0,base,D,20,[],μ0⟩ σ [(2,.one (.ptr 2 0)),(3,.one (.ptr 3 0)),(4,.one (.ptr 4 0)),(5,errV 3)] [(2,ptC (j+k+3) (a+x) (j+k+3) (b+y) (j+k+3) (c+z)),(3,ptC k x k y k z),(4,ptC 0 0 0 0 0 0)])) (n:=3) (.inl ⟨rfl,?_⟩) ?_
 ·exact wk_a
 intro n σ hI
 rcases hI with ⟨rfl,hw⟩ | ⟨rfl,hw⟩ | ⟨rfl,hw⟩ | ⟨rfl,hw⟩
 ·refine aw_wk hw ?_
  clear hw
  repeat (first
   | refine aw_seq ?_ | refine aw_block ?_ | refine aw_condT rfl ?_ | refine aw_condF rfl ?_
   | ((first | refine aw_plainK (by kernel_rfl) ?_ | refine aw_drawK (by kernel_rfl) (by kernel_rfl) (by kernel_rfl) ?_)
      repeat (first
       | refine v_move (hl:=?_)
       | refine v_assign (hl:=?_)
       | refine v_load (hl:=?_)
       | refine v_store (hl:=?_)
       | refine v_box (hl:=?_)
       | refine v_alloc (hl:=?_)
       | refine v_bin (hl:=?_)
       | refine v_indexAddr (hl:=?_)
       | refine v_loadF (hl:=?_)
       | refine v_callE hA (hc:=S1) (hl:=?_))
      apply RunK.nil;try refine And.intro (by kernel_rfl) ?_)
   | refine aw_skip ?_ | refine aw_exit ?_)
  refine ⟨2,by decide,.inr (.inl ⟨rfl,?_⟩)⟩
  exact wk_a
 ·refine aw_wk hw ?_
  clear hw
  repeat (first
   | refine aw_seq ?_ | refine aw_block ?_ | refine aw_condT rfl ?_ | refine aw_condF rfl ?_
   | ((first | refine aw_plainK (by kernel_rfl) ?_ | refine aw_drawK (by kernel_rfl) (by kernel_rfl) (by kernel_rfl) ?_)
      repeat (first
       | refine v_move (hl:=?_)
       | refine v_assign (hl:=?_)
       | refine v_load (hl:=?_)
       | refine v_store (hl:=?_)
       | refine v_box (hl:=?_)
       | refine v_alloc (hl:=?_)
       | refine v_bin (hl:=?_)
       | refine v_indexAddr (hl:=?_)
       | refine v_loadF (hl:=?_)
       | refine v_callE hA (hc:=S2) (hl:=?_))
      apply RunK.nil;try refine And.intro (by kernel_rfl) ?_)
   | refine aw_skip ?_ | refine aw_exit ?_)
  refine ⟨1,by decide,.inr (.inr (.inl ⟨rfl,?_⟩))⟩
  exact wk_a
 ·refine aw_wk hw ?_
  clear hw
  repeat (first
   | refine aw_seq ?_ | refine aw_block ?_ | refine aw_condT rfl ?_ | refine aw_condF rfl ?_
   | ((first | refine aw_plainK (by kernel_rfl) ?_ | refine aw_drawK (by kernel_rfl) (by kernel_rfl) (by kernel_rfl) ?_)
      repeat (first
       | refine v_move (hl:=?_)
       | refine v_assign (hl:=?_)
       | refine v_load (hl:=?_)
       | refine v_store (hl:=?_)
       | refine v_box (hl:=?_)
       | refine v_alloc (hl:=?_)
       | refine v_bin (hl:=?_)
       | refine v_indexAddr (hl:=?_)
       | refine v_loadF (hl:=?_)
       | refine v_callE hA (hc:=S3) (hl:=?_))
      apply RunK.nil;try refine And.intro (by kernel_rfl) ?_)
   | refine aw_skip ?_ | refine aw_exit ?_)
  refine ⟨0,by decide,.inr (.inr (.inr ⟨rfl,?_⟩))⟩
  exact wk_a
 ·refine aw_wk hw ?_
  clear hw
  repeat (first
   | refine aw_seq ?_ | refine aw_block ?_ | refine aw_condT rfl ?_ | refine aw_condF rfl ?_
   | ((first | refine aw_plainK (by kernel_rfl) ?_ | refine aw_drawK (by kernel_rfl) (by kernel_rfl) (by kernel_rfl) ?_)
      repeat (first
       | refine v_move (hl:=?_)
       | refine v_assign (hl:=?_)
       | refine v_load (hl:=?_)
       | refine v_store (hl:=?_)
       | refine v_box (hl:=?_)
       | refine v_alloc (hl:=?_)
       | refine v_bin (hl:=?_)
       | refine v_indexAddr (hl:=?_)
       | refine v_loadF (hl:=?_))
      apply RunK.nil;try refine And.intro (by kernel_rfl) ?_)
   | refine aw_skip ?_ | refine aw_exit ?_)
  refine aw_ret (And.intro (Or.inr rfl) ?_)
  exact f_one (hE:=(Ent.of_eq (by kernel_rfl)))
theorem w_scale (h1:j≤1000000) (h2:k≤1000000):Ctr Tryz.prog Amb 92 [nm j r,pt k x y z] (pt (j+k+2) (r*x) (r*y) (r*z)):=by
 have S1:=r_mul (j:=j) (k:=k) (x:=r) (y:=x) (by omega) (by omega)
 have S2:=r_mul (j:=j) (k:=k) (x:=r) (y:=y) (by omega) (by omega)
 have S3:=r_mul (j:=j) (k:=k) (x:=r) (y:=z) (by omega) (by omega)
 refine ctr_body Tryz.func92 rfl rfl rfl rfl rfl rfl ?_
 intro W0 base D μ0 hA hD
 repeat (first
  | refine aw_seq ?_ | refine aw_block ?_ | refine aw_condT rfl ?_ | refine aw_condF rfl ?_
  | ((first | refine aw_plainK (by kernel_rfl) ?_ | refine aw_drawK (by kernel_rfl) (by kernel_rfl) (by kernel_rfl) ?_)
     repeat (first
      | refine v_move (hl:=?_)
      | refine v_assign (hl:=?_)
      | refine v_load (hl:=?_)
      | refine v_store (hl:=?_)
      | refine v_box (hl:=?_)
      | refine v_alloc (hl:=?_)
      | refine v_bin (hl:=?_)
      | refine v_indexAddr (hl:=?_)
      | refine v_loadF (hl:=?_))
     apply RunK.nil;try refine And.intro (by kernel_rfl) ?_)
  | refine aw_skip ?_ | refine aw_exit ?_)
 refine aw_loop (fun n σ=>(n=3∧Wk ⟨W0,base,D,18,[],μ0⟩ σ [(2,.one (.ptr 2 0)),(3,.one (.ptr 3 0)),(4,.one (.ptr 4 0)),(5,errV 0)] [(2,nmC j r),(3,ptC k x k y k z),(4,ptC 0 0 0 0 0 0)])∨(n=2∧Wk ⟨W0,base,D,18,[],μ0⟩ σ [(2,.one (.ptr 2 0)),(3,.one (.ptr 3 0)),(4,.one (.ptr 4 0)),(5,errV 1)] [(2,nmC j r),(3,ptC (j+k+2) (r*x) k y k z),(4,ptC 0 0 0 0 0 0)])∨(n=1∧Wk ⟨W0,base,D,18,[],μ0⟩ σ [(2,.one (.ptr 2 0)),(3,.one (.ptr 3 0)),(4,.one (.ptr 4 0)),(5,errV 2)] [(2,nmC j r),(3,ptC (j+k+2) (r*x) (j+k+2) (r*y) k z),(4,ptC 0 0 0 0 0 0)])∨(n=0∧Wk ⟨W0,base,D,18,[],μ0⟩ σ [(2,.one (.ptr 2 0)),(3,.one (.ptr 3 0)),(4,.one (.ptr 4 0)),(5,errV 3)] [(2,nmC j r),(3,ptC (j+k+2) (r*x) (j+k+2) (r*y) (j+k+2) (r*z)),(4,ptC 0 0 0 0 0 0)])) (n:=3) (.inl ⟨rfl,?_⟩) ?_
 ·exact wk_a
 intro n σ hI
 rcases hI with ⟨rfl,hw⟩ | ⟨rfl,hw⟩ | ⟨rfl,hw⟩ | ⟨rfl,hw⟩
 ·refine aw_wk hw ?_
  clear hw
  repeat (first
   | refine aw_seq ?_ | refine aw_block ?_ | refine aw_condT rfl ?_ | refine aw_condF rfl ?_
   | ((first | refine aw_plainK (by kernel_rfl) ?_ | refine aw_drawK (by kernel_rfl) (by kernel_rfl) (by kernel_rfl) ?_)
      repeat (first
       | refine v_move (hl:=?_)
       | refine v_assign (hl:=?_)
       | refine v_load (hl:=?_)
       | refine v_store (hl:=?_)
       | refine v_box (hl:=?_)
       | refine v_alloc (hl:=?_)
       | refine v_bin (hl:=?_)
       | refine v_indexAddr (hl:=?_)
       | refine v_loadF (hl:=?_)
       | refine v_callE hA (hc:=S1) (hl:=?_))
      apply RunK.nil;try refine And.intro (by kernel_rfl) ?_)
   | refine aw_skip ?_ | refine aw_exit ?_)
  refine ⟨2,by decide,.inr (.inl ⟨rfl,?_⟩)⟩
  exact wk_a
 ·refine aw_wk hw ?_
  clear hw
  repeat (first
   | refine aw_seq ?_ | refine aw_block ?_ | refine aw_condT rfl ?_ | refine aw_condF rfl ?_
   | ((first | refine aw_plainK (by kernel_rfl) ?_ | refine aw_drawK (by kernel_rfl) (by kernel_rfl) (by kernel_rfl) ?_)
      repeat (first
       | refine v_move (hl:=?_)
       | refine v_assign (hl:=?_)
       | refine v_load (hl:=?_)
       | refine v_store (hl:=?_)
       | refine v_box (hl:=?_)
       | refine v_alloc (hl:=?_)
       | refine v_bin (hl:=?_)
       | refine v_indexAddr (hl:=?_)
       | refine v_loadF (hl:=?_)
       | refine v_callE hA (hc:=S2) (hl:=?_))
      apply RunK.nil;try refine And.intro (by kernel_rfl) ?_)
   | refine aw_skip ?_ | refine aw_exit ?_)
  refine ⟨1,by decide,.inr (.inr (.inl ⟨rfl,?_⟩))⟩
  exact wk_a
 ·refine aw_wk hw ?_
  clear hw
  repeat (first
   | refine aw_seq ?_ | refine aw_block ?_ | refine aw_condT rfl ?_ | refine aw_condF rfl ?_
   | ((first | refine aw_plainK (by kernel_rfl) ?_ | refine aw_drawK (by kernel_rfl) (by kernel_rfl) (by kernel_rfl) ?_)
      repeat (first
       | refine v_move (hl:=?_)
       | refine v_assign (hl:=?_)
       | refine v_load (hl:=?_)
       | refine v_store (hl:=?_)
       | refine v_box (hl:=?_)
       | refine v_alloc (hl:=?_)
       | refine v_bin (hl:=?_)
       | refine v_indexAddr (hl:=?_)
       | refine v_loadF (hl:=?_)
       | refine v_callE hA (hc:=S3) (hl:=?_))
      apply RunK.nil;try refine And.intro (by kernel_rfl) ?_)
   | refine aw_skip ?_ | refine aw_exit ?_)
  refine ⟨0,by decide,.inr (.inr (.inr ⟨rfl,?_⟩))⟩
  exact wk_a
 ·refine aw_wk hw ?_
  clear hw
  repeat (first
   | refine aw_seq ?_ | refine aw_block ?_ | refine aw_condT rfl ?_ | refine aw_condF rfl ?_
   | ((first | refine aw_plainK (by kernel_rfl) ?_ | refine aw_drawK (by kernel_rfl) (by kernel_rfl) (by kernel_rfl) ?_)
      repeat (first
       | refine v_move (hl:=?_)
       | refine v_assign (hl:=?_)
       | refine v_load (hl:=?_)
       | refine v_store (hl:=?_)
       | refine v_box (hl:=?_)
       | refine v_alloc (hl:=?_)
       | refine v_bin (hl:=?_)
       | refine v_indexAddr (hl:=?_)
       | refine v_loadF (hl:=?_))
      apply RunK.nil;try refine And.intro (by kernel_rfl) ?_)
   | refine aw_skip ?_ | refine aw_exit ?_)
  refine aw_ret (And.intro (Or.inr rfl) ?_)
  exact f_one (hE:=(Ent.of_eq (by kernel_rfl)))
theorem w_dot (h1:j≤1000000) (h2:k≤1000000):Ctr Tryz.prog Amb 90 [pt j a b c,pt k x y z] (nm (0+(j+k+2)+3+(j+k+2)+3+(j+k+2)+3) (0+a*x+b*y+c*z)):=by
 have S1:=r_mul (j:=j) (k:=k) (x:=a) (y:=x) (by omega) (by omega)
 have S2:=r_mul (j:=j) (k:=k) (x:=b) (y:=y) (by omega) (by omega)
 have S3:=r_mul (j:=j) (k:=k) (x:=c) (y:=z) (by omega) (by omega)
 have A1:=r_add (j:=0) (k:=j+k+2) (x:=0) (y:=a*x) (by omega) (by omega)
 have A2:=r_add (j:=0+(j+k+2)+3) (k:=j+k+2) (x:=0+a*x) (y:=b*y) (by omega) (by omega)
 have A3:=r_add (j:=0+(j+k+2)+3+(j+k+2)+3) (k:=j+k+2) (x:=0+a*x+b*y) (y:=c*z) (by omega) (by omega)
 refine ctr_body Tryz.func90 rfl rfl rfl rfl rfl rfl ?_
 intro W0 base D μ0 hA hD
 repeat (first
  | refine aw_seq ?_ | refine aw_block ?_ | refine aw_condT rfl ?_ | refine aw_condF rfl ?_
  | ((first | refine aw_plainK (by kernel_rfl) ?_ | refine aw_drawK (by kernel_rfl) (by kernel_rfl) (by kernel_rfl) ?_)
     repeat (first
      | refine v_move (hl:=?_)
      | refine v_assign (hl:=?_)
      | refine v_load (hl:=?_)
      | refine v_store (hl:=?_)
      | refine v_box (hl:=?_)
      | refine v_alloc (hl:=?_)
      | refine v_bin (hl:=?_)
      | refine v_indexAddr (hl:=?_)
      | refine v_loadF (hl:=?_))
     apply RunK.nil;try refine And.intro (by kernel_rfl) ?_)
  | refine aw_skip ?_ | refine aw_exit ?_)
 refine aw_loop (fun n σ=>(n=3∧Wk ⟨W0,base,D,21,[],μ0⟩ σ [(2,.one (.ptr 2 0)),(3,.one (.ptr 3 0)),(4,.one (.ptr 4 0)),(5,.one (.ptr 5 0)),(6,errV 0)] [(2,ptC j a j b j c),(3,ptC k x k y k z),(4,nmC 0 0),(5,nmC 0 0)])∨(n=2∧Wk ⟨W0,base,D,21,[],μ0⟩ σ [(2,.one (.ptr 2 0)),(3,.one (.ptr 3 0)),(4,.one (.ptr 4 0)),(5,.one (.ptr 5 0)),(6,errV 1)] [(2,ptC j a j b j c),(3,ptC k x k y k z),(4,nmC 0 0),(5,nmC (0+(j+k+2)+3) (0+a*x))])∨(n=1∧Wk ⟨W0,base,D,21,[],μ0⟩ σ [(2,.one (.ptr 2 0)),(3,.one (.ptr 3 0)),(4,.one (.ptr 4 0)),(5,.one (.ptr 5 0)),(6,errV 2)] [(2,ptC j a j b j c),(3,ptC k x k y k z),(4,nmC 0 0),(5,nmC (0+(j+k+2)+3+(j+k+2)+3) (0+a*x+b*y))])∨(n=0∧Wk ⟨W0,base,D,21,[],μ0⟩ σ [(2,.one (.ptr 2 0)),(3,.one (.ptr 3 0)),(4,.one (.ptr 4 0)),(5,.one (.ptr 5 0)),(6,errV 3)] [(2,ptC j a j b j c),(3,ptC k x k y k z),(4,nmC 0 0),(5,nmC (0+(j+k+2)+3+(j+k+2)+3+(j+k+2)+3) (0+a*x+b*y+c*z))])) (n:=3) (.inl ⟨rfl,?_⟩) ?_
 ·exact wk_a
 intro n σ hI
 rcases hI with ⟨rfl,hw⟩ | ⟨rfl,hw⟩ | ⟨rfl,hw⟩ | ⟨rfl,hw⟩
 ·refine aw_wk hw ?_
  clear hw
  repeat (first
   | refine aw_seq ?_ | refine aw_block ?_ | refine aw_condT rfl ?_ | refine aw_condF rfl ?_
   | ((first | refine aw_plainK (by kernel_rfl) ?_ | refine aw_drawK (by kernel_rfl) (by kernel_rfl) (by kernel_rfl) ?_)
      repeat (first
       | refine v_move (hl:=?_)
       | refine v_assign (hl:=?_)
       | refine v_load (hl:=?_)
       | refine v_store (hl:=?_)
       | refine v_box (hl:=?_)
       | refine v_alloc (hl:=?_)
       | refine v_bin (hl:=?_)
       | refine v_indexAddr (hl:=?_)
       | refine v_loadF (hl:=?_)
       | refine v_callE hA (hc:=S1) (hl:=?_)
       | refine v_callE hA (hc:=A1) (hl:=?_))
      apply RunK.nil;try refine And.intro (by kernel_rfl) ?_)
   | refine aw_skip ?_ | refine aw_exit ?_)
  refine ⟨2,by decide,.inr (.inl ⟨rfl,?_⟩)⟩
  exact wk_a
 ·refine aw_wk hw ?_
  clear hw
  repeat (first
   | refine aw_seq ?_ | refine aw_block ?_ | refine aw_condT rfl ?_ | refine aw_condF rfl ?_
   | ((first | refine aw_plainK (by kernel_rfl) ?_ | refine aw_drawK (by kernel_rfl) (by kernel_rfl) (by kernel_rfl) ?_)
      repeat (first
       | refine v_move (hl:=?_)
       | refine v_assign (hl:=?_)
       | refine v_load (hl:=?_)
       | refine v_store (hl:=?_)
       | refine v_box (hl:=?_)
       | refine v_alloc (hl:=?_)
       | refine v_bin (hl:=?_)
       | refine v_indexAddr (hl:=?_)
       | refine v_loadF (hl:=?_)
       | refine v_callE hA (hc:=S2) (hl:=?_)
       | refine v_callE hA (hc:=A2) (hl:=?_))
      apply RunK.nil;try refine And.intro (by kernel_rfl) ?_)
   | refine aw_skip ?_ | refine aw_exit ?_)
  refine ⟨1,by decide,.inr (.inr (.inl ⟨rfl,?_⟩))⟩
  exact wk_a
 ·refine aw_wk hw ?_
  clear hw
  repeat (first
   | refine aw_seq ?_ | refine aw_block ?_ | refine aw_condT rfl ?_ | refine aw_condF rfl ?_
   | ((first | refine aw_plainK (by kernel_rfl) ?_ | refine aw_drawK (by kernel_rfl) (by kernel_rfl) (by kernel_rfl) ?_)
      repeat (first
       | refine v_move (hl:=?_)
       | refine v_assign (hl:=?_)
       | refine v_load (hl:=?_)
       | refine v_store (hl:=?_)
       | refine v_box (hl:=?_)
       | refine v_alloc (hl:=?_)
       | refine v_bin (hl:=?_)
       | refine v_indexAddr (hl:=?_)
       | refine v_loadF (hl:=?_)
       | refine v_callE hA (hc:=S3) (hl:=?_)
       | refine v_callE hA (hc:=A3) (hl:=?_))
      apply RunK.nil;try refine And.intro (by kernel_rfl) ?_)
   | refine aw_skip ?_ | refine aw_exit ?_)
  refine ⟨0,by decide,.inr (.inr (.inr ⟨rfl,?_⟩))⟩
  exact wk_a
 ·refine aw_wk hw ?_
  clear hw
  repeat (first
   | refine aw_seq ?_ | refine aw_block ?_ | refine aw_condT rfl ?_ | refine aw_condF rfl ?_
   | ((first | refine aw_plainK (by kernel_rfl) ?_ | refine aw_drawK (by kernel_rfl) (by kernel_rfl) (by kernel_rfl) ?_)
      repeat (first
       | refine v_move (hl:=?_)
       | refine v_assign (hl:=?_)
       | refine v_load (hl:=?_)
       | refine v_store (hl:=?_)
       | refine v_box (hl:=?_)
       | refine v_alloc (hl:=?_)
       | refine v_bin (hl:=?_)
       | refine v_indexAddr (hl:=?_)
       | refine v_loadF (hl:=?_))
      apply RunK.nil;try refine And.intro (by kernel_rfl) ?_)
   | refine aw_skip ?_ | refine aw_exit ?_)
  refine aw_ret (And.intro (Or.inr rfl) ?_)
  exact f_one
end
end Go.Proofs.YtnkobfcnflphkaaGreatDoor
namespace Go.Proofs.YtnkobfcnflphkaaGreatDoor
open Go.RowKit
set_option linter.unusedVariables false
set_option linter.unusedSimpArgs false
set_option maxRecDepth 20000
set_option maxHeartbeats 4000000
abbrev dt (a b c x y z:Rat):Rat:=0+a*x+b*y+c*z
def segQ (a b c x y z u v w:Rat):Rat:=
 if sgnR (dt (x-a) (y-b) (z-c) (u-a) (v-b) (w-c))≤0 then dt (u-a) (v-b) (w-c) (u-a) (v-b) (w-c)
 else if cmpR (dt (x-a) (y-b) (z-c) (u-a) (v-b) (w-c)) (dt (x-a) (y-b) (z-c) (x-a) (y-b) (z-c))≥0 then dt (u-x) (v-y) (w-z) (u-x) (v-y) (w-z)
 else dt (u-a) (v-b) (w-c) (u-a) (v-b) (w-c)-dt (x-a) (y-b) (z-c) (u-a) (v-b) (w-c)*dt (x-a) (y-b) (z-c) (u-a) (v-b) (w-c)/dt (x-a) (y-b) (z-c) (x-a) (y-b) (z-c)
theorem seg_n0 {p n:Rat} (h1: ¬sgnR p≤0) (h2: ¬cmpR p n≥0):n≠0:=by
 intro h
 subst h
 rw [ge_iff_le,←sgn_cmp] at h2
 omega
theorem seg_foot {X Y Z U V W p n s:Rat} (hp:p=dt U V W X Y Z) (hn:n=dt X Y Z X Y Z) (hs:s*n=p):dt (U-s*X) (V-s*Y) (W-s*Z) (U-s*X) (V-s*Y) (W-s*Z)=dt U V W U V W-s*p:=by
 have:dt (U-s*X) (V-s*Y) (W-s*Z) (U-s*X) (V-s*Y) (W-s*Z)=dt U V W U V W-2*s*dt U V W X Y Z+s*(s*dt X Y Z X Y Z):=by grind
 rw [this,←hn,←hp,hs]
 grind
section
variable {a b c x y z u v w:Rat}
theorem v_segment:Ctr Tryz.prog Amb 20 [pt 2 a b c,pt 2 x y z,pt 2 u v w] (nm 1000 (segQ a b c x y z u v w)):=by
 have S1:=v_sub (j:=2) (k:=2) (a:=x) (b:=y) (c:=z) (x:=a) (y:=b) (z:=c) (by decide) (by decide)
 have S2:=v_sub (j:=2) (k:=2) (a:=u) (b:=v) (c:=w) (x:=a) (y:=b) (z:=c) (by decide) (by decide)
 have S3:=v_sub (j:=2) (k:=2) (a:=u) (b:=v) (c:=w) (x:=x) (y:=y) (z:=z) (by decide) (by decide)
 have D1:=v_dot (j:=2+2+3) (k:=2+2+3) (a:=x-a) (b:=y-b) (c:=z-c) (x:=u-a) (y:=v-b) (z:=w-c) (by decide) (by decide)
 have D2:=v_dot (j:=2+2+3) (k:=2+2+3) (a:=x-a) (b:=y-b) (c:=z-c) (x:=x-a) (y:=y-b) (z:=z-c) (by decide) (by decide)
 have D3:=v_dot (j:=2+2+3) (k:=2+2+3) (a:=u-a) (b:=v-b) (c:=w-c) (x:=u-a) (y:=v-b) (z:=w-c) (by decide) (by decide)
 have D4:=v_dot (j:=2+2+3) (k:=2+2+3) (a:=u-x) (b:=v-y) (c:=w-z) (x:=u-x) (y:=v-y) (z:=w-z) (by decide) (by decide)
 obtain ⟨J,hJ⟩: ∃J,J=3*(2+2+3+(2+2+3))+15:=⟨_,rfl⟩
 rw [←hJ] at D1 D2 D3 D4
 replace hJ:J=57:=hJ
 unfold segQ
 unfold dt
 generalize 0+(x-a)*(u-a)+(y-b)*(v-b)+(z-c)*(w-c)=p at*
 generalize 0+(x-a)*(x-a)+(y-b)*(y-b)+(z-c)*(z-c)=n at*
 generalize 0+(u-a)*(u-a)+(v-b)*(v-b)+(w-c)*(w-c)=e at*
 generalize 0+(u-x)*(u-x)+(v-y)*(v-y)+(w-z)*(w-z)=f at*
 generalize x-a=X at*
 generalize y-b=Y at*
 generalize z-c=Z at*
 generalize u-a=U at*
 generalize v-b=V at*
 generalize w-c=W at*
 generalize u-x=U2 at*
 generalize v-y=V2 at*
 generalize w-z=W2 at*
 have G1:=c_sign (j:=J) (x:=p)
 have G2:=c_cmp (j:=J) (k:=J) (x:=p) (y:=n) (by omega) (by omega)
 have T1:=c_sign (j:=0) (x:=p)
 by_cases h1:sgnR p≤0
 ·have b1:=binLe (k:= .i64) (decide_eq_true h1)
  rw [if_pos h1]
  refine ctr_body Tryz.func20 rfl rfl rfl rfl rfl rfl ?_
  intro W0 base D μ0 hA hD
  repeat (first
   | refine aw_seq ?_ | refine aw_block ?_ | refine aw_condT rfl ?_ | refine aw_condF rfl ?_
   | ((first | refine aw_plainK (by kernel_rfl) ?_ | refine aw_drawK (by kernel_rfl) (by kernel_rfl) (by kernel_rfl) ?_)
      repeat (first
       | refine v_move (hl:=?_)
       | refine v_assign (hl:=?_)
       | refine v_load (hl:=?_)
       | refine v_store (hl:=?_)
       | refine v_box (hl:=?_)
       | refine v_alloc (hl:=?_)
       | refine v_extract (hl:=?_)
       | refine v_bin (hl:=?_)
       | refine v_loadF (hl:=?_)
       | refine v_callE hA (hc:=S1) (hl:=?_)
       | refine v_callE hA (hc:=S2) (hl:=?_)
       | refine v_callE hA (hc:=D1) (hl:=?_)
       | refine v_callE hA (hc:=D2) (hl:=?_)
       | refine v_callE hA (hc:=D3) (hl:=?_)
       | refine v_callE hA (hc:=G1) (hl:=?_))
      apply RunK.nil;try refine And.intro (by kernel_rfl) ?_)
   | refine aw_skip ?_ | refine aw_exit ?_)
  refine aw_wk (ss:= [(6,.one (.ptr 6 0))]) (bs:= [(6,nmC 1000 e)]) ?_ ?_
  ·exact wk_a
  refine aw_ret (And.intro (Or.inr rfl) ?_)
  exact f_one
 ·have b1:=binLe (k:= .i64) (decide_eq_false h1)
  rw [if_neg h1]
  by_cases h2:cmpR p n≥0
  ·have b2:=binGe (k:= .i64) (decide_eq_true h2)
   rw [if_pos h2]
   refine ctr_body Tryz.func20 rfl rfl rfl rfl rfl rfl ?_
   intro W0 base D μ0 hA hD
   repeat (first
    | refine aw_seq ?_ | refine aw_block ?_ | refine aw_condT rfl ?_ | refine aw_condF rfl ?_
    | ((first | refine aw_plainK (by kernel_rfl) ?_ | refine aw_drawK (by kernel_rfl) (by kernel_rfl) (by kernel_rfl) ?_)
       repeat (first
        | refine v_move (hl:=?_)
        | refine v_assign (hl:=?_)
        | refine v_load (hl:=?_)
        | refine v_store (hl:=?_)
        | refine v_box (hl:=?_)
        | refine v_alloc (hl:=?_)
        | refine v_extract (hl:=?_)
        | refine v_bin (hl:=?_)
        | refine v_loadF (hl:=?_)
        | refine v_callE hA (hc:=S1) (hl:=?_)
        | refine v_callE hA (hc:=S2) (hl:=?_)
        | refine v_callE hA (hc:=D1) (hl:=?_)
        | refine v_callE hA (hc:=D2) (hl:=?_)
        | refine v_callE hA (hc:=G1) (hl:=?_)
        | refine v_callE hA (hc:=G2) (hl:=?_)
        | refine v_callE hA (hc:=S3) (hl:=?_)
        | refine v_callE hA (hc:=D4) (hl:=?_))
       apply RunK.nil;try refine And.intro (by kernel_rfl) ?_)
    | refine aw_skip ?_ | refine aw_exit ?_)
   refine aw_wk (ss:= [(6,.one (.ptr 6 0))]) (bs:= [(6,nmC 1000 f)]) ?_ ?_
   ·exact wk_a
   refine aw_ret (And.intro (Or.inr rfl) ?_)
   exact f_one
  ·have b2:=binGe (k:= .i64) (decide_eq_false h2)
   rw [if_neg h2]
   have hn:=seg_n0 h1 h2
   have M1:=c_mul (j:=J) (k:=J) (x:=p) (y:=p) (by omega) (by omega)
   have Q1:=c_quo (j:=J+J+2) (k:=J) (x:=p*p) (y:=n) (by omega) (by omega) hn
   have U1:=c_sub (j:=J) (k:=J+J+2+J+2) (x:=e) (y:=p*p/n) (by omega) (by omega)
   refine ctr_body Tryz.func20 rfl rfl rfl rfl rfl rfl ?_
   intro W0 base D μ0 hA hD
   repeat (first
    | refine aw_seq ?_ | refine aw_block ?_ | refine aw_condT rfl ?_ | refine aw_condF rfl ?_
    | ((first | refine aw_plainK (by kernel_rfl) ?_ | refine aw_drawK (by kernel_rfl) (by kernel_rfl) (by kernel_rfl) ?_)
       repeat (first
        | refine v_move (hl:=?_)
        | refine v_assign (hl:=?_)
        | refine v_load (hl:=?_)
        | refine v_store (hl:=?_)
        | refine v_box (hl:=?_)
        | refine v_alloc (hl:=?_)
        | refine v_extract (hl:=?_)
        | refine v_bin (hl:=?_)
        | refine v_loadF (hl:=?_)
        | refine v_callE hA (hc:=S1) (hl:=?_)
        | refine v_callE hA (hc:=S2) (hl:=?_)
        | refine v_callE hA (hc:=D1) (hl:=?_)
        | refine v_callE hA (hc:=D2) (hl:=?_)
        | refine v_callE hA (hc:=G1) (hl:=?_)
        | refine v_callE hA (hc:=G2) (hl:=?_)
        | refine v_callE hA (hc:=D3) (hl:=?_)
        | refine v_callE hA (hc:=M1) (hl:=?_)
        | refine v_callE hA (hc:=Q1) (hl:=?_)
        | refine v_callE hA (hc:=U1) (hl:=?_))
       apply RunK.nil;try refine And.intro (by kernel_rfl) ?_)
    | refine aw_skip ?_ | refine aw_exit ?_)
   refine aw_wk (ss:= [(6,.one (.ptr 6 0))]) (bs:= [(6,nmC 1000 (e-p*p/n))]) ?_ ?_
   ·exact wk_a
   refine aw_ret (And.intro (Or.inr rfl) ?_)
   exact f_one
theorem w_segment:Ctr Tryz.prog Amb 21 [pt 2 a b c,pt 2 x y z,pt 2 u v w] (nm 1000 (segQ a b c x y z u v w)):=by
 have S1:=w_sub (j:=2) (k:=2) (a:=x) (b:=y) (c:=z) (x:=a) (y:=b) (z:=c) (by decide) (by decide)
 have S2:=w_sub (j:=2) (k:=2) (a:=u) (b:=v) (c:=w) (x:=a) (y:=b) (z:=c) (by decide) (by decide)
 have S3:=w_sub (j:=2) (k:=2) (a:=u) (b:=v) (c:=w) (x:=x) (y:=y) (z:=z) (by decide) (by decide)
 have D1:=w_dot (j:=2+2+3) (k:=2+2+3) (a:=u-a) (b:=v-b) (c:=w-c) (x:=x-a) (y:=y-b) (z:=z-c) (by decide) (by decide)
 have D2:=w_dot (j:=2+2+3) (k:=2+2+3) (a:=x-a) (b:=y-b) (c:=z-c) (x:=x-a) (y:=y-b) (z:=z-c) (by decide) (by decide)
 have D3:=w_dot (j:=2+2+3) (k:=2+2+3) (a:=u-a) (b:=v-b) (c:=w-c) (x:=u-a) (y:=v-b) (z:=w-c) (by decide) (by decide)
 have D4:=w_dot (j:=2+2+3) (k:=2+2+3) (a:=u-x) (b:=v-y) (c:=w-z) (x:=u-x) (y:=v-y) (z:=w-z) (by decide) (by decide)
 obtain ⟨J,hJ⟩: ∃J,J=0+(2+2+3+(2+2+3)+2)+3+(2+2+3+(2+2+3)+2)+3+(2+2+3+(2+2+3)+2)+3:=⟨_,rfl⟩
 rw [←hJ] at D1 D2 D3 D4
 replace hJ:J=57:=hJ
 rw [show 0+(u-a)*(x-a)+(v-b)*(y-b)+(w-c)*(z-c)=0+(x-a)*(u-a)+(y-b)*(v-b)+(z-c)*(w-c) by grind] at D1
 have hpn: ∀s:Rat,s*dt (x-a) (y-b) (z-c) (x-a) (y-b) (z-c)=dt (x-a) (y-b) (z-c) (u-a) (v-b) (w-c)→dt (u-(a+s*(x-a))) (v-(b+s*(y-b))) (w-(c+s*(z-c))) (u-(a+s*(x-a))) (v-(b+s*(y-b))) (w-(c+s*(z-c)))=dt (u-a) (v-b) (w-c) (u-a) (v-b) (w-c)-s*dt (x-a) (y-b) (z-c) (u-a) (v-b) (w-c):=fun s hs=>by
  have h:=seg_foot (U:=u-a) (V:=v-b) (W:=w-c) (X:=x-a) (Y:=y-b) (Z:=z-c) (s:=s) (p:=dt (x-a) (y-b) (z-c) (u-a) (v-b) (w-c)) (by grind) rfl hs
  rw [show u-(a+s*(x-a))=u-a-s*(x-a) by grind,show v-(b+s*(y-b))=v-b-s*(y-b) by grind,show w-(c+s*(z-c))=w-c-s*(z-c) by grind]
  exact h
 unfold segQ
 unfold dt at hpn⊢
 generalize 0+(x-a)*(u-a)+(y-b)*(v-b)+(z-c)*(w-c)=p at*
 generalize 0+(x-a)*(x-a)+(y-b)*(y-b)+(z-c)*(z-c)=n at*
 generalize 0+(u-a)*(u-a)+(v-b)*(v-b)+(w-c)*(w-c)=e at*
 generalize 0+(u-x)*(u-x)+(v-y)*(v-y)+(w-z)*(w-z)=f at*
 generalize x-a=X at*
 generalize y-b=Y at*
 generalize z-c=Z at*
 generalize u-a=U at*
 generalize v-b=V at*
 generalize w-c=W at*
 generalize u-x=U2 at*
 generalize v-y=V2 at*
 generalize w-z=W2 at*
 have G1:=r_sign (j:=J) (x:=p)
 have G2:=r_cmp (j:=J) (k:=J) (x:=p) (y:=n) (by omega) (by omega)
 by_cases h1:sgnR p≤0
 ·have b1:=binLe (k:= .i64) (decide_eq_true h1)
  rw [if_pos h1]
  refine ctr_body Tryz.func21 rfl rfl rfl rfl rfl rfl ?_
  intro W0 base D μ0 hA hD
  repeat (first
   | refine aw_seq ?_ | refine aw_block ?_ | refine aw_condT rfl ?_ | refine aw_condF rfl ?_
   | ((first | refine aw_plainK (by kernel_rfl) ?_ | refine aw_drawK (by kernel_rfl) (by kernel_rfl) (by kernel_rfl) ?_)
      repeat (first
       | refine v_load (hl:=?_)
       | refine v_store (hl:=?_)
       | refine v_box (hl:=?_)
       | refine v_alloc (hl:=?_)
       | refine v_bin (hl:=?_)
       | refine v_loadF (hl:=?_)
       | refine v_callE hA (hc:=S1) (hl:=?_)
       | refine v_callE hA (hc:=S2) (hl:=?_)
       | refine v_callE hA (hc:=D1) (hl:=?_)
       | refine v_callE hA (hc:=D2) (hl:=?_)
       | refine v_callE hA (hc:=D3) (hl:=?_)
       | refine v_callE hA (hc:=G1) (hl:=?_))
      apply RunK.nil;try refine And.intro (by kernel_rfl) ?_)
   | refine aw_skip ?_ | refine aw_exit ?_)
  refine aw_wk (ss:= [(6,.one (.ptr 6 0))]) (bs:= [(6,nmC 1000 e)]) ?_ ?_
  ·exact wk_a
  refine aw_ret (And.intro (Or.inr rfl) ?_)
  exact f_one
 ·have b1:=binLe (k:= .i64) (decide_eq_false h1)
  rw [if_neg h1]
  by_cases h2:cmpR p n≥0
  ·have b2:=binGe (k:= .i64) (decide_eq_true h2)
   rw [if_pos h2]
   refine ctr_body Tryz.func21 rfl rfl rfl rfl rfl rfl ?_
   intro W0 base D μ0 hA hD
   repeat (first
    | refine aw_seq ?_ | refine aw_block ?_ | refine aw_condT rfl ?_ | refine aw_condF rfl ?_
    | ((first | refine aw_plainK (by kernel_rfl) ?_ | refine aw_drawK (by kernel_rfl) (by kernel_rfl) (by kernel_rfl) ?_)
       repeat (first
        | refine v_load (hl:=?_)
        | refine v_store (hl:=?_)
        | refine v_box (hl:=?_)
        | refine v_alloc (hl:=?_)
        | refine v_bin (hl:=?_)
        | refine v_loadF (hl:=?_)
        | refine v_callE hA (hc:=S1) (hl:=?_)
        | refine v_callE hA (hc:=S2) (hl:=?_)
        | refine v_callE hA (hc:=D1) (hl:=?_)
        | refine v_callE hA (hc:=D2) (hl:=?_)
        | refine v_callE hA (hc:=G1) (hl:=?_)
        | refine v_callE hA (hc:=G2) (hl:=?_)
        | refine v_callE hA (hc:=S3) (hl:=?_)
        | refine v_callE hA (hc:=D4) (hl:=?_))
       apply RunK.nil;try refine And.intro (by kernel_rfl) ?_)
    | refine aw_skip ?_ | refine aw_exit ?_)
   refine aw_wk (ss:= [(6,.one (.ptr 6 0))]) (bs:= [(6,nmC 1000 f)]) ?_ ?_
   ·exact wk_a
   refine aw_ret (And.intro (Or.inr rfl) ?_)
   exact f_one
  ·have b2:=binGe (k:= .i64) (decide_eq_false h2)
   rw [if_neg h2]
   have hn:=seg_n0 h1 h2
   have hs:p/n*n=p:=by grind
   have hfin:=hpn (p/n) hs
   rw [show p/n*p=p*p/n by grind] at hfin
   have O1:=r_over (j:=J) (k:=J) (x:=p) (y:=n) (by omega) (by omega) hn
   have C1:=w_scale (j:=J+J+2) (k:=2+2+3) (r:=p/n) (x:=X) (y:=Y) (z:=Z) (by omega) (by decide)
   have A1:=w_add (j:=2) (k:=J+J+2+(2+2+3)+2) (a:=a) (b:=b) (c:=c) (x:=p/n*X) (y:=p/n*Y) (z:=p/n*Z) (by decide) (by omega)
   have U1:=w_sub (j:=2) (k:=2+(J+J+2+(2+2+3)+2)+3) (a:=u) (b:=v) (c:=w) (x:=a+p/n*X) (y:=b+p/n*Y) (z:=c+p/n*Z) (by decide) (by omega)
   have D5:=w_dot (j:=2+(2+(J+J+2+(2+2+3)+2)+3)+3) (k:=2+(2+(J+J+2+(2+2+3)+2)+3)+3) (a:=u-(a+p/n*X)) (b:=v-(b+p/n*Y)) (c:=w-(c+p/n*Z)) (x:=u-(a+p/n*X)) (y:=v-(b+p/n*Y)) (z:=w-(c+p/n*Z)) (by omega) (by omega)
   rw [hfin] at D5
   clear hpn hfin hs
   refine ctr_body Tryz.func21 rfl rfl rfl rfl rfl rfl ?_
   intro W0 base D μ0 hA hD
   repeat (first
    | refine aw_seq ?_ | refine aw_block ?_ | refine aw_condT rfl ?_ | refine aw_condF rfl ?_
    | ((first | refine aw_plainK (by kernel_rfl) ?_ | refine aw_drawK (by kernel_rfl) (by kernel_rfl) (by kernel_rfl) ?_)
       repeat (first
        | refine v_load (hl:=?_)
        | refine v_store (hl:=?_)
        | refine v_box (hl:=?_)
        | refine v_alloc (hl:=?_)
        | refine v_bin (hl:=?_)
        | refine v_loadF (hl:=?_)
        | refine v_callE hA (hc:=S1) (hl:=?_)
        | refine v_callE hA (hc:=S2) (hl:=?_)
        | refine v_callE hA (hc:=D1) (hl:=?_)
        | refine v_callE hA (hc:=D2) (hl:=?_)
        | refine v_callE hA (hc:=G1) (hl:=?_)
        | refine v_callE hA (hc:=G2) (hl:=?_)
        | refine v_callE hA (hc:=O1) (hl:=?_)
        | refine v_callE hA (hc:=C1) (hl:=?_)
        | refine v_callE hA (hc:=A1) (hl:=?_)
        | refine v_callE hA (hc:=U1) (hl:=?_)
        | refine v_callE hA (hc:=D5) (hl:=?_))
       apply RunK.nil;try refine And.intro (by kernel_rfl) ?_)
    | refine aw_skip ?_ | refine aw_exit ?_)
   refine aw_wk (ss:= [(6,.one (.ptr 6 0))]) (bs:= [(6,nmC 1000 (e-p*p/n))]) ?_ ?_
   ·exact wk_a
   refine aw_ret (And.intro (Or.inr rfl) ?_)
   exact f_one
end
end Go.Proofs.YtnkobfcnflphkaaGreatDoor
