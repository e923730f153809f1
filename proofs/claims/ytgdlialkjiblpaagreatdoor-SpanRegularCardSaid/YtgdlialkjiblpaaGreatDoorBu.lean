/-
  Several texts in one: Rq9, Rqa, Qva, Rva, Vv.
-/
import Derived.Test.YtgdlialkjiblpaaGreatDoorBr
import Derived.Test.YtgdlialkjiblpaaGreatDoorBg
import Derived.Test.YtgdlialkjiblpaaGreatDoorBs
import Derived.Test.YtgdlialkjiblpaaGreatDoorBk
import Derived.Test.YtgdlialkjiblpaaGreatDoorBv
namespace Go.Proofs.YtgdlialkjiblpaaGreatDoor
open Go.RowKit
theorem floor_parts (x:Rat):ratOf (decide (x.num<0)) (x.num.natAbs/x.den+(if decide (x.num<0)=true∧x.num.natAbs % x.den≠0 then 1 else 0)) 1=(x.floor:Rat):=by
 have h:=round_down x 0
 unfold roundQ downR downN at h
 simp only [Nat.pow_zero,Nat.mul_one,Int.natCast_one,Int.mul_one] at h
 rw [h,Rat.mkRat_one,Rat.floor_def]
theorem sz_pow2 {n k:Nat} (h:n<32*k):Sz k (2^n):=by
 refine length_toL_le _ k ?_
 have h32:(4294967296:Nat)^k=2^(32*k):=by rw [Nat.pow_mul]
 rw [h32]
 exact Nat.pow_lt_pow_right (by decide) h
theorem sz_pow {n:Nat} (h:n≤4096):Sz 129 (2^n):=sz_pow2 (by omega)
theorem natCast_ratOf (n:Nat):ratOf false n 1=(n:Rat):=by
 unfold ratOf sg
 rw [if_neg (by decide),Rat.mkRat_one]
 rfl
theorem rsz_floor {k:Nat} {x:Rat} (h:RSz k x):RSz (k+1) (x.floor:Rat):=by
 rw [←floor_parts x]
 refine RSz.of_mkRat ?_ (Nat.le_trans (length_toL_le 1 1 (by decide)) (by omega)) (by decide)
 rw [sg_natAbs]
 have h1:Sz k (x.num.natAbs/x.den):=h.1.le (Nat.div_le_self _ _)
 by_cases hk:k=0
 ·subst hk
  have h2:=h.1
  have h0:x.num.natAbs=0:=by
   unfold Sz at h2
   exact (toL_nil_iff _).1 (List.length_eq_zero_iff.1 (by omega))
  rw [h0]
  simp only [Nat.zero_div,Nat.zero_mod]
  exact length_toL_le _ 1 (by simp)
 ·have h2:Sz k 1:=Nat.le_trans (length_toL_le 1 1 (by decide)) (by omega)
  refine (h1.plus h2).le ?_
  split<;>omega
end Go.Proofs.YtgdlialkjiblpaaGreatDoor
namespace Go.Proofs.YtgdlialkjiblpaaGreatDoor
open Go.RowKit
theorem rsz_down {j:Nat} {x:Rat} (h:RSz j x) (k:Nat) (hk:k≤4096):RSz (j+131) (downR x k):=by
 have hp:RSz 129 ((2^k:Nat):Rat):=by
  rw [←natCast_ratOf]
  refine RSz.of_mkRat ?_ (Nat.le_trans (length_toL_le 1 1 (by decide)) (by omega)) (by decide)
  rw [sg_natAbs]
  exact sz_pow hk
 have hf:=rsz_floor (h.mul hp)
 rw [downR_floor]
 generalize hz:(x*((2^k:Nat):Rat)).floor=z at*
 rw [←Rat.mkRat_eq_div]
 have h1:Sz (j+129+1) z.natAbs:=by simpa using hf.1
 exact RSz.of_mkRat (h1.mono (by omega)) ((sz_pow hk).mono (by omega)) (Nat.ne_of_gt (Nat.pow_pos (by decide)))
end Go.Proofs.YtgdlialkjiblpaaGreatDoor
namespace Go.Proofs.YtgdlialkjiblpaaGreatDoor
open Go.RowKit
end Go.Proofs.YtgdlialkjiblpaaGreatDoor
namespace Go.Proofs.YtgdlialkjiblpaaGreatDoor
open Go.RowKit
end Go.Proofs.YtgdlialkjiblpaaGreatDoor
namespace Go.Proofs.YtgdlialkjiblpaaGreatDoor
open Go.RowKit
end Go.Proofs.YtgdlialkjiblpaaGreatDoor
