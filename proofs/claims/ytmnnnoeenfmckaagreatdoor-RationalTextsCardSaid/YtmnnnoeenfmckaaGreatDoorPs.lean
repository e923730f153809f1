/-
  What a text of a number is read as: the specification of rational.Parse.
-/
import Derived.Test.YtmnnnoeenfmckaaGreatDoorBp
import Derived.Test.YtmnnnoeenfmckaaGreatDoorBw
namespace Go.Proofs.YtmnnnoeenfmckaaGreatDoor
open Go.RowKit

/-- n times a power of 10, which may be negative. -/
def tenR (neg : Bool) (n : Nat) (pw : Int) : Rat := if pw < 0 then ratOf neg n (10 ^ pw.natAbs) else ratOf neg (n * 10 ^ pw.natAbs) 1
def longR (X : Rat) : Bool := decide (2048 < max (bitsN X.num.natAbs) (bitsN X.den))
def sizedR (X : Rat) : Int × Rat := if longR X = true then (2, 0) else (0, X)
def endR (neg : Bool) (n : Nat) (p : Int) (q : List UInt8) : Int × Rat := if expOk q = true then sizedR (tenR neg n (p + expV q)) else (4, 0)
def slashR (neg : Bool) (d r : List UInt8) : Int × Rat :=
  if r.takeWhile isDig = [] ∨ r.dropWhile isDig ≠ [] then (4, 0) else if dval (r.takeWhile isDig) = 0 then (3, 0) else sizedR (ratOf neg (dval d) (dval (r.takeWhile isDig)))
def dotR (neg : Bool) (d r : List UInt8) : Int × Rat :=
  if r.takeWhile isDig = [] then (4, 0) else endR neg (dval (d ++ r.takeWhile isDig)) (-((r.takeWhile isDig).length : Int)) (r.dropWhile isDig)
def bodyR (neg : Bool) (d q : List UInt8) : Int × Rat :=
  if d = [] then (4, 0) else if Lib.hasPrefix q [47] = true then slashR neg d (Lib.trimPrefix q [47]) else if Lib.hasPrefix q [46] = true then dotR neg d (Lib.trimPrefix q [46]) else endR neg (dval d) 0 q
/-- The code and the number. -/
def parseR (s : List UInt8) : Int × Rat :=
  if 4096 < s.length then (2, 0) else bodyR (Lib.hasPrefix s [45]) ((Lib.trimPrefix s [45]).takeWhile isDig) ((Lib.trimPrefix s [45]).dropWhile isDig)
end Go.Proofs.YtmnnnoeenfmckaaGreatDoor
