/-
  Several texts in one: Sf, Sg.
-/
import Derived.Test.YteiibidmicgjoaaGreatDoorGo
import Derived.Test.YteiibidmicgjoaaGreatDoorSe
namespace Go.Proofs.YteiibidmicgjoaaGreatDoor
open Go.RowKit
set_option linter.unusedVariables false
set_option linter.unusedSimpArgs false
set_option maxRecDepth 100000
def lfPow:Leaf:=fun args st C=>match args with
 | [.one (.i .i64 n)]=>decide (-20000≤n)&&decide (n≤20000)&&numK (ratN (twoPow n)) fun z=>C [(one (numA z 1000),st)]
 | _=>false
def lfAbove:Leaf:=fun args st C=>match args with
 | [a,.one (.i .i64 k)]=>(match numOf a with
   | some (n,j)=>small j&&decide (0≤k)&&decide (k≤10000)&&(match numQ n with
     | some x=>Nat.ble (bitsN x.num.natAbs) 10000&&Nat.ble (bitsN (dnOf x)) 10000&&numK (ratN (twoPow (aboveE x k))) fun z=>C [(one (numA z 1000),st)]
     | none=>false)
   | none=>false)
 | _=>false
theorem lfPow_ok {E:Env} :LfOk Tryz.prog Amb E 140 lfPow:=fun args st C hC=>by
 replace hC:(match (generalizing:=false) args with
  | [.one (.i .i64 n)]=>decide (-20000≤n)&&decide (n≤20000)&&numK (ratN (twoPow n)) fun z=>C [(one (numA z 1000),st)]
  | _=>false)=true:=hC
 split at hC
 ·rename_i n
  simp only [Bool.and_eq_true,numK_eq,decide_eq_true_eq] at hC
  obtain ⟨⟨h1,h2⟩,hC⟩:=hC
  refine ⟨_,hC,fun hs=>⟨_,List.mem_singleton.2 rfl,hs,rfl,rfl,callOk_one inferInstance ?_⟩⟩
  show Ctr Tryz.prog Amb _ [.one (.v (.int .i64 n))] (nm 1000 ((ratN (twoPow n)).ev E.V))
  rw [ratN_ev]
  exact s_pow h1 h2
 ·cases hC
theorem lfAbove_ok {E:Env} :LfOk Tryz.prog Amb E 165 lfAbove:=fun args st C hC=>by
 replace hC:(match (generalizing:=false) args with
  | [a,.one (.i .i64 k)]=>(match numOf a with
    | some (n,j)=>small j&&decide (0≤k)&&decide (k≤10000)&&(match numQ n with
      | some x=>Nat.ble (bitsN x.num.natAbs) 10000&&Nat.ble (bitsN (dnOf x)) 10000&&numK (ratN (twoPow (aboveE x k))) fun z=>C [(one (numA z 1000),st)]
      | none=>false)
    | none=>false)
  | _=>false)=true:=hC
 split at hC
 ·rename_i a k
  split at hC
  ·rename_i n j ha
   simp only [Bool.and_eq_true,decide_eq_true_eq] at hC
   obtain ⟨⟨⟨h1,h2⟩,h3⟩,hC⟩:=hC
   split at hC
   ·rename_i x hx
    simp only [Bool.and_eq_true,numK_eq] at hC
    obtain ⟨⟨h4,h5⟩,hC⟩:=hC
    refine ⟨_,hC,fun hs=>⟨_,List.mem_singleton.2 rfl,hs,rfl,rfl,callOk_one inferInstance ?_⟩⟩
    have hm:=s_above (j:=j) (x:=x) (k:=k) (small_ok h1) h2 h3 (Nat.le_of_ble_eq_true h4) (Nat.le_of_ble_eq_true h5)
    have e:=numOf_ok (E:=E) ha
    rw [numQ_ok hx] at e
    show Ctr Tryz.prog Amb _ [aK E a,.one (.v (.int .i64 k))] (nm 1000 ((ratN (twoPow (aboveE x k))).ev E.V))
    rw [ratN_ev]
    exact CtrM.weak hm (.cons e (.cons Ent.same .nil)) Ent.same
   ·cases hC
  ·cases hC
 ·cases hC
def spanEx:List (Nat×Leaf):=
 (140,lfPow)::
 (165,lfAbove):: []
theorem spanEx_ok:ExOk spanEx:=fun E _ p hp=>by
 unfold spanEx at hp
 rcases List.mem_cons.1 hp with rfl | hp
 ·exact lfPow_ok
 ·rcases List.mem_cons.1 hp with rfl | hp
  ·exact lfAbove_ok
  ·cases hp
end Go.Proofs.YteiibidmicgjoaaGreatDoor
namespace Go.Proofs.YteiibidmicgjoaaGreatDoor
open Go.RowKit
set_option maxRecDepth 10000000
theorem aw3:AwOk [10]:=awake_ex inferInstance spanEx_ok (by kernel_rfl)
end Go.Proofs.YteiibidmicgjoaaGreatDoor
