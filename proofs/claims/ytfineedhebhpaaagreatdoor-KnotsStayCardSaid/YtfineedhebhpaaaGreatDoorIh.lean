/-
  Several texts in one: Zdd, Zch, Zci.
-/
import Derived.Test.YtfineedhebhpaaaGreatDoorIe
import Derived.Test.YtfineedhebhpaaaGreatDoorIg
import Derived.Test.YtfineedhebhpaaaGreatDoorHy
import Derived.Test.YtfineedhebhpaaaGreatDoorIf
import Derived.Test.YtfineedhebhpaaaGreatDoorIb
import Derived.Test.YtfineedhebhpaaaGreatDoorGs
namespace Go.Proofs.YtfineedhebhpaaaGreatDoor
open Go.RowKit
set_option linter.unusedVariables false
set_option linter.unusedSimpArgs false
set_option maxRecDepth 20000
set_option maxHeartbeats 1000000
section
variable {n:Nat→Rat} {p d q jn jt:Nat} {t:Rat}
end
theorem Kns.hd {l:List Rat} {p e:Nat} {t0 u:Rat} {mid:List (Rat×Nat)} (h:Kns l p t0 u mid) (he:p≤e) (he2:e+p+1<l.length) (hlt:l.getD e 0<l.getD (e+1) 0): ∀s j,s<p→j<p-s→kn l p e (p+j)-kn l p e (s+j)≠0:=fun s j hs hj=>by
 have:=h.near he he2 hlt (a:=e+1-p+(s+j)) (b:=e+1-p+(p+j)) (by omega) (by omega) (by omega)
 show l.getD (e+1-p+(p+j)) 0-l.getD (e+1-p+(s+j)) 0≠0
 grind
theorem RE {j1 j2:Nat} {a b:Rat} {n:Int} (h1: -9223372036854775808≤n) (h2:n<9223372036854775808) (h3:j1≤10000) (h4:j2≤10000):Ctr Tryz.prog Amb 75 [.agg [.q a j1 0,.q a j1 1,.q a j1 2,.q b j2 0,.q b j2 1,.q b j2 2],.one (.v (.int .i64 n))] (nm (j1+(2+(j2+j1+3)+2)+3) (a+E7 n*(b-a))):=by
 have P1:=Wz h1 h2
 have S1:=WT (j:=j2) (k:=j1) (x:=b) (y:=a) (by omega) (by omega)
 have M1:=WU (j:=2) (k:=j2+j1+3) (x:=E7 n) (y:=b-a) (by omega) (by omega)
 have A1:=ME (j:=j1) (k:=2+(j2+j1+3)+2) (x:=a) (y:=E7 n*(b-a)) (by omega) (by omega)
 refine AK Tryz.func75 rfl rfl rfl rfl rfl rfl ?_
 intro W0 base D μ0 hA hD
 repeat (first
  | refine Aj ?_|refine Ae ?_|refine Ac rfl ?_|refine Ad rfl ?_
  | ((first|refine An (by kernel_rfl) ?_|refine Az (by kernel_rfl) (by kernel_rfl) (by kernel_rfl) ?_)
     repeat (first
      | refine Aq (hl:=?_)
      | refine AA (hl:=?_)
      | refine Dk (hl:=?_)
      | refine Ay (hl:=?_)
      | refine Ct (hl:=?_)
      | refine AG (hl:=?_)
      | refine Ap hA (hc:=P1) (hl:=?_)
      | refine Ap hA (hc:=S1) (hl:=?_)
      | refine Ap hA (hc:=M1) (hl:=?_)
      | refine Ap hA (hc:=A1) (hl:=?_))
     apply Ab.nil;try refine And.intro (by kernel_rfl) ?_)
  | refine Ag ?_|refine Ah ?_)
 refine AU (And.intro (Or.inr rfl) ?_)
 exact Cw
section
variable {K C X:List Rat} {p j jc jt:Nat} {t0 u t:Rat} {mid:List (Rat×Nat)}
theorem Kns.ivR_in (hk:Kns K p t0 u mid) (h1:t0≤t) (h2:t≤u): ∃e:Nat,Vy K p t e∧ivR K t= [Au (e:Nat),Au 0]:=by
 obtain ⟨e,he,hi⟩:=hk.iv h1 h2
 refine ⟨e,he,?_⟩
 unfold ivR
 rw [hi,hk.lst,if_neg]
 rintro (h|h)
 ·omega
 ·exact Rat.not_lt.2 h2 h
end
end Go.Proofs.YtfineedhebhpaaaGreatDoor
