/-
  Several texts in one: Qh.
-/
import Derived.Test.YtfineedhebhpaaaGreatDoorBl
namespace Go.Proofs.YtfineedhebhpaaaGreatDoor
open Lib renaming hid→Yt
set_option maxHeartbeats 16000000
open Go.RowKit
theorem Kp.al {w0 w:World} (h:Kp w0 w) (o:Obj):Kp w0 (w.alloc o):=h.tr (Kp.alloc w o)
theorem Kp.dr {w0 w:World} (h:Kp w0 w):Kp w0 w.drew:=h.drew
set_option maxRecDepth 20000 in
theorem Ly {w:World} {s:Bool} {num den:Value} {n k:Nat} (hn:M w num n) (hk:M w den k) (h:2<(toL n).length∨2<(toL k).length):
  Calls Tryz.prog 222 #[.agg #[.bool s,num,den]] w fun e w'=>e= .returned (.tuple #[Cx false 0 0,.bool false])∧Kp w w':=by
 obtain ⟨ao,ac,rfl,a1,a2,_,_⟩:=hn
 obtain ⟨bo,bc,rfl,b1,b2,_,_⟩:=hk
 unfold maxLen at a2 b2
 obtain ⟨la,hla⟩: ∃l,l=(toL n).length:=⟨_,rfl⟩
 obtain ⟨lb,hlb⟩: ∃l,l=(toL k).length:=⟨_,rfl⟩
 rw [←hla] at a1 h⊢
 rw [←hlb] at b1 h⊢
 have KA: ∀o1 o2 o3:Obj,Kp w (((w.alloc o1).alloc o2).alloc o3):=fun o1 o2 o3=>((Kp.alloc w o1).tr (Kp.alloc _ o2)).tr (Kp.alloc _ o3)
 have KB: ∀o1 o2:Obj,Kp w ((w.alloc o1).alloc o2):=fun o1 o2=>(Kp.alloc w o1).tr (Kp.alloc _ o2)
 have HKA:=Yt KA
 have HKB:=Yt KB
 unfold Cx
 clear hla hlb KA KB
 by_cases h1:2<la
 all_goals
  try have h2:2<lb:=by omega
  go_enter Tryz.func222,Tryz.ntmps222
  go_wp2
  exact bodyPost_ret (v:= .tuple #[.agg #[.bool false,.int .u64 0,.int .u64 0],.bool false]) (by simp [results,Tryz.results222,go_sem]) rfl ⟨rfl,HKB.out _ _⟩
set_option maxRecDepth 20000 in
theorem M6 {w:World} {s:Bool} {num den:Value} {n k:Nat} (hn:M w num n) (hk:M w den k) (h1:(toL n).length≤2) (h2:(toL k).length≤2) (h0:k=0):
  Calls Tryz.prog 222 #[.agg #[.bool s,num,den]] w fun e w'=>e= .returned (.tuple #[Cx s n (if k=0 then 1 else k),.bool true])∧Kp w w':=by
 have HWA:=Yt (fun w' (kk:Kp w w')=>G0 num (toL n) w' (hn.kp kk) h1)
 have HWB:=Yt (fun w' (kk:Kp w w')=>G0 den (toL k) w' (hk.kp kk) h2)
 rw [Ar] at HWA HWB
 have hk0:(toL k).length=0↔k=0:=⟨fun h=>(AU k).1 (List.length_eq_zero_iff.1 h),fun h=>by rw [h,Az];rfl⟩
 obtain ⟨ao,ac,rfl,a1,a2,_,_⟩:=hn
 obtain ⟨bo,bc,rfl,b1,b2,_,_⟩:=hk
 unfold maxLen at a2 b2
 obtain ⟨la,hla⟩: ∃l,l=(toL n).length:=⟨_,rfl⟩
 obtain ⟨lb,hlb⟩: ∃l,l=(toL k).length:=⟨_,rfl⟩
 rw [←hla] at a1 h1 HWA⊢
 rw [←hlb] at b1 h2 hk0 HWB⊢
 have KB: ∀o1 o2:Obj,Kp w ((w.alloc o1).alloc o2):=fun o1 o2=>(Kp.alloc w o1).tr (Kp.alloc _ o2)
 have HKB:=Yt KB
 unfold Cx
 clear hla hlb KB
 have hf1:(decide ((2:Int)<(la:Int)))=false:=decide_eq_false (by omega)
 have hf2:(decide ((2:Int)<(lb:Int)))=false:=decide_eq_false (by omega)
 have hl0:=hk0.2 h0
 subst hl0
 rw [if_pos h0]
 clear hk0 HWB h0
 go_enter Tryz.func222,Tryz.ntmps222
 go_upto_region 3 with fail
 go_cut [4] (fun s4 wx=>s4= .pointer (some ⟨w.heap.size+1+1,0,none⟩)∧wx=(((w.alloc (Obj.cells #[.bool s,.slice ao la ac,.slice bo 0 bc] 34)).alloc (Obj.cells #[.bool false,.int .u64 0,.int .u64 0] 170)).alloc (Obj.cells #[.bool s,.int .u64 (n:Nat),.int .u64 1] 170)).drew)
 case first=>
  go_region_with (go_at_call 259;first
   | ((refine (HWA.out _ ?_).mono ?_);(repeat first|exact Below.refl _ _|apply Kp.dr|apply Kp.al);rintro e w1 ⟨rfl,rfl⟩))
  all_goals go_wp2_with fail
  all_goals (go_meet;exact ⟨rfl,rfl⟩)
 case rest=>
  obtain ⟨rfl,rfl⟩:=hcut
  go_wp2_with fail
  go_region_with (fail)
  all_goals go_wp2
  all_goals exact bodyPost_ret (v:= .tuple #[.agg #[.bool s,.int .u64 (n:Nat),.int .u64 1],.bool true]) (by simp [results,Tryz.results222,go_sem]) rfl ⟨rfl,by repeat first|exact Below.refl _ _|apply Kp.dr|apply Kp.al⟩
set_option maxRecDepth 20000 in
theorem Lz {w:World} {s:Bool} {num den:Value} {n k:Nat} (hn:M w num n) (hk:M w den k) (h1:(toL n).length≤2) (h2:(toL k).length≤2) (h0:k≠0):
  Calls Tryz.prog 222 #[.agg #[.bool s,num,den]] w fun e w'=>e= .returned (.tuple #[Cx s n (if k=0 then 1 else k),.bool true])∧Kp w w':=by
 have HWA:=Yt (fun w' (kk:Kp w w')=>G0 num (toL n) w' (hn.kp kk) h1)
 have HWB:=Yt (fun w' (kk:Kp w w')=>G0 den (toL k) w' (hk.kp kk) h2)
 rw [Ar] at HWA HWB
 have hk0:(toL k).length=0↔k=0:=⟨fun h=>(AU k).1 (List.length_eq_zero_iff.1 h),fun h=>by rw [h,Az];rfl⟩
 obtain ⟨ao,ac,rfl,a1,a2,_,_⟩:=hn
 obtain ⟨bo,bc,rfl,b1,b2,_,_⟩:=hk
 unfold maxLen at a2 b2
 obtain ⟨la,hla⟩: ∃l,l=(toL n).length:=⟨_,rfl⟩
 obtain ⟨lb,hlb⟩: ∃l,l=(toL k).length:=⟨_,rfl⟩
 rw [←hla] at a1 h1 HWA⊢
 rw [←hlb] at b1 h2 hk0 HWB⊢
 have KB: ∀o1 o2:Obj,Kp w ((w.alloc o1).alloc o2):=fun o1 o2=>(Kp.alloc w o1).tr (Kp.alloc _ o2)
 have HKB:=Yt KB
 unfold Cx
 clear hla hlb KB
 have hf1:(decide ((2:Int)<(la:Int)))=false:=decide_eq_false (by omega)
 have hf2:(decide ((2:Int)<(lb:Int)))=false:=decide_eq_false (by omega)
 have hl0:0<lb:=by
  rcases Nat.eq_zero_or_pos lb with e|e
  ·exact absurd (hk0.1 e) h0
  ·exact e
 rw [if_neg h0]
 have hk1:((k:Int) !=0)=true:=by rw [bne_iff_ne];omega
 clear hk0 h0
 go_enter Tryz.func222,Tryz.ntmps222
 go_upto_region 3 with fail
 go_cut [4] (fun s4 wx=>s4= .pointer (some ⟨w.heap.size+1+1,0,none⟩)∧wx=(((w.alloc (Obj.cells #[.bool s,.slice ao la ac,.slice bo lb bc] 34)).alloc (Obj.cells #[.bool false,.int .u64 0,.int .u64 0] 170)).alloc (Obj.cells #[.bool s,.int .u64 (n:Nat),.int .u64 1] 170)).drew)
 case first=>
  go_region_with (go_at_call 259;first
   | ((refine (HWA.out _ ?_).mono ?_);(repeat first|exact Below.refl _ _|apply Kp.dr|apply Kp.al);rintro e w1 ⟨rfl,rfl⟩))
  all_goals go_wp2_with fail
  all_goals (go_meet;exact ⟨rfl,rfl⟩)
 case rest=>
  obtain ⟨rfl,rfl⟩:=hcut
  go_wp2_with (go_at_call 259;(refine (HWB.out _ ?_).mono ?_);(repeat first|exact Below.refl _ _|apply Kp.dr|apply Kp.al);rintro e w1 ⟨rfl,rfl⟩)
  go_region_with (fail)
  all_goals go_wp2
  all_goals exact bodyPost_ret (v:= .tuple #[.agg #[.bool s,.int .u64 (n:Nat),.int .u64 (k:Nat)],.bool true]) (by simp [results,Tryz.results222,go_sem]) rfl ⟨rfl,by repeat first|exact Below.refl _ _|apply Kp.dr|apply Kp.al⟩
theorem EK {w:World} {s:Bool} {num den:Value} {n k:Nat} (hn:M w num n) (hk:M w den k):
  Calls Tryz.prog 222 #[.agg #[.bool s,num,den]] w fun e w'=> ∃(s':Bool) (n' d':Nat) (ok:Bool),e= .returned (.tuple #[Cx s' n' d',.bool ok])∧n'<18446744073709551616∧d'<18446744073709551616∧(ok=true→s'=s∧n'=n∧d'=(if k=0 then 1 else k))∧Kp w w':=by
 by_cases h:2<(toL n).length∨2<(toL k).length
 ·refine (Ly hn hk h).mono ?_
  rintro e w' ⟨he,kk⟩
  exact ⟨false,0,0,false,he,by omega,by omega,fun h=>(by cases h),kk⟩
 ·have h1:(toL n).length≤2:=by omega
  have h2:(toL k).length≤2:=by omega
  have hb:(if k=0 then 1 else k)<18446744073709551616:=by
   split
   ·omega
   ·exact FJ h2
  by_cases h0:k=0
  ·refine (M6 hn hk h1 h2 h0).mono ?_
   rintro e w' ⟨he,kk⟩
   exact ⟨s,n,_,true,he,FJ h1,hb,fun _=>⟨rfl,rfl,rfl⟩,kk⟩
  ·refine (Lz hn hk h1 h2 h0).mono ?_
   rintro e w' ⟨he,kk⟩
   exact ⟨s,n,_,true,he,FJ h1,hb,fun _=>⟨rfl,rfl,rfl⟩,kk⟩
end Go.Proofs.YtfineedhebhpaaaGreatDoor
