/-
  brepkernellaw02.RationalTexts: by the contracts.
-/
import Derived.Test.YtmnnnoeenfmckaaGreatDoorReg
import Derived.Test.YtmnnnoeenfmckaaGreatDoorRw
import Derived.Test.YtmnnnoeenfmckaaGreatDoorBq
import Derived.Test.YtmnnnoeenfmckaaGreatDoorBr
import Derived.Test.YtmnnnoeenfmckaaGreatDoorQg2
import Derived.Test.YtmnnnoeenfmckaaGreatDoorRps
namespace Go.Proofs.YtmnnnoeenfmckaaGreatDoor
open Go.RowKit

set_option maxRecDepth 20000 in
set_option maxHeartbeats 4000000 in
theorem texts_no1 {w : World} {sa : Bool} {ua ub : Value} {n1 d1 : List Nat} (hua : Rd w ua n1) (hub : Rd w ub d1) (t : ByteArray) (hn : ¬ (n1.length ≤ 16 ∧ d1.length ≤ 16)) (htab : Lib.TabIs Tryz.prog w "internal/strconv.uint64pow10" .u64 Lib.pow10Tab) (hZ : Tz w) :
    Calls Tryz.prog 8 #[.agg #[.bool sa, ua, ub], .string t] w fun e w' => e = .returned (.bool true) ∧ Kp w w' := by
  have HTB := Lib.hid (Lib.tabBelow_of_tabIs htab)
  have HZ := Lib.hid hZ
  have CAW := Lib.hid (fun w' (kk : Kp w w') (t : Tz w') => qawake_any w' t (tabKp HTB.out kk))
  have CL1 := Lib.hid (fun w' (kk : Kp w w') => qlight_no (s := sa) (hua.kp kk) (hub.kp kk) hn)
  obtain ⟨xo1, xl1, xc1, rfl⟩ := rd_slice hua
  obtain ⟨xo2, xl2, xc2, rfl⟩ := rd_slice hub
  have HT := Lib.hid (Rw1.new w (.bool sa) (.slice xo1 xl1 xc1) (.slice xo2 xl2 xc2))
  clear hua hub htab hZ hn
  go_enter Tryz.func8, Tryz.ntmps8
  have Z_e := Lib.hid (HZ.out.kp HT.out.k)
  obtain ⟨xz0, xz1, xz2⟩ := HT.out.ra.cells
  go_wp2_with (go_at_call 13; (with_reducible refine (CL1.out _ HT.out.k).mono ?_); rintro e w2 ⟨rfl, k2⟩; refine Hid.out ?_)
  refine Lib.hid ?_
  have T_2 := Lib.hid (HT.out.kp k2)
  have Z_2 := Lib.hid (Z_e.out.kp k2)
  clear HT Z_e
  clear k2
  obtain ⟨xz0, xz1, xz2⟩ := T_2.out.ra.cells
  go_wp2_with (go_at_call 14; (with_reducible refine (CAW.out _ T_2.out.k Z_2.out).mono ?_); rintro e w3 ⟨rfl, k3⟩; refine Hid.out ?_)
  refine Lib.hid ?_
  have T_3 := Lib.hid (T_2.out.kp k3)
  have Z_3 := Lib.hid (Z_2.out.kp k3)
  clear T_2 Z_2
  clear k3
  obtain ⟨xz0, xz1, xz2⟩ := T_3.out.ra.cells
  go_wp2
  go_ret
  exact ⟨rfl, T_3.out.k⟩

set_option maxRecDepth 20000 in
set_option maxHeartbeats 4000000 in
theorem texts_great {w : World} {sa : Bool} {ua ub : Value} {n1 d1 : List Nat} (hua : Rd w ua n1) (hub : Rd w ub d1) (t : ByteArray) (hs : 300 < t.size ∧ t.size ≤ 4096) (hl : (n1.length ≤ 16 ∧ d1.length ≤ 16)) (htab : Lib.TabIs Tryz.prog w "internal/strconv.uint64pow10" .u64 Lib.pow10Tab) (hZ : Tz w) :
    Calls Tryz.prog 8 #[.agg #[.bool sa, ua, ub], .string t] w fun e w' => e = .returned (.bool true) ∧ Kp w w' := by
  have HTB := Lib.hid (Lib.tabBelow_of_tabIs htab)
  have HZ := Lib.hid hZ
  have CAW := Lib.hid (fun w' (kk : Kp w w') (t : Tz w') => qawake_any w' t (tabKp HTB.out kk))
  have hl1 := hl
  have CL1 := Lib.hid (fun w' (kk : Kp w w') => qlight_yes (s := sa) (hua.kp kk) (hub.kp kk) hl1)
  have CN1 := Lib.hid (fun w' (kk : Kp w w') => number_any (s := sa) (hua.kp kk) (hub.kp kk) hl1.1 hl1.2)
  have Sx : RSz 16 (numR sa n1 d1) := rsz_num hua hub hl1.1 hl1.2
  obtain ⟨Xx, hXx⟩ : ∃ X, X = (numR sa n1 d1) := ⟨_, rfl⟩
  rw [← hXx] at CN1 Sx
  clear hXx
  obtain ⟨xo1, xl1, xc1, rfl⟩ := rd_slice hua
  obtain ⟨xo2, xl2, xc2, rfl⟩ := rd_slice hub
  have HT := Lib.hid (Rw1.new w (.bool sa) (.slice xo1 xl1 xc1) (.slice xo2 xl2 xc2))
  have t1 : decide ((300 : Int) < (t.size : Int)) = true := decide_eq_true (by omega)
  have t2 : decide ((t.size : Int) ≤ 4096) = true := decide_eq_true (by omega)
  clear hs
  clear hua hub hl1 Sx htab hZ
  go_enter Tryz.func8, Tryz.ntmps8
  have Z_e := Lib.hid (HZ.out.kp HT.out.k)
  obtain ⟨xz0, xz1, xz2⟩ := HT.out.ra.cells
  go_wp2_with (go_at_call 13; (with_reducible refine (CL1.out _ HT.out.k).mono ?_); rintro e w2 ⟨rfl, k2⟩; refine Hid.out ?_)
  refine Lib.hid ?_
  have T_2 := Lib.hid (HT.out.kp k2)
  have Z_2 := Lib.hid (Z_e.out.kp k2)
  clear HT Z_e
  clear k2
  obtain ⟨xz0, xz1, xz2⟩ := T_2.out.ra.cells
  go_wp2_with (go_at_call 14; (with_reducible refine (CAW.out _ T_2.out.k Z_2.out).mono ?_); rintro e w3 ⟨rfl, k3⟩; refine Hid.out ?_)
  refine Lib.hid ?_
  have T_3 := Lib.hid (T_2.out.kp k3)
  have Z_3 := Lib.hid (Z_2.out.kp k3)
  clear T_2 Z_2
  clear k3
  obtain ⟨xz0, xz1, xz2⟩ := T_3.out.ra.cells
  go_wp2
  go_ret
  exact ⟨rfl, T_3.out.k⟩

set_option maxRecDepth 20000 in
set_option maxHeartbeats 4000000 in
theorem texts_small {w : World} {sa : Bool} {ua ub : Value} {n1 d1 : List Nat} (hua : Rd w ua n1) (hub : Rd w ub d1) (t : ByteArray) (hs : t.size ≤ 300) (hl : (n1.length ≤ 16 ∧ d1.length ≤ 16)) (htab : Lib.TabIs Tryz.prog w "internal/strconv.uint64pow10" .u64 Lib.pow10Tab) (hZ : Tz w) :
    Calls Tryz.prog 8 #[.agg #[.bool sa, ua, ub], .string t] w fun e w' => e = .returned (.bool true) ∧ Kp w w' := by
  have HTB := Lib.hid (Lib.tabBelow_of_tabIs htab)
  have HZ := Lib.hid hZ
  have CAW := Lib.hid (fun w' (kk : Kp w w') (t : Tz w') => qawake_any w' t (tabKp HTB.out kk))
  have hl1 := hl
  have CL1 := Lib.hid (fun w' (kk : Kp w w') => qlight_yes (s := sa) (hua.kp kk) (hub.kp kk) hl1)
  have CN1 := Lib.hid (fun w' (kk : Kp w w') => number_any (s := sa) (hua.kp kk) (hub.kp kk) hl1.1 hl1.2)
  have Sx : RSz 16 (numR sa n1 d1) := rsz_num hua hub hl1.1 hl1.2
  obtain ⟨Xx, hXx⟩ : ∃ X, X = (numR sa n1 d1) := ⟨_, rfl⟩
  rw [← hXx] at CN1 Sx
  clear hXx
  obtain ⟨xo1, xl1, xc1, rfl⟩ := rd_slice hua
  obtain ⟨xo2, xl2, xc2, rfl⟩ := rd_slice hub
  have HT := Lib.hid (Rw1.new w (.bool sa) (.slice xo1 xl1 xc1) (.slice xo2 xl2 xc2))
  have t1 : decide ((300 : Int) < (t.size : Int)) = false := decide_eq_false (by omega)
  clear hs
  have CP1 := Lib.hid (fun w' (tz : Tz w') => qparse_all (w := w') t tz)
  have CP2 := Lib.hid (fun w' => rqparse_all (w := w') t)
  obtain ⟨cc, hcc⟩ : ∃ c, c = (parseR t.data.toList).1 := ⟨_, rfl⟩
  obtain ⟨Y, hY⟩ : ∃ c, c = (parseR t.data.toList).2 := ⟨_, rfl⟩
  rw [← hcc, ← hY] at CP1 CP2
  clear hcc hY
  have CT1 := Lib.hid (fun w' (kk : Kp w w') a (ha : RatV w' a Xx) => qtext_any ha Sx (by omega) (tabKp HTB.out kk))
  have CT2 := Lib.hid (fun w' a (ha : RatV w' a Xx) => rqtext_any ha Sx (by omega))
  obtain ⟨TX, hTX⟩ : ∃ s : ByteArray, s = ⟨(textR Xx).toArray⟩ := ⟨_, rfl⟩
  rw [← hTX] at CT1 CT2
  clear hTX
  have C1 := Lib.hid (fun w' a b (ha : RatV w' a (Y)) (hb : RatV w' b (Y)) => by have h := rqsame_any ha hb; rw [decide_eq_true (show (Y) = (Y) from rfl)] at h; exact h)
  clear hua hub hl1 Sx htab hZ
  go_enter Tryz.func8, Tryz.ntmps8
  have Z_e := Lib.hid (HZ.out.kp HT.out.k)
  obtain ⟨xz0, xz1, xz2⟩ := HT.out.ra.cells
  go_wp2_with (go_at_call 13; (with_reducible refine (CL1.out _ HT.out.k).mono ?_); rintro e w2 ⟨rfl, k2⟩; refine Hid.out ?_)
  refine Lib.hid ?_
  have T_2 := Lib.hid (HT.out.kp k2)
  have Z_2 := Lib.hid (Z_e.out.kp k2)
  clear HT Z_e
  clear k2
  obtain ⟨xz0, xz1, xz2⟩ := T_2.out.ra.cells
  go_wp2_with (go_at_call 24; (with_reducible refine (CN1.out _ T_2.out.k).mono ?_); rintro e w3 ⟨vx, rfl, hx, k3⟩; refine Hid.out ?_)
  refine Lib.hid ?_
  have T_3 := Lib.hid (T_2.out.kp k3)
  have Z_3 := Lib.hid (Z_2.out.kp k3)
  clear T_2 Z_2
  clear k3
  obtain ⟨xs, xq1, xr1, xs1, xq2, xr2, xs2, rfl⟩ := hx.lit
  have Vx_l := Lib.hid hx
  have Bx_l := Lib.hid (Res.new w3 (.bool xs) (.slice xq1 xr1 xs1) (.slice xq2 xr2 xs2))
  clear hx
  have T_4 := Lib.hid (T_3.out.kp (Kp.alloc _ (Obj.cells #[Value.bool xs, Value.slice xq1 xr1 xs1, Value.slice xq2 xr2 xs2] 27)))
  have Z_4 := Lib.hid (Z_3.out.kp (Kp.alloc _ (Obj.cells #[Value.bool xs, Value.slice xq1 xr1 xs1, Value.slice xq2 xr2 xs2] 27)))
  have Vx_4 := Lib.hid (Vx_l.out.kp (Kp.alloc _ (Obj.cells #[Value.bool xs, Value.slice xq1 xr1 xs1, Value.slice xq2 xr2 xs2] 27)))
  clear T_3 Z_3 Vx_l
  obtain ⟨xz0, xz1, xz2⟩ := T_4.out.ra.cells
  obtain ⟨xg0, xg1, xg2, _⟩ := Bx_l.out.cells
  go_wp2_with (go_at_call 56; (with_reducible refine (CP1.out _ Z_4.out).mono ?_); rintro e w5 ⟨vp, rfl, hp, k5⟩; refine Hid.out ?_)
  refine Lib.hid ?_
  have T_5 := Lib.hid (T_4.out.kp k5)
  have Z_5 := Lib.hid (Z_4.out.kp k5)
  have Vx_5 := Lib.hid (Vx_4.out.kp k5)
  have Bx_5 := Lib.hid (Bx_l.out.kp k5)
  clear T_4 Z_4 Vx_4 Bx_l
  clear k5
  obtain ⟨ps, pq1, pr1, ps1, pq2, pr2, ps2, rfl⟩ := hp.lit
  have Vp_l := Lib.hid hp
  have Bp_l := Lib.hid (Res.new w5 (.bool ps) (.slice pq1 pr1 ps1) (.slice pq2 pr2 ps2))
  clear hp
  have T_6 := Lib.hid (T_5.out.kp (Kp.alloc _ (Obj.cells #[Value.bool ps, Value.slice pq1 pr1 ps1, Value.slice pq2 pr2 ps2] 27)))
  have Z_6 := Lib.hid (Z_5.out.kp (Kp.alloc _ (Obj.cells #[Value.bool ps, Value.slice pq1 pr1 ps1, Value.slice pq2 pr2 ps2] 27)))
  have Vx_6 := Lib.hid (Vx_5.out.kp (Kp.alloc _ (Obj.cells #[Value.bool ps, Value.slice pq1 pr1 ps1, Value.slice pq2 pr2 ps2] 27)))
  have Bx_6 := Lib.hid (Bx_5.out.kp (Kp.alloc _ (Obj.cells #[Value.bool ps, Value.slice pq1 pr1 ps1, Value.slice pq2 pr2 ps2] 27)))
  have Vp_6 := Lib.hid (Vp_l.out.kp (Kp.alloc _ (Obj.cells #[Value.bool ps, Value.slice pq1 pr1 ps1, Value.slice pq2 pr2 ps2] 27)))
  clear T_5 Z_5 Vx_5 Bx_5 Vp_l
  obtain ⟨xz0, xz1, xz2⟩ := T_6.out.ra.cells
  obtain ⟨xg0, xg1, xg2, _⟩ := Bx_6.out.cells
  obtain ⟨pg0, pg1, pg2, _⟩ := Bp_l.out.cells
  go_wp2_with (go_at_call 57; (with_reducible refine (CP2.out _).mono ?_); rintro e w7 ⟨vq, rfl, hq, k7⟩; refine Hid.out ?_)
  refine Lib.hid ?_
  have T_7 := Lib.hid (T_6.out.kp k7)
  have Z_7 := Lib.hid (Z_6.out.kp k7)
  have Vx_7 := Lib.hid (Vx_6.out.kp k7)
  have Bx_7 := Lib.hid (Bx_6.out.kp k7)
  have Vp_7 := Lib.hid (Vp_6.out.kp k7)
  have Bp_7 := Lib.hid (Bp_l.out.kp k7)
  clear T_6 Z_6 Vx_6 Bx_6 Vp_6 Bp_l
  clear k7
  obtain ⟨qs, qq1, qr1, qs1, qq2, qr2, qs2, rfl⟩ := hq.lit
  have Vq_l := Lib.hid hq
  have Bq_l := Lib.hid (Res.new w7 (.bool qs) (.slice qq1 qr1 qs1) (.slice qq2 qr2 qs2))
  clear hq
  have T_8 := Lib.hid (T_7.out.kp (Kp.alloc _ (Obj.cells #[Value.bool qs, Value.slice qq1 qr1 qs1, Value.slice qq2 qr2 qs2] 27)))
  have Z_8 := Lib.hid (Z_7.out.kp (Kp.alloc _ (Obj.cells #[Value.bool qs, Value.slice qq1 qr1 qs1, Value.slice qq2 qr2 qs2] 27)))
  have Vx_8 := Lib.hid (Vx_7.out.kp (Kp.alloc _ (Obj.cells #[Value.bool qs, Value.slice qq1 qr1 qs1, Value.slice qq2 qr2 qs2] 27)))
  have Bx_8 := Lib.hid (Bx_7.out.kp (Kp.alloc _ (Obj.cells #[Value.bool qs, Value.slice qq1 qr1 qs1, Value.slice qq2 qr2 qs2] 27)))
  have Vp_8 := Lib.hid (Vp_7.out.kp (Kp.alloc _ (Obj.cells #[Value.bool qs, Value.slice qq1 qr1 qs1, Value.slice qq2 qr2 qs2] 27)))
  have Bp_8 := Lib.hid (Bp_7.out.kp (Kp.alloc _ (Obj.cells #[Value.bool qs, Value.slice qq1 qr1 qs1, Value.slice qq2 qr2 qs2] 27)))
  have Vq_8 := Lib.hid (Vq_l.out.kp (Kp.alloc _ (Obj.cells #[Value.bool qs, Value.slice qq1 qr1 qs1, Value.slice qq2 qr2 qs2] 27)))
  clear T_7 Z_7 Vx_7 Bx_7 Vp_7 Bp_7 Vq_l
  obtain ⟨xz0, xz1, xz2⟩ := T_8.out.ra.cells
  obtain ⟨xg0, xg1, xg2, _⟩ := Bx_8.out.cells
  obtain ⟨pg0, pg1, pg2, _⟩ := Bp_8.out.cells
  obtain ⟨qg0, qg1, qg2, _⟩ := Bq_l.out.cells
  go_upto_region 6 with fail
  have T_9 := Lib.hid (T_8.out.kp (Below.refl _ _).drew)
  have Z_9 := Lib.hid (Z_8.out.kp (Below.refl _ _).drew)
  have Vx_9 := Lib.hid (Vx_8.out.kp (Below.refl _ _).drew)
  have Bx_9 := Lib.hid (Bx_8.out.kp (Below.refl _ _).drew)
  have Vp_9 := Lib.hid (Vp_8.out.kp (Below.refl _ _).drew)
  have Bp_9 := Lib.hid (Bp_8.out.kp (Below.refl _ _).drew)
  have Vq_9 := Lib.hid (Vq_8.out.kp (Below.refl _ _).drew)
  have Bq_9 := Lib.hid (Bq_l.out.kp (Below.refl _ _).drew)
  clear T_8 Z_8 Vx_8 Bx_8 Vp_8 Bp_8 Vq_8 Bq_l
  obtain ⟨S, hS⟩ : ∃ S : Plan, S = ⟨[(0, .agg #[.bool xs, .slice xq1 xr1 xs1, .slice xq2 xr2 xs2]), (1, .string TX), (2, .agg #[.bool xs, .slice xq1 xr1 xs1, .slice xq2 xr2 xs2]), (3, .string TX), (4, .bool true), (5, .bool true), (6, .int .i64 cc), (7, .int .i64 cc), (8, .bool true), (9, .bool true), (10, .bool true), (11, .agg #[.bool ps, .slice pq1 pr1 ps1, .slice pq2 pr2 ps2]), (12, .agg #[.bool qs, .slice qq1 qr1 qs1, .slice qq2 qr2 qs2]), (13, .bool true), (14, .bool true), (15, .bool true), (16, .bool true), (17, .bool true), (18, .bool true)], [], [], []⟩ := ⟨_, rfl⟩
  have HS := Lib.hid hS
  clear hS
  refine' wp_region_inv (F := _) (by kernel_rfl) (by kernel_rfl) (by kernel_rfl) (PJ S _) (PJ.begin _ _ _) ?hF ?hsteps ?hend
  case hF => intro f; (try simp only [List.append]); simp only [putAll, Act.put, List.setIfInBounds_toArray, List.set_cons_zero, List.set_cons_succ, Nat.zero_add, Nat.reduceAdd]; exact rfl
  case hsteps =>
    refine StepsJ.cons ?_ ?_
    · intro b f w1 hb hw hJ K hK
      have HB := Lib.hid hb
      have HJ := Lib.hid hJ
      have HW := Lib.hid hw
      clear hJ hw hb
      try dsimp only
      rw [if_pos (by rfl)]
      obtain ⟨xg0, xg1, xg2, _⟩ := (Bx_9.out.kp HJ.out.k).cells
      go_simp
      exact hK.out _ (.agg #[.bool xs, .slice xq1 xr1 xs1, .slice xq2 xr2 xs2]) _ (by (try dsimp only) <;> simp only [Act.put, List.setIfInBounds_toArray, List.set_cons_zero, List.set_cons_succ]) (HJ.out.pureStep 0 _ HB.out (by rw [HS.out]; rfl) (by rw [HS.out]; rfl) (by rw [HS.out]; rfl) (by rw [HS.out]; rfl))
    refine StepsJ.cons ?_ ?_
    · intro b f w1 hb hw hJ K hK
      have HB := Lib.hid hb
      have HJ := Lib.hid hJ
      have HW := Lib.hid hw
      clear hJ hw hb
      try dsimp only
      have e0 : f 0 = .agg #[.bool xs, .slice xq1 xr1 xs1, .slice xq2 xr2 xs2] := HJ.out.pure 0 _ (by rw [HS.out]; rfl) (HW.out 0 (by decide))
      simp only [e0]
      rw [if_pos (by rfl)]
      go_simp
      go_at_call 58
      (with_reducible refine (CT1.out _ (T_9.out.kp HJ.out.k).k _ (Vx_9.out.kp HJ.out.k)).mono ?_)
      rintro e w2 ⟨rfl, kk⟩
      exact hK.out _ (.string TX) _ (by (try dsimp only) <;> simp only [Act.put, List.setIfInBounds_toArray, List.set_cons_zero, List.set_cons_succ, e0]) ((HJ.out.later kk).pureStep 1 _ HB.out (by rw [HS.out]; rfl) (by rw [HS.out]; rfl) (by rw [HS.out]; rfl) (by rw [HS.out]; rfl))
    refine StepsJ.cons ?_ ?_
    · intro b f w1 hb hw hJ K hK
      have HB := Lib.hid hb
      have HJ := Lib.hid hJ
      have HW := Lib.hid hw
      clear hJ hw hb
      try dsimp only
      rw [if_pos (by rfl)]
      obtain ⟨xg0, xg1, xg2, _⟩ := (Bx_9.out.kp HJ.out.k).cells
      go_simp
      exact hK.out _ (.agg #[.bool xs, .slice xq1 xr1 xs1, .slice xq2 xr2 xs2]) _ (by (try dsimp only) <;> simp only [Act.put, List.setIfInBounds_toArray, List.set_cons_zero, List.set_cons_succ]) (HJ.out.pureStep 2 _ HB.out (by rw [HS.out]; rfl) (by rw [HS.out]; rfl) (by rw [HS.out]; rfl) (by rw [HS.out]; rfl))
    refine StepsJ.cons ?_ ?_
    · intro b f w1 hb hw hJ K hK
      have HB := Lib.hid hb
      have HJ := Lib.hid hJ
      have HW := Lib.hid hw
      clear hJ hw hb
      try dsimp only
      have e2 : f 2 = .agg #[.bool xs, .slice xq1 xr1 xs1, .slice xq2 xr2 xs2] := HJ.out.pure 2 _ (by rw [HS.out]; rfl) (HW.out 2 (by decide))
      simp only [e2]
      rw [if_pos (by rfl)]
      go_simp
      go_at_call 59
      (with_reducible refine (CT2.out _ _ (Vx_9.out.kp HJ.out.k)).mono ?_)
      rintro e w2 ⟨rfl, kk⟩
      exact hK.out _ (.string TX) _ (by (try dsimp only) <;> simp only [Act.put, List.setIfInBounds_toArray, List.set_cons_zero, List.set_cons_succ, e2]) ((HJ.out.later kk).pureStep 3 _ HB.out (by rw [HS.out]; rfl) (by rw [HS.out]; rfl) (by rw [HS.out]; rfl) (by rw [HS.out]; rfl))
    refine StepsJ.cons ?_ ?_
    · intro b f w1 hb hw hJ K hK
      have HB := Lib.hid hb
      have HJ := Lib.hid hJ
      have HW := Lib.hid hw
      clear hJ hw hb
      try dsimp only
      have e1 : f 1 = .string TX := HJ.out.pure 1 _ (by rw [HS.out]; rfl) (HW.out 1 (by decide))
      have e3 : f 3 = .string TX := HJ.out.pure 3 _ (by rw [HS.out]; rfl) (HW.out 3 (by decide))
      simp only [e1, e3]
      rw [if_pos (by rfl)]
      go_simp
      exact hK.out _ (.bool true) _ (by (try dsimp only) <;> simp only [Act.put, List.setIfInBounds_toArray, List.set_cons_zero, List.set_cons_succ, e1, e3]) (HJ.out.pureStep 4 _ HB.out (by rw [HS.out]; rfl) (by rw [HS.out]; rfl) (by rw [HS.out]; rfl) (by rw [HS.out]; rfl))
    refine StepsJ.cons ?_ ?_
    · intro b f w1 hb hw hJ K hK
      have HB := Lib.hid hb
      have HJ := Lib.hid hJ
      have HW := Lib.hid hw
      clear hJ hw hb
      try dsimp only
      have e4 : f 4 = .bool true := HJ.out.pure 4 _ (by rw [HS.out]; rfl) (HW.out 4 (by decide))
      simp only [e4]
      rw [if_pos (by rfl)]
      go_simp
      exact hK.out _ (.bool true) _ (by (try dsimp only) <;> simp only [Act.put, List.setIfInBounds_toArray, List.set_cons_zero, List.set_cons_succ, e4]) (HJ.out.pureStep 5 _ HB.out (by rw [HS.out]; rfl) (by rw [HS.out]; rfl) (by rw [HS.out]; rfl) (by rw [HS.out]; rfl))
    refine StepsJ.cons ?_ ?_
    · intro b f w1 hb hw hJ K hK
      have HB := Lib.hid hb
      have HJ := Lib.hid hJ
      have HW := Lib.hid hw
      clear hJ hw hb
      try dsimp only
      have e5 : f 5 = .bool true := HJ.out.pure 5 _ (by rw [HS.out]; rfl) (HW.out 5 (by decide))
      simp only [e5]
      rw [if_pos (by rfl)]
      go_simp
      exact hK.out _ (.int .i64 cc) _ (by (try dsimp only) <;> simp only [Act.put, List.setIfInBounds_toArray, List.set_cons_zero, List.set_cons_succ, e5]) (HJ.out.pureStep 6 _ HB.out (by rw [HS.out]; rfl) (by rw [HS.out]; rfl) (by rw [HS.out]; rfl) (by rw [HS.out]; rfl))
    refine StepsJ.cons ?_ ?_
    · intro b f w1 hb hw hJ K hK
      have HB := Lib.hid hb
      have HJ := Lib.hid hJ
      have HW := Lib.hid hw
      clear hJ hw hb
      try dsimp only
      have e5 : f 5 = .bool true := HJ.out.pure 5 _ (by rw [HS.out]; rfl) (HW.out 5 (by decide))
      simp only [e5]
      rw [if_pos (by rfl)]
      go_simp
      exact hK.out _ (.int .i64 cc) _ (by (try dsimp only) <;> simp only [Act.put, List.setIfInBounds_toArray, List.set_cons_zero, List.set_cons_succ, e5]) (HJ.out.pureStep 7 _ HB.out (by rw [HS.out]; rfl) (by rw [HS.out]; rfl) (by rw [HS.out]; rfl) (by rw [HS.out]; rfl))
    refine StepsJ.cons ?_ ?_
    · intro b f w1 hb hw hJ K hK
      have HB := Lib.hid hb
      have HJ := Lib.hid hJ
      have HW := Lib.hid hw
      clear hJ hw hb
      try dsimp only
      have e5 : f 5 = .bool true := HJ.out.pure 5 _ (by rw [HS.out]; rfl) (HW.out 5 (by decide))
      have e6 : f 6 = .int .i64 cc := HJ.out.pure 6 _ (by rw [HS.out]; rfl) (HW.out 6 (by decide))
      have e7 : f 7 = .int .i64 cc := HJ.out.pure 7 _ (by rw [HS.out]; rfl) (HW.out 7 (by decide))
      simp only [e5, e6, e7]
      rw [if_pos (by rfl)]
      go_simp
      exact hK.out _ (.bool true) _ (by (try dsimp only) <;> simp only [Act.put, List.setIfInBounds_toArray, List.set_cons_zero, List.set_cons_succ, e5, e6, e7]) (HJ.out.pureStep 8 _ HB.out (by rw [HS.out]; rfl) (by rw [HS.out]; rfl) (by rw [HS.out]; rfl) (by rw [HS.out]; rfl))
    refine StepsJ.cons ?_ ?_
    · intro b f w1 hb hw hJ K hK
      have HB := Lib.hid hb
      have HJ := Lib.hid hJ
      have HW := Lib.hid hw
      clear hJ hw hb
      try dsimp only
      have e5 : f 5 = .bool true := HJ.out.pure 5 _ (by rw [HS.out]; rfl) (HW.out 5 (by decide))
      have e8 : f 8 = .bool true := HJ.out.pure 8 _ (by rw [HS.out]; rfl) (HW.out 8 (by decide))
      simp only [e5, e8]
      rw [if_pos (by rfl)]
      go_simp
      exact hK.out _ (.bool true) _ (by (try dsimp only) <;> simp only [Act.put, List.setIfInBounds_toArray, List.set_cons_zero, List.set_cons_succ, e5, e8]) (HJ.out.pureStep 9 _ HB.out (by rw [HS.out]; rfl) (by rw [HS.out]; rfl) (by rw [HS.out]; rfl) (by rw [HS.out]; rfl))
    refine StepsJ.cons ?_ ?_
    · intro b f w1 hb hw hJ K hK
      have HB := Lib.hid hb
      have HJ := Lib.hid hJ
      have HW := Lib.hid hw
      clear hJ hw hb
      try dsimp only
      have e9 : f 9 = .bool true := HJ.out.pure 9 _ (by rw [HS.out]; rfl) (HW.out 9 (by decide))
      simp only [e9]
      rw [if_pos (by rfl)]
      go_simp
      exact hK.out _ (.bool true) _ (by (try dsimp only) <;> simp only [Act.put, List.setIfInBounds_toArray, List.set_cons_zero, List.set_cons_succ, e9]) (HJ.out.pureStep 10 _ HB.out (by rw [HS.out]; rfl) (by rw [HS.out]; rfl) (by rw [HS.out]; rfl) (by rw [HS.out]; rfl))
    refine StepsJ.cons ?_ ?_
    · intro b f w1 hb hw hJ K hK
      have HB := Lib.hid hb
      have HJ := Lib.hid hJ
      have HW := Lib.hid hw
      clear hJ hw hb
      try dsimp only
      have e10 : f 10 = .bool true := HJ.out.pure 10 _ (by rw [HS.out]; rfl) (HW.out 10 (by decide))
      simp only [e10]
      rw [if_pos (by rfl)]
      obtain ⟨pg0, pg1, pg2, _⟩ := (Bp_9.out.kp HJ.out.k).cells
      go_simp
      exact hK.out _ (.agg #[.bool ps, .slice pq1 pr1 ps1, .slice pq2 pr2 ps2]) _ (by (try dsimp only) <;> simp only [Act.put, List.setIfInBounds_toArray, List.set_cons_zero, List.set_cons_succ, e10]) (HJ.out.pureStep 11 _ HB.out (by rw [HS.out]; rfl) (by rw [HS.out]; rfl) (by rw [HS.out]; rfl) (by rw [HS.out]; rfl))
    refine StepsJ.cons ?_ ?_
    · intro b f w1 hb hw hJ K hK
      have HB := Lib.hid hb
      have HJ := Lib.hid hJ
      have HW := Lib.hid hw
      clear hJ hw hb
      try dsimp only
      have e10 : f 10 = .bool true := HJ.out.pure 10 _ (by rw [HS.out]; rfl) (HW.out 10 (by decide))
      simp only [e10]
      rw [if_pos (by rfl)]
      obtain ⟨qg0, qg1, qg2, _⟩ := (Bq_9.out.kp HJ.out.k).cells
      go_simp
      exact hK.out _ (.agg #[.bool qs, .slice qq1 qr1 qs1, .slice qq2 qr2 qs2]) _ (by (try dsimp only) <;> simp only [Act.put, List.setIfInBounds_toArray, List.set_cons_zero, List.set_cons_succ, e10]) (HJ.out.pureStep 12 _ HB.out (by rw [HS.out]; rfl) (by rw [HS.out]; rfl) (by rw [HS.out]; rfl) (by rw [HS.out]; rfl))
    refine StepsJ.cons ?_ ?_
    · intro b f w1 hb hw hJ K hK
      have HB := Lib.hid hb
      have HJ := Lib.hid hJ
      have HW := Lib.hid hw
      clear hJ hw hb
      try dsimp only
      have e10 : f 10 = .bool true := HJ.out.pure 10 _ (by rw [HS.out]; rfl) (HW.out 10 (by decide))
      have e11 : f 11 = .agg #[.bool ps, .slice pq1 pr1 ps1, .slice pq2 pr2 ps2] := HJ.out.pure 11 _ (by rw [HS.out]; rfl) (HW.out 11 (by decide))
      have e12 : f 12 = .agg #[.bool qs, .slice qq1 qr1 qs1, .slice qq2 qr2 qs2] := HJ.out.pure 12 _ (by rw [HS.out]; rfl) (HW.out 12 (by decide))
      simp only [e10, e11, e12]
      rw [if_pos (by rfl)]
      go_simp
      go_at_call 19
      (with_reducible refine (C1.out _ _ _ (Vp_9.out.kp HJ.out.k) (Vq_9.out.kp HJ.out.k)).mono ?_)
      rintro e w2 ⟨rfl, kk⟩
      exact hK.out _ (.bool true) _ (by (try dsimp only) <;> simp only [Act.put, List.setIfInBounds_toArray, List.set_cons_zero, List.set_cons_succ, e10, e11, e12]) ((HJ.out.later kk).pureStep 13 _ HB.out (by rw [HS.out]; rfl) (by rw [HS.out]; rfl) (by rw [HS.out]; rfl) (by rw [HS.out]; rfl))
    refine StepsJ.cons ?_ ?_
    · intro b f w1 hb hw hJ K hK
      have HB := Lib.hid hb
      have HJ := Lib.hid hJ
      have HW := Lib.hid hw
      clear hJ hw hb
      try dsimp only
      have e10 : f 10 = .bool true := HJ.out.pure 10 _ (by rw [HS.out]; rfl) (HW.out 10 (by decide))
      have e13 : f 13 = .bool true := HJ.out.pure 13 _ (by rw [HS.out]; rfl) (HW.out 13 (by decide))
      simp only [e10, e13]
      rw [if_pos (by rfl)]
      go_simp
      exact hK.out _ (.bool true) _ (by (try dsimp only) <;> simp only [Act.put, List.setIfInBounds_toArray, List.set_cons_zero, List.set_cons_succ, e10, e13]) (HJ.out.pureStep 14 _ HB.out (by rw [HS.out]; rfl) (by rw [HS.out]; rfl) (by rw [HS.out]; rfl) (by rw [HS.out]; rfl))
    refine StepsJ.cons ?_ ?_
    · intro b f w1 hb hw hJ K hK
      have HB := Lib.hid hb
      have HJ := Lib.hid hJ
      have HW := Lib.hid hw
      clear hJ hw hb
      try dsimp only
      have e14 : f 14 = .bool true := HJ.out.pure 14 _ (by rw [HS.out]; rfl) (HW.out 14 (by decide))
      simp only [e14]
      rw [if_pos (by rfl)]
      go_simp
      exact hK.out _ (.bool true) _ (by (try dsimp only) <;> simp only [Act.put, List.setIfInBounds_toArray, List.set_cons_zero, List.set_cons_succ, e14]) (HJ.out.pureStep 15 _ HB.out (by rw [HS.out]; rfl) (by rw [HS.out]; rfl) (by rw [HS.out]; rfl) (by rw [HS.out]; rfl))
    refine StepsJ.cons ?_ ?_
    · intro b f w1 hb hw hJ K hK
      have HB := Lib.hid hb
      have HJ := Lib.hid hJ
      have HW := Lib.hid hw
      clear hJ hw hb
      try dsimp only
      have e15 : f 15 = .bool true := HJ.out.pure 15 _ (by rw [HS.out]; rfl) (HW.out 15 (by decide))
      simp only [e15]
      rw [if_pos (by rfl)]
      go_simp
      go_at_call 14
      (with_reducible refine (CAW.out _ (T_9.out.kp HJ.out.k).k (Z_9.out.kp HJ.out.k)).mono ?_)
      rintro e w2 ⟨rfl, kk⟩
      exact hK.out _ (.bool true) _ (by (try dsimp only) <;> simp only [Act.put, List.setIfInBounds_toArray, List.set_cons_zero, List.set_cons_succ, e15]) ((HJ.out.later kk).pureStep 16 _ HB.out (by rw [HS.out]; rfl) (by rw [HS.out]; rfl) (by rw [HS.out]; rfl) (by rw [HS.out]; rfl))
    refine StepsJ.cons ?_ ?_
    · intro b f w1 hb hw hJ K hK
      have HB := Lib.hid hb
      have HJ := Lib.hid hJ
      have HW := Lib.hid hw
      clear hJ hw hb
      try dsimp only
      have e15 : f 15 = .bool true := HJ.out.pure 15 _ (by rw [HS.out]; rfl) (HW.out 15 (by decide))
      have e16 : f 16 = .bool true := HJ.out.pure 16 _ (by rw [HS.out]; rfl) (HW.out 16 (by decide))
      simp only [e15, e16]
      rw [if_pos (by rfl)]
      go_simp
      exact hK.out _ (.bool true) _ (by (try dsimp only) <;> simp only [Act.put, List.setIfInBounds_toArray, List.set_cons_zero, List.set_cons_succ, e15, e16]) (HJ.out.pureStep 17 _ HB.out (by rw [HS.out]; rfl) (by rw [HS.out]; rfl) (by rw [HS.out]; rfl) (by rw [HS.out]; rfl))
    refine StepsJ.cons ?_ ?_
    · intro b f w1 hb hw hJ K hK
      have HB := Lib.hid hb
      have HJ := Lib.hid hJ
      have HW := Lib.hid hw
      clear hJ hw hb
      try dsimp only
      have e17 : f 17 = .bool true := HJ.out.pure 17 _ (by rw [HS.out]; rfl) (HW.out 17 (by decide))
      simp only [e17]
      rw [if_pos (by rfl)]
      go_simp
      exact hK.out _ (.bool true) _ (by (try dsimp only) <;> simp only [Act.put, List.setIfInBounds_toArray, List.set_cons_zero, List.set_cons_succ, e17]) (HJ.out.pureStep 18 _ HB.out (by rw [HS.out]; rfl) (by rw [HS.out]; rfl) (by rw [HS.out]; rfl) (by rw [HS.out]; rfl))
    exact StepsJ.nil
  case hend =>
    intro b f w10 hb hJ
    try dsimp only
    have e18 : f 18 = .bool true := hJ.pure 18 _ (by rw [HS.out]; rfl) (hb 18 (by decide))
    have kk := hJ.k
    clear hJ hb
    have T_10 := Lib.hid (T_9.out.kp kk)
    have Z_10 := Lib.hid (Z_9.out.kp kk)
    have Vx_10 := Lib.hid (Vx_9.out.kp kk)
    have Bx_10 := Lib.hid (Bx_9.out.kp kk)
    have Vp_10 := Lib.hid (Vp_9.out.kp kk)
    have Bp_10 := Lib.hid (Bp_9.out.kp kk)
    have Vq_10 := Lib.hid (Vq_9.out.kp kk)
    have Bq_10 := Lib.hid (Bq_9.out.kp kk)
    clear kk T_9 Z_9 Vx_9 Bx_9 Vp_9 Bp_9 Vq_9 Bq_9
    simp only [e18]
    clear e18
    generalize f 0 = ya0
    generalize f 1 = ya1
    generalize f 2 = ya2
    generalize f 3 = ya3
    generalize f 4 = ya4
    generalize f 5 = ya5
    generalize f 6 = ya6
    generalize f 7 = ya7
    generalize f 8 = ya8
    generalize f 9 = ya9
    generalize f 10 = ya10
    generalize f 11 = ya11
    generalize f 12 = ya12
    generalize f 13 = ya13
    generalize f 14 = ya14
    generalize f 15 = ya15
    generalize f 16 = ya16
    generalize f 17 = ya17
    clear HS S f b
    obtain ⟨xz0, xz1, xz2⟩ := T_10.out.ra.cells
    obtain ⟨xg0, xg1, xg2, _⟩ := Bx_10.out.cells
    obtain ⟨pg0, pg1, pg2, _⟩ := Bp_10.out.cells
    obtain ⟨qg0, qg1, qg2, _⟩ := Bq_10.out.cells
    go_wp2
    go_ret
    exact ⟨rfl, T_10.out.k⟩

set_option maxRecDepth 20000 in
set_option maxHeartbeats 4000000 in
theorem texts_huge {w : World} {sa : Bool} {ua ub : Value} {n1 d1 : List Nat} (hua : Rd w ua n1) (hub : Rd w ub d1) (t : ByteArray) (hs : 4096 < t.size) (hl : (n1.length ≤ 16 ∧ d1.length ≤ 16)) (htab : Lib.TabIs Tryz.prog w "internal/strconv.uint64pow10" .u64 Lib.pow10Tab) (hZ : Tz w) :
    Calls Tryz.prog 8 #[.agg #[.bool sa, ua, ub], .string t] w fun e w' => e = .returned (.bool true) ∧ Kp w w' := by
  have HTB := Lib.hid (Lib.tabBelow_of_tabIs htab)
  have HZ := Lib.hid hZ
  have CAW := Lib.hid (fun w' (kk : Kp w w') (t : Tz w') => qawake_any w' t (tabKp HTB.out kk))
  have hl1 := hl
  have CL1 := Lib.hid (fun w' (kk : Kp w w') => qlight_yes (s := sa) (hua.kp kk) (hub.kp kk) hl1)
  have CN1 := Lib.hid (fun w' (kk : Kp w w') => number_any (s := sa) (hua.kp kk) (hub.kp kk) hl1.1 hl1.2)
  have Sx : RSz 16 (numR sa n1 d1) := rsz_num hua hub hl1.1 hl1.2
  obtain ⟨Xx, hXx⟩ : ∃ X, X = (numR sa n1 d1) := ⟨_, rfl⟩
  rw [← hXx] at CN1 Sx
  clear hXx
  obtain ⟨xo1, xl1, xc1, rfl⟩ := rd_slice hua
  obtain ⟨xo2, xl2, xc2, rfl⟩ := rd_slice hub
  have HT := Lib.hid (Rw1.new w (.bool sa) (.slice xo1 xl1 xc1) (.slice xo2 xl2 xc2))
  have t1 : decide ((300 : Int) < (t.size : Int)) = true := decide_eq_true (by omega)
  have t2 : decide ((t.size : Int) ≤ 4096) = false := decide_eq_false (by omega)
  clear hs
  have CP1 := Lib.hid (fun w' (tz : Tz w') => qparse_all (w := w') t tz)
  have CP2 := Lib.hid (fun w' => rqparse_all (w := w') t)
  obtain ⟨cc, hcc⟩ : ∃ c, c = (parseR t.data.toList).1 := ⟨_, rfl⟩
  obtain ⟨Y, hY⟩ : ∃ c, c = (parseR t.data.toList).2 := ⟨_, rfl⟩
  rw [← hcc, ← hY] at CP1 CP2
  clear hcc hY
  have CT1 := Lib.hid (fun w' (kk : Kp w w') a (ha : RatV w' a Xx) => qtext_any ha Sx (by omega) (tabKp HTB.out kk))
  have CT2 := Lib.hid (fun w' a (ha : RatV w' a Xx) => rqtext_any ha Sx (by omega))
  obtain ⟨TX, hTX⟩ : ∃ s : ByteArray, s = ⟨(textR Xx).toArray⟩ := ⟨_, rfl⟩
  rw [← hTX] at CT1 CT2
  clear hTX
  have C1 := Lib.hid (fun w' a b (ha : RatV w' a (Y)) (hb : RatV w' b (Y)) => by have h := rqsame_any ha hb; rw [decide_eq_true (show (Y) = (Y) from rfl)] at h; exact h)
  clear hua hub hl1 Sx htab hZ
  go_enter Tryz.func8, Tryz.ntmps8
  have Z_e := Lib.hid (HZ.out.kp HT.out.k)
  obtain ⟨xz0, xz1, xz2⟩ := HT.out.ra.cells
  go_wp2_with (go_at_call 13; (with_reducible refine (CL1.out _ HT.out.k).mono ?_); rintro e w2 ⟨rfl, k2⟩; refine Hid.out ?_)
  refine Lib.hid ?_
  have T_2 := Lib.hid (HT.out.kp k2)
  have Z_2 := Lib.hid (Z_e.out.kp k2)
  clear HT Z_e
  clear k2
  obtain ⟨xz0, xz1, xz2⟩ := T_2.out.ra.cells
  go_wp2_with (go_at_call 24; (with_reducible refine (CN1.out _ T_2.out.k).mono ?_); rintro e w3 ⟨vx, rfl, hx, k3⟩; refine Hid.out ?_)
  refine Lib.hid ?_
  have T_3 := Lib.hid (T_2.out.kp k3)
  have Z_3 := Lib.hid (Z_2.out.kp k3)
  clear T_2 Z_2
  clear k3
  obtain ⟨xs, xq1, xr1, xs1, xq2, xr2, xs2, rfl⟩ := hx.lit
  have Vx_l := Lib.hid hx
  have Bx_l := Lib.hid (Res.new w3 (.bool xs) (.slice xq1 xr1 xs1) (.slice xq2 xr2 xs2))
  clear hx
  have T_4 := Lib.hid (T_3.out.kp (Kp.alloc _ (Obj.cells #[Value.bool xs, Value.slice xq1 xr1 xs1, Value.slice xq2 xr2 xs2] 27)))
  have Z_4 := Lib.hid (Z_3.out.kp (Kp.alloc _ (Obj.cells #[Value.bool xs, Value.slice xq1 xr1 xs1, Value.slice xq2 xr2 xs2] 27)))
  have Vx_4 := Lib.hid (Vx_l.out.kp (Kp.alloc _ (Obj.cells #[Value.bool xs, Value.slice xq1 xr1 xs1, Value.slice xq2 xr2 xs2] 27)))
  clear T_3 Z_3 Vx_l
  obtain ⟨xz0, xz1, xz2⟩ := T_4.out.ra.cells
  obtain ⟨xg0, xg1, xg2, _⟩ := Bx_l.out.cells
  go_wp2_with (go_at_call 56; (with_reducible refine (CP1.out _ Z_4.out).mono ?_); rintro e w5 ⟨vp, rfl, hp, k5⟩; refine Hid.out ?_)
  refine Lib.hid ?_
  have T_5 := Lib.hid (T_4.out.kp k5)
  have Z_5 := Lib.hid (Z_4.out.kp k5)
  have Vx_5 := Lib.hid (Vx_4.out.kp k5)
  have Bx_5 := Lib.hid (Bx_l.out.kp k5)
  clear T_4 Z_4 Vx_4 Bx_l
  clear k5
  obtain ⟨ps, pq1, pr1, ps1, pq2, pr2, ps2, rfl⟩ := hp.lit
  have Vp_l := Lib.hid hp
  have Bp_l := Lib.hid (Res.new w5 (.bool ps) (.slice pq1 pr1 ps1) (.slice pq2 pr2 ps2))
  clear hp
  have T_6 := Lib.hid (T_5.out.kp (Kp.alloc _ (Obj.cells #[Value.bool ps, Value.slice pq1 pr1 ps1, Value.slice pq2 pr2 ps2] 27)))
  have Z_6 := Lib.hid (Z_5.out.kp (Kp.alloc _ (Obj.cells #[Value.bool ps, Value.slice pq1 pr1 ps1, Value.slice pq2 pr2 ps2] 27)))
  have Vx_6 := Lib.hid (Vx_5.out.kp (Kp.alloc _ (Obj.cells #[Value.bool ps, Value.slice pq1 pr1 ps1, Value.slice pq2 pr2 ps2] 27)))
  have Bx_6 := Lib.hid (Bx_5.out.kp (Kp.alloc _ (Obj.cells #[Value.bool ps, Value.slice pq1 pr1 ps1, Value.slice pq2 pr2 ps2] 27)))
  have Vp_6 := Lib.hid (Vp_l.out.kp (Kp.alloc _ (Obj.cells #[Value.bool ps, Value.slice pq1 pr1 ps1, Value.slice pq2 pr2 ps2] 27)))
  clear T_5 Z_5 Vx_5 Bx_5 Vp_l
  obtain ⟨xz0, xz1, xz2⟩ := T_6.out.ra.cells
  obtain ⟨xg0, xg1, xg2, _⟩ := Bx_6.out.cells
  obtain ⟨pg0, pg1, pg2, _⟩ := Bp_l.out.cells
  go_wp2_with (go_at_call 57; (with_reducible refine (CP2.out _).mono ?_); rintro e w7 ⟨vq, rfl, hq, k7⟩; refine Hid.out ?_)
  refine Lib.hid ?_
  have T_7 := Lib.hid (T_6.out.kp k7)
  have Z_7 := Lib.hid (Z_6.out.kp k7)
  have Vx_7 := Lib.hid (Vx_6.out.kp k7)
  have Bx_7 := Lib.hid (Bx_6.out.kp k7)
  have Vp_7 := Lib.hid (Vp_6.out.kp k7)
  have Bp_7 := Lib.hid (Bp_l.out.kp k7)
  clear T_6 Z_6 Vx_6 Bx_6 Vp_6 Bp_l
  clear k7
  obtain ⟨qs, qq1, qr1, qs1, qq2, qr2, qs2, rfl⟩ := hq.lit
  have Vq_l := Lib.hid hq
  have Bq_l := Lib.hid (Res.new w7 (.bool qs) (.slice qq1 qr1 qs1) (.slice qq2 qr2 qs2))
  clear hq
  have T_8 := Lib.hid (T_7.out.kp (Kp.alloc _ (Obj.cells #[Value.bool qs, Value.slice qq1 qr1 qs1, Value.slice qq2 qr2 qs2] 27)))
  have Z_8 := Lib.hid (Z_7.out.kp (Kp.alloc _ (Obj.cells #[Value.bool qs, Value.slice qq1 qr1 qs1, Value.slice qq2 qr2 qs2] 27)))
  have Vx_8 := Lib.hid (Vx_7.out.kp (Kp.alloc _ (Obj.cells #[Value.bool qs, Value.slice qq1 qr1 qs1, Value.slice qq2 qr2 qs2] 27)))
  have Bx_8 := Lib.hid (Bx_7.out.kp (Kp.alloc _ (Obj.cells #[Value.bool qs, Value.slice qq1 qr1 qs1, Value.slice qq2 qr2 qs2] 27)))
  have Vp_8 := Lib.hid (Vp_7.out.kp (Kp.alloc _ (Obj.cells #[Value.bool qs, Value.slice qq1 qr1 qs1, Value.slice qq2 qr2 qs2] 27)))
  have Bp_8 := Lib.hid (Bp_7.out.kp (Kp.alloc _ (Obj.cells #[Value.bool qs, Value.slice qq1 qr1 qs1, Value.slice qq2 qr2 qs2] 27)))
  have Vq_8 := Lib.hid (Vq_l.out.kp (Kp.alloc _ (Obj.cells #[Value.bool qs, Value.slice qq1 qr1 qs1, Value.slice qq2 qr2 qs2] 27)))
  clear T_7 Z_7 Vx_7 Bx_7 Vp_7 Bp_7 Vq_l
  obtain ⟨xz0, xz1, xz2⟩ := T_8.out.ra.cells
  obtain ⟨xg0, xg1, xg2, _⟩ := Bx_8.out.cells
  obtain ⟨pg0, pg1, pg2, _⟩ := Bp_8.out.cells
  obtain ⟨qg0, qg1, qg2, _⟩ := Bq_l.out.cells
  go_upto_region 6 with fail
  have T_9 := Lib.hid (T_8.out.kp (Below.refl _ _).drew)
  have Z_9 := Lib.hid (Z_8.out.kp (Below.refl _ _).drew)
  have Vx_9 := Lib.hid (Vx_8.out.kp (Below.refl _ _).drew)
  have Bx_9 := Lib.hid (Bx_8.out.kp (Below.refl _ _).drew)
  have Vp_9 := Lib.hid (Vp_8.out.kp (Below.refl _ _).drew)
  have Bp_9 := Lib.hid (Bp_8.out.kp (Below.refl _ _).drew)
  have Vq_9 := Lib.hid (Vq_8.out.kp (Below.refl _ _).drew)
  have Bq_9 := Lib.hid (Bq_l.out.kp (Below.refl _ _).drew)
  clear T_8 Z_8 Vx_8 Bx_8 Vp_8 Bp_8 Vq_8 Bq_l
  obtain ⟨S, hS⟩ : ∃ S : Plan, S = ⟨[(0, .agg #[.bool xs, .slice xq1 xr1 xs1, .slice xq2 xr2 xs2]), (1, .string TX), (2, .agg #[.bool xs, .slice xq1 xr1 xs1, .slice xq2 xr2 xs2]), (3, .string TX), (4, .bool true), (5, .bool true), (6, .int .i64 cc), (7, .int .i64 cc), (8, .bool true), (9, .bool true), (10, .bool true), (11, .agg #[.bool ps, .slice pq1 pr1 ps1, .slice pq2 pr2 ps2]), (12, .agg #[.bool qs, .slice qq1 qr1 qs1, .slice qq2 qr2 qs2]), (13, .bool true), (14, .bool true), (15, .bool true), (16, .bool true), (17, .bool true), (18, .bool true)], [], [], []⟩ := ⟨_, rfl⟩
  have HS := Lib.hid hS
  clear hS
  refine' wp_region_inv (F := _) (by kernel_rfl) (by kernel_rfl) (by kernel_rfl) (PJ S _) (PJ.begin _ _ _) ?hF ?hsteps ?hend
  case hF => intro f; (try simp only [List.append]); simp only [putAll, Act.put, List.setIfInBounds_toArray, List.set_cons_zero, List.set_cons_succ, Nat.zero_add, Nat.reduceAdd]; exact rfl
  case hsteps =>
    refine StepsJ.cons ?_ ?_
    · intro b f w1 hb hw hJ K hK
      have HB := Lib.hid hb
      have HJ := Lib.hid hJ
      have HW := Lib.hid hw
      clear hJ hw hb
      try dsimp only
      rw [if_pos (by rfl)]
      obtain ⟨xg0, xg1, xg2, _⟩ := (Bx_9.out.kp HJ.out.k).cells
      go_simp
      exact hK.out _ (.agg #[.bool xs, .slice xq1 xr1 xs1, .slice xq2 xr2 xs2]) _ (by (try dsimp only) <;> simp only [Act.put, List.setIfInBounds_toArray, List.set_cons_zero, List.set_cons_succ]) (HJ.out.pureStep 0 _ HB.out (by rw [HS.out]; rfl) (by rw [HS.out]; rfl) (by rw [HS.out]; rfl) (by rw [HS.out]; rfl))
    refine StepsJ.cons ?_ ?_
    · intro b f w1 hb hw hJ K hK
      have HB := Lib.hid hb
      have HJ := Lib.hid hJ
      have HW := Lib.hid hw
      clear hJ hw hb
      try dsimp only
      have e0 : f 0 = .agg #[.bool xs, .slice xq1 xr1 xs1, .slice xq2 xr2 xs2] := HJ.out.pure 0 _ (by rw [HS.out]; rfl) (HW.out 0 (by decide))
      simp only [e0]
      rw [if_pos (by rfl)]
      go_simp
      go_at_call 58
      (with_reducible refine (CT1.out _ (T_9.out.kp HJ.out.k).k _ (Vx_9.out.kp HJ.out.k)).mono ?_)
      rintro e w2 ⟨rfl, kk⟩
      exact hK.out _ (.string TX) _ (by (try dsimp only) <;> simp only [Act.put, List.setIfInBounds_toArray, List.set_cons_zero, List.set_cons_succ, e0]) ((HJ.out.later kk).pureStep 1 _ HB.out (by rw [HS.out]; rfl) (by rw [HS.out]; rfl) (by rw [HS.out]; rfl) (by rw [HS.out]; rfl))
    refine StepsJ.cons ?_ ?_
    · intro b f w1 hb hw hJ K hK
      have HB := Lib.hid hb
      have HJ := Lib.hid hJ
      have HW := Lib.hid hw
      clear hJ hw hb
      try dsimp only
      rw [if_pos (by rfl)]
      obtain ⟨xg0, xg1, xg2, _⟩ := (Bx_9.out.kp HJ.out.k).cells
      go_simp
      exact hK.out _ (.agg #[.bool xs, .slice xq1 xr1 xs1, .slice xq2 xr2 xs2]) _ (by (try dsimp only) <;> simp only [Act.put, List.setIfInBounds_toArray, List.set_cons_zero, List.set_cons_succ]) (HJ.out.pureStep 2 _ HB.out (by rw [HS.out]; rfl) (by rw [HS.out]; rfl) (by rw [HS.out]; rfl) (by rw [HS.out]; rfl))
    refine StepsJ.cons ?_ ?_
    · intro b f w1 hb hw hJ K hK
      have HB := Lib.hid hb
      have HJ := Lib.hid hJ
      have HW := Lib.hid hw
      clear hJ hw hb
      try dsimp only
      have e2 : f 2 = .agg #[.bool xs, .slice xq1 xr1 xs1, .slice xq2 xr2 xs2] := HJ.out.pure 2 _ (by rw [HS.out]; rfl) (HW.out 2 (by decide))
      simp only [e2]
      rw [if_pos (by rfl)]
      go_simp
      go_at_call 59
      (with_reducible refine (CT2.out _ _ (Vx_9.out.kp HJ.out.k)).mono ?_)
      rintro e w2 ⟨rfl, kk⟩
      exact hK.out _ (.string TX) _ (by (try dsimp only) <;> simp only [Act.put, List.setIfInBounds_toArray, List.set_cons_zero, List.set_cons_succ, e2]) ((HJ.out.later kk).pureStep 3 _ HB.out (by rw [HS.out]; rfl) (by rw [HS.out]; rfl) (by rw [HS.out]; rfl) (by rw [HS.out]; rfl))
    refine StepsJ.cons ?_ ?_
    · intro b f w1 hb hw hJ K hK
      have HB := Lib.hid hb
      have HJ := Lib.hid hJ
      have HW := Lib.hid hw
      clear hJ hw hb
      try dsimp only
      have e1 : f 1 = .string TX := HJ.out.pure 1 _ (by rw [HS.out]; rfl) (HW.out 1 (by decide))
      have e3 : f 3 = .string TX := HJ.out.pure 3 _ (by rw [HS.out]; rfl) (HW.out 3 (by decide))
      simp only [e1, e3]
      rw [if_pos (by rfl)]
      go_simp
      exact hK.out _ (.bool true) _ (by (try dsimp only) <;> simp only [Act.put, List.setIfInBounds_toArray, List.set_cons_zero, List.set_cons_succ, e1, e3]) (HJ.out.pureStep 4 _ HB.out (by rw [HS.out]; rfl) (by rw [HS.out]; rfl) (by rw [HS.out]; rfl) (by rw [HS.out]; rfl))
    refine StepsJ.cons ?_ ?_
    · intro b f w1 hb hw hJ K hK
      have HB := Lib.hid hb
      have HJ := Lib.hid hJ
      have HW := Lib.hid hw
      clear hJ hw hb
      try dsimp only
      have e4 : f 4 = .bool true := HJ.out.pure 4 _ (by rw [HS.out]; rfl) (HW.out 4 (by decide))
      simp only [e4]
      rw [if_pos (by rfl)]
      go_simp
      exact hK.out _ (.bool true) _ (by (try dsimp only) <;> simp only [Act.put, List.setIfInBounds_toArray, List.set_cons_zero, List.set_cons_succ, e4]) (HJ.out.pureStep 5 _ HB.out (by rw [HS.out]; rfl) (by rw [HS.out]; rfl) (by rw [HS.out]; rfl) (by rw [HS.out]; rfl))
    refine StepsJ.cons ?_ ?_
    · intro b f w1 hb hw hJ K hK
      have HB := Lib.hid hb
      have HJ := Lib.hid hJ
      have HW := Lib.hid hw
      clear hJ hw hb
      try dsimp only
      have e5 : f 5 = .bool true := HJ.out.pure 5 _ (by rw [HS.out]; rfl) (HW.out 5 (by decide))
      simp only [e5]
      rw [if_pos (by rfl)]
      go_simp
      exact hK.out _ (.int .i64 cc) _ (by (try dsimp only) <;> simp only [Act.put, List.setIfInBounds_toArray, List.set_cons_zero, List.set_cons_succ, e5]) (HJ.out.pureStep 6 _ HB.out (by rw [HS.out]; rfl) (by rw [HS.out]; rfl) (by rw [HS.out]; rfl) (by rw [HS.out]; rfl))
    refine StepsJ.cons ?_ ?_
    · intro b f w1 hb hw hJ K hK
      have HB := Lib.hid hb
      have HJ := Lib.hid hJ
      have HW := Lib.hid hw
      clear hJ hw hb
      try dsimp only
      have e5 : f 5 = .bool true := HJ.out.pure 5 _ (by rw [HS.out]; rfl) (HW.out 5 (by decide))
      simp only [e5]
      rw [if_pos (by rfl)]
      go_simp
      exact hK.out _ (.int .i64 cc) _ (by (try dsimp only) <;> simp only [Act.put, List.setIfInBounds_toArray, List.set_cons_zero, List.set_cons_succ, e5]) (HJ.out.pureStep 7 _ HB.out (by rw [HS.out]; rfl) (by rw [HS.out]; rfl) (by rw [HS.out]; rfl) (by rw [HS.out]; rfl))
    refine StepsJ.cons ?_ ?_
    · intro b f w1 hb hw hJ K hK
      have HB := Lib.hid hb
      have HJ := Lib.hid hJ
      have HW := Lib.hid hw
      clear hJ hw hb
      try dsimp only
      have e5 : f 5 = .bool true := HJ.out.pure 5 _ (by rw [HS.out]; rfl) (HW.out 5 (by decide))
      have e6 : f 6 = .int .i64 cc := HJ.out.pure 6 _ (by rw [HS.out]; rfl) (HW.out 6 (by decide))
      have e7 : f 7 = .int .i64 cc := HJ.out.pure 7 _ (by rw [HS.out]; rfl) (HW.out 7 (by decide))
      simp only [e5, e6, e7]
      rw [if_pos (by rfl)]
      go_simp
      exact hK.out _ (.bool true) _ (by (try dsimp only) <;> simp only [Act.put, List.setIfInBounds_toArray, List.set_cons_zero, List.set_cons_succ, e5, e6, e7]) (HJ.out.pureStep 8 _ HB.out (by rw [HS.out]; rfl) (by rw [HS.out]; rfl) (by rw [HS.out]; rfl) (by rw [HS.out]; rfl))
    refine StepsJ.cons ?_ ?_
    · intro b f w1 hb hw hJ K hK
      have HB := Lib.hid hb
      have HJ := Lib.hid hJ
      have HW := Lib.hid hw
      clear hJ hw hb
      try dsimp only
      have e5 : f 5 = .bool true := HJ.out.pure 5 _ (by rw [HS.out]; rfl) (HW.out 5 (by decide))
      have e8 : f 8 = .bool true := HJ.out.pure 8 _ (by rw [HS.out]; rfl) (HW.out 8 (by decide))
      simp only [e5, e8]
      rw [if_pos (by rfl)]
      go_simp
      exact hK.out _ (.bool true) _ (by (try dsimp only) <;> simp only [Act.put, List.setIfInBounds_toArray, List.set_cons_zero, List.set_cons_succ, e5, e8]) (HJ.out.pureStep 9 _ HB.out (by rw [HS.out]; rfl) (by rw [HS.out]; rfl) (by rw [HS.out]; rfl) (by rw [HS.out]; rfl))
    refine StepsJ.cons ?_ ?_
    · intro b f w1 hb hw hJ K hK
      have HB := Lib.hid hb
      have HJ := Lib.hid hJ
      have HW := Lib.hid hw
      clear hJ hw hb
      try dsimp only
      have e9 : f 9 = .bool true := HJ.out.pure 9 _ (by rw [HS.out]; rfl) (HW.out 9 (by decide))
      simp only [e9]
      rw [if_pos (by rfl)]
      go_simp
      exact hK.out _ (.bool true) _ (by (try dsimp only) <;> simp only [Act.put, List.setIfInBounds_toArray, List.set_cons_zero, List.set_cons_succ, e9]) (HJ.out.pureStep 10 _ HB.out (by rw [HS.out]; rfl) (by rw [HS.out]; rfl) (by rw [HS.out]; rfl) (by rw [HS.out]; rfl))
    refine StepsJ.cons ?_ ?_
    · intro b f w1 hb hw hJ K hK
      have HB := Lib.hid hb
      have HJ := Lib.hid hJ
      have HW := Lib.hid hw
      clear hJ hw hb
      try dsimp only
      have e10 : f 10 = .bool true := HJ.out.pure 10 _ (by rw [HS.out]; rfl) (HW.out 10 (by decide))
      simp only [e10]
      rw [if_pos (by rfl)]
      obtain ⟨pg0, pg1, pg2, _⟩ := (Bp_9.out.kp HJ.out.k).cells
      go_simp
      exact hK.out _ (.agg #[.bool ps, .slice pq1 pr1 ps1, .slice pq2 pr2 ps2]) _ (by (try dsimp only) <;> simp only [Act.put, List.setIfInBounds_toArray, List.set_cons_zero, List.set_cons_succ, e10]) (HJ.out.pureStep 11 _ HB.out (by rw [HS.out]; rfl) (by rw [HS.out]; rfl) (by rw [HS.out]; rfl) (by rw [HS.out]; rfl))
    refine StepsJ.cons ?_ ?_
    · intro b f w1 hb hw hJ K hK
      have HB := Lib.hid hb
      have HJ := Lib.hid hJ
      have HW := Lib.hid hw
      clear hJ hw hb
      try dsimp only
      have e10 : f 10 = .bool true := HJ.out.pure 10 _ (by rw [HS.out]; rfl) (HW.out 10 (by decide))
      simp only [e10]
      rw [if_pos (by rfl)]
      obtain ⟨qg0, qg1, qg2, _⟩ := (Bq_9.out.kp HJ.out.k).cells
      go_simp
      exact hK.out _ (.agg #[.bool qs, .slice qq1 qr1 qs1, .slice qq2 qr2 qs2]) _ (by (try dsimp only) <;> simp only [Act.put, List.setIfInBounds_toArray, List.set_cons_zero, List.set_cons_succ, e10]) (HJ.out.pureStep 12 _ HB.out (by rw [HS.out]; rfl) (by rw [HS.out]; rfl) (by rw [HS.out]; rfl) (by rw [HS.out]; rfl))
    refine StepsJ.cons ?_ ?_
    · intro b f w1 hb hw hJ K hK
      have HB := Lib.hid hb
      have HJ := Lib.hid hJ
      have HW := Lib.hid hw
      clear hJ hw hb
      try dsimp only
      have e10 : f 10 = .bool true := HJ.out.pure 10 _ (by rw [HS.out]; rfl) (HW.out 10 (by decide))
      have e11 : f 11 = .agg #[.bool ps, .slice pq1 pr1 ps1, .slice pq2 pr2 ps2] := HJ.out.pure 11 _ (by rw [HS.out]; rfl) (HW.out 11 (by decide))
      have e12 : f 12 = .agg #[.bool qs, .slice qq1 qr1 qs1, .slice qq2 qr2 qs2] := HJ.out.pure 12 _ (by rw [HS.out]; rfl) (HW.out 12 (by decide))
      simp only [e10, e11, e12]
      rw [if_pos (by rfl)]
      go_simp
      go_at_call 19
      (with_reducible refine (C1.out _ _ _ (Vp_9.out.kp HJ.out.k) (Vq_9.out.kp HJ.out.k)).mono ?_)
      rintro e w2 ⟨rfl, kk⟩
      exact hK.out _ (.bool true) _ (by (try dsimp only) <;> simp only [Act.put, List.setIfInBounds_toArray, List.set_cons_zero, List.set_cons_succ, e10, e11, e12]) ((HJ.out.later kk).pureStep 13 _ HB.out (by rw [HS.out]; rfl) (by rw [HS.out]; rfl) (by rw [HS.out]; rfl) (by rw [HS.out]; rfl))
    refine StepsJ.cons ?_ ?_
    · intro b f w1 hb hw hJ K hK
      have HB := Lib.hid hb
      have HJ := Lib.hid hJ
      have HW := Lib.hid hw
      clear hJ hw hb
      try dsimp only
      have e10 : f 10 = .bool true := HJ.out.pure 10 _ (by rw [HS.out]; rfl) (HW.out 10 (by decide))
      have e13 : f 13 = .bool true := HJ.out.pure 13 _ (by rw [HS.out]; rfl) (HW.out 13 (by decide))
      simp only [e10, e13]
      rw [if_pos (by rfl)]
      go_simp
      exact hK.out _ (.bool true) _ (by (try dsimp only) <;> simp only [Act.put, List.setIfInBounds_toArray, List.set_cons_zero, List.set_cons_succ, e10, e13]) (HJ.out.pureStep 14 _ HB.out (by rw [HS.out]; rfl) (by rw [HS.out]; rfl) (by rw [HS.out]; rfl) (by rw [HS.out]; rfl))
    refine StepsJ.cons ?_ ?_
    · intro b f w1 hb hw hJ K hK
      have HB := Lib.hid hb
      have HJ := Lib.hid hJ
      have HW := Lib.hid hw
      clear hJ hw hb
      try dsimp only
      have e14 : f 14 = .bool true := HJ.out.pure 14 _ (by rw [HS.out]; rfl) (HW.out 14 (by decide))
      simp only [e14]
      rw [if_pos (by rfl)]
      go_simp
      exact hK.out _ (.bool true) _ (by (try dsimp only) <;> simp only [Act.put, List.setIfInBounds_toArray, List.set_cons_zero, List.set_cons_succ, e14]) (HJ.out.pureStep 15 _ HB.out (by rw [HS.out]; rfl) (by rw [HS.out]; rfl) (by rw [HS.out]; rfl) (by rw [HS.out]; rfl))
    refine StepsJ.cons ?_ ?_
    · intro b f w1 hb hw hJ K hK
      have HB := Lib.hid hb
      have HJ := Lib.hid hJ
      have HW := Lib.hid hw
      clear hJ hw hb
      try dsimp only
      have e15 : f 15 = .bool true := HJ.out.pure 15 _ (by rw [HS.out]; rfl) (HW.out 15 (by decide))
      simp only [e15]
      rw [if_pos (by rfl)]
      go_simp
      go_at_call 14
      (with_reducible refine (CAW.out _ (T_9.out.kp HJ.out.k).k (Z_9.out.kp HJ.out.k)).mono ?_)
      rintro e w2 ⟨rfl, kk⟩
      exact hK.out _ (.bool true) _ (by (try dsimp only) <;> simp only [Act.put, List.setIfInBounds_toArray, List.set_cons_zero, List.set_cons_succ, e15]) ((HJ.out.later kk).pureStep 16 _ HB.out (by rw [HS.out]; rfl) (by rw [HS.out]; rfl) (by rw [HS.out]; rfl) (by rw [HS.out]; rfl))
    refine StepsJ.cons ?_ ?_
    · intro b f w1 hb hw hJ K hK
      have HB := Lib.hid hb
      have HJ := Lib.hid hJ
      have HW := Lib.hid hw
      clear hJ hw hb
      try dsimp only
      have e15 : f 15 = .bool true := HJ.out.pure 15 _ (by rw [HS.out]; rfl) (HW.out 15 (by decide))
      have e16 : f 16 = .bool true := HJ.out.pure 16 _ (by rw [HS.out]; rfl) (HW.out 16 (by decide))
      simp only [e15, e16]
      rw [if_pos (by rfl)]
      go_simp
      exact hK.out _ (.bool true) _ (by (try dsimp only) <;> simp only [Act.put, List.setIfInBounds_toArray, List.set_cons_zero, List.set_cons_succ, e15, e16]) (HJ.out.pureStep 17 _ HB.out (by rw [HS.out]; rfl) (by rw [HS.out]; rfl) (by rw [HS.out]; rfl) (by rw [HS.out]; rfl))
    refine StepsJ.cons ?_ ?_
    · intro b f w1 hb hw hJ K hK
      have HB := Lib.hid hb
      have HJ := Lib.hid hJ
      have HW := Lib.hid hw
      clear hJ hw hb
      try dsimp only
      have e17 : f 17 = .bool true := HJ.out.pure 17 _ (by rw [HS.out]; rfl) (HW.out 17 (by decide))
      simp only [e17]
      rw [if_pos (by rfl)]
      go_simp
      exact hK.out _ (.bool true) _ (by (try dsimp only) <;> simp only [Act.put, List.setIfInBounds_toArray, List.set_cons_zero, List.set_cons_succ, e17]) (HJ.out.pureStep 18 _ HB.out (by rw [HS.out]; rfl) (by rw [HS.out]; rfl) (by rw [HS.out]; rfl) (by rw [HS.out]; rfl))
    exact StepsJ.nil
  case hend =>
    intro b f w10 hb hJ
    try dsimp only
    have e18 : f 18 = .bool true := hJ.pure 18 _ (by rw [HS.out]; rfl) (hb 18 (by decide))
    have kk := hJ.k
    clear hJ hb
    have T_10 := Lib.hid (T_9.out.kp kk)
    have Z_10 := Lib.hid (Z_9.out.kp kk)
    have Vx_10 := Lib.hid (Vx_9.out.kp kk)
    have Bx_10 := Lib.hid (Bx_9.out.kp kk)
    have Vp_10 := Lib.hid (Vp_9.out.kp kk)
    have Bp_10 := Lib.hid (Bp_9.out.kp kk)
    have Vq_10 := Lib.hid (Vq_9.out.kp kk)
    have Bq_10 := Lib.hid (Bq_9.out.kp kk)
    clear kk T_9 Z_9 Vx_9 Bx_9 Vp_9 Bp_9 Vq_9 Bq_9
    simp only [e18]
    clear e18
    generalize f 0 = ya0
    generalize f 1 = ya1
    generalize f 2 = ya2
    generalize f 3 = ya3
    generalize f 4 = ya4
    generalize f 5 = ya5
    generalize f 6 = ya6
    generalize f 7 = ya7
    generalize f 8 = ya8
    generalize f 9 = ya9
    generalize f 10 = ya10
    generalize f 11 = ya11
    generalize f 12 = ya12
    generalize f 13 = ya13
    generalize f 14 = ya14
    generalize f 15 = ya15
    generalize f 16 = ya16
    generalize f 17 = ya17
    clear HS S f b
    obtain ⟨xz0, xz1, xz2⟩ := T_10.out.ra.cells
    obtain ⟨xg0, xg1, xg2, _⟩ := Bx_10.out.cells
    obtain ⟨pg0, pg1, pg2, _⟩ := Bp_10.out.cells
    obtain ⟨qg0, qg1, qg2, _⟩ := Bq_10.out.cells
    go_wp2
    go_ret
    exact ⟨rfl, T_10.out.k⟩

theorem texts_walk {w : World} {s : Bool} {a b : Value} {xs ys : List Nat} {t : ByteArray} (ha : Rd w a xs) (hb : Rd w b ys) (htab : Lib.TabIs Tryz.prog w "internal/strconv.uint64pow10" .u64 Lib.pow10Tab) (hZ : Tz w) :
    Calls Tryz.prog 8 #[.agg #[.bool s, a, b], .string t] w fun e w' => e = .returned (.bool true) ∧ Kp w w' := by
  by_cases hl : xs.length ≤ 16 ∧ ys.length ≤ 16
  · by_cases h1 : t.size ≤ 300
    · exact texts_small ha hb t h1 hl htab hZ
    · by_cases h2 : t.size ≤ 4096
      · exact texts_great ha hb t ⟨by omega, h2⟩ hl htab hZ
      · exact texts_huge ha hb t (by omega) hl htab hZ
  · exact texts_no1 ha hb t hl htab hZ
end Go.Proofs.YtmnnnoeenfmckaaGreatDoor
