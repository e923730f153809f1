/-
  brepkernellaw01.awake: the chapter's examples, by the contracts.
-/
import Derived.Test.YtijadodleiiomaaDoorDivA
import Derived.Test.YtijadodleiiomaaDoorMul
namespace Go.Proofs.YtijadodleiiomaaDoor
open Go.RowKit
open Go.Lib (decDigits)

theorem Rd.lit (w : World) (e : TypeId) (xs : List Nat) (hx : Limbs xs) (n : Nat) (hn : xs.length = n) (hm : n ≤ maxLen) : Rd (w.alloc (.cells (cellsOf xs).toArray e)) (.slice (some ⟨w.heap.size, 0, none⟩) n n) xs := by
  subst hn
  exact ⟨_, _, rfl, Nat.le_refl _, hm, hx, (Own.alloc_new w e xs).sl⟩

theorem big_digits : decDigits 6148914691236517205 = [54, 49, 52, 56, 57, 49, 52, 54, 57, 49, 50, 51, 54, 53, 49, 55, 50, 48, 53] := by
  rw [Lib.decDigits_eq, Lib.nDigits_unique 18 _ (by decide) (by decide)]
  decide

theorem one_digits : decDigits 1 = [49] := by rw [decDigits, dif_pos (by omega)]; rfl

theorem square_top : toL (val [4294967295] * val [4294967295]) = [1, 4294967294] := by
  have h : val [4294967295] * val [4294967295] = val [1, 4294967294] := by simp [val]
  rw [h, toL_val (Limbs.cons (by omega) (Limbs.cons (by omega) Limbs.nil))]
  simp [trimL]

theorem quo_three : val [0, 0, 1] / val [3] = 6148914691236517205 := by simp [val]
theorem rem_three : val [0, 0, 1] % val [3] = 1 := by simp [val]

theorem lit1 : (cellsOf [4294967295]).toArray = #[Value.int .u32 4294967295] := by simp [cellsOf, limb]
theorem lit2 : (cellsOf [0, 0, 1]).toArray = #[Value.int .u32 0, Value.int .u32 0, Value.int .u32 1] := by simp [cellsOf, limb]
theorem lit3 : (cellsOf [3]).toArray = #[Value.int .u32 3] := by simp [cellsOf, limb]

theorem awake_mul (w : World) :
    Calls Tryd.prog 27 #[.slice (some ⟨w.heap.size, 0, none⟩) 1 1, .slice (some ⟨w.heap.size + 1, 0, none⟩) 1 1]
      ((w.alloc (.cells #[.int .u32 4294967295] 45)).alloc (.cells #[.int .u32 4294967295] 45)) fun e w' => ∃ v', e = .returned v' ∧ Rd w' v' [1, 4294967294] ∧ Kp w w' := by
  have r1 := (Rd.lit w 45 [4294967295] (Limbs.cons (by omega) Limbs.nil) 1 rfl (by unfold maxLen; omega)).kp (Kp.alloc _ (.cells (cellsOf [4294967295]).toArray 45))
  have r2 := Rd.lit (w.alloc (.cells (cellsOf [4294967295]).toArray 45)) 45 [4294967295] (Limbs.cons (by omega) Limbs.nil) 1 rfl (by unfold maxLen; omega)
  have HM := mul_any _ _ [4294967295] [4294967295] _ r1 r2 (by simp) (by simp)
  rw [square_top, lit1] at HM
  simp only [World.size_alloc] at HM
  refine HM.mono ?_
  rintro e w' ⟨v', he, hr, hk⟩
  exact ⟨v', he, hr, ((Kp.alloc w _).tr (Kp.alloc _ _)).tr hk⟩

theorem awake_div (w : World) :
    Calls Tryd.prog 29 #[.slice (some ⟨w.heap.size, 0, none⟩) 3 3, .slice (some ⟨w.heap.size + 1, 0, none⟩) 1 1]
      ((w.alloc (.cells #[.int .u32 0, .int .u32 0, .int .u32 1] 45)).alloc (.cells #[.int .u32 3] 45)) fun e w' => ∃ q r, e = .returned (.tuple #[q, r, .int .i64 0]) ∧ Rd w' q (toL 6148914691236517205) ∧ Rd w' r (toL 1) ∧ Kp w w' := by
  have s1 := (Rd.lit w 45 [0, 0, 1] (Limbs.cons (by omega) (Limbs.cons (by omega) (Limbs.cons (by omega) Limbs.nil))) 3 rfl (by unfold maxLen; omega)).kp (Kp.alloc _ (.cells (cellsOf [3]).toArray 45))
  have s2 := Rd.lit (w.alloc (.cells (cellsOf [0, 0, 1]).toArray 45)) 45 [3] (Limbs.cons (by omega) Limbs.nil) 1 rfl (by unfold maxLen; omega)
  have HD := div_one _ _ [0, 0, 1] [3] _ s1 s2 (by simp) (by simp [trimL]) (by simp [trimL])
  rw [quo_three, rem_three, lit2, lit3] at HD
  simp only [World.size_alloc] at HD
  refine HD.mono ?_
  rintro e w' ⟨q, r, he, hq, hr, hk⟩
  exact ⟨q, r, he, hq, hr, ((Kp.alloc w _).tr (Kp.alloc _ _)).tr hk⟩

theorem awake_text1 (q : Value) (w : World) (h : Rd w q (toL 6148914691236517205)) (htab : Lib.TabIs Tryd.prog w "internal/strconv.uint64pow10" .u64 Lib.pow10Tab) :
    Calls Tryd.prog 37 #[q] w fun e w' => e = .returned (.string ⟨#[54, 49, 52, 56, 57, 49, 52, 54, 57, 49, 50, 51, 54, 53, 49, 55, 50, 48, 53]⟩) ∧ Kp w w' := by
  have := text_any q _ w h (by have := length_toL_le 6148914691236517205 2 (by decide); omega) htab
  rw [val_toL, big_digits] at this
  exact this

theorem awake_text2 (r : Value) (w : World) (h : Rd w r (toL 1)) (htab : Lib.TabIs Tryd.prog w "internal/strconv.uint64pow10" .u64 Lib.pow10Tab) :
    Calls Tryd.prog 37 #[r] w fun e w' => e = .returned (.string ⟨#[49]⟩) ∧ Kp w w' := by
  have := text_any r _ w h (by have := length_toL_le 1 1 (by decide); omega) htab
  rw [val_toL, one_digits] at this
  exact this

theorem Rd.two {w : World} {p : Value} {x y : Nat} (h : Rd w p [x, y]) : ∃ b off c, p = .slice (some ⟨b, off, none⟩) 2 c ∧ w.cell? ⟨b, off, none⟩ = some (.int .u32 (x : Nat)) ∧ w.cell? ⟨b, off + 1, none⟩ = some (.int .u32 (y : Nat)) := by
  obtain ⟨po, pc, rfl, hpc, hpm, _, hps⟩ := h
  obtain ⟨pb, poff, rfl, hc⟩ := hps.cell (by simp)
  exact ⟨pb, poff, pc, rfl, hc 0 (by simp), hc 1 (by simp)⟩

set_option maxHeartbeats 1000000 in
theorem awake_any (w : World) (htab : Lib.TabIs Tryd.prog w "internal/strconv.uint64pow10" .u64 Lib.pow10Tab) :
    Calls Tryd.prog 12 #[] w fun e w' => e = .returned (.bool true) ∧ Kp w w' := by
  have HT := Lib.tabBelow_of_tabIs htab
  have HM := Lib.hid (awake_mul w)
  clear htab
  go_enter Tryd.func12, Tryd.ntmps12
  go_wp2_with (go_at_call 27; refine HM.out.mono ?_; rintro e w1 ⟨p, rfl, hp, K1⟩; refine Hid.out ?_)
  refine Lib.hid ?_
  have HD := Lib.hid (awake_div w1)
  go_wp2_with (go_at_call 29; refine HD.out.mono ?_; rintro e w2 ⟨q, r, rfl, hq, hr, K12⟩; refine Hid.out ?_)
  refine Lib.hid ?_
  have K2 := K1.tr K12
  obtain ⟨pb, poff, pc, rfl, hc0, hc1⟩ := (hp.kp K12).two
  have HT1 := Lib.hid (awake_text1 q w2 hq (tabKp HT K2))
  have HR := Lib.hid hr
  clear hp hq hr
  go_wp2_with (first
    | (go_at_call 37; (with_reducible refine HT1.out.mono ?_); rintro e w3 ⟨rfl, K3⟩; refine Hid.out ?_))
  refine Lib.hid ?_
  have HT2 := Lib.hid (awake_text2 r w3 (HR.out.kp K3) (tabKp HT (K2.tr K3)))
  go_wp2_with (first
    | (go_at_call 37; (with_reducible refine HT2.out.mono ?_); rintro e w4 ⟨rfl, K4⟩))
  go_ret
  exact ⟨rfl, (K2.tr K3).tr K4⟩
end Go.Proofs.YtijadodleiiomaaDoor
