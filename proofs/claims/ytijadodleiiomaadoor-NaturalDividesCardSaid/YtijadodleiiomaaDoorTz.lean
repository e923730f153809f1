/-
  math/bits.TrailingZeros32 and 64, natural.small, natural.twos: by walking their texts.
-/
import Derived.Shelf.Spec.TrailingZeros
import Derived.Test.YtijadodleiiomaaDoorDivLong
namespace Go.Proofs.YtijadodleiiomaaDoor
open Go.RowKit

/-- The library's two tables of trailing zeros, as their initialisers lay them. -/
structure Tz (w : World) : Prop where
  t32 : TabAt 0 Lib.deBruijn32tab w
  t64 : TabAt 1 Lib.deBruijn64tab w

theorem TabAt.kp {g : Nat} {tab : List Nat} {w w' : World} (h : TabAt g tab w) (k : Kp w w') : TabAt g tab w' := fun j hj =>
  (k.cell (World.block_lt_of_cell? w _ (h j hj))).trans (h j hj)

theorem Tz.kp {w w' : World} (h : Tz w) (k : Kp w w') : Tz w' := ⟨TabAt.kp h.t32 k, TabAt.kp h.t64 k⟩

set_option maxHeartbeats 1000000 in
theorem tz64_walk (x k idx : Nat) (w : World) (hx0 : ((x : Int) == 0) = false)
    (key : IntKind.u64.wrap (bits BinOp.and IntKind.u64 (x : Int) (IntKind.u64.wrap (-(x : Int))) * 285870213051353865) / 288230376151711744 = (idx : Int))
    (hi : idx < 64) (hk : k < 64) (hcell : w.cell? ⟨1, idx, none⟩ = some (.int .u8 k)) :
    Calls Tryd.prog 76 #[.int .u64 x] w fun e w' => e = .returned (.int .i64 k) ∧ w' = w := by
  go_enter Tryd.func76, Tryd.ntmps76
  go_wp2_with (simp only [key])
  go_ret
  exact ⟨rfl, rfl⟩

set_option maxHeartbeats 1000000 in
theorem tz32_walk (x k idx : Nat) (w : World) (hx0 : ((x : Int) == 0) = false)
    (key : bits BinOp.and IntKind.u32 (x : Int) (-(x : Int) % 4294967296) * 125613361 % 4294967296 / 134217728 = (idx : Int))
    (hi : idx < 32) (hk : k < 32) (hcell : w.cell? ⟨0, idx, none⟩ = some (.int .u8 k)) :
    Calls Tryd.prog 68 #[.int .u32 x] w fun e w' => e = .returned (.int .i64 k) ∧ w' = w := by
  go_enter Tryd.func68, Tryd.ntmps68
  go_wp2_with (simp only [key])
  go_ret
  exact ⟨rfl, rfl⟩

theorem tz64_zero (w : World) : Calls Tryd.prog 76 #[.int .u64 0] w fun e w' => e = .returned (.int .i64 64) ∧ w' = w := by
  go_enter Tryd.func76, Tryd.ntmps76
  go_wp2
  go_ret
  exact ⟨rfl, rfl⟩

/-- How many times 2 divides: the number, and the odd rest. -/
theorem tz64_any (x : Nat) (hx : x < 18446744073709551616) (h0 : x ≠ 0) (w : World) (hT : Tz w) :
    ∃ t m : Nat, x = 2 ^ t * (2 * m + 1) ∧ t < 64 ∧ Calls Tryd.prog 76 #[.int .u64 x] w fun e w' => e = .returned (.int .i64 t) ∧ w' = w := by
  obtain ⟨hlow, hk⟩ := Lib.lowest_bit 64 x h0 hx
  obtain ⟨hi, htab⟩ := Lib.deBruijn64_at _ hk
  have hcell := hT.t64 _ hi
  rw [htab] at hcell
  obtain ⟨m, hm, hlt⟩ := Lib.ctzFrom_spec 64 x (by omega) hx
  have e : Lib.ctz 64 x = Lib.ctzFrom 64 x := if_neg h0
  rw [e] at hk hcell
  rw [e] at hi
  refine ⟨_, m, hm, hlt, ?_⟩
  refine tz64_walk x _ _ w (by simp; omega) (tz64_key x _ hx h0 (by rw [hlow, e])) ?_ hk ?_
  · exact hi
  · exact hcell

theorem tz32_any (x : Nat) (hx : x < 4294967296) (h0 : x ≠ 0) (w : World) (hT : Tz w) :
    ∃ t m : Nat, x = 2 ^ t * (2 * m + 1) ∧ t < 32 ∧ Calls Tryd.prog 68 #[.int .u32 x] w fun e w' => e = .returned (.int .i64 t) ∧ w' = w := by
  obtain ⟨hlow, hk⟩ := Lib.lowest_bit 32 x h0 hx
  obtain ⟨hi, htab⟩ := Lib.deBruijn32_at _ hk
  have hcell := hT.t32 _ hi
  rw [htab] at hcell
  obtain ⟨m, hm, hlt⟩ := Lib.ctzFrom_spec 32 x (by omega) hx
  have e : Lib.ctz 32 x = Lib.ctzFrom 32 x := if_neg h0
  rw [e] at hk hcell
  rw [e] at hi
  refine ⟨_, m, hm, hlt, ?_⟩
  refine tz32_walk x _ _ w (by simp; omega) (tz32_key x _ hx h0 (by rw [hlow, e])) ?_ hk ?_
  · exact hi
  · exact hcell

theorem or_shift {n x : Nat} (hn : n < 4294967296) (hx : x < 4294967296) : bits .or .u64 (n : Int) ((x : Int) * 4294967296) = ((n + 4294967296 * x : Nat) : Int) := orpair hn hx

set_option maxHeartbeats 1000000 in
theorem small_any (v : Value) (X : List Nat) (w : World) (h : Rd w v X) (h2 : X.length ≤ 2) :
    Calls Tryd.prog 46 #[v] w fun e w' => e = .returned (.int .u64 (val X : Nat)) ∧ w' = w := by
  obtain ⟨ao, ac, rfl, a1, a2, a3, a4⟩ := h
  have A3 := Lib.hid a3
  have hvl := val_lt a3
  have A4 := Lib.hid a4
  clear a3 a4
  go_enter Tryd.func46, Tryd.ntmps46
  go_wp2
  go_loop [3, 8] (fun nv i => ∃ k n : Nat, k ≤ X.length ∧ i = .int .i64 k ∧ nv = .int .u64 n ∧ n = val (X.take k)) (fun _ i => X.length - (intOf i).toNat)
  case atStart => exact ⟨0, 0, Nat.zero_le _, rfl, rfl, rfl⟩
  case round =>
    obtain ⟨k, n, hk, rfl, rfl, hn⟩ := hrel
    have HN := Lib.hid hn
    clear hn
    by_cases hk1 : k < X.length
    · obtain ⟨ab, aoff, x, rfl, hcell, hx, HX⟩ := A4.out.at A3.out k hk1
      have hst := val_take_next X k
      rw [← HX.out, ← HN.out] at hst
      have HST := Lib.hid hst
      clear hst
      rcases k with _ | _ | k
      · have hn0 : n = 0 := HN.out
        subst hn0
        have hc0 : w.cell? ⟨ab, aoff, none⟩ = some (.int .u32 (x : Nat)) := hcell
        have hor : bits .or .u64 0 (x : Int) = (x : Int) := by
          have := bits_or_u64_nat 0 x (by omega) (by omega)
          rw [Nat.zero_or] at this
          exact this
        clear hcell
        go_wp2
        go_round
        case rel => exact ⟨1, x, hk1, by go_num, by go_num, by have := HST.out; simp at this; simp [this]⟩
        case measure => simp [intOf]; omega
      · have hn32 : n < 4294967296 := by
          have := val_lt (A3.out.take 1)
          rw [List.length_take, Nat.min_eq_left (by omega)] at this
          rw [HN.out]
          exact this
        have hor := or_shift hn32 hx
        have hc1 : w.cell? ⟨ab, aoff + 1, none⟩ = some (.int .u32 (x : Nat)) := hcell
        clear hcell
        go_wp2
        go_round
        case rel => exact ⟨2, n + 4294967296 * x, hk1, by go_num, by go_num, by have := HST.out; simpa using this.symm⟩
        case measure => simp [intOf]; omega
      · omega
    · obtain rfl : k = X.length := by omega
      have hf := HN.out
      rw [List.take_of_length_le (Nat.le_refl _)] at hf
      have HF := Lib.hid hf
      clear hf
      go_wp2
      go_ret
      exact ⟨ret_int (by rw [HF.out]), rfl⟩

theorem take_le_val (X : List Nat) (k : Nat) : val (X.take k) ≤ val X := by
  have := val_append (X.take k) (X.drop k)
  rw [List.take_append_drop] at this
  omega

/-- The lowest limb other than 0, and how often 2 divides it: how often 2 divides the number. -/
theorem val_twos {X : List Nat} {k t m : Nat} (hk : k < X.length) (hz : val (X.take k) = 0) (hx : X.getD k 0 = 2 ^ t * (2 * m + 1)) (_ht : t < 32) : ∃ m', val X = 2 ^ (32 * k + t) * (2 * m' + 1) := by
  have h1 : val X = val (X.take k) + 4294967296 ^ k * val (X.drop k) := by
    have := val_append (X.take k) (X.drop k)
    rwa [List.take_append_drop, List.length_take, Nat.min_eq_left (by omega)] at this
  have h2 : val (X.drop k) = X.getD k 0 + 4294967296 * val (X.drop (k + 1)) := by
    rw [drop_cons X k hk]
    rfl
  have h3 : (4294967296 : Nat) ^ k = 2 ^ (32 * k) := by rw [show (4294967296 : Nat) = 2 ^ 32 from rfl, ← Nat.pow_mul]
  have h4 : (4294967296 : Nat) = 2 ^ t * (2 * 2 ^ (31 - t)) := by
    rw [Nat.mul_comm 2, ← Nat.pow_succ, ← Nat.pow_add, show t + (31 - t + 1) = 32 by omega]
  refine ⟨m + 2 ^ (31 - t) * val (X.drop (k + 1)), ?_⟩
  rw [h1, hz, Nat.zero_add, h2, hx, h3, Nat.pow_add, Nat.mul_assoc]
  congr 1
  rw [h4, Nat.mul_assoc, ← Nat.mul_add]
  congr 1
  rw [Nat.mul_add, Nat.mul_assoc]
  omega

set_option maxHeartbeats 1000000 in
theorem twos_any (v : Value) (X : List Nat) (w : World) (h : Rd w v X) (h0 : val X ≠ 0) (hl : X.length ≤ 1099511627776) (hT : Tz w) :
    ∃ k t m : Nat, k < X.length ∧ t < 32 ∧ val X = 2 ^ (32 * k + t) * (2 * m + 1) ∧ val (X.take k) = 0 ∧ X.getD k 0 ≠ 0 ∧
      Calls Tryd.prog 48 #[v] w fun e w' => e = .returned (.int .i64 (32 * k + t : Nat)) ∧ w' = w := by
  have hex : ∃ k, k < X.length ∧ val (X.take k) = 0 ∧ X.getD k 0 ≠ 0 := by
    clear h hl hT
    induction X with
    | nil => exact absurd rfl h0
    | cons x X ih =>
      by_cases hx : x = 0
      · have : val X ≠ 0 := by
          intro e
          apply h0
          simp [val, e, hx]
        obtain ⟨k, h1, h2, h3⟩ := ih this
        exact ⟨k + 1, by simpa using h1, by simp [val, hx, h2], by simpa using h3⟩
      · exact ⟨0, by simp, rfl, by simpa using hx⟩
  obtain ⟨k, hk, hz, hne⟩ := hex
  obtain ⟨ao, ac, rfl, a1, a2, a3, a4⟩ := h
  have hzs : ∀ j, j < k → X.getD j 0 = 0 := by
    intro j hj
    rcases Nat.eq_zero_or_pos (X.getD j 0) with e | e
    · exact e
    · exfalso
      have h1 := val_take_next X j
      have h2 : val (X.take (j + 1)) ≤ val (X.take k) := by
        have := take_le_val (X.take k) (j + 1)
        rwa [List.take_take, Nat.min_eq_left (by omega)] at this
      have h3 := Nat.mul_le_mul (Nat.pow_pos (n := j) (show 0 < 4294967296 by omega)) e
      omega
  obtain ⟨b, off, x, rfl, hcell, hx, HX⟩ := a4.at a3 k hk
  obtain ⟨t, m, hxm, ht, hc⟩ := tz32_any x hx (by rw [HX.out]; exact hne) w hT
  obtain ⟨m', hm'⟩ := val_twos hk hz (by rw [← HX.out]; exact hxm) ht
  refine ⟨k, t, m', hk, ht, hm', hz, hne, ?_⟩
  have HC := Lib.hid hc
  have hx0 : ((x : Int) == 0) = false := beq_eq_false_iff_ne.2 (by rw [HX.out]; omega)
  have HZS := Lib.hid hzs
  have A3 := Lib.hid a3
  have A4 := Lib.hid a4
  clear hc hzs a3 a4 hm' hxm hz hne
  go_enter Tryd.func48, Tryd.ntmps48
  go_wp2
  go_loop [3] (fun i => ∃ j : Nat, j ≤ k ∧ i = .int .i64 j) (fun i => k - (intOf i).toNat)
  case atStart => exact ⟨0, Nat.zero_le _, rfl⟩
  case round =>
    obtain ⟨j, hj, rfl⟩ := hrel
    by_cases hj1 : j < k
    · obtain ⟨b', off', y, he, hcy, _, HY⟩ := A4.out.at A3.out j (by omega)
      obtain ⟨rfl, rfl⟩ : b = b' ∧ off = off' := by simpa using he
      have hy0 : y = 0 := by rw [HY.out]; exact HZS.out j hj1
      subst hy0
      clear he
      go_wp2
      go_round
      case rel => exact ⟨j + 1, hj1, by go_num⟩
      case measure => simp [intOf]; omega
    · obtain rfl : j = k := by omega
      go_wp2_with (go_at_call 68; refine HC.out.mono ?_; rintro e w1 ⟨rfl, rfl⟩)
      go_ret
      exact ⟨ret_int (by omega), rfl⟩
end Go.Proofs.YtijadodleiiomaaDoor
