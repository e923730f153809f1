/-
  natural.raise, lower, Shift: by walking their texts.
-/
import Derived.Test.YtijadodleiiomaaDoorSubW
import Derived.Test.YtijadodleiiomaaDoorShM
namespace Go.Proofs.YtijadodleiiomaaDoor
open Go.RowKit

theorem Sl.cellIn {w : World} {ao : Option Addr} {xs : List Nat} (h : Sl w ao xs) (hx : Limbs xs) (k : Nat) (hk : k < xs.length) {b off : Nat} (he : ao = some ⟨b, off, none⟩) :
    ∃ x, w.cell? ⟨b, off + k, none⟩ = some (.int .u32 (x : Nat)) ∧ x < 4294967296 ∧ Hid (x = xs.getD k 0) := by
  obtain ⟨b', off', x, he', h1, h2, h3⟩ := h.at hx k hk
  rw [he] at he'
  obtain ⟨rfl, rfl⟩ : b = b' ∧ off = off' := by simpa using he'
  exact ⟨x, h1, h2, h3⟩

theorem orup {c x n : Nat} (hc : c < 2 ^ n) (hx : x < 4294967296) (hn : n < 32) :
    bits .or .u64 (c : Int) (IntKind.u64.wrap ((x : Int) * 2 ^ n)) = ((c + x * 2 ^ n : Nat) : Int) := by
  obtain ⟨q, hq, hp, hlt⟩ := limb_pow hn
  have h1 := (raise_carry hc hx).2
  have h2 : 4294967296 * 2 ^ n ≤ 4294967296 * 4294967296 := Nat.mul_le_mul_left _ (Nat.le_of_lt hlt)
  have h3 : x * 2 ^ n < 18446744073709551616 := by omega
  have e : ((x : Int) * 2 ^ n) = ((x * 2 ^ n : Nat) : Int) := by rw [Int.natCast_mul, Int.natCast_pow]; rfl
  rw [e, IntWalk.u64_in _ (by omega), bits_or_u64_nat c (x * 2 ^ n) (by omega) h3, or_low hc]

set_option maxRecDepth 20000 in
set_option maxHeartbeats 1000000 in
theorem raise_any (g o L C : Nat) (ao : Option Addr) (cap n : Nat) (O xs : List Nat) (w : World) (hO : Own w 45 g O) (hL : Limbs O) (hx : Limbs xs) (hs : ∀ w', Only g w w' → Sl w' ao xs)
    (hl : xs.length + 1 ≤ L) (hl2 : o + L ≤ O.length) (hl3 : O.length ≤ 1099511627776) (_hcap : xs.length ≤ cap) (_hcm : cap ≤ maxLen) (hn : n < 32) :
    Calls Tryd.prog 71 #[.slice (some ⟨g, o, none⟩) L C, .slice ao xs.length cap, .int .i64 (n : Nat)] w fun e w' => e = .returned (.tuple #[]) ∧ ∃ P, Own w' 45 g P ∧ Limbs P ∧ P.length = O.length ∧ P.take o = O.take o ∧
      P.drop (o + (xs.length + 1)) = O.drop (o + (xs.length + 1)) ∧ val ((P.drop o).take (xs.length + 1)) = val xs * 2 ^ n ∧ Only g w w' := by
  have HO := Lib.hid hO
  have HL := Lib.hid hL
  have HX := Lib.hid hx
  have HS := Lib.hid hs
  clear hO hL hx hs
  go_enter Tryd.func71, Tryd.ntmps71
  go_wp2
  go_loopw [6, 11] (fun cv i wr => ∃ (k c : Nat) (P : List Nat), k ≤ xs.length ∧ i = .int .i64 k ∧ cv = .int .u64 c ∧ c < 2 ^ n ∧ Own wr 45 g P ∧ Limbs P ∧ P.length = O.length ∧ P.take o = O.take o ∧ P.drop (o + k) = O.drop (o + k) ∧
    val ((P.drop o).take k) + 4294967296 ^ k * c = val (xs.take k) * 2 ^ n ∧ Only g w wr) (fun _ i _ => xs.length - (intOf i).toNat)
  case atStart => exact ⟨0, 0, O, Nat.zero_le _, rfl, rfl, Nat.pow_pos (by omega), HO.out, HL.out, rfl, rfl, rfl, by simp [val], Only.refl _ _⟩
  case round =>
    obtain ⟨k, c, P, hk, rfl, rfl, hc, hP, hPL, hPl, hPt, hPd, hPv, K1⟩ := hrel
    have HP := Lib.hid hP
    have HPL := Lib.hid hPL
    have HPl := Lib.hid hPl
    have HPt := Lib.hid hPt
    have HPd := Lib.hid hPd
    have HPv := Lib.hid hPv
    have HC := Lib.hid hc
    have hc32 : c < 4294967296 := Nat.lt_trans hc (limb_pow hn).choose_spec.2.2
    clear hP hPL hPl hPt hPd hPv hc
    by_cases hk1 : k < xs.length
    · obtain ⟨ab, aoff, x, rfl, hcell, hx, HXx⟩ := (HS.out wr K1).at HX.out k hk1
      obtain ⟨y, hcl, _, _⟩ := HP.out.at HPL.out (o + k) (by rw [HPl.out]; omega)
      have hfz := HP.out.frozen (o + k)
      have HB := Lib.hid (orup HC.out hx hn)
      have HR := Lib.hid (raise_carry HC.out hx)
      have HST := Lib.hid (raise_step (D := P.drop o) (by rw [List.length_drop, HPl.out]; omega) HPv.out HXx.out)
      go_wp2
      rw [HB.out]
      go_roundw
      case rel => exact ⟨k + 1, (c + x * 2 ^ n) / 4294967296, P.set (o + k) ((c + x * 2 ^ n) % 4294967296), by omega, by go_num, by go_num, HR.out.1, HP.out.set (o + k) _, HPL.out.set _ _ (Nat.mod_lt _ (by omega)), by rw [List.length_set]; exact HPl.out, by rw [List.take_set_of_le (Nat.le_add_right o k)]; exact HPt.out, drop_next HPd.out _, by rw [drop_set_ge]; exact HST.out, K1.setCell _ _⟩
      case measure => simp [intOf]; omega
    · obtain rfl : k = xs.length := by omega
      obtain ⟨y, hcl, _, _⟩ := HP.out.at HPL.out (o + xs.length) (by rw [HPl.out]; omega)
      have hfz := HP.out.frozen (o + xs.length)
      have HF := Lib.hid (raise_fin (D := P.drop o) (by rw [List.length_drop, HPl.out]; omega) HPv.out)
      go_wp2
      go_end0
      exact ⟨rfl, P.set (o + xs.length) c, HP.out.set (o + xs.length) _, HPL.out.set _ _ hc32, by rw [List.length_set]; exact HPl.out, by rw [List.take_set_of_le (Nat.le_add_right o _)]; exact HPt.out, drop_next HPd.out _, by rw [drop_set_ge]; exact HF.out, K1.setCell _ _⟩
theorem shr_cast (v n : Nat) : ((v : Int) / 2 ^ n % 4294967296) = ((v / 2 ^ n % 4294967296 : Nat) : Int) := by
  rw [Int.natCast_emod, Int.natCast_ediv, Int.natCast_pow]
  rfl

theorem orpair {x y : Nat} (hx : x < 4294967296) (hy : y < 4294967296) :
    bits .or .u64 (x : Int) ((y : Int) * 4294967296) = ((x + 4294967296 * y : Nat) : Int) := by
  have h1 := bits_or_u64_nat x (y * 4294967296) (by omega) (by omega)
  rw [Int.natCast_mul] at h1
  have h2 := or_low (c := x) (x := y) (n := 32) (by omega)
  rw [show (2 ^ 32 : Nat) = 4294967296 from rfl] at h2
  rw [show ((y : Int) * 4294967296) = (y : Int) * ((4294967296 : Nat) : Int) from rfl, h1, h2, Nat.mul_comm]

set_option maxRecDepth 20000 in
set_option maxHeartbeats 1000000 in
theorem lower_any (g L C n : Nat) (O : List Nat) (w : World) (hO : Own w 45 g O) (hL : Limbs O) (hl2 : L ≤ O.length) (hl3 : O.length ≤ 1099511627776) (hn : n < 32) :
    Calls Tryd.prog 75 #[.slice (some ⟨g, 0, none⟩) L C, .int .i64 (n : Nat)] w fun e w' => e = .returned (.tuple #[]) ∧ ∃ P, Own w' 45 g P ∧ Limbs P ∧ P.length = O.length ∧
      P.drop L = O.drop L ∧ val (P.take L) = val (O.take L) / 2 ^ n ∧ Only g w w' := by
  have HO := Lib.hid hO
  have HL := Lib.hid hL
  clear hO hL
  go_enter Tryd.func75, Tryd.ntmps75
  go_wp2
  go_loopw [8] (fun i wr => ∃ (k : Nat) (P : List Nat), k ≤ L ∧ i = .int .i64 k ∧ Own wr 45 g P ∧ Limbs P ∧ P.length = O.length ∧ P.take k = (lowL n (O.take L)).take k ∧ P.drop k = O.drop k ∧ Only g w wr) (fun i _ => L - (intOf i).toNat)
  case atStart => exact ⟨0, O, Nat.zero_le _, rfl, HO.out, HL.out, rfl, rfl, rfl, Only.refl _ _⟩
  case round =>
    obtain ⟨k, P, hk, rfl, hP, hPL, hPl, hPt, hPd, K1⟩ := hrel
    have HP := Lib.hid hP
    have HPL := Lib.hid hPL
    have HPl := Lib.hid hPl
    have HPt := Lib.hid hPt
    have HPd := Lib.hid hPd
    clear hP hPL hPl hPt hPd
    by_cases hk1 : k < L
    · obtain ⟨x, hcell, hx, HX⟩ := HP.out.at HPL.out k (by rw [HPl.out]; omega)
      have hfz := HP.out.frozen k
      have HXO := Lib.hid (show x = O.getD k 0 by rw [HX.out, drop_getD HPd.out])
      by_cases hk2 : k + 1 < L
      · obtain ⟨y, hcell2, hy, HY⟩ := HP.out.at HPL.out (k + 1) (by rw [HPl.out]; omega)
        have HYO := Lib.hid (show y = (O.take L).getD (k + 1) 0 by
          rw [getD_take _ _ _ hk2, HY.out]
          have h1 : P.drop (k + 1) = O.drop (k + 1) := by rw [← List.drop_drop, ← List.drop_drop, HPd.out]
          exact drop_getD h1)
        have HB := Lib.hid (orpair hx hy)
        have HST := Lib.hid (low_step hk1 hl2 HPl.out HPt.out (d := (x + 4294967296 * y) / 2 ^ n % 4294967296) (by rw [← HXO.out, ← HYO.out]))
        go_wp2
        rw [HB.out, shr_cast]
        go_roundw
        case rel => exact ⟨k + 1, P.set k ((x + 4294967296 * y) / 2 ^ n % 4294967296), by omega, by go_num, HP.out.set k _, HPL.out.set _ _ (Nat.mod_lt _ (by omega)), by rw [List.length_set]; exact HPl.out, HST.out, drop_next HPd.out _, K1.setCell _ _⟩
        case measure => simp [intOf]; omega
      · have HST := Lib.hid (low_step hk1 hl2 HPl.out HPt.out (d := x / 2 ^ n % 4294967296) (by rw [← HXO.out, take_getD_out O L (k + 1) hk2]; rfl))
        go_wp2
        rw [shr_cast]
        go_roundw
        case rel => exact ⟨k + 1, P.set k (x / 2 ^ n % 4294967296), by omega, by go_num, HP.out.set k _, HPL.out.set _ _ (Nat.mod_lt _ (by omega)), by rw [List.length_set]; exact HPl.out, HST.out, drop_next HPd.out _, K1.setCell _ _⟩
        case measure => simp [intOf]; omega
    · obtain rfl : k = L := by omega
      have hfin : val (P.take k) = val (O.take k) / 2 ^ n := by
        rw [HPt.out, List.take_of_length_le (by rw [lowL_len, List.length_take]; exact Nat.min_le_left _ _), val_lowL hn (HL.out.take k)]
      have HF := Lib.hid hfin
      clear hfin
      go_wp2
      go_end0
      exact ⟨rfl, P, HP.out, HPL.out, HPl.out, HPd.out, HF.out, K1⟩
end Go.Proofs.YtijadodleiiomaaDoor
