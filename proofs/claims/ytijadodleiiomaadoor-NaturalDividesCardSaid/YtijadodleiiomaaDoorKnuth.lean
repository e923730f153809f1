/-
  natural.subtract, addBack, guess: by walking their texts.
-/
import Derived.Test.YtijadodleiiomaaDoorDiv64
namespace Go.Proofs.YtijadodleiiomaaDoor
open Go.RowKit

theorem mulc {c x y : Nat} (hc : c < 4294967296) (hx : x < 4294967296) (hy : y < 4294967296) :
    IntKind.u64.wrap ((c : Int) + IntKind.u64.wrap ((x : Int) * (y : Int))) = ((c + x * y : Nat) : Int) ∧ c + x * y ≤ 18446744073709551615 := by
  have h : x * y ≤ 4294967295 * 4294967295 := Nat.mul_le_mul (by omega) (by omega)
  rw [← Int.natCast_mul]
  generalize x * y = p at *
  refine ⟨?_, by omega⟩
  rw [IntWalk.u64_in (p : Int) (by omega), IntWalk.u64_in _ (by omega)]
  omega

/-- One step of a difference with a multiple, in a part of a row. -/
theorem mulsub_step {P O V : List Nat} {o k c b x y p t b' d : Nat} (hk : o + k < P.length) (hd : P.drop (o + k) = O.drop (o + k)) (hp : p = P.getD (o + k) 0) (hy : y = V.getD k 0)
    (hv : val ((P.drop o).take k) + x * val (V.take k) = val ((O.drop o).take k) + (c + b) * 4294967296 ^ k) (ht : t = c + x * y) (hs : p + 4294967296 * b' = d + (t % 4294967296 + b)) :
    val (((P.set (o + k) d).drop o).take (k + 1)) + x * val (V.take (k + 1)) = val ((O.drop o).take (k + 1)) + (t / 4294967296 + b') * 4294967296 ^ (k + 1) := by
  have e0 : (O.drop o).getD k 0 = p := by
    rw [hp]
    simp only [List.getD, List.getElem?_drop]
    have h1 : (P.drop (o + k))[0]? = (O.drop (o + k))[0]? := by rw [hd]
    simp only [List.getElem?_drop, Nat.add_zero] at h1
    rw [h1]
  rw [drop_set_ge, val_set_take _ _ _ (by rw [List.length_drop]; omega), val_take_next V, val_take_next (O.drop o), e0, ← hy, powB k, Nat.mul_add, Nat.add_mul]
  have h2 := Nat.div_add_mod t 4294967296
  have e1 : d + x * y + c + b = p + 4294967296 * b' + 4294967296 * (t / 4294967296) := by omega
  generalize t / 4294967296 = T at *
  generalize t % 4294967296 = R at *
  generalize val ((P.drop o).take k) = A at *
  generalize val ((O.drop o).take k) = B at *
  generalize val (V.take k) = C at *
  generalize (4294967296 : Nat) ^ k = K at *
  have e2 : K * (d + x * y + c + b) = K * (p + 4294967296 * b' + 4294967296 * T) := by rw [e1]
  rw [Nat.mul_add, Nat.mul_add, Nat.mul_add, Nat.mul_add, Nat.mul_add] at e2
  have e3 : x * (K * y) = K * (x * y) := Nat.mul_left_comm _ _ _
  have e4 : T * (K * 4294967296) = K * (4294967296 * T) := by rw [Nat.mul_comm T, Nat.mul_assoc]
  have e5 : b' * (K * 4294967296) = K * (4294967296 * b') := by rw [Nat.mul_comm b', Nat.mul_assoc]
  have e6 : (c + b) * K = K * c + K * b := by rw [Nat.mul_comm, Nat.mul_add]
  rw [e3, e4, e5]
  rw [e6] at hv
  omega

set_option maxRecDepth 20000 in
set_option maxHeartbeats 1000000 in
theorem subtract_any (g o C D h x : Nat) (da : Option Addr) (O V : List Nat) (w : World) (hO : Own w 45 g O) (hL : Limbs O) (hV : Limbs V) (hs : ∀ w', Only g w w' → Sl w' da V)
    (hl2 : o + V.length ≤ O.length) (hl3 : O.length ≤ 1099511627776) (_hcap : V.length ≤ D) (_hcm : D ≤ maxLen) (hh : h < 4294967296) (hx : x < 4294967296) :
    Calls Tryd.prog 73 #[.int .u32 (h : Nat), .slice (some ⟨g, o, none⟩) V.length C, .slice da V.length D, .int .u32 (x : Nat)] w fun e w' => ∃ (P : List Nat) (c : Nat), e = .returned (.bool (decide (h < c))) ∧ Own w' 45 g P ∧ Limbs P ∧ P.length = O.length ∧ P.take o = O.take o ∧
      P.drop (o + V.length) = O.drop (o + V.length) ∧ val ((P.drop o).take V.length) + x * val V = val ((O.drop o).take V.length) + c * 4294967296 ^ V.length ∧ Only g w w' := by
  have HO := Lib.hid hO
  have HL := Lib.hid hL
  have HX := Lib.hid hV
  have HS := Lib.hid hs
  clear hO hL hV hs
  go_enter Tryd.func73, Tryd.ntmps73
  go_wp2
  go_loopw [9, 10, 16] (fun cv bv i wr => ∃ (k c b : Nat) (P : List Nat), k ≤ V.length ∧ i = .int .i64 k ∧ cv = .int .u64 c ∧ bv = .int .u64 b ∧ c < 4294967296 ∧ b ≤ 1 ∧ Own wr 45 g P ∧ Limbs P ∧ P.length = O.length ∧ P.take o = O.take o ∧ P.drop (o + k) = O.drop (o + k) ∧
    val ((P.drop o).take k) + x * val (V.take k) = val ((O.drop o).take k) + (c + b) * 4294967296 ^ k ∧ Only g w wr) (fun _ _ i _ => V.length - (intOf i).toNat)
  case atStart => exact ⟨0, 0, 0, O, Nat.zero_le _, rfl, rfl, rfl, by omega, by omega, HO.out, HL.out, rfl, rfl, rfl, by simp [val], Only.refl _ _⟩
  case round =>
    obtain ⟨k, c, b, P, hk, rfl, rfl, rfl, hc, hb, hP, hPL, hPl, hPt, hPd, hPv, K1⟩ := hrel
    have HP := Lib.hid hP
    have HPL := Lib.hid hPL
    have HPl := Lib.hid hPl
    have HPt := Lib.hid hPt
    have HPd := Lib.hid hPd
    have HPv := Lib.hid hPv
    clear hP hPL hPl hPt hPd hPv
    by_cases hk1 : k < V.length
    · obtain ⟨ab, aoff, y, rfl, hcell, hy, HY⟩ := (HS.out wr K1).at HX.out k hk1
      obtain ⟨p, hcl, hp, HPp⟩ := HP.out.at HPL.out (o + k) (by rw [HPl.out]; omega)
      have hfz := HP.out.frozen (o + k)
      have HB := Lib.hid (mulc hc hx hy)
      obtain ⟨t, ht⟩ : ∃ t, t = c + x * y := ⟨_, rfl⟩
      rw [← ht] at HB
      have HT := Lib.hid ht
      clear ht
      have HSW := Lib.hid (subw (s := t % 4294967296 + b) hp (by omega))
      have HS2 := Lib.hid (@subw2 p (t % 4294967296) b)
      have ht1 : ((t : Int) % 4294967296) = ((t % 4294967296 : Nat) : Int) := by omega
      have ht2 : ((t : Int) / 4294967296) = ((t / 4294967296 : Nat) : Int) := by omega
      have HT1 := Lib.hid ht1
      have HT2 := Lib.hid ht2
      clear ht1 ht2
      go_wp2
      rw [HB.out.1, HT1.out, HT2.out, HS2.out, HSW.out.1, HSW.out.2.1]
      go_roundw
      case rel => exact ⟨k + 1, t / 4294967296, bor p (t % 4294967296 + b), P.set (o + k) (p + 4294967296 * bor p (t % 4294967296 + b) - (t % 4294967296 + b)), by omega, by go_num, rfl, rfl, by have := HB.out.2; omega, bor_le _ _, HP.out.set (o + k) _, HPL.out.set _ _ HSW.out.2.2.1, by rw [List.length_set]; exact HPl.out, by rw [List.take_set_of_le (Nat.le_add_right o k)]; exact HPt.out, drop_next HPd.out _, mulsub_step (by rw [HPl.out]; omega) HPd.out HPp.out HY.out HPv.out HT.out HSW.out.2.2.2, K1.setCell _ _⟩
      case measure => simp [intOf]; omega
    · obtain rfl : k = V.length := by omega
      have hfin := HPv.out
      rw [List.take_of_length_le (Nat.le_refl V.length)] at hfin
      have HF := Lib.hid hfin
      clear hfin
      have hdec : decide ((h : Int) < (c : Int) + (b : Int)) = decide (h < c + b) := decide_eq_decide.2 (by omega)
      have HDEC := Lib.hid hdec
      clear hdec
      go_wp2
      go_ret
      exact ⟨P, c + b, ret_bool HDEC.out, HP.out, HPL.out, HPl.out, HPt.out, HPd.out, HF.out, K1⟩

/-- One step of a sum, in a part of a row. -/
theorem addback_step {P O V : List Nat} {o k c y p t : Nat} (hk : o + k < P.length) (hd : P.drop (o + k) = O.drop (o + k)) (hp : p = P.getD (o + k) 0) (hy : y = V.getD k 0)
    (hv : val ((P.drop o).take k) + c * 4294967296 ^ k = val ((O.drop o).take k) + val (V.take k)) (ht : t = c + (p + y)) :
    val (((P.set (o + k) (t % 4294967296)).drop o).take (k + 1)) + t / 4294967296 * 4294967296 ^ (k + 1) = val ((O.drop o).take (k + 1)) + val (V.take (k + 1)) := by
  have e0 : (O.drop o).getD k 0 = p := by
    rw [hp]
    simp only [List.getD, List.getElem?_drop]
    have h1 : (P.drop (o + k))[0]? = (O.drop (o + k))[0]? := by rw [hd]
    simp only [List.getElem?_drop, Nat.add_zero] at h1
    rw [h1]
  rw [drop_set_ge, val_set_take _ _ _ (by rw [List.length_drop]; omega), val_take_next V, val_take_next (O.drop o), e0, ← hy, powB k]
  have h2 := Nat.div_add_mod t 4294967296
  have e1 : t % 4294967296 + 4294967296 * (t / 4294967296) = c + p + y := by omega
  generalize t / 4294967296 = T at *
  generalize t % 4294967296 = R at *
  generalize val ((P.drop o).take k) = A at *
  generalize val ((O.drop o).take k) = B at *
  generalize val (V.take k) = C at *
  generalize (4294967296 : Nat) ^ k = K at *
  have e2 : K * (R + 4294967296 * T) = K * (c + p + y) := by rw [e1]
  rw [Nat.mul_add, Nat.mul_add, Nat.mul_add] at e2
  have e4 : T * (K * 4294967296) = K * (4294967296 * T) := by rw [Nat.mul_comm T, Nat.mul_assoc]
  have e6 : c * K = K * c := Nat.mul_comm _ _
  rw [e4]
  rw [e6] at hv
  omega

set_option maxRecDepth 20000 in
set_option maxHeartbeats 1000000 in
theorem addBack_any (g o C D : Nat) (da : Option Addr) (O V : List Nat) (w : World) (hO : Own w 45 g O) (hL : Limbs O) (hV : Limbs V) (hs : ∀ w', Only g w w' → Sl w' da V)
    (hl2 : o + V.length ≤ O.length) (hl3 : O.length ≤ 1099511627776) (_hcap : V.length ≤ D) (_hcm : D ≤ maxLen) :
    Calls Tryd.prog 74 #[.slice (some ⟨g, o, none⟩) V.length C, .slice da V.length D] w fun e w' => ∃ (P : List Nat) (c : Nat), e = .returned (.tuple #[]) ∧ Own w' 45 g P ∧ Limbs P ∧ P.length = O.length ∧ P.take o = O.take o ∧
      P.drop (o + V.length) = O.drop (o + V.length) ∧ val ((P.drop o).take V.length) + c * 4294967296 ^ V.length = val ((O.drop o).take V.length) + val V ∧ Only g w w' := by
  have HO := Lib.hid hO
  have HL := Lib.hid hL
  have HX := Lib.hid hV
  have HS := Lib.hid hs
  clear hO hL hV hs
  go_enter Tryd.func74, Tryd.ntmps74
  go_wp2
  go_loopw [4, 9] (fun cv i wr => ∃ (k c : Nat) (P : List Nat), k ≤ V.length ∧ i = .int .i64 k ∧ cv = .int .u64 c ∧ c < 4294967296 ∧ Own wr 45 g P ∧ Limbs P ∧ P.length = O.length ∧ P.take o = O.take o ∧ P.drop (o + k) = O.drop (o + k) ∧
    val ((P.drop o).take k) + c * 4294967296 ^ k = val ((O.drop o).take k) + val (V.take k) ∧ Only g w wr) (fun _ i _ => V.length - (intOf i).toNat)
  case atStart => exact ⟨0, 0, O, Nat.zero_le _, rfl, rfl, by omega, HO.out, HL.out, rfl, rfl, rfl, by simp [val], Only.refl _ _⟩
  case round =>
    obtain ⟨k, c, P, hk, rfl, rfl, hc, hP, hPL, hPl, hPt, hPd, hPv, K1⟩ := hrel
    have HP := Lib.hid hP
    have HPL := Lib.hid hPL
    have HPl := Lib.hid hPl
    have HPt := Lib.hid hPt
    have HPd := Lib.hid hPd
    have HPv := Lib.hid hPv
    clear hP hPL hPl hPt hPd hPv
    by_cases hk1 : k < V.length
    · obtain ⟨ab, aoff, y, rfl, hcell, hy, HY⟩ := (HS.out wr K1).at HX.out k hk1
      obtain ⟨p, hcl, hp, HPp⟩ := HP.out.at HPL.out (o + k) (by rw [HPl.out]; omega)
      have hfz := HP.out.frozen (o + k)
      go_wp2
      go_roundw
      case rel => exact ⟨k + 1, (c + (p + y)) / 4294967296, P.set (o + k) ((c + (p + y)) % 4294967296), by omega, by go_num, by go_num, by omega, HP.out.set (o + k) _, HPL.out.set _ _ (by omega), by rw [List.length_set]; exact HPl.out, by rw [List.take_set_of_le (Nat.le_add_right o k)]; exact HPt.out, drop_next HPd.out _, addback_step (by rw [HPl.out]; omega) HPd.out HPp.out HY.out HPv.out rfl, K1.setCell _ _⟩
      case measure => simp [intOf]; omega
    · obtain rfl : k = V.length := by omega
      have hfin := HPv.out
      rw [List.take_of_length_le (Nat.le_refl V.length)] at hfin
      have HF := Lib.hid hfin
      clear hfin
      go_wp2
      go_end0
      exact ⟨P, c, rfl, HP.out, HPL.out, HPl.out, HPt.out, HPd.out, HF.out, K1⟩

theorem hi_or {x y : Nat} (hx : x < 4294967296) (hy : y < 4294967296) :
    bits .or .u64 ((x : Int) * 4294967296) (y : Int) = ((x * 4294967296 + y : Nat) : Int) := by
  have h1 := bits_or_u64_nat (x * 4294967296) y (by omega) (by omega)
  rw [Int.natCast_mul] at h1
  rw [show ((x : Int) * 4294967296) = (x : Int) * ((4294967296 : Nat) : Int) from rfl, h1]
  congr 1
  have h2 := Nat.two_pow_add_eq_or_of_lt (i := 32) (b := y) (by omega) x
  rw [Nat.mul_comm x]
  exact h2.symm

/-- The guess of a limb of a quotient. -/
def guessN (h : Nat) (P V : List Nat) : Nat :=
  min ((h * 18446744073709551616 + (P.getD (V.length - 1) 0 * 4294967296 + P.getD (V.length - 2) 0)) / (V.getD (V.length - 1) 0 * 4294967296 + V.getD (V.length - 2) 0)) 4294967295

theorem guessN_lt (h : Nat) (P V : List Nat) : guessN h P V < 4294967296 := Nat.lt_succ_of_le (Nat.min_le_right _ _)

set_option maxRecDepth 20000 in
set_option maxHeartbeats 1000000 in
theorem guess_any (C D h : Nat) (pa da : Option Addr) (P V : List Nat) (w : World) (hP : Sl w pa P) (hL : Limbs P) (hD : Sl w da V) (hV : Limbs V) (hl : P.length = V.length) (h2 : 2 ≤ V.length) (hm : V.length ≤ 1099511627776)
    (htop : 2147483648 ≤ V.getD (V.length - 1) 0) (hh : h < 4294967296) :
    Calls Tryd.prog 72 #[.int .u32 (h : Nat), .slice pa V.length C, .slice da V.length D] w fun e w' => e = .returned (.int .u32 (guessN h P V : Nat)) ∧ Kp w w' := by
  obtain ⟨pb, po, p1, rfl, c1, b1, e1⟩ := hP.at hL (V.length - 1) (by omega)
  obtain ⟨pb', po', p0, he0, c0, b0, e0⟩ := hP.at hL (V.length - 2) (by omega)
  obtain ⟨rfl, rfl⟩ : pb = pb' ∧ po = po' := by simpa using he0
  obtain ⟨db, dof, v1, rfl, f1, g1, q1⟩ := hD.at hV (V.length - 1) (by omega)
  obtain ⟨db', dof', v0, he1, f0, g0, q0⟩ := hD.at hV (V.length - 2) (by omega)
  obtain ⟨rfl, rfl⟩ : db = db' ∧ dof = dof' := by simpa using he1
  have HG : Hid (guessN h P V = min ((h * 18446744073709551616 + (p1 * 4294967296 + p0)) / (v1 * 4294967296 + v0)) 4294967295) := by
    unfold guessN
    rw [← e1.out, ← e0.out, ← q1.out, ← q0.out]
    exact Lib.hid rfl
  have hv1 : 2147483648 ≤ v1 := by rw [q1.out]; exact htop
  have ho1 := hi_or b1 b0
  have ho2 := hi_or g1 g0
  obtain ⟨lo, hlo⟩ : ∃ lo, lo = p1 * 4294967296 + p0 := ⟨_, rfl⟩
  obtain ⟨dy, hdy⟩ : ∃ dy, dy = v1 * 4294967296 + v0 := ⟨_, rfl⟩
  rw [← hlo] at ho1 HG
  rw [← hdy] at ho2 HG
  have HD64 := Lib.hid (fun w1 => div64_any h lo dy w1 hh (by omega) (by omega) (by omega))
  obtain ⟨q, hq⟩ : ∃ q, q = (h * 18446744073709551616 + lo) / dy := ⟨_, rfl⟩
  rw [← hq] at HG HD64
  have hqb : q < 18446744073709551616 := by
    rw [hq]
    refine Nat.div_lt_of_lt_mul ?_
    omega
  clear hlo hdy
  obtain ⟨n, hn⟩ : ∃ n, n = V.length := ⟨_, rfl⟩
  rw [← hn] at c1 c0 f1 f0 h2 hm ⊢
  clear he0 he1 hP hL hD hV htop hl hq hn e1 e0 q1 q0
  go_enter Tryd.func72, Tryd.ntmps72
  go_wp2
  go_quiet (fail)
  go_wp2
  go_quiet (fail)
  go_wp2_with (go_at_call 79; refine (HD64.out _).mono ?_; rintro e w1 ⟨r, rfl, K1⟩)
  go_ret
  exact ⟨ret_int (by have := HG.out; omega), (Kp.drewN (Below.refl _ _) _).tr K1⟩
end Go.Proofs.YtijadodleiiomaaDoor
