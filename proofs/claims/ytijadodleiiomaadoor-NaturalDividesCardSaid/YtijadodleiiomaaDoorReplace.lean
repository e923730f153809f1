/-
  natural.replace: by walking its text.
-/
import Derived.Test.YtijadodleiiomaaDoorWindow
import Derived.Test.YtijadodleiiomaaDoorDiv3
namespace Go.Proofs.YtijadodleiiomaaDoor
open Go.RowKit

/-- One limb of what a row of the matrix makes. -/
theorem rep_step {P' P Q : List Nat} {k x y : Nat} {F S M0 M1 : Int} (hk : k < P'.length) (hx : x = P.getD k 0) (hy : y = Q.getD k 0) (hS : S = F + (M0 * x + M1 * y))
    (hv : F * (4294967296 : Int) ^ k + val (P'.take k) = M0 * val (P.take k) + M1 * val (Q.take k)) :
    S / 4294967296 * (4294967296 : Int) ^ (k + 1) + val ((P'.set k (S % 4294967296).toNat).take (k + 1)) = M0 * val (P.take (k + 1)) + M1 * val (Q.take (k + 1)) := by
  rw [val_set_take _ _ _ hk, val_take_next P, val_take_next Q, ← hx, ← hy]
  have e1 : (((S % 4294967296).toNat : Nat) : Int) = S % 4294967296 := Int.toNat_of_nonneg (by omega)
  have e2 := Int.mul_ediv_add_emod S 4294967296
  have e3 : ((4294967296 ^ k : Nat) : Int) = (4294967296 : Int) ^ k := by simp
  rw [Int.natCast_add, Int.natCast_mul, e1, e3, Int.natCast_add, Int.natCast_add, Int.natCast_mul, Int.natCast_mul, e3, Int.pow_succ]
  generalize (4294967296 : Int) ^ k = K at *
  generalize S / 4294967296 = D at *
  generalize S % 4294967296 = R at *
  generalize (val (P'.take k) : Int) = a at *
  generalize (val (P.take k) : Int) = b at *
  generalize (val (Q.take k) : Int) = c at *
  have e4 : K * (4294967296 * D + R) = K * (F + (M0 * x + M1 * y)) := by rw [e2, hS]
  grind

theorem rep_fin {A' v : Nat} {F j C : Int} {K : Nat} (h1 : F * K + v = C) (h2 : (A' : Int) = C + j * K) (h3 : A' < K) (h4 : v < K) : v = A' := by
  have e : ((A' : Int) - v) = (F + j) * K := by rw [h2, ← h1]; grind
  have h5 : F + j = 0 := by
    rcases Int.lt_trichotomy (F + j) 0 with h | h | h
    · have := Int.mul_le_mul_of_nonneg_right (show F + j ≤ -1 by omega) (show (0 : Int) ≤ K by omega)
      omega
    · exact h
    · have := Int.mul_le_mul_of_nonneg_right (show 1 ≤ F + j by omega) (show (0 : Int) ≤ K by omega)
      omega
  rw [h5, Int.zero_mul] at e
  omega

/-- The value v is the beginning of the row g and reads as the magnitude n. -/
def RowG (w : World) (g : Nat) (v : Value) (n : Nat) : Prop :=
  ∃ P cap, v = .slice (some ⟨g, 0, none⟩) (toL n).length cap ∧ Own w 45 g P ∧ Limbs P ∧ (toL n).length ≤ P.length ∧ P.length ≤ cap ∧ cap ≤ maxLen ∧ P.take (toL n).length = toL n

theorem Row.g {w : World} {base : Nat} {v : Value} {n : Nat} (h : Row w base v n) : ∃ g, base ≤ g ∧ g < w.heap.size ∧ RowG w g v n := by
  obtain ⟨g, P, cap, h0, h1, h2, h⟩ := h
  exact ⟨g, h1, h2.lt, P, cap, h0, h2, h⟩

theorem RowG.row {w : World} {g base : Nat} {v : Value} {n : Nat} (h : RowG w g v n) (hb : base ≤ g) : Row w base v n := by
  obtain ⟨P, cap, h0, h2, h⟩ := h
  exact ⟨g, P, cap, h0, hb, h2, h⟩

theorem RowG.m {w : World} {g : Nat} {v : Value} {n : Nat} (h : RowG w g v n) : M w v n := (h.row (Nat.zero_le _)).m

theorem RowG.kp {w w' : World} {g : Nat} {v : Value} {n : Nat} (h : RowG w g v n) (k : Kp w w') : RowG w' g v n := by
  obtain ⟨P, cap, h0, h2, h⟩ := h
  exact ⟨P, cap, h0, h2.kp k, h⟩

theorem RowG.lt {w : World} {g : Nat} {v : Value} {n : Nat} (h : RowG w g v n) : g < w.heap.size := by
  obtain ⟨P, cap, _, h2, _⟩ := h
  exact h2.lt

theorem Own.rowG {w : World} {g : Nat} {P : List Nat} (h : Own w 45 g P) (hL : Limbs P) {k cap : Nat} (hk : k ≤ P.length) (hc : P.length ≤ cap) {n : Nat} (hv : val (P.take k) = n) (hm : cap ≤ maxLen) :
    RowG w g (.slice (some ⟨g, 0, none⟩) (trimL (P.take k)).length cap) n := by
  obtain ⟨g', P', cap', h0, _, h2, h3, h4, h5, h6, h7⟩ := h.rowTake hL (Nat.le_refl _) hk hc hv hm
  obtain ⟨⟨rfl⟩, h9, rfl⟩ : (some (⟨g, 0, none⟩ : Addr) = some ⟨g', 0, none⟩) ∧ (trimL (P.take k)).length = (toL n).length ∧ cap = cap' := by simpa using h0
  exact ⟨P', cap, by rw [h9], h2, h3, h4, h5, h6, h7⟩

theorem heap_other {w : World} {g h : Nat} {o : Obj} (H : w.heap[g]? = some o) (hne : g ≠ h) (j : Nat) (v : Value) : (w.setCell ⟨h, j, none⟩ v).heap[g]? = some o :=
  (((Only.refl h w).setCell j v).block g hne).trans H

theorem Own.other {w : World} {e : TypeId} {g h : Nat} {xs : List Nat} (H : Own w e g xs) (hne : g ≠ h) (j : Nat) (v : Value) : Own (w.setCell ⟨h, j, none⟩ v) e g xs := heap_other H hne j v

theorem Own.drewN {w : World} {e : TypeId} {g : Nat} {xs : List Nat} (H : Own w e g xs) (n : Nat) : Own (w.drewN n) e g xs := H

/-- The products of a limb and a short factor, and their sum. -/
theorem rep_bound {M0 M1 F : Int} {x y : Nat} (hx : x < 4294967296) (hy : y < 4294967296) (h0 : -2147483648 < M0 ∧ M0 < 2147483648) (h1 : -2147483648 < M1 ∧ M1 < 2147483648)
    (hs : (0 ≤ M0 ∧ M1 ≤ 0) ∨ (M0 ≤ 0 ∧ 0 ≤ M1)) (hF : -2147483648 ≤ F ∧ F ≤ 2147483648) :
    (-9223372030412324865 ≤ M0 * x ∧ M0 * x ≤ 9223372030412324865) ∧ (-9223372030412324865 ≤ M1 * y ∧ M1 * y ≤ 9223372030412324865) ∧ (-9223372030412324865 ≤ M0 * x + M1 * y ∧ M0 * x + M1 * y ≤ 9223372030412324865) := by
  have a1 : ∀ (M : Int) (z : Nat), z < 4294967296 → 0 ≤ M → M < 2147483648 → 0 ≤ M * z ∧ M * z ≤ 9223372030412324865 := by
    intro M z hz hM hM2
    have h1 := Int.mul_le_mul (show M ≤ 2147483647 by omega) (show (z : Int) ≤ 4294967295 by omega) (by omega) (by omega)
    exact ⟨Int.mul_nonneg hM (by omega), by omega⟩
  have a2 : ∀ (M : Int) (z : Nat), z < 4294967296 → M ≤ 0 → -2147483648 < M → M * z ≤ 0 ∧ -9223372030412324865 ≤ M * z := by
    intro M z hz hM hM2
    have := a1 (-M) z hz (by omega) (by omega)
    rw [Int.neg_mul] at this
    omega
  rcases hs with ⟨h2, h3⟩ | ⟨h2, h3⟩
  · have := a1 M0 x hx h2 h0.2
    have := a2 M1 y hy h3 h1.1
    omega
  · have := a2 M0 x hx h2 h0.1
    have := a1 M1 y hy h3 h1.2
    omega

set_option maxRecDepth 20000 in
set_option maxHeartbeats 1000000 in
theorem replace_any (w0 w : World) (ga gb : Nat) (a b : Value) (A B A' B' : Nat) (M0 M1 M2 M3 : Int) (ha : RowG w ga a A) (hb : RowG w gb b B) (hk : Kp w0 w) (h1 : w0.heap.size ≤ ga) (h2 : w0.heap.size ≤ gb) (hne : ga ≠ gb)
    (hl : (toL A).length ≤ 549755813888) (hBA : B ≤ A)
    (b0 : -2147483648 < M0 ∧ M0 < 2147483648) (b1 : -2147483648 < M1 ∧ M1 < 2147483648) (b2 : -2147483648 < M2 ∧ M2 < 2147483648) (b3 : -2147483648 < M3 ∧ M3 < 2147483648)
    (s0 : (0 ≤ M0 ∧ M1 ≤ 0) ∨ (M0 ≤ 0 ∧ 0 ≤ M1)) (s1 : (0 ≤ M2 ∧ M3 ≤ 0) ∨ (M2 ≤ 0 ∧ 0 ≤ M3))
    (eA : (A' : Int) = M0 * A + M1 * B) (eB : (B' : Int) = M2 * A + M3 * B) (lA : A' ≤ B) (lB : B' ≤ B) :
    Calls Tryd.prog 83 #[a, b, .agg #[.int .i64 M0, .int .i64 M1, .int .i64 M2, .int .i64 M3]] w fun e w' => ∃ va vb, e = .returned (.tuple #[va, vb]) ∧ RowG w' ga va A' ∧ RowG w' gb vb B' ∧ Kp w0 w' := by
  obtain ⟨P, ca, rfl, hP, hPL, p1, p2, p3, p4⟩ := ha
  obtain ⟨Q, cb, rfl, hQ, hQL, q1, q2, q3, q4⟩ := hb
  have hBl := length_mono B A hBA
  have HLA := Lib.hid (toL_lt B)
  obtain ⟨n, hn⟩ : ∃ n, n = (toL B).length := ⟨_, rfl⟩
  obtain ⟨la, hla⟩ : ∃ la, la = (toL A).length := ⟨_, rfl⟩
  rw [← hn] at q1 q4 hBl HLA
  rw [← hla] at p1 p4 hl hBl
  rw [← hn, ← hla]
  -- the limbs that count
  have vA : val (P.take la) = A := by rw [p4]; exact val_toL A
  have vB : val (Q.take n) = B := by rw [q4]; exact val_toL B
  have hcut : ∃ hi : Nat, A = val (P.take n) + 4294967296 ^ n * hi := by
    refine ⟨val ((P.take la).drop n), ?_⟩
    have := val_cut (P.take la) n (by rw [List.length_take]; omega)
    rw [List.take_take, Nat.min_eq_left hBl, vA] at this
    exact this
  obtain ⟨hi, ehi⟩ := hcut
  have ehi2 : (A : Int) = val (P.take n) + ((4294967296 ^ n : Nat) : Int) * hi := by rw [ehi]; simp
  have eA2 : (A' : Int) = (M0 * val (P.take n) + M1 * val (Q.take n)) + M0 * hi * ((4294967296 ^ n : Nat) : Int) := by rw [eA, ehi2, vB]; grind
  have eB2 : (B' : Int) = (M2 * val (P.take n) + M3 * val (Q.take n)) + M2 * hi * ((4294967296 ^ n : Nat) : Int) := by rw [eB, ehi2, vB]; grind
  have HEA := Lib.hid eA2
  have HEB := Lib.hid eB2
  have HP := Lib.hid hP
  have HQ := Lib.hid hQ
  have HPL := Lib.hid hPL
  have HQL := Lib.hid hQL
  have HB0 := Lib.hid b0
  have HB1 := Lib.hid b1
  have HB2 := Lib.hid b2
  have HB3 := Lib.hid b3
  have HS0 := Lib.hid s0
  have HS1 := Lib.hid s1
  have hp2 : n ≤ P.length := by omega
  unfold maxLen at p3 q3
  clear eA2 eB2 ehi2 ehi eA eB vA vB p4 q4 hP hQ hPL hQL b0 b1 b2 b3 s0 s1 hn hla
  go_enter Tryd.func83, Tryd.ntmps83
  go_wp2
  obtain ⟨g, hg⟩ : ∃ g, g = w.heap.size := ⟨_, rfl⟩
  obtain ⟨w2, hw2⟩ : ∃ w2, w2 = w.alloc (Obj.cells #[Value.int IntKind.i64 M0, Value.int IntKind.i64 M1, Value.int IntKind.i64 M2, Value.int IntKind.i64 M3] 85) := ⟨_, rfl⟩
  have hM2 : w2.heap[g]? = some (.cells #[.int .i64 M0, .int .i64 M1, .int .i64 M2, .int .i64 M3] 85 (0, 0)) := by rw [hw2, hg]; exact heap_alloc_new w _
  have kw : Kp w w2 := by rw [hw2]; exact Kp.alloc _ _
  have hga : ga ≠ g := by have := HP.out.lt; omega
  have hgb : gb ≠ g := by have := HQ.out.lt; omega
  rw [← hg, ← hw2]
  have HM2 := Lib.hid hM2
  have HP2 := Lib.hid (HP.out.kp kw)
  have HQ2 := Lib.hid (HQ.out.kp kw)
  have HK2 := Lib.hid (hk.tr kw)
  clear hw2 hg hM2 HP HQ kw hk
  go_loopw [8, 9, 19] (fun fv sv i wr => ∃ (k : Nat) (F G : Int) (P' Q' : List Nat), k ≤ n ∧ i = .int .i64 k ∧ fv = .int .i64 F ∧ sv = .int .i64 G ∧ (-2147483648 ≤ F ∧ F ≤ 2147483648) ∧ (-2147483648 ≤ G ∧ G ≤ 2147483648) ∧
    Hid (Own wr 45 ga P') ∧ Hid (Own wr 45 gb Q') ∧ Hid (P'.length = P.length) ∧ Hid (Q'.length = Q.length) ∧ Hid (Limbs P') ∧ Hid (Limbs Q') ∧ Hid (P'.drop k = P.drop k) ∧ Hid (Q'.drop k = Q.drop k) ∧
    Hid (F * (4294967296 : Int) ^ k + val (P'.take k) = M0 * val (P.take k) + M1 * val (Q.take k)) ∧ Hid (G * (4294967296 : Int) ^ k + val (Q'.take k) = M2 * val (P.take k) + M3 * val (Q.take k)) ∧
    Hid (wr.heap[g]? = some (.cells #[.int .i64 M0, .int .i64 M1, .int .i64 M2, .int .i64 M3] 85 (0, 0))) ∧ Kp w0 wr) (fun _ _ i _ => n - (intOf i).toNat)
  case atStart => exact ⟨0, 0, 0, P, Q, Nat.zero_le _, rfl, rfl, rfl, by omega, by omega, HP2, HQ2, Lib.hid rfl, Lib.hid rfl, HPL, HQL, Lib.hid rfl, Lib.hid rfl, Lib.hid (by simp [val]), Lib.hid (by simp [val]), HM2, HK2.out⟩
  case round =>
    obtain ⟨k, F, G, P', Q', hk, rfl, rfl, rfl, hF, hG, HP', HQ', HPl, HQl, HPL', HQL', HPd, HQd, HPv, HQv, HM, K3⟩ := hrel
    by_cases hk1 : k < n
    · obtain ⟨x, hcx, hx, HX⟩ := HP'.out.at HPL'.out k (by rw [HPl.out]; omega)
      obtain ⟨y, hcy, hy, HY⟩ := HQ'.out.at HQL'.out k (by rw [HQl.out]; omega)
      have hfx := HP'.out.frozen k
      have hfy := HQ'.out.frozen k
      have c0 : wr.cell? ⟨g, 0, none⟩ = some (.int .i64 M0) := cell_of_row wr g 0 _ _ _ HM.out
      have c1 : wr.cell? ⟨g, 1, none⟩ = some (.int .i64 M1) := cell_of_row wr g 1 _ _ _ HM.out
      have c2 : wr.cell? ⟨g, 2, none⟩ = some (.int .i64 M2) := cell_of_row wr g 2 _ _ _ HM.out
      have c3 : wr.cell? ⟨g, 3, none⟩ = some (.int .i64 M3) := cell_of_row wr g 3 _ _ _ HM.out
      have B0 := rep_bound hx hy HB0.out HB1.out HS0.out hF
      have B1 := rep_bound hx hy HB2.out HB3.out HS1.out hG
      obtain ⟨X0, hX0⟩ : ∃ z : Int, z = M0 * x := ⟨_, rfl⟩
      obtain ⟨X1, hX1⟩ : ∃ z : Int, z = M1 * y := ⟨_, rfl⟩
      obtain ⟨X2, hX2⟩ : ∃ z : Int, z = M2 * x := ⟨_, rfl⟩
      obtain ⟨X3, hX3⟩ : ∃ z : Int, z = M3 * y := ⟨_, rfl⟩
      rw [← hX0, ← hX1] at B0
      rw [← hX2, ← hX3] at B1
      obtain ⟨⟨d1, d2⟩, ⟨d3, d4⟩, ⟨d5, d6⟩⟩ := B0
      obtain ⟨⟨e1, e2⟩, ⟨e3, e4⟩, ⟨e5, e6⟩⟩ := B1
      obtain ⟨hF1, hF2⟩ := hF
      obtain ⟨hG1, hG2⟩ := hG
      have HPX := Lib.hid (show x = P.getD k 0 by rw [HX.out, drop_getD HPd.out])
      have HQY := Lib.hid (show y = Q.getD k 0 by rw [HY.out, drop_getD HQd.out])
      obtain ⟨S, hS⟩ : ∃ z : Int, z = F + (X0 + X1) := ⟨_, rfl⟩
      obtain ⟨T, hT⟩ : ∃ z : Int, z = G + (X2 + X3) := ⟨_, rfl⟩
      have HST := Lib.hid (rep_step (P' := P') (by rw [HPl.out]; omega) HPX.out HQY.out (show S = F + (M0 * x + M1 * y) by rw [hS, hX0, hX1]) HPv.out)
      have HTT := Lib.hid (rep_step (P' := Q') (by rw [HQl.out]; omega) HPX.out HQY.out (show T = G + (M2 * x + M3 * y) by rw [hT, hX2, hX3]) HQv.out)
      have x0 := hX0.symm
      have x1 := hX1.symm
      have x2 := hX2.symm
      have x3 := hX3.symm
      have sS := hS.symm
      have sT := hT.symm
      have hSb : -9223372036854775808 ≤ S ∧ S ≤ 9223372036854775807 := by omega
      have hTb : -9223372036854775808 ≤ T ∧ T ≤ 9223372036854775807 := by omega
      clear hX0 hX1 hX2 hX3 hS hT
      obtain ⟨s, hs⟩ : ∃ s, s = (S % 4294967296).toNat := ⟨_, rfl⟩
      obtain ⟨t, ht⟩ : ∃ t, t = (T % 4294967296).toNat := ⟨_, rfl⟩
      have hsi : S % 4294967296 = (s : Int) := by omega
      have hti : T % 4294967296 = (t : Int) := by omega
      have hs32 : s < 4294967296 := by omega
      have ht32 : t < 4294967296 := by omega
      rw [← hs] at HST
      rw [← ht] at HTT
      obtain ⟨F2, hF2'⟩ : ∃ z : Int, z = S / 4294967296 := ⟨_, rfl⟩
      obtain ⟨G2, hG2'⟩ : ∃ z : Int, z = T / 4294967296 := ⟨_, rfl⟩
      have hFd : S / 4294967296 = F2 := hF2'.symm
      have hGd : T / 4294967296 = G2 := hG2'.symm
      have hF2b : -2147483648 ≤ F2 ∧ F2 ≤ 2147483648 := by omega
      have hG2b : -2147483648 ≤ G2 ∧ G2 ≤ 2147483648 := by omega
      rw [hFd] at HST
      rw [hGd] at HTT
      clear hs ht hF2' hG2'
      go_wp2
      go_quiet (fail)
      go_wp2
      go_roundw
      case rel => exact ⟨k + 1, F2, G2, P'.set k s, Q'.set k t, by omega, by go_num, rfl, rfl, hF2b, hG2b, Lib.hid ((HP'.out.set k s).other hne k _), Lib.hid (((HQ'.out.drewN nq).other (Ne.symm hne) k _).set k t), Lib.hid (by rw [List.length_set]; exact HPl.out), Lib.hid (by rw [List.length_set]; exact HQl.out),
        Lib.hid (HPL'.out.set k s hs32), Lib.hid (HQL'.out.set k t ht32), Lib.hid (drop_next HPd.out s), Lib.hid (drop_next HQd.out t), HST, HTT, Lib.hid (heap_other (heap_other (w := wr.drewN nq) HM.out (Ne.symm hga) k _) (Ne.symm hgb) k _), ((K3.drewN nq).setCell h1 _).setCell h2 _⟩
      case measure => simp [intOf]; omega
    · obtain rfl : k = n := by omega
      have hp : k ≤ P'.length := by rw [HPl.out]; exact hp2
      have hq : k ≤ Q'.length := by rw [HQl.out]; exact q1
      have l1 := val_lt (HPL'.out.take k)
      have l2 := val_lt (HQL'.out.take k)
      rw [List.length_take, Nat.min_eq_left hp] at l1
      rw [List.length_take, Nat.min_eq_left hq] at l2
      have hB := HLA.out
      have hpv := HPv.out
      have hqv := HQv.out
      rw [show (4294967296 : Int) ^ k = ((4294967296 ^ k : Nat) : Int) by simp] at hpv hqv
      have va' : val (P'.take k) = A' := rep_fin hpv HEA.out (by omega) l1
      have vb' : val (Q'.take k) = B' := rep_fin hqv HEB.out (by omega) l2
      have HVA := Lib.hid va'
      have HVB := Lib.hid vb'
      have HTA := Lib.hid (ntrim_of (some ⟨ga, 0, none⟩) k ca (P'.take k) wr (by rw [List.length_take]; omega) (by omega) (by unfold maxLen; omega) (HP'.out.sl.take k))
      have HTB := Lib.hid (ntrim_of (some ⟨gb, 0, none⟩) k cb (Q'.take k) wr (by rw [List.length_take]; omega) (by omega) (by unfold maxLen; omega) (HQ'.out.sl.take k))
      clear va' vb' hpv hqv l1 l2 hB
      go_wp2_with (go_at_call 40; first
        | ((with_reducible refine HTA.out.mono ?_); rintro e w8 ⟨rfl, rfl⟩)
        | ((with_reducible refine HTB.out.mono ?_); rintro e w8 ⟨rfl, rfl⟩))
      go_ret2
      exact ⟨_, _, rfl, HP'.out.rowG HPL'.out hp (by rw [HPl.out]; exact p2) HVA.out (by unfold maxLen; omega), HQ'.out.rowG HQL'.out hq (by rw [HQl.out]; exact q2) HVB.out (by unfold maxLen; omega), K3⟩
end Go.Proofs.YtijadodleiiomaaDoor
