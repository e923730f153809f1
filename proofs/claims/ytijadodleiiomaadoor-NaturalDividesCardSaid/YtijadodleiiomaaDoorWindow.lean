/-
  natural.window: by walking its text.
-/
import Derived.Test.YtijadodleiiomaaDoorLead
namespace Go.Proofs.YtijadodleiiomaaDoor
open Go.RowKit

theorem val_drop_next (X : List Nat) (i : Nat) : val (X.drop i) = X.getD i 0 + 4294967296 * val (X.drop (i + 1)) := by
  by_cases h : i < X.length
  · rw [drop_cons X i h]
    rfl
  · rw [List.drop_of_length_le (by omega), List.drop_of_length_le (by omega)]
    simp [val, List.getD, List.getElem?_eq_none (Nat.le_of_not_lt h)]

/-- The binary digits from a place on, by the three limbs in which they lie. -/
theorem window_sum {X : List Nat} {i r u v : Nat} (hX : Limbs X) (hr : r < 32) (hu : u = 32 - r) (hv : v = 64 - r) (hlt : val X / 2 ^ (32 * i + r) < 4611686018427387904) :
    val X / 2 ^ (32 * i + r) = X.getD i 0 / 2 ^ r + X.getD (i + 1) 0 * 2 ^ u + X.getD (i + 2) 0 * 2 ^ v := by
  have e0 : val X / 2 ^ (32 * i + r) = val (X.drop i) / 2 ^ r := by
    rw [div_pow_split, show (32 * i + r) / 32 = i by omega, show (32 * i + r) % 32 = r by omega, val_drop_div hX]
  rw [e0] at hlt ⊢
  rw [val_drop_next X i, val_drop_next X (i + 1), val_drop_next X (i + 1 + 1)] at hlt ⊢
  have hB : (4294967296 : Nat) = 2 ^ r * 2 ^ u := by rw [← Nat.pow_add, hu, show r + (32 - r) = 32 by omega]
  have hV : (2 : Nat) ^ v = 2 ^ u * 4294967296 := by rw [show (4294967296 : Nat) = 2 ^ 32 from rfl, ← Nat.pow_add, hu, hv]; congr 1; omega
  have hu0 : 2 ≤ (2 : Nat) ^ u := by
    have := Nat.pow_le_pow_right (show 0 < 2 by omega) (show 1 ≤ u by omega)
    simpa using this
  have hp : 0 < (2 : Nat) ^ r := Nat.pow_pos (by omega)
  rw [show i + 1 + 1 = i + 2 by omega] at hlt ⊢
  generalize val (X.drop (i + 2 + 1)) = c at *
  generalize X.getD i 0 = l0 at *
  generalize X.getD (i + 1) 0 = l1 at *
  generalize X.getD (i + 2) 0 = l2 at *
  have e1 : l0 + 4294967296 * (l1 + 4294967296 * (l2 + 4294967296 * c)) = l0 + 2 ^ r * (2 ^ u * (l1 + 4294967296 * (l2 + 4294967296 * c))) := by
    rw [← Nat.mul_assoc (2 ^ r), ← hB]
  rw [e1, Nat.add_mul_div_left _ _ hp] at hlt ⊢
  rw [hV]
  generalize (2 : Nat) ^ u = U at *
  generalize l0 / 2 ^ r = a at *
  have e2 : U * (l1 + 4294967296 * (l2 + 4294967296 * c)) = l1 * U + l2 * (U * 4294967296) + U * (18446744073709551616 * c) := by
    clear hlt e1 hB hV hu0 e0
    grind
  rw [e2] at hlt ⊢
  rcases Nat.eq_zero_or_pos c with h | h
  · rw [h]; omega
  · exfalso
    have h1 := Nat.mul_le_mul hu0 (show 18446744073709551616 ≤ 18446744073709551616 * c by omega)
    omega

theorem window_bits {l0 l1 l2 r u v n : Nat} (b0 : l0 < 4294967296) (b1 : l1 < 4294967296) (hr : r < 32) (hu : u = 32 - r) (hv : v = 64 - r) (hn : n = l0 / 2 ^ r + l1 * 2 ^ u + l2 * 2 ^ v) (hlt : n < 4611686018427387904) :
    wrap64 (bits .or .u64 (bits .or .u64 ((l0 : Int) / 2 ^ r) (IntKind.u64.wrap ((l1 : Int) * 2 ^ min u 64))) (IntKind.u64.wrap ((l2 : Int) * 2 ^ min v 64))) = (n : Int) := by
  rw [Nat.min_eq_left (by omega), Nat.min_eq_left (by omega)]
  have hB : (4294967296 : Nat) = 2 ^ r * 2 ^ u := by rw [← Nat.pow_add, hu, show r + (32 - r) = 32 by omega]
  have hV : (2 : Nat) ^ v = 4294967296 * 2 ^ u := by rw [show (4294967296 : Nat) = 2 ^ 32 from rfl, ← Nat.pow_add, hu, hv]; congr 1; omega
  have e0 : ((l0 : Int) / 2 ^ r) = ((l0 / 2 ^ r : Nat) : Int) := by rw [Int.natCast_ediv, Int.natCast_pow]; rfl
  have e1 : ((l1 : Int) * 2 ^ u) = ((l1 * 2 ^ u : Nat) : Int) := by rw [Int.natCast_mul, Int.natCast_pow]; rfl
  have e2 : ((l2 : Int) * 2 ^ v) = ((l2 * 2 ^ v : Nat) : Int) := by rw [Int.natCast_mul, Int.natCast_pow]; rfl
  have h0 : l0 / 2 ^ r < 2 ^ u := Nat.div_lt_of_lt_mul (by omega)
  have o1 := or_low (x := l1) h0
  have h1 : l0 / 2 ^ r + l1 * 2 ^ u < 2 ^ v := by
    rw [hV]
    have := Nat.mul_le_mul_right (2 ^ u) (show l1 + 1 ≤ 4294967296 from b1)
    rw [Nat.add_mul, Nat.one_mul] at this
    omega
  have o2 := or_low (x := l2) h1
  rw [e0, e1, e2]
  generalize l0 / 2 ^ r = a at *
  generalize l1 * 2 ^ u = b at *
  generalize l2 * 2 ^ v = c at *
  rw [IntWalk.u64_in (b : Int) (by omega), IntWalk.u64_in (c : Int) (by omega), bits_or_u64_nat a b (by omega) (by omega), o1, bits_or_u64_nat (a + b) c (by omega) (by omega), o2, ← hn]
  unfold wrap64
  omega

theorem quiet_call {P : Program} {f : FuncId} {args : Array Value} {v : Value} {W : World} (c : ∀ n, Calls P f args (W.drewN n) fun e w' => e = .returned v ∧ w' = W.drewN n) (n : Nat) :
    Calls P f args (W.drewN n) fun e w'' => e = .returned v ∧ ∃ m, w'' = W.drewN m := by
  refine (c n).mono ?_
  rintro e w' ⟨he, hw⟩
  exact ⟨he, n, hw⟩

set_option maxHeartbeats 1000000 in
theorem limb_any (g : Nat) (ao : Option Addr) (ac i : Nat) (X : List Nat) (w : World) (hg : w.cell? ⟨g, 0, none⟩ = some (.slice ao X.length ac)) (hs : Sl w ao X) (hx : Limbs X) (hi : i < 4611686018427387904) (hl : X.length ≤ 1099511627776) :
    Calls Tryd.prog 90 #[.int .i64 (i : Nat), .pointer (some ⟨g, 0, none⟩)] w fun e w' => e = .returned (.int .u64 (X.getD i 0 : Nat)) ∧ w' = w := by
  by_cases h : i < X.length
  · obtain ⟨b, off, x, rfl, hcell, hxb, HX⟩ := hs.at hx i h
    have HE := Lib.hid HX.out
    clear hs hx HX
    go_enter Tryd.func90, Tryd.ntmps90
    go_wp2
    go_ret
    exact ⟨ret_int (by rw [HE.out]), rfl⟩
  · have e : X.getD i 0 = 0 := by simp [List.getD, List.getElem?_eq_none (Nat.le_of_not_lt h)]
    rw [e]
    clear hs hx e
    go_enter Tryd.func90, Tryd.ntmps90
    go_wp2
    go_ret
    exact ⟨rfl, rfl⟩

set_option maxRecDepth 20000 in
set_option maxHeartbeats 1000000 in
theorem window_any (a : Value) (X : List Nat) (i r : Nat) (w : World) (ha : Rd w a X) (hr : r < 32) (hi : 32 * i + r ≤ 1099511627776) (hl : X.length ≤ 1099511627776) (hlt : val X / 2 ^ (32 * i + r) < 4611686018427387904) :
    Calls Tryd.prog 81 #[a, .int .i64 (32 * i + r : Nat)] w fun e w' => e = .returned (.int .i64 (val X / 2 ^ (32 * i + r) : Nat)) ∧ Kp w w' := by
  obtain ⟨ao, ac, rfl, a1, a2, a3, a4⟩ := ha
  obtain ⟨F, hF⟩ : ∃ F, F = 32 * i + r := ⟨_, rfl⟩
  have hd : (F : Int) / 32 = (i : Int) := by omega
  have hd2 : (F : Int).tdiv 32 = (i : Int) := by rw [show (32 : Int) = ((32 : Nat) : Int) from rfl, tdivN]; omega
  have hm : (F : Int) % 32 = (r : Int) := by omega
  obtain ⟨n, hn⟩ : ∃ n, n = val X / 2 ^ (32 * i + r) := ⟨_, rfl⟩
  have hsum := fun hu hv => window_sum (u := 32 - r) (v := 64 - r) a3 hr hu hv hlt
  have hsum := hsum rfl rfl
  rw [← hn] at hsum hlt ⊢
  rw [← hF]
  obtain ⟨W, hW⟩ : ∃ W, W = w.alloc (Obj.cells #[Value.slice ao X.length ac] 22) := ⟨_, rfl⟩
  have KW : Kp w W := by rw [hW]; exact Kp.alloc _ _
  have hg : W.cell? ⟨w.heap.size, 0, none⟩ = some (.slice ao X.length ac) := by rw [hW]; simp [World.cell?_alloc_new]
  have hL : ∀ (n j : Nat), j < 4611686018427387904 → Calls Tryd.prog 90 #[.int .i64 (j : Nat), .pointer (some ⟨w.heap.size, 0, none⟩)] (W.drewN n) fun e w' => e = .returned (.int .u64 (X.getD j 0 : Nat)) ∧ w' = W.drewN n :=
    fun n j hj => limb_any w.heap.size ao ac j X (W.drewN n) hg (a4.kp (KW.drewN n)) a3 hj (by omega)
  have h0 := fun n => hL n i (by omega)
  have h1 := fun n => hL n (i + 1) (by omega)
  have h2 := fun n => hL n (i + 2) (by omega)
  rw [show ((i + 1 : Nat) : Int) = (i : Int) + 1 by omega] at h1
  rw [show ((i + 2 : Nat) : Int) = (i : Int) + 2 by omega] at h2
  obtain ⟨l0, hl0⟩ : ∃ l, l = X.getD i 0 := ⟨_, rfl⟩
  obtain ⟨l1, hl1⟩ : ∃ l, l = X.getD (i + 1) 0 := ⟨_, rfl⟩
  obtain ⟨l2, hl2⟩ : ∃ l, l = X.getD (i + 2) 0 := ⟨_, rfl⟩
  rw [← hl0] at h0
  rw [← hl1] at h1
  rw [← hl2] at h2
  rw [hW] at h0 h1 h2
  have H0 := Lib.hid h0
  have H1 := Lib.hid h1
  have H2 := Lib.hid h2
  have b0 : l0 < 4294967296 := by rw [hl0]; exact a3.getD _
  have b1 : l1 < 4294967296 := by rw [hl1]; exact a3.getD _
  have b2 : l2 < 4294967296 := by rw [hl2]; exact a3.getD _
  have hw1 : IntKind.i64.wrap ((i : Int) + 1) = (i : Int) + 1 := by rw [IntKind.wrap_i64]; omega
  have hw2 : IntKind.i64.wrap ((i : Int) + 2) = (i : Int) + 2 := by rw [IntKind.wrap_i64]; omega
  have hw3 : IntKind.i64.wrap (32 - (r : Int)) = ((32 - r : Nat) : Int) := by rw [IntKind.wrap_i64]; omega
  have hw4 : IntKind.i64.wrap (64 - (r : Int)) = ((64 - r : Nat) : Int) := by rw [IntKind.wrap_i64]; omega
  obtain ⟨u, hu⟩ : ∃ u, u = 32 - r := ⟨_, rfl⟩
  obtain ⟨v, hv⟩ : ∃ v, v = 64 - r := ⟨_, rfl⟩
  rw [← hu] at hw3
  rw [← hv] at hw4
  rw [← hl0, ← hl1, ← hl2, ← hu, ← hv] at hsum
  have HB := Lib.hid (window_bits b0 b1 hr hu hv hsum hlt)
  have HL0 := Lib.hid hl0
  have HL1 := Lib.hid hl1
  have HL2 := Lib.hid hl2
  have HU := Lib.hid hu
  have HV := Lib.hid hv
  clear hF hL h0 h1 h2 hW hg KW hl0 hl1 hl2 hu hv hsum hn
  go_enter Tryd.func81, Tryd.ntmps81
  go_wp2
  try rw [hm]
  go_quiet (first
    | (with_reducible exact quiet_call H0.out _)
    | (with_reducible exact quiet_call H1.out _)
    | (with_reducible exact quiet_call H2.out _))
  go_wp2
  go_ret
  exact ⟨ret_int HB.out, Kp.drewN (Kp.alloc _ _) _⟩
end Go.Proofs.YtijadodleiiomaaDoor
