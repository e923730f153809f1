/-
  natural.Of, natural.divideLimb: by walking their texts.
-/
import Derived.Test.YtijadodleiiomaaDoorSame
namespace Go.Proofs.YtijadodleiiomaaDoor
open Go.RowKit

theorem Own.alloc_new (w : World) (e : TypeId) (xs : List Nat) : Own (w.alloc (.cells (cellsOf xs).toArray e)) e w.heap.size xs := heap_alloc_new w _

theorem ret_int {k : IntKind} {a b : Int} (h : a = b) : Ending.returned (.int k a) = .returned (.int k b) := by rw [h]

theorem orw {r x d : Nat} (hr : r < d) (hd : d < 4294967296) (hx : x < 4294967296) :
    (bits .or .u64 ((r : Int) * 4294967296) (x : Int)).tmod (d : Int) = (((r * 4294967296 + x) % d : Nat) : Int) ∧
    IntKind.u64.wrap ((bits .or .u64 ((r : Int) * 4294967296) (x : Int)).tdiv (d : Int)) % 4294967296 = (((r * 4294967296 + x) / d : Nat) : Int) ∧ (r * 4294967296 + x) / d < 4294967296 := by
  have e : bits .or .u64 ((r : Int) * 4294967296) (x : Int) = ((r * 4294967296 + x : Nat) : Int) := by
    have h1 := bits_or_u64_nat (r * 4294967296) x (by omega) (by omega)
    rw [Int.natCast_mul] at h1
    rw [show ((r : Int) * 4294967296) = (r : Int) * ((4294967296 : Nat) : Int) from rfl, h1]
    congr 1
    have h2 := Nat.two_pow_add_eq_or_of_lt (i := 32) (b := x) (by omega) r
    rw [Nat.mul_comm r]
    exact h2.symm
  have hlt : (r * 4294967296 + x) / d < 4294967296 := by
    apply Nat.div_lt_of_lt_mul
    have : (r + 1) * 4294967296 ≤ d * 4294967296 := Nat.mul_le_mul_right _ hr
    omega
  refine ⟨by rw [e]; rfl, ?_, hlt⟩
  rw [e, show ((r * 4294967296 + x : Nat) : Int).tdiv (d : Int) = (((r * 4294967296 + x) / d : Nat) : Int) from rfl]
  generalize (r * 4294967296 + x) / d = q at *
  rw [IntWalk.u64_in _ (by omega)]
  omega

theorem of_any (n : Nat) (w : World) (hn : n < 18446744073709551616) :
    Calls Tryd.prog 21 #[.int .u64 n] w fun e w' => ∃ v', e = .returned v' ∧ Rd w' v' (toL n) ∧ Kp w w' := by
  have hL : Limbs [n % 4294967296, n / 4294967296] := Limbs.cons (by omega) (Limbs.cons (by omega) Limbs.nil)
  have hv : val [n % 4294967296, n / 4294967296] = n := by simp [val]; omega
  have HO := Lib.hid (Own.alloc_new w 45 [n % 4294967296, n / 4294967296])
  have HL := Lib.hid hL
  have HV := Lib.hid hv
  clear hL hv
  go_enter Tryd.func21, Tryd.ntmps21
  go_wp2_with (go_at_call 40; refine (ntrim_of (some ⟨w.heap.size, 0, none⟩) 2 2 [n % 4294967296, n / 4294967296] _ rfl (Nat.le_refl _) (by unfold maxLen; omega) HO.out.sl).mono ?_; rintro e w1 ⟨rfl, rfl⟩)
  go_ret
  exact ⟨_, rfl, HO.out.mag HL.out n 2 HV.out (Nat.le_refl _) (by unfold maxLen; omega), Kp.alloc _ _⟩

/-- Of the blocks only g may have turned, and none is new. -/
structure Only (g : Nat) (w w' : World) : Prop where
  os : w'.os = w.os
  tape : w'.tape = w.tape
  output : w'.output = w.output
  size : w'.heap.size = w.heap.size
  block : ∀ k, k ≠ g → w'.heap[k]? = w.heap[k]?

theorem Only.refl (g : Nat) (w : World) : Only g w w := ⟨rfl, rfl, rfl, rfl, fun _ _ => rfl⟩
theorem Only.setCell {g : Nat} {w0 w : World} (h : Only g w0 w) (j : Nat) (v : Value) : Only g w0 (w.setCell ⟨g, j, none⟩ v) :=
  ⟨h.os, h.tape, h.output, by rw [← h.size]; simp [World.setCell], fun k hk => by rw [Below.heap_setCell _ _ _ _ (by simpa using hk)]; exact h.block k hk⟩
theorem Only.trans {g : Nat} {a b c : World} (h : Only g a b) (k : Only g b c) : Only g a c :=
  ⟨k.os.trans h.os, k.tape.trans h.tape, k.output.trans h.output, k.size.trans h.size, fun i hi => (k.block i hi).trans (h.block i hi)⟩
theorem Only.kp {g : Nat} {w0 w w' : World} (h : Only g w w') (k : Kp w0 w) (hg : w0.heap.size ≤ g) : Kp w0 w' :=
  k.trans ⟨h.os, h.tape, h.output, by rw [h.size]; exact Nat.le_refl _, fun i hi => h.block i (by omega)⟩

set_option maxHeartbeats 1000000 in
theorem divideLimb_any (g k cap d : Nat) (O : List Nat) (w : World) (hO : Own w 45 g O) (hL : Limbs O) (hk : k ≤ O.length) (hl : O.length ≤ 1099511627776) (_hc : k ≤ cap) (hd0 : 0 < d) (hd1 : d < 4294967296) :
    Calls Tryd.prog 47 #[.slice (some ⟨g, 0, none⟩) k cap, .int .u32 d] w fun e w' =>
      ∃ O', e = .returned (.int .u32 (val (O.take k) % d : Nat)) ∧ Own w' 45 g O' ∧ Limbs O' ∧ O'.length = O.length ∧ val (O'.take k) = val (O.take k) / d ∧ Only g w w' := by
  have HO := Lib.hid hO
  have HL := Lib.hid hL
  clear hO hL
  go_enter Tryd.func47, Tryd.ntmps47
  go_wp2
  go_loopw [5, 6] (fun rv i wr => ∃ (j r : Nat) (P : List Nat), j ≤ k ∧ i = .int .i64 ((j : Int) - 1) ∧ rv = .int .u64 r ∧ r < d ∧ Own wr 45 g P ∧ Limbs P ∧ P.length = O.length ∧ P.take j = O.take j ∧
      val ((O.take k).drop j) = val ((P.take k).drop j) * d + r ∧ Only g w wr) (fun _ i _ => (intOf i + 1).toNat)
  case atStart => exact ⟨k, 0, O, Nat.le_refl _, rfl, rfl, hd0, HO.out, HL.out, rfl, rfl, by simp [val], Only.refl _ _⟩
  case round =>
    obtain ⟨j, r, P, hj, rfl, rfl, hr, hP, hPL, hPl, hPt, hPv, K1⟩ := hrel
    have HP := Lib.hid hP
    have HPL := Lib.hid hPL
    have HPl := Lib.hid hPl
    have HPt := Lib.hid hPt
    have HPv := Lib.hid hPv
    clear hP hPL hPl hPt hPv
    by_cases hj0 : 0 < j
    · obtain ⟨i, rfl⟩ : ∃ i, j = i + 1 := ⟨j - 1, by omega⟩
      obtain ⟨x, hcell, hx, HX⟩ := HP.out.at HPL.out i (by rw [HPl.out]; omega)
      have hfz := HP.out.frozen i
      have HB := Lib.hid (orw hr hd1 hx)
      go_wp2
      rw [HB.out.1, HB.out.2.1]
      go_roundw
      case rel => exact ⟨i, (r * 4294967296 + x) % d, P.set i ((r * 4294967296 + x) / d), by omega, by go_num, rfl, Nat.mod_lt _ hd0, HP.out.set i _, HPL.out.set i _ HB.out.2.2, by rw [List.length_set]; exact HPl.out, by rw [List.take_set_of_le (Nat.le_refl i)]; exact take_less HPt.out (by omega), div_step (by omega) hk HPl.out hd0 HPt.out HX.out HPv.out, K1.setCell _ _⟩
      case measure => simp [intOf]
    · obtain rfl : j = 0 := by omega
      have hfin := div_fin hr HPv.out
      have HF := Lib.hid hfin
      clear hfin
      go_wp2
      go_ret
      exact ⟨P, ret_int (by rw [← HF.out.2]), HP.out, HPL.out, HPl.out, HF.out.1, K1⟩
end Go.Proofs.YtijadodleiiomaaDoor
