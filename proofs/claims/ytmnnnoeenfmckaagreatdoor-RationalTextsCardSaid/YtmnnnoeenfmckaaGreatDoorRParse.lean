/-
  brepkernelref01.Parse: by walking its text.
-/
import Derived.Test.YtmnnnoeenfmckaaGreatDoorBh
namespace Go.Proofs.YtmnnnoeenfmckaaGreatDoor
open Go.RowKit

theorem rparse_long (s : ByteArray) (w : World) (hs : 4096 < s.size) (hb : s.size ≤ 9223372036854775807) :
    Calls Tryz.prog 94 #[.string s] w fun e w' => ∃ v', e = .returned (.tuple #[v', .int .i64 2]) ∧ M w' v' 0 ∧ Kp w w' := by
  go_enter Tryz.func94, Tryz.ntmps94
  go_wp2
  go_ret2
  exact ⟨_, rfl, m_nil, Below.refl _ _⟩

theorem empty_list {s : ByteArray} (h0 : s.size = 0) : s.toList.isEmpty = true := by
  rw [ByteArray.toList_eq, List.isEmpty_iff]
  exact List.eq_nil_of_length_eq_zero h0

theorem some_list {s : ByteArray} (h0 : 0 < s.size) : s.toList.isEmpty = false := by
  rw [ByteArray.toList_eq]
  rcases Bool.eq_false_or_eq_true s.data.toList.isEmpty with e | e
  · rw [List.isEmpty_iff] at e
    have := len_data s
    rw [e] at this
    simp at this
    omega
  · exact e

theorem rparse_empty (s : ByteArray) (w : World) (hs : s.size = 0) :
    Calls Tryz.prog 94 #[.string s] w fun e w' => ∃ v', e = .returned (.tuple #[v', .int .i64 4]) ∧ M w' v' 0 ∧ Kp w w' := by
  have he := empty_list hs
  go_enter Tryz.func94, Tryz.ntmps94
  go_wp2
  go_ret2
  exact ⟨_, rfl, m_nil, Below.refl _ _⟩

/-- One digit more, limb by limb. -/
theorem ten_step {O X : List Nat} {j c x p : Nat} (hk : j < O.length) (hv : val (O.take j) + 4294967296 ^ j * c = val (X.take j) * 10 + p) (hx : x = X.getD j 0) :
    val ((O.set j ((c + x * 10) % 4294967296)).take (j + 1)) + 4294967296 ^ (j + 1) * ((c + x * 10) / 4294967296) = val (X.take (j + 1)) * 10 + p := scale_step hk hv hx

set_option maxRecDepth 20000 in
set_option maxHeartbeats 4000000 in
theorem rparse_some (s : ByteArray) (w : World) (hs : s.size ≤ 4096) (h0 : 0 < s.size) :
    Calls Tryz.prog 94 #[.string s] w fun e w' => ∃ v', e = .returned (.tuple #[v', .int .i64 (if goodB s = true then 0 else 4)]) ∧ M w' v' (if goodB s = true then dval s.data.toList else 0) ∧ Kp w w' := by
  obtain ⟨i0, hi, hz0, hz1, hz2⟩ := info_parts infoU32
  have he := some_list h0
  obtain ⟨gc, hgc⟩ : ∃ gc : Int, gc = if goodB s = true then 0 else 4 := ⟨_, rfl⟩
  obtain ⟨gv, hgv⟩ : ∃ gv : Nat, gv = if goodB s = true then dval s.data.toList else 0 := ⟨_, rfl⟩
  rw [← hgc, ← hgv]
  have HBAD := Lib.hid (show goodB s = false → gc = 4 ∧ gv = 0 by intro h; rw [hgc, hgv, h]; exact ⟨rfl, rfl⟩)
  have HGOOD := Lib.hid (show goodB s = true → gc = 0 ∧ gv = dval s.data.toList by intro h; rw [hgc, hgv, h]; exact ⟨rfl, rfl⟩)
  clear hgc hgv
  go_enter Tryz.func94, Tryz.ntmps94
  go_wp2
  go_loop [5] (fun i => ∃ k : Nat, k ≤ s.size ∧ i = .int .i64 k ∧ digits (s.data.toList.take k) = true) (fun i => s.size - (intOf i).toNat)
  case atStart => exact ⟨0, Nat.zero_le _, rfl, rfl⟩
  case round =>
    obtain ⟨k, hk, rfl, hd⟩ := hrel
    have HD := Lib.hid hd
    clear hd
    by_cases hlt : k < s.size
    · by_cases h1 : s[k].toNat < 48
      · have HF := Lib.hid (good_false k hlt (by omega))
        go_wp2
        go_ret2
        exact ⟨_, ret_pair (HBAD.out HF.out).1.symm, by rw [(HBAD.out HF.out).2]; exact m_nil, Below.refl _ _⟩
      · by_cases h2 : 57 < s[k].toNat
        · have HF := Lib.hid (good_false k hlt (by omega))
          go_wp2
          go_ret2
          exact ⟨_, ret_pair (HBAD.out HF.out).1.symm, by rw [(HBAD.out HF.out).2]; exact m_nil, Below.refl _ _⟩
        · have HF := Lib.hid (digits_step k hlt HD.out (by omega))
          go_wp2
          go_round
          case rel => exact ⟨k + 1, by omega, by go_num, HF.out⟩
          case measure => simp [intOf]; omega
    · obtain rfl : k = s.size := by omega
      have hd := HD.out
      rw [take_size] at hd
      have HG := Lib.hid (good_true hd h0)
      have HDD := Lib.hid hd
      clear hd
      go_wp2
      go_loopw [4, 6] (fun av iv wr => ∃ (m k : Nat), m ≤ s.size ∧ iv = .int .i64 m ∧ k = (toL (dval (s.data.toList.take m))).length ∧ wr.ownsRow w.heap.size 55 1 av k (cellsOf (toL (dval (s.data.toList.take m)))) ∧ Kp w wr) (fun _ iv _ => s.size - (intOf iv).toNat)
      case atStart => exact ⟨0, 0, Nat.zero_le _, rfl, by simp [dval, toL_zero], by simpa [dval, toL_zero, cellsOf] using World.ownsRow_nil _ _ _ _, Below.refl _ _⟩
      case round =>
        obtain ⟨m, k, hm, rfl, hk, hO, K1⟩ := hrel
        have HK := Lib.hid hk
        have HO := Lib.hid hO
        have hnb := dval_lt (digits_take HDD.out m)
        rw [List.length_take, Nat.min_eq_left (by rw [len_data]; exact hm)] at hnb
        have hkl := toL_pow_len hnb
        rw [← hk] at hkl
        have hLX := limbs_toL (dval (s.data.toList.take m))
        have hvx := val_toL (dval (s.data.toList.take m))
        by_cases hms : m < s.size
        · have hdn := dval_next s m hms
          have hbd := byte_dig HDD.out m hms
          obtain ⟨X, hX⟩ : ∃ X, X = toL (dval (s.data.toList.take m)) := ⟨_, rfl⟩
          rw [← hX] at HK HO hLX hvx
          have HX := Lib.hid hLX
          have HVX := Lib.hid hvx
          have HDN := Lib.hid hdn
          have hXe := Lib.hid hX
          have hkX : k = X.length := HK.out
          clear hk hO hnb hLX hvx hX hdn
          obtain ⟨d, hd⟩ : ∃ d, d = s[m].toNat - 48 := ⟨_, rfl⟩
          have hdi : ((s[m].toNat : Nat) : Int) - 48 = (d : Int) := by omega
          have hd9 : d ≤ 9 := by omega
          rw [← hd] at HDN
          clear hd
          go_wp2
          obtain ⟨wo, rfl⟩ : ∃ wo, wo = wr := ⟨_, rfl⟩
          go_loopw [7, 8] (fun cv iv wr => ∃ (j c : Nat) (O : List Nat), j ≤ k ∧ iv = .int .i64 j ∧ cv = .int .u64 c ∧ c < 10 ∧ wr.ownsRow w.heap.size 55 1 u4 k (cellsOf O) ∧ O.length = k ∧ Limbs O ∧ O.drop j = X.drop j ∧
            val (O.take j) + 4294967296 ^ j * c = val (X.take j) * 10 + d ∧ Kp w wr) (fun _ iv _ => k - (intOf iv).toNat)
          case atStart => exact ⟨0, d, X, Nat.zero_le _, rfl, by go_num, by omega, HO.out, hkX.symm, HX.out, rfl, by simp [val], K1⟩
          case round =>
            obtain ⟨j, c, O, hj, rfl, rfl, hc, hO, hOl, hOL, hOd, hv, K2⟩ := hrel
            have HO2 := Lib.hid hO
            have HOl := Lib.hid hOl
            have HOL := Lib.hid hOL
            have HOd := Lib.hid hOd
            have HV := Lib.hid hv
            clear hO hOl hOL hOd hv
            by_cases hjk : j < k
            · obtain ⟨ag, ac, rfl, hag1, hag2⟩ := owns_pos HO2.out (by omega)
              obtain ⟨x, hcell, hx, HXx⟩ := owns_at HO2.out HOL.out j hjk
              have hfz := HO2.out.frozenAt j
              have HXX := Lib.hid (show x = X.getD j 0 by rw [HXx.out, drop_getD HOd.out])
              go_wp2
              go_roundw
              case rel => exact ⟨j + 1, (c + x * 10) / 4294967296, O.set j ((c + x * 10) % 4294967296), by omega, by go_num, by go_num, by omega, owns_set HO2.out j _, by rw [List.length_set]; exact HOl.out, HOL.out.set _ _ (Nat.mod_lt _ (by omega)), drop_next HOd.out _, scale_step (by rw [HOl.out]; exact hjk) HV.out HXX.out, Kp.setCell K2 hag1 _⟩
              case measure => simp [intOf]; omega
            · obtain rfl : j = k := by omega
              obtain ⟨ao, ac, rfl⟩ := owns_slice HO2.out
              have hvv : val O + 4294967296 ^ j * c = dval (s.data.toList.take (m + 1)) := by
                have h := HV.out
                rw [List.take_of_length_le (by rw [HOl.out]; exact Nat.le_refl _), List.take_of_length_le (by omega), HVX.out] at h
                rw [h, HDN.out, Nat.mul_comm]
              by_cases hc0 : 0 < c
              · have hge : 4294967296 ^ j ≤ val (O ++ [c]) := by
                  rw [val_snoc, HOl.out]
                  have := Nat.mul_le_mul_left (4294967296 ^ j) (show 1 ≤ c by omega)
                  omega
                have hlen : (O ++ [c]).length = j + 1 := by rw [List.length_append, HOl.out]; rfl
                have hOe : O ++ [c] = toL (dval (s.data.toList.take (m + 1))) := by
                  have e : val (O ++ [c]) = dval (s.data.toList.take (m + 1)) := by rw [val_snoc, HOl.out, hvv]
                  apply eq_toL (HOL.out.append (Limbs.cons (by omega) Limbs.nil)) e
                  rw [hlen]
                  apply len_ge
                  intro _
                  rw [Nat.add_sub_cancel, ← e]
                  exact hge
                have HOE := Lib.hid hOe
                have HLE := Lib.hid (show j + 1 = (toL (dval (s.data.toList.take (m + 1)))).length by rw [← hOe, hlen])
                have HO3 := Lib.hid (HO2.out.alloc (.cells #[.int .u32 (c : Int)] 55))
                have HSRC := Lib.hid (src_one wr 55 c)
                clear hvv hge hlen hOe
                go_wp2_with (at_builtin; refine wpList_append_src _ rfl (.tmp 64) (.tmp 67) 22 rfl w.heap.size 55 i0 (.int .u32 0) 1 4 undU32s hi hz0 hz1 hz2 rfl (by decide) (.slice ao j ac) j (cellsOf O) rfl HO3.out (some ⟨wr.heap.size, 0, none⟩) 1 1 (cellsOf [c]) rfl rfl HSRC.out (cellsOf_one _) (by unfold maxLen; omega) (by omega) (by have := K2.size; simp; omega) ?_; intro v' w3 hown' hg3 _; refine Hid.out ?_)
                refine Lib.hid ?_
                rw [cells_snoc, HOE.out] at hown'
                have HO4 := Lib.hid hown'
                have K5 : Kp w w3 := (K2.tr (Kp.alloc wr _)).grown hg3 (by have := K2.size; simp; omega) (fun b hb => (HO2.out.lt b hb).1)
                clear hown' hg3
                go_wp2
                go_roundw
                case rel => exact ⟨m + 1, j + 1, by omega, by go_num, HLE.out, HO4.out, K5⟩
                case measure => simp [intOf]; omega
              · obtain rfl : c = 0 := by omega
                have hOe : O = toL (dval (s.data.toList.take (m + 1))) := by
                  apply eq_toL HOL.out (by rw [← hvv]; simp)
                  rw [HOl.out, HK.out, hXe.out]
                  exact length_mono _ _ (by rw [HDN.out]; omega)
                have HOE := Lib.hid hOe
                have HLE := Lib.hid (show j = (toL (dval (s.data.toList.take (m + 1)))).length by rw [← hOe]; exact HOl.out.symm)
                clear hvv hOe
                go_wp2
                go_roundw
                case rel => exact ⟨m + 1, j, by omega, by go_num, HLE.out, by rw [← HOE.out]; exact HO2.out, K2⟩
                case measure => simp [intOf]; omega
        · obtain rfl : m = s.size := by omega
          rw [take_size] at HK HO
          have hr := Rd.owned HO.out (limbs_toL _)
          have HR := Lib.hid (show M wr u4 gv by rw [(HGOOD.out HG.out).2]; exact hr)
          clear hr hk hO hnb hkl hLX hvx
          go_wp2
          go_ret2
          exact ⟨_, ret_pair (HGOOD.out HG.out).1.symm, HR.out, K1⟩

theorem rparse_any (s : ByteArray) (w : World) (hb : s.size ≤ 9223372036854775807) :
    Calls Tryz.prog 94 #[.string s] w fun e w' => ∃ v', e = .returned (.tuple #[v', .int .i64 (parseN s).2]) ∧ M w' v' (parseN s).1 ∧ Kp w w' := by
  unfold parseN
  by_cases h1 : 4096 < s.size
  · rw [if_pos h1]
    exact rparse_long s w h1 hb
  · rw [if_neg h1]
    rcases Nat.eq_zero_or_pos s.size with h2 | h2
    · have hg : goodB s = false := by
        have := empty_list h2
        rw [ByteArray.toList_eq] at this
        unfold goodB
        rw [this]
        simp
      rw [hg]
      exact rparse_empty s w h2
    · have := rparse_some s w (by omega) h2
      rcases Bool.eq_false_or_eq_true (goodB s) with e | e <;> rw [e] at this ⊢ <;> exact this
end Go.Proofs.YtmnnnoeenfmckaaGreatDoor
