/-
  natural.Parse: by walking its text.
-/
import Derived.Test.YtijadodleiiomaaDoorParse2
import Derived.Test.YtijadodleiiomaaDoorAddsL
import Derived.Lib.Strings
namespace Go.Proofs.YtijadodleiiomaaDoor
open Go.RowKit

def strLen : Value → Nat
  | .string s => s.size
  | _ => 0

theorem ext_list (t : ByteArray) (a b : Nat) : (t.extract a b).data.toList = (t.data.toList.drop a).take (b - a) := by
  rw [ByteArray.data_extract, Array.toList_extract]

theorem dval_cut (L : List UInt8) (j n : Nat) (h : n ≤ (L.drop j).length) : dval (L.take (j + n)) = dval (L.take j) * 10 ^ n + dval ((L.drop j).take n) := by
  rw [List.take_add, dval_append, List.length_take, Nat.min_eq_left h]

theorem toL_pow_len {n d : Nat} (h : n < 10 ^ d) : (toL n).length ≤ d := by
  apply length_toL_le
  have : 10 ^ d ≤ 4294967296 ^ d := Nat.pow_le_pow_left (by omega) d
  omega

set_option maxRecDepth 20000 in
set_option maxHeartbeats 2000000 in
theorem parse_good (s : ByteArray) (w : World) (hs : s.size ≤ 4096) (hd : digits s.data.toList = true) (h0 : 0 < s.size) :
    Calls Tryd.prog 35 #[.string s] w fun e w' => ∃ v', e = .returned (.tuple #[v', .int .i64 0]) ∧ M w' v' (dval s.data.toList) ∧ Kp w w' := by
  obtain ⟨i0, hi, hz0, hz1, hz2⟩ := info_parts infoU32
  have HG := Lib.hid (good_true hd h0)
  have HIS := Lib.hid (isDigits_any s w (by omega))
  rw [HG.out] at HIS
  obtain ⟨L, hL⟩ : ∃ L, L = s.data.toList := ⟨_, rfl⟩
  have hLl : L.length = s.size := by rw [hL]; rfl
  rw [← hL] at hd ⊢
  have HL := Lib.hid hL
  have HLl := Lib.hid hLl
  have HD := Lib.hid hd
  obtain ⟨q, hq⟩ : ∃ q, q = s.size / 9 := ⟨_, rfl⟩
  have hqi : (s.size : Int) / 9 = (q : Int) := by omega
  have hqb : q ≤ 4096 := by omega
  clear hL hLl hd hq
  go_enter Tryd.func35, Tryd.ntmps35
  go_wp2_with (first
    | (go_at_call 61; refine HIS.out.mono ?_; rintro e w1 ⟨rfl, rfl⟩)
    | (at_make; refine wpList_make_own _ rfl _ _ 22 rfl w.heap.size 45 i0 (.int .u32 0) 1 undU32s hi hz0 hz1 _ _ _ (q + 1) rfl rfl (by omega) (by rw [hz2]; omega) (by unfold maxLen; omega) (Nat.le_refl _) ?_; intro w1 hown hg; have HOW := Lib.hid hown; have K1 := (Below.refl w.heap.size w).grown hg (Nat.le_refl _) (by intro j hj; cases hj); clear hown hg))
  go_loopw [0, 4] (fun sv ov wr => ∃ (j k g c : Nat) (t : ByteArray), sv = .string t ∧ t.data.toList = L.drop j ∧ j ≤ L.length ∧ ov = .slice (some ⟨g, 0, none⟩) k c ∧ k = (toL (dval (L.take j))).length ∧ w.heap.size ≤ g ∧
    wr.ownsRow w.heap.size 45 1 (.slice (some ⟨g, 0, none⟩) k c) k (cellsOf (toL (dval (L.take j)))) ∧ (j = 0 ∨ (L.length - j) % 9 = 0) ∧ Kp w wr) (fun sv _ _ => strLen sv)
  case atStart => exact ⟨0, 0, w.heap.size, q + 1, s, rfl, HL.out.symm, Nat.zero_le _, rfl, by simp [dval, toL_zero], Nat.le_refl _, by simpa [dval, toL_zero, cellsOf] using HOW.out, Or.inl rfl, K1⟩
  case round =>
    obtain ⟨j, k, g, c, t, rfl, htl, hj, rfl, hk, hg, hO, hj9, K2⟩ := hrel
    have htz : t.size = L.length - j := by
      have := congrArg List.length htl
      rwa [List.length_drop] at this
    have HTL := Lib.hid htl
    have HTZ := Lib.hid htz
    have HK := Lib.hid hk
    have HO := Lib.hid hO
    have HJ := Lib.hid hj9
    have hnb := dval_lt (digits_take HD.out j)
    rw [List.length_take, Nat.min_eq_left hj] at hnb
    have hkl := toL_pow_len hnb
    rw [← hk] at hkl
    have htb : t.size ≤ 4096 := by rw [htz, HLl.out]; omega
    have hjb : j ≤ 4096 := by rw [HLl.out] at hj; omega
    clear htl htz hk hO hj9 hnb
    by_cases ht0 : 0 < t.size
    · obtain ⟨m, hm⟩ : ∃ m, m = (t.size - 1) % 9 := ⟨_, rfl⟩
      have hmi : ((t.size : Int) - 1) % 9 = (m : Int) := by omega
      have hm9 : m + 1 ≤ 9 := by omega
      have hmt : m + 1 ≤ t.size := by omega
      have hm8 : j = 0 ∨ m = 8 := by
        rcases HJ.out with e | e
        · exact Or.inl e
        · have := HTZ.out
          rw [← this] at e
          exact Or.inr (by omega)
      have hrest : (L.length - (j + (m + 1))) % 9 = 0 := by
        have := HTZ.out
        have e : L.length - (j + (m + 1)) = t.size - (m + 1) := by omega
        rw [e]
        omega
      have HR9 := Lib.hid hrest
      have hgl : (t.extract 0 (m + 1)).data.toList = (L.drop j).take (m + 1) := by rw [ext_list, HTL.out]; rfl
      have hgd : digits (t.extract 0 (m + 1)).data.toList = true := by rw [hgl]; exact digits_take (digits_drop HD.out j) _
      have hgs : (t.extract 0 (m + 1)).size ≤ 9 := by rw [ByteArray.size_extract]; omega
      have HGV := Lib.hid (groupValue_any (t.extract 0 (m + 1)) wr hgd hgs)
      have hp : dval (t.extract 0 (m + 1)).data.toList < 1000000000 := by
        have h1 := dval_lt hgd
        have h2 : 10 ^ (t.extract 0 (m + 1)).data.toList.length ≤ 10 ^ 9 := Nat.pow_le_pow_right (by omega) hgs
        omega
      have hnum : dval (L.take j) * 1000000000 + dval (t.extract 0 (m + 1)).data.toList = dval (L.take (j + (m + 1))) := by
        rw [hgl, dval_cut L j (m + 1) (by rw [List.length_drop, ← HTZ.out]; omega)]
        rcases hm8 with e | e
        · subst e
          simp [dval]
        · subst e
          rfl
      have hnext : (t.extract (m + 1) t.size).data.toList = L.drop (j + (m + 1)) := by
        rw [ext_list, HTL.out, List.drop_drop, List.take_of_length_le (by rw [List.length_drop]; have := HTZ.out; omega)]
      have HNX := Lib.hid hnext
      have HNS := Lib.hid (show (t.extract (m + 1) t.size).size < t.size by rw [ByteArray.size_extract]; omega)
      obtain ⟨p, hpv⟩ : ∃ p, p = dval (t.extract 0 (m + 1)).data.toList := ⟨_, rfl⟩
      rw [← hpv] at HGV hp hnum
      have HAL := Lib.hid (appendLimb_any w.heap.size g c p (dval (L.take j)) k wr HK.out hg (by have := K2.size; omega) HO.out (by omega) hp)
      rw [hnum] at HAL
      have hjn : j + (m + 1) ≤ L.length := by have := HTZ.out; omega
      clear hm hm8 hrest hgl hgd hgs hnum hnext hpv
      go_wp2_with (first
        | (go_at_call 63; refine HGV.out.mono ?_; rintro e w1 ⟨rfl, rfl⟩)
        | (go_at_call 62; refine HAL.out.mono ?_; rintro e w3 ⟨g3, c3, k3, rfl, hg3, hown3, hk3, hb3⟩; have HO3 := Lib.hid hown3; have HK3 := Lib.hid hk3; clear hown3 hk3))
      go_roundw
      case rel => exact ⟨j + (m + 1), k3, g3, c3, t.extract (m + 1) t.size, rfl, HNX.out, hjn, rfl, HK3.out, hg3, HO3.out, Or.inr HR9.out, K2.trans hb3⟩
      case measure => exact HNS.out
    · have hjL : j = L.length := by have := HTZ.out; omega
      have htk : L.take j = L := by rw [hjL]; exact List.take_length
      rw [htk] at HO HK
      have hr := Rd.owned HO.out (limbs_toL _)
      go_wp2
      go_ret2
      exact ⟨_, rfl, hr, K2⟩

def parseN (s : ByteArray) : Nat × Int := if 4096 < s.size then (0, 2) else if goodB s = true then (dval s.data.toList, 0) else (0, 4)

theorem parse_long (s : ByteArray) (w : World) (hs : 4096 < s.size) (hb : s.size ≤ 9223372036854775807) :
    Calls Tryd.prog 35 #[.string s] w fun e w' => ∃ v', e = .returned (.tuple #[v', .int .i64 2]) ∧ M w' v' 0 ∧ Kp w w' := by
  go_enter Tryd.func35, Tryd.ntmps35
  go_wp2
  go_ret2
  exact ⟨_, rfl, m_nil, Below.refl _ _⟩

theorem parse_bad (s : ByteArray) (w : World) (hs : s.size ≤ 4096) (hd : goodB s = false) :
    Calls Tryd.prog 35 #[.string s] w fun e w' => ∃ v', e = .returned (.tuple #[v', .int .i64 4]) ∧ M w' v' 0 ∧ Kp w w' := by
  have HIS := Lib.hid (isDigits_any s w (by omega))
  rw [hd] at HIS
  clear hd
  go_enter Tryd.func35, Tryd.ntmps35
  go_wp2_with (go_at_call 61; refine HIS.out.mono ?_; rintro e w1 ⟨rfl, rfl⟩)
  go_ret2
  exact ⟨_, rfl, m_nil, Below.refl _ _⟩

theorem parse_any (s : ByteArray) (w : World) (hb : s.size ≤ 9223372036854775807) :
    Calls Tryd.prog 35 #[.string s] w fun e w' => ∃ v', e = .returned (.tuple #[v', .int .i64 (parseN s).2]) ∧ M w' v' (parseN s).1 ∧ Kp w w' := by
  unfold parseN
  by_cases h1 : 4096 < s.size
  · rw [if_pos h1]
    exact parse_long s w h1 hb
  · rw [if_neg h1]
    by_cases h2 : goodB s = true
    · rw [if_pos h2]
      have h3 := h2
      unfold goodB at h3
      simp only [Bool.and_eq_true, Bool.not_eq_true', List.isEmpty_eq_false_iff] at h3
      refine parse_good s w (by omega) h3.1 ?_
      have := List.length_pos_iff.mpr h3.2
      rwa [len_data] at this
    · rw [if_neg h2]
      exact parse_bad s w (by omega) (by simpa using h2)
end Go.Proofs.YtijadodleiiomaaDoor
