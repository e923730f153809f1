/-
  natural.Text, by walking its text.
-/
import Derived.Test.YtijadodleiiomaaDoorDec
import Derived.Test.YtijadodleiiomaaDoorShelf
import Derived.Lib.AppendIntMem
namespace Go.Proofs.YtijadodleiiomaaDoor
open Go.RowKit
open Go.Lib (decDigits)

theorem ret_str {l m : List UInt8} (h : l = m) : Ending.returned (.string ⟨l.toArray⟩) = .returned (.string ⟨m.toArray⟩) := by rw [h]

def slen : Value → Nat
  | .slice _ n _ => n
  | _ => 0

theorem owns_len {w : World} {B : Nat} {e : TypeId} {s : Nat} {v : Value} {n : Nat} {xs : List Value} (h : w.ownsRow B e s v n xs) : slen v = n := by
  rcases h.2 with ⟨rfl, h0⟩ | ⟨g, cap, cur, rfl, _⟩
  · exact h0.symm
  · rfl

theorem owns_pos {w : World} {B : Nat} {e : TypeId} {s : Nat} {v : Value} {n : Nat} {xs : List Value} (h : w.ownsRow B e s v n xs) (hn : 0 < n) : ∃ g cap, v = .slice (some ⟨g, 0, none⟩) n cap ∧ B ≤ g ∧ g < w.heap.size := by
  rcases h.2 with ⟨rfl, h0⟩ | ⟨g, cap, cur, rfl, hb, hg, _⟩
  · omega
  · exact ⟨g, cap, rfl, hb, (Array.getElem?_eq_some_iff.1 hg).1⟩

theorem owns_at {w : World} {B : Nat} {e : TypeId} {g cap n : Nat} {xs : List Nat} (h : w.ownsRow B e 1 (.slice (some ⟨g, 0, none⟩) n cap) n (cellsOf xs)) (hx : Limbs xs) (i : Nat) (hi : i < n) :
    ∃ x, w.cell? ⟨g, i, none⟩ = some (.int .u32 (x : Nat)) ∧ x < 4294967296 ∧ Hid (x = xs.getD i 0) := by
  have hl : xs.length = n := by have := h.1; simp [cellsOf] at this; exact this
  refine ⟨xs.getD i 0, ?_, hx.getD i, rfl⟩
  rw [h.cellAt i (by omega), cellsOf_get xs i (by omega)]
  rfl

theorem owns_kp {w w' : World} {B : Nat} {e : TypeId} {s : Nat} {v : Value} {n : Nat} {xs : List Value} (h : w.ownsRow B e s v n xs) (hk : Kp w w') : w'.ownsRow B e s v n xs := by
  refine ⟨h.1, ?_⟩
  rcases h.2 with h2 | ⟨g, cap, cur, hv, hb, hg, r⟩
  · exact Or.inl h2
  · refine Or.inr ⟨g, cap, cur, hv, hb, ?_, r⟩
    rw [hk.block g (Array.getElem?_eq_some_iff.1 hg).1]
    exact hg

theorem owns_only {w w' : World} {B : Nat} {e : TypeId} {s : Nat} {v : Value} {n : Nat} {xs : List Value} {g : Nat} (h : w.ownsRow B e s v n xs) (ho : Only g w w') (hg : g < B) : w'.ownsRow B e s v n xs := by
  refine ⟨h.1, ?_⟩
  rcases h.2 with h2 | ⟨g', cap, cur, hv, hb, hg', r⟩
  · exact Or.inl h2
  · refine Or.inr ⟨g', cap, cur, hv, hb, ?_, r⟩
    rw [ho.block g' (by omega)]
    exact hg'

theorem Own.grown {w w' : World} {e : TypeId} {g : Nat} {xs : List Nat} {row : Option Nat} (h : Own w e g xs) (hg : w.grownBy w' row) (hr : row ≠ some g) : Own w' e g xs := by
  unfold Own
  rw [hg.block g h.lt (fun e => hr e.symm)]
  exact h

theorem Own.alloc {w : World} {e : TypeId} {g : Nat} {xs : List Nat} (h : Own w e g xs) (o : Obj) : Own (w.alloc o) e g xs := h.kp (Kp.alloc w o)

theorem src_one (w : World) (e : TypeId) (x : Nat) : Src (w.alloc (.cells #[.int .u32 (x : Nat)] e)) (some ⟨w.heap.size, 0, none⟩) (cellsOf [x]) := by
  refine fun _ => ⟨_, rfl, fun j u hu => ?_⟩
  have hO := Own.alloc_new w e [x]
  have hj : j < 1 := by
    have := (List.getElem?_eq_some_iff.1 hu).1
    simpa [cellsOf] using this
  rw [Addr.add_lit, Nat.zero_add, ← hu]
  have := hO.cell j (by simpa using hj)
  rw [cellsOf_get [x] j (by simpa using hj)]
  exact this

theorem tabKp {P : Program} {w w' : World} {name : String} {k : IntKind} {zs : List Int} (h : Lib.TabBelow P w.heap.size w name k zs) (hk : Kp w w') : Lib.TabIs P w' name k zs := h w' hk

theorem trim_len (P : List Nat) (k m : Nat) (_hk : k ≤ m) : (P.take k).take (trimL (P.take k)).length = P.take (trimL (P.take k)).length := by
  rw [List.take_take, Nat.min_eq_left]
  have := length_trimL (P.take k)
  rw [List.length_take] at this
  omega

theorem trim_idem {X : List Nat} (h : Limbs X) : trimL (trimL X) = trimL X := by rw [← toL_val h]; exact trimL_toL _

/-- What is left after the zeros at the end of the first k limbs are gone. -/
theorem trim_prefix {P : List Nat} (hL : Limbs P) (k m : Nat) (hk : k ≤ m) :
    P.take (trimL (P.take k)).length = trimL (P.take k) ∧ trimL (P.take (trimL (P.take k)).length) = P.take (trimL (P.take k)).length ∧ val (P.take (trimL (P.take k)).length) = val (P.take k) := by
  have h1 : P.take (trimL (P.take k)).length = trimL (P.take k) := by rw [← trim_len P k m hk]; exact trimL_take _
  refine ⟨h1, ?_, ?_⟩
  · rw [h1]; exact trim_idem (hL.take k)
  · rw [h1]; exact val_trimL _

theorem groups_cells {n j x : Nat} (h : x = n / 1000000000 ^ j) : cellsOf (groups n j) ++ cellsOf [x % 1000000000] = cellsOf (groups n (j + 1)) := by
  subst h
  simp [cellsOf, groups_succ]

theorem appendUint_any (u : Nat) (hu : u < 18446744073709551616) (w : World) (htab : Lib.TabIs Tryd.prog w "internal/strconv.uint64pow10" .u64 Lib.pow10Tab) :
    Calls Tryd.prog 64 #[.slice none 0 0, .int .u64 (u : Nat), .int .i64 10] w fun e w' => ∃ v', e = .returned v' ∧ w'.ownsRow w.heap.size 5 1 v' (decDigits u).length (Lib.byteCells (decDigits u)) ∧ Kp w w' := by
  have HAP := Lib.hid (Tryd.internal_strconv_AppendUint_10 w.heap.size 0 u hu (.slice none 0 0) [] w (World.ownsRow_nil _ _ _ _) (Nat.le_refl _) (by omega) htab)
  go_enter Tryd.func64, Tryd.ntmps64
  go_wp2_with (go_at_call 78; refine HAP.out.mono ?_; rintro e w2 ⟨v2, rfl, hown2, hb2, -⟩; have HOW2 := Lib.hid hown2; clear hown2)
  go_ret
  have hown := HOW2.out
  rw [Nat.zero_add, List.nil_append] at hown
  exact ⟨_, rfl, hown, hb2⟩

set_option maxHeartbeats 2000000 in
theorem text_any (v : Value) (xs : List Nat) (w : World) (h : Rd w v xs) (hl : xs.length ≤ 1099511627776)
    (htab : Lib.TabIs Tryd.prog w "internal/strconv.uint64pow10" .u64 Lib.pow10Tab) :
    Calls Tryd.prog 37 #[v] w fun e w' => e = .returned (.string ⟨(decDigits (val xs)).toArray⟩) ∧ Kp w w' := by
  obtain ⟨i0, hi, hz0, hz1, hz2⟩ := info_parts infoU32
  have HT := Lib.tabBelow_of_tabIs htab
  have hLx : Limbs xs := by obtain ⟨_, _, _, _, _, hx, _⟩ := h; exact hx
  have hlt := length_trimL xs
  have hC := Lib.hid (copied_any v xs w h hl)
  have HLx := Lib.hid (limbs_trimL hLx)
  have hvv := val_trimL xs
  have htt : trimL (trimL xs) = trimL xs := by rw [← toL_val hLx]; exact trimL_toL _
  obtain ⟨R, hR⟩ : ∃ R, R = trimL xs := ⟨_, rfl⟩
  obtain ⟨n, hn⟩ : ∃ n, n = val xs := ⟨_, rfl⟩
  rw [← hR] at hlt hC HLx hvv htt
  rw [← hn] at hvv ⊢
  have hlen := dec_len n R.length (by rw [← hvv]; exact val_lt HLx.out)
  have HV := Lib.hid hvv
  have HTT := Lib.hid htt
  have HLEN := Lib.hid hlen
  have HNB := Lib.hid (show n < 4294967296 ^ R.length by rw [← hvv]; exact val_lt HLx.out)
  clear hR hn h htab hLx hvv htt hlen
  by_cases h0 : R.length = 0
  · have hR0 : R = [] := List.eq_nil_of_length_eq_zero h0
    subst hR0
    have hn0 : n = 0 := HV.out.symm
    subst hn0
    rw [dec_zero]
    go_enter Tryd.func37, Tryd.ntmps37
    go_wp2_with (go_at_call 44; refine hC.out.mono ?_; rintro e w1 ⟨g, _, rfl, hO, K1⟩)
    go_ret
    exact ⟨rfl, K1⟩
  · have hne : (((R.length : Nat) : Int) == 0) = false := beq_eq_false_iff_ne.2 (by omega)
    go_enter Tryd.func37, Tryd.ntmps37
    go_wp2_with (go_at_call 44; refine hC.out.mono ?_; rintro e w1 ⟨g, hgw, rfl, hO, K1⟩; have HO := Lib.hid hO; have hgb := hO.lt; clear hO)
    go_loopw [3, 4] (fun rv gv wr => ∃ (j k : Nat) (P : List Nat), rv = .slice (some ⟨g, 0, none⟩) k R.length ∧ k ≤ R.length ∧ P.length = R.length ∧ Limbs P ∧ trimL (P.take k) = P.take k ∧ val (P.take k) = n / 1000000000 ^ j ∧
      (0 < j → n / 1000000000 ^ (j - 1) ≠ 0) ∧ wr.ownsRow w1.heap.size 45 1 gv j (cellsOf (groups n j)) ∧ Own wr 45 g P ∧ Kp w wr ∧ w1.heap.size ≤ wr.heap.size) (fun _ gv _ => n + 1 - slen gv)
    case atStart => exact ⟨0, R.length, R, rfl, Nat.le_refl _, rfl, HLx.out, by rw [List.take_of_length_le (Nat.le_refl _)]; exact HTT.out, by rw [List.take_of_length_le (Nat.le_refl _), HV.out]; simp, fun h => absurd h (by omega), World.ownsRow_nil _ _ _ _, HO.out, K1, Nat.le_refl _⟩
    case round =>
      obtain ⟨j, k, P, rfl, hk, hPl, hPL, hPt, hPv, hj, hG, hP, K2, hsz⟩ := hrel
      have HPl := Lib.hid hPl
      have HPL := Lib.hid hPL
      have HPt := Lib.hid hPt
      have HPv := Lib.hid hPv
      have HJ := Lib.hid hj
      have HG := Lib.hid hG
      have HP := Lib.hid hP
      have hgl := Lib.hid (owns_len hG)
      clear hPl hPL hPt hPv hj hG hP
      by_cases hk0 : 0 < k
      · have hq : n / 1000000000 ^ j ≠ 0 := by
          intro e
          have h1 := toL_val (HPL.out.take k)
          rw [HPv.out, e, toL_zero, HPt.out] at h1
          have h2 := congrArg List.length h1
          rw [List.length_take, Nat.min_eq_left (by rw [HPl.out]; exact hk)] at h2
          simp at h2
          omega
        have hjn := le_of_quo hq
        have hjb := quo_bound hq HNB.out
        have HQ := Lib.hid hq
        have hD := divideLimb_any g k R.length 1000000000 P wr HP.out HPL.out (by rw [HPl.out]; exact hk) (by rw [HPl.out]; omega) hk (by omega) (by omega)
        have HD := Lib.hid hD
        clear hq hD
        go_wp2_with (go_at_call 47; refine HD.out.mono ?_; rintro e w2 ⟨P2, rfl, hO2, hL2, hl2, hv2, hon⟩; have HO2 := Lib.hid hO2; have HL2 := Lib.hid hL2; have Hl2 := Lib.hid hl2; have Hv2 := Lib.hid hv2; have HON := Lib.hid hon; clear hO2 hL2 hl2 hv2 hon; refine Hid.out ?_)
        refine Lib.hid ?_
        have HG2 := Lib.hid ((owns_only HG.out HON.out hgb).alloc (.cells #[.int .u32 ((val (P.take k) % 1000000000 : Nat) : Int)] 45))
        have HSRC := Lib.hid (src_one w2 45 (val (P.take k) % 1000000000))
        have hs2 : wr.heap.size ≤ w2.heap.size := by have := HON.out.size; omega
        go_wp2_with (at_builtin; refine wpList_append_src _ rfl (.tmp 16) (.tmp 19) 22 rfl w1.heap.size 45 i0 (.int .u32 0) 1 4 undU32s hi hz0 hz1 hz2 rfl (by decide) u4 j (cellsOf (groups n j)) rfl HG2.out (some ⟨w2.heap.size, 0, none⟩) 1 1 (cellsOf [val (P.take k) % 1000000000]) rfl rfl HSRC.out (cellsOf_one _) (by unfold maxLen; omega) (by omega) (by simp; omega) ?_; intro v' w3 hown' hg3 _; refine Hid.out ?_)
        refine Lib.hid ?_
        rw [groups_cells HPv.out] at hown'
        have HG3 := Lib.hid hown'
        have hne3 : u4.ownBlock ≠ some g := fun e => by have := (HG.out.lt _ e).1; omega
        have HO3 := Lib.hid ((HO2.out.alloc (.cells #[.int .u32 ((val (P.take k) % 1000000000 : Nat) : Int)] 45)).grown hg3 hne3)
        have K3 : Kp w w3 := ((HON.out.kp K2 hgw).tr (Kp.alloc w2 _)).grown hg3 (by have := K2.size; simp; omega) (fun b hb => by have := (HG.out.lt b hb).1; have := K1.size; omega)
        have hsz3 : w1.heap.size ≤ w3.heap.size := by have := hg3.size; simp at this; omega
        have HTR := Lib.hid (ntrim_of (some ⟨g, 0, none⟩) k R.length (P2.take k) w3 (by rw [List.length_take, Hl2.out, HPl.out, Nat.min_eq_left hk]) hk (by unfold maxLen; omega) (HO3.out.sl.take k))
        have HPF := Lib.hid (trim_prefix HL2.out k k (Nat.le_refl _))
        have hk3 := length_trimL (P2.take k)
        rw [List.length_take] at hk3
        have HK3 : (trimL (P2.take k)).length ≤ R.length := by omega
        clear hown' hg3 hne3 hk3
        go_wp2_with (go_at_call 40; refine HTR.out.mono ?_; rintro e w4 ⟨rfl, rfl⟩)
        go_roundw
        case rel => exact ⟨j + 1, (trimL (P2.take k)).length, P2, rfl, HK3, by rw [Hl2.out, HPl.out], HL2.out, HPF.out.2.1, by rw [HPF.out.2.2, Hv2.out, HPv.out, quo_next], fun _ => HQ.out, HG3.out, HO3.out, K3, hsz3⟩
        case measure => rw [owns_len HG3.out, hgl.out]; omega
      · obtain rfl : k = 0 := by omega
        have hq0 : n / 1000000000 ^ j = 0 := by rw [← HPv.out]; rfl
        have hj0 : 0 < j := by
          rcases Nat.eq_zero_or_pos j with e | e
          · subst e
            have h1 := toL_val HLx.out
            rw [HV.out, show n = 0 by simpa using hq0, toL_zero, HTT.out] at h1
            rw [← h1] at h0
            exact absurd rfl h0
          · exact e
        have hq1 := HJ.out hj0
        have hjb := quo_bound hq1 HNB.out
        obtain ⟨h, gcap, rfl, hh1, hh2⟩ := owns_pos HG.out hj0
        obtain ⟨x, hcell, hx, HX⟩ := owns_at HG.out (groups_limbs n j) (j - 1) (by omega)
        have hxv : x = n / 1000000000 ^ (j - 1) := by
          rw [HX.out, groups_at _ _ _ (by omega)]
          apply Nat.mod_eq_of_lt
          obtain ⟨i, rfl⟩ : ∃ i, j = i + 1 := ⟨j - 1, by omega⟩
          rw [quo_next] at hq0
          rw [Nat.add_sub_cancel]
          omega
        have HQ1 := Lib.hid hq1
        have HXV := Lib.hid hxv
        have HAP := Lib.hid (appendUint_any x (by omega) wr (tabKp HT K2))
        have HGL := Lib.hid (groups_limbs n j)
        obtain ⟨wg, rfl⟩ : ∃ wg, wg = wr := ⟨_, rfl⟩
        clear hq0 hq1 hxv
        go_wp2_with (go_at_call 64; refine HAP.out.mono ?_; rintro e w2 ⟨v2, rfl, hown2, hb2⟩; have HOW2 := Lib.hid hown2; clear hown2)
        go_loopw [6, 7] (fun ov i wr => ∃ (t : Nat), t ≤ j - 1 ∧ i = .int .i64 ((t : Int) - 1) ∧ n / 1000000000 ^ t ≠ 0 ∧
          wr.ownsRow wg.heap.size 5 1 ov (decDigits (n / 1000000000 ^ t)).length (Lib.byteCells (decDigits (n / 1000000000 ^ t))) ∧ Kp wg wr) (fun _ i _ => (intOf i + 1).toNat)
        case atStart => exact ⟨j - 1, Nat.le_refl _, by go_num, HQ1.out, by rw [← HXV.out]; exact HOW2.out, hb2⟩
        case round =>
          obtain ⟨t, ht, rfl, hqt, hot, K5⟩ := hrel
          have HQT := Lib.hid hqt
          have HOT := Lib.hid hot
          clear hqt hot
          by_cases ht0 : 0 < t
          · obtain ⟨i, rfl⟩ : ∃ i, t = i + 1 := ⟨t - 1, by omega⟩
            obtain ⟨y, hcell2, hy, HY⟩ := owns_at (owns_kp HG.out K5) HGL.out i (by omega)
            have hyv : y = n / 1000000000 ^ i % 1000000000 := by rw [HY.out, groups_at _ _ _ (by omega)]
            have hdl := dec_len (n / 1000000000 ^ (i + 1)) R.length (Nat.lt_of_le_of_lt (Nat.div_le_self _ _) HNB.out)
            have HGR := Lib.hid (group_any wg.heap.size (decDigits (n / 1000000000 ^ (i + 1))).length y u6 (Lib.byteCells (decDigits (n / 1000000000 ^ (i + 1)))) wr HOT.out (by have := K5.size; omega) (by omega) hy)
            have HYV := Lib.hid hyv
            have HDS := Lib.hid (dec_step n i HQT.out)
            clear hyv hdl
            go_wp2_with (go_at_call 65; refine HGR.out.mono ?_; rintro e w6 ⟨v6, rfl, hown6, hb6⟩; have HOW6 := Lib.hid hown6; clear hown6)
            go_roundw
            case rel => exact ⟨i, by omega, by go_num, quo_down HQT.out, by
              have h6 := HOW6.out
              rw [HDS.out, ← HYV.out, List.length_append, nine_len]
              rw [show Lib.byteCells (decDigits (n / 1000000000 ^ (i + 1)) ++ nine y) = Lib.byteCells (decDigits (n / 1000000000 ^ (i + 1))) ++ Lib.byteCells (nine y) by simp [Lib.byteCells]]
              exact h6, K5.trans hb6⟩
            case measure => simp [intOf]
          · obtain rfl : t = 0 := by omega
            have hot := HOT.out
            rw [Nat.pow_zero, Nat.div_one] at hot
            obtain ⟨l, hl⟩ : ∃ l, l = decDigits n := ⟨_, rfl⟩
            have hpos : 0 < l.length := by rw [hl, Lib.decDigits_length]; exact Lib.nDigits_pos n
            rw [← hl] at hot
            have HL := Lib.hid hl
            clear hl
            obtain ⟨og, oc, rfl, ho1, ho2⟩ := owns_pos hot hpos
            have hcv := run_convert_bytes_back (P := Tryd.prog) wr 66 9 5 ⟨og, 0, none⟩ oc l undU8s Tryd.underlying5 Tryd.underlying9 (fun j hj => hot.cells (g := og) rfl j _ (by simp [Lib.byteCells, hj]))
            clear hot
            go_wp2
            go_ret
            exact ⟨ret_str HL.out, K2.tr K5⟩
end Go.Proofs.YtijadodleiiomaaDoor
