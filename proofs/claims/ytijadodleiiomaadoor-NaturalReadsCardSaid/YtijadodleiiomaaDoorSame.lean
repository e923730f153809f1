/-
  brepkernellaw01.same, natural.copied, natural.Of: by walking their texts.
-/
import Derived.Test.YtijadodleiiomaaDoorTrimN
import Derived.Laws.CopyOwn
namespace Go.Proofs.YtijadodleiiomaaDoor
open Go.RowKit

theorem Kp.drewN {w0 w : World} (h : Kp w0 w) (n : Nat) : Kp w0 (w.drewN n) := ⟨h.os, h.tape, h.output, h.size, h.block⟩

theorem ret_bool {a b : Bool} (h : a = b) : Ending.returned (.bool a) = .returned (.bool b) := by rw [h]

theorem eq_of_getD {xs ys : List Nat} (hl : xs.length = ys.length) (h : ∀ j, j < xs.length → xs.getD j 0 = ys.getD j 0) : xs = ys := by
  apply List.ext_getElem hl
  intro i h1 h2
  have := h i h1
  simpa [List.getD, h1, h2] using this

set_option maxHeartbeats 1000000 in
theorem same_any (a b : Value) (xs ys : List Nat) (w : World) (ha : Rd w a xs) (hb : Rd w b ys) :
    Calls Tryd.prog 20 #[a, b] w fun e w' => e = .returned (.bool (decide (xs = ys))) ∧ Kp w w' := by
  obtain ⟨ao, ac, rfl, a1, a2, a3, a4⟩ := ha
  obtain ⟨bo, bc, rfl, b1, b2, b3, b4⟩ := hb
  unfold maxLen at a2 b2
  have A3 := Lib.hid a3
  have B3 := Lib.hid b3
  clear a3 b3
  by_cases hl : xs.length = ys.length
  · have hne : (((xs.length : Nat) : Int) != (ys.length : Int)) = false := by rw [hl]; simp
    have HL := Lib.hid hl
    clear hl
    go_enter Tryd.func20, Tryd.ntmps20
    go_wp2
    go_loopw [5] (fun i wr => ∃ k : Nat, k ≤ xs.length ∧ i = .int .i64 k ∧ (∀ j, j < k → xs.getD j 0 = ys.getD j 0) ∧ Kp w wr) (fun i _ => xs.length - (intOf i).toNat)
    case atStart => exact ⟨0, Nat.zero_le _, rfl, fun j hj => by omega, Below.refl _ _⟩
    case round =>
      obtain ⟨k, hk, rfl, heq, K1⟩ := hrel
      have HEQ := Lib.hid heq
      clear heq
      by_cases hk1 : k < xs.length
      · obtain ⟨ab, aoff, x, rfl, hcell, hx, HX⟩ := (a4.kp K1).at A3.out k hk1
        obtain ⟨bb, boff, y, rfl, hcell2, hy, HY⟩ := (b4.kp K1).at B3.out k (by rw [← HL.out]; exact hk1)
        have hk2 : k < ys.length := by rw [← HL.out]; exact hk1
        by_cases hxy : x = y
        · have hb : (((x : Nat) : Int) != (y : Int)) = false := by rw [hxy]; simp
          have HXY := Lib.hid hxy
          clear hxy
          go_wp2
          go_quiet (fail)
          go_wp2
          go_roundw
          case rel => exact ⟨k + 1, by omega, by go_num, fun j hj => by
            rcases Nat.lt_or_ge j k with h | h
            · exact HEQ.out j h
            · obtain rfl : j = k := by omega
              rw [← HX.out, ← HY.out, HXY.out], K1.drewN _⟩
          case measure => simp [intOf]; omega
        · have hb : (((x : Nat) : Int) != (y : Int)) = true := by rw [bne_iff_ne]; omega
          have hd : decide (xs = ys) = false := decide_eq_false fun e => hxy (by rw [HX.out, HY.out, e])
          have HD := Lib.hid hd
          clear hxy hd
          go_wp2
          go_quiet (fail)
          go_wp2
          go_ret
          exact ⟨ret_bool HD.out.symm, K1.drewN _⟩
      · obtain rfl : k = xs.length := by omega
        have hd : decide (xs = ys) = true := decide_eq_true (eq_of_getD HL.out HEQ.out)
        have HD := Lib.hid hd
        clear hd
        go_wp2
        go_ret
        exact ⟨ret_bool HD.out.symm, K1⟩
  · have hne : (((xs.length : Nat) : Int) != (ys.length : Int)) = true := by rw [bne_iff_ne]; omega
    have hd : decide (xs = ys) = false := decide_eq_false fun e => hl (by rw [e])
    rw [hd]
    clear hl hd
    go_enter Tryd.func20, Tryd.ntmps20
    go_wp2
    go_ret
    exact ⟨rfl, Below.refl _ _⟩

theorem Own.of_splice {w : World} {e : TypeId} {g : Nat} {ts : List Nat} (h : Hid (w.heap[g]? = some (.cells (splice (cellsOf (List.replicate ts.length 0)) 0 (cellsOf ts)).toArray e (0, 0)))) : Own w e g ts := by
  have h := h.out
  unfold Own
  rw [h]
  have e1 : splice (cellsOf (List.replicate ts.length 0)) 0 (cellsOf ts) = cellsOf ts := by simp [splice, cellsOf]
  rw [e1]

/-- natural.copied: a row of the call's own with the limbs of the magnitude. -/
theorem copied_any (v : Value) (xs : List Nat) (w : World) (h : Rd w v xs) (hl : xs.length ≤ 1099511627776) :
    Calls Tryd.prog 44 #[v] w fun e w' => ∃ g, w.heap.size ≤ g ∧ e = .returned (.slice (some ⟨g, 0, none⟩) (trimL xs).length (trimL xs).length) ∧ Own w' 45 g (trimL xs) ∧ Kp w w' := by
  obtain ⟨i0, hi, hz0, hz1, hz2⟩ := info_parts infoU32
  obtain ⟨ao, cap, rfl, hc1, hm, hx, hs⟩ := h
  have hlt := length_trimL xs
  have HS := Lib.hid (trimL_take xs ▸ hs.take (trimL xs).length)
  have HT := Lib.hid (ntrim_at ao cap xs w hc1 hm hs)
  have hm' := hm
  unfold maxLen at hm
  clear hs hx
  obtain ⟨ts, hts⟩ : ∃ ts, ts = trimL xs := ⟨_, rfl⟩
  rw [← hts] at HS HT hlt ⊢
  clear hts
  go_enter Tryd.func44, Tryd.ntmps44
  go_wp2_with (first
    | (go_at_call 40; refine HT.out.mono ?_; rintro e w1 ⟨rfl, rfl⟩)
    | (at_make; refine wpList_make_full _ rfl _ _ 22 rfl w.heap.size 45 i0 (.int .u32 0) 1 undU32s hi hz0 hz1 _ _ _ _ ts.length rfl rfl rfl rfl (by rw [hz2]; omega) (by unfold maxLen; omega) (Nat.le_refl _) ?_; intro w1 hown hg; have O1 := Lib.hid (Own.of_make hown); have K1 := (Below.refl w.heap.size w).grown hg (Nat.le_refl _) (by intro j hj; cases hj); clear hown hg; refine Hid.out ?_))
  refine Lib.hid ?_
  have HK := HS.out.kp K1
  have hsz : (Tryd.prog.info? 45).map (·.size) = some 1 := by rw [hi]; exact congrArg some hz1
  have hmin : (cellsOf ts).length = Nat.min ts.length ts.length := by simp [cellsOf]
  have hpos := HK.news
  have hfit : 0 + (cellsOf ts).length ≤ (cellsOf (List.replicate ts.length 0)).length := by simp [cellsOf]
  have HM := Lib.hid hmin
  have HP := Lib.hid hpos
  have HF := Lib.hid hfit
  have HZ := Lib.hid hsz
  clear hmin hpos hfit hsz
  go_wp2_with ((with_reducible show wpList _ _ _ (Oper.mk (some 11) _ _ _ _ _ :: _) _ _); refine Hid.out ?_)
  refine Lib.hid ?_
  refine wpList_copy_splice rfl (.tmp 9) (.tmp 10) 22 22 rfl 45 undU32s HZ.out (some ⟨w.heap.size, 0, none⟩) ao ts.length ts.length ts.length cap rfl rfl w.heap.size 0 (cellsOf (List.replicate ts.length 0)) 45 O1.out (cellsOf ts) HM.out (fun hp => ⟨rfl, HP.out hp⟩) HF.out (cellsOf_one _) w.heap.size w K1 (Nat.le_refl _) ?_
  intro w2 O2 K2
  have hO2 := Own.of_splice O2
  have HO2 := Lib.hid hO2
  clear hO2 O2
  go_wp2
  go_ret
  exact ⟨w.heap.size, Nat.le_refl _, rfl, HO2.out, K2⟩
end Go.Proofs.YtijadodleiiomaaDoor
