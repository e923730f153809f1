/-
  brepkernelref02.Parse: by walking its text.
-/
import Derived.Test.YtmnnnoeenfmckaaGreatDoorRpd
import Derived.Test.YtmnnnoeenfmckaaGreatDoorQg2
import Derived.Test.YtmnnnoeenfmckaaGreatDoorRParse
import Derived.Test.YtmnnnoeenfmckaaGreatDoorBr
import Derived.Test.YtmnnnoeenfmckaaGreatDoorBt
import Derived.Deep.DeepCutAuto
namespace Go.Proofs.YtmnnnoeenfmckaaGreatDoor
open Go.RowKit

/-- What a walk of Parse says at its end. -/
def PPost (w : World) (C : Int) (X : Rat) (e : Ending) (w' : World) : Prop := ∃ r, e = .returned (.tuple #[r, .int .i64 C]) ∧ RatV w' r X ∧ Kp w w'

theorem PPost.err {w w' : World} {C c : Int} {X : Rat} (h : (C, X) = (c, 0)) (k : Kp w w') : PPost w C X (.returned (.tuple #[.agg #[.bool false, .slice none 0 0, .slice none 0 0], .int .i64 c])) w' := by
  obtain ⟨rfl, rfl⟩ := Prod.mk.inj h
  exact ⟨_, rfl, RatV.zero w', k⟩

theorem PPost.ok {w w' : World} {C : Int} {X Y : Rat} {r : Value} (h : (C, X) = (0, Y)) (hr : RatV w' r Y) (k : Kp w w') : PPost w C X (.returned (.tuple #[r, .int .i64 0])) w' := by
  obtain ⟨rfl, rfl⟩ := Prod.mk.inj h
  exact ⟨_, rfl, hr, k⟩

/-- A prefix of one byte. -/
theorem pre_nil (c : UInt8) {l : List UInt8} (h : l = []) : Lib.hasPrefix l [c] = false ∧ Lib.trimPrefix l [c] = [] := by
  subst h
  exact ⟨rfl, rfl⟩
theorem pre_head {s : ByteArray} (h : 0 < s.size) : ∃ r, s.data.toList = s[0] :: r := by
  cases hl : s.data.toList with
  | nil =>
    have := len_data s
    rw [hl] at this
    simp at this
    omega
  | cons c r =>
    refine ⟨r, ?_⟩
    have h1 : s.data.toList[0]? = some s[0] := by
      rw [Array.getElem?_toList]
      exact Array.getElem?_eq_getElem h
    rw [hl] at h1
    simp at h1
    rw [h1]
theorem pre_yes {c : UInt8} {s : ByteArray} (h : 0 < s.size) (h1 : s[0] = c) : Lib.hasPrefix s.data.toList [c] = true ∧ Lib.trimPrefix s.data.toList [c] = s.data.toList.drop 1 := by
  obtain ⟨r, hr⟩ := pre_head h
  rw [hr, h1]
  have : Lib.hasPrefix (c :: r) [c] = true := by simp [Lib.hasPrefix]
  exact ⟨this, by unfold Lib.trimPrefix; rw [if_pos this]; rfl⟩
theorem pre_no {c : UInt8} {s : ByteArray} (h : 0 < s.size) (h1 : s[0] ≠ c) : Lib.hasPrefix s.data.toList [c] = false ∧ Lib.trimPrefix s.data.toList [c] = s.data.toList := by
  obtain ⟨r, hr⟩ := pre_head h
  rw [hr]
  have : Lib.hasPrefix (s[0] :: r) [c] = false := by
    show (c == s[0] && _) = false
    rw [beq_eq_false_iff_ne.2 (Ne.symm h1), Bool.false_and]
  exact ⟨this, by unfold Lib.trimPrefix; rw [if_neg (by rw [this]; decide)]⟩
theorem byte_is {c : UInt8} {x : UInt8} (h : x.toNat = c.toNat) : x = c := UInt8.toNat_inj.1 h
theorem byte_b {x : UInt8} {n : Nat} (h : x.toNat ≠ n) : ((x.toNat : Int) == (n : Int)) = false := beq_eq_false_iff_ne.2 (by omega)

theorem trim_of {l : List UInt8} {c : UInt8} {ng : Bool} (h : ng = Lib.hasPrefix l [c]) : Lib.trimPrefix l [c] = if ng = true then l.drop 1 else l := by
  rw [h]; rfl
theorem pre_pos {s : ByteArray} {c : UInt8} (h : Lib.hasPrefix s.data.toList [c] = true) : ∃ h0 : 0 < s.size, s[0] = c := by
  by_cases h0 : 0 < s.size
  · refine ⟨h0, ?_⟩
    by_cases h1 : s[0] = c
    · exact h1
    · rw [(pre_no h0 h1).1] at h; cases h
  · have : s.data.toList = [] := List.length_eq_zero_iff.1 (by rw [len_data]; omega)
    rw [this] at h; cases h
theorem ext_tail (s : ByteArray) (k : Nat) : (s.extract k s.size).data.toList = s.data.toList.drop k := by rw [ba_drop]
theorem ext_head (s : ByteArray) (k : Nat) : (s.extract 0 k).data.toList = s.data.toList.take k := by rw [ba_take]
theorem rparse_dig {w : World} {s : ByteArray} {l : List UInt8} (hl : s.data.toList = l) (hd : digits l = true) (h0 : l ≠ []) (hs : s.size ≤ 4096) :
    Calls Tryz.prog 94 #[.string s] w fun e w' => ∃ v', e = .returned (.tuple #[v', .int .i64 0]) ∧ M w' v' (dval l) ∧ Kp w w' := by
  have h := rparse_any s w (by omega)
  unfold parseN at h
  rw [if_neg (by omega), if_pos (good_of hl hd h0), hl] at h
  exact h
theorem rdig_at {t : ByteArray} {l d : List UInt8} {k : Nat} (h : t.data.toList = l) (hd : d = l.takeWhile isDig) (hk : d.length = k) (ht : t.size ≤ 4096) (w : World) :
    Calls Tryz.prog 93 #[.string t] w fun e w' => e = .returned (.int .i64 (k : Nat)) ∧ Kp w w' := by
  have := rdigits_any t w (by omega)
  rw [h, ← hd, hk] at this
  exact this
theorem take_dig {l d : List UInt8} (hd : d = l.takeWhile isDig) : l.take d.length = d := by
  have := List.takeWhile_append_dropWhile (p := isDig) (l := l)
  rw [← hd] at this
  conv => lhs; rw [← this]
  simp
theorem drop_dig {l d q : List UInt8} (hd : d = l.takeWhile isDig) (hq : q = l.dropWhile isDig) : l.drop d.length = q := by
  have := List.takeWhile_append_dropWhile (p := isDig) (l := l)
  rw [← hd, ← hq] at this
  conv => lhs; rw [← this]
  simp

/-- Whether the exponent is negative. -/
def expDown : List UInt8 → Bool
  | [] => false
  | _ :: r => Lib.hasPrefix r [45]
def finR (neg : Bool) (N D : Nat) (q : List UInt8) : Int × Rat := if expOk q = true then sizedR (if expDown q = true then ratOf neg N (D * 10 ^ (expV q).natAbs) else ratOf neg (N * 10 ^ (expV q).natAbs) D) else (4, 0)
def dot2 (neg : Bool) (n : Nat) (r : List UInt8) : Int × Rat :=
  if r.takeWhile isDig = [] then (4, 0) else finR neg (n * 10 ^ (r.takeWhile isDig).length + dval (r.takeWhile isDig)) (10 ^ (r.takeWhile isDig).length) (r.dropWhile isDig)
def body2 (neg : Bool) (n D : Nat) (q : List UInt8) : Int × Rat := if Lib.hasPrefix q [46] = true then dot2 neg n (Lib.trimPrefix q [46]) else finR neg n D q

theorem exp_sign {q : List UInt8} (_h : expOk q = true) : if expDown q = true then expV q = -((expV q).natAbs : Int) else expV q = ((expV q).natAbs : Int) := by
  cases q with
  | nil => simp [expDown, expV]
  | cons c r =>
    show if Lib.hasPrefix r [45] = true then expZ r = -((expZ r).natAbs : Int) else expZ r = ((expZ r).natAbs : Int)
    unfold expZ
    split <;> omega

theorem ten_ratio (neg : Bool) (n a b : Nat) : ratOf neg (n * 10 ^ a) (10 ^ b) = tenR neg n (-(b : Int) + a) := by
  unfold tenR
  by_cases h : a < b
  · rw [if_pos (by omega)]
    have e : (-(b : Int) + a).natAbs = b - a := by omega
    rw [e, show (10 : Nat) ^ b = 10 ^ (b - a) * 10 ^ a by rw [← Nat.pow_add]; congr 1; omega]
    exact ratOf_scale neg n _ (Nat.pos_iff_ne_zero.1 (Nat.pow_pos (by decide)))
  · rw [if_neg (by omega)]
    have e : (-(b : Int) + a).natAbs = a - b := by omega
    rw [e, show n * (10 : Nat) ^ a = (n * 10 ^ (a - b)) * 10 ^ b by rw [Nat.mul_assoc, ← Nat.pow_add]; congr 2; omega, show (10 : Nat) ^ b = 1 * 10 ^ b by rw [Nat.one_mul]]
    have := ratOf_scale neg (n * 10 ^ (a - b)) 1 (c := 10 ^ b) (Nat.pos_iff_ne_zero.1 (Nat.pow_pos (by decide)))
    rw [Nat.one_mul] at this ⊢
    exact this

theorem fin_end (neg : Bool) (n m : Nat) (q : List UInt8) : finR neg n (10 ^ m) q = endR neg n (-(m : Int)) q := by
  unfold finR endR
  by_cases h : expOk q = true
  · rw [if_pos h, if_pos h]
    have hs := exp_sign h
    congr 1
    by_cases hd : expDown q = true
    · rw [if_pos hd] at hs ⊢
      have := ten_ratio neg n 0 (m + (expV q).natAbs)
      rw [Nat.pow_zero, Nat.mul_one] at this
      rw [← Nat.pow_add, this]
      congr 1
      omega
    · rw [if_neg hd] at hs ⊢
      rw [ten_ratio]
      congr 1
      omega
  · rw [if_neg h, if_neg h]

theorem body_two {ng : Bool} {d q : List UInt8} (h0 : d ≠ []) (h47 : ¬ Lib.hasPrefix q [47] = true) : bodyR ng d q = body2 ng (dval d) 1 q := by
  unfold bodyR body2
  rw [if_neg h0, if_neg h47]
  by_cases h46 : Lib.hasPrefix q [46] = true
  · rw [if_pos h46, if_pos h46]
    unfold dotR dot2
    split
    · rfl
    · rw [fin_end, dval_append]
  · rw [if_neg h46, if_neg h46]
    have := fin_end ng (dval d) 0 q
    rw [Nat.pow_zero] at this
    rw [this]
    rfl

theorem fin_nil (neg : Bool) (N D : Nat) : finR neg N D [] = sizedR (ratOf neg N D) := by
  unfold finR
  have h1 : expOk [] = true := rfl
  have h2 : expDown [] = false := rfl
  have h3 : expV [] = 0 := rfl
  rw [h1, h2, h3]
  simp
theorem body2_nil (neg : Bool) (N D : Nat) : body2 neg N D [] = sizedR (ratOf neg N D) := by
  unfold body2
  rw [if_neg (by decide)]
  exact fin_nil neg N D

theorem exp_test {y : ByteArray} {r e : List UInt8} {el : Nat} (h : y.data.toList = expR r) (he : e = (expR r).takeWhile isDig) (hel : e.length = el) : expB r = (decide (0 < el) && decide (el ≤ 3) && decide (el = y.size)) := by
  unfold expB
  rw [← he, hel]
  have h1 := congrArg List.length (List.takeWhile_append_dropWhile (p := isDig) (l := expR r))
  rw [List.length_append, ← he, hel, ← h, len_data, h] at h1
  have h2 : (!e.isEmpty) = decide (0 < el) := by
    cases e with
    | nil => have : el = 0 := by rw [← hel]; rfl
             subst this; rfl
    | cons c t => have : 0 < el := by rw [← hel]; simp
                  rw [decide_eq_true this]; rfl
  have h3 : ((expR r).dropWhile isDig).isEmpty = decide (el = y.size) := by
    cases hd : (expR r).dropWhile isDig with
    | nil => rw [hd] at h1; rw [decide_eq_true (by simpa using h1)]; rfl
    | cons c t => rw [hd] at h1; rw [decide_eq_false (by rw [List.length_cons] at h1; omega)]; rfl
  rw [h2, h3]

set_option maxRecDepth 20000 in
set_option maxHeartbeats 8000000 in
theorem rqparse_walk (s : ByteArray) (w : World) (hs : s.size ≤ 4096) (ng : Bool) (l d q : List UInt8) (C : Int) (X : Rat) (hng : ng = Lib.hasPrefix s.data.toList [45]) (hl : l = Lib.trimPrefix s.data.toList [45]) (hd : d = l.takeWhile isDig) (hq : q = l.dropWhile isDig) (hCX : (C, X) = bodyR ng d q) :
    Calls Tryz.prog 57 #[.string s] w fun e w' => PPost w C X e w' := by
  have HT := Lib.hid (Nul.new w)
  have hsd : decide ((4096 : Int) < (s.size : Int)) = false := decide_eq_false (by omega)
  have HNG := Lib.hid hng
  have HL := Lib.hid hl
  have HD := Lib.hid hd
  have HQ := Lib.hid hq
  have HC := Lib.hid hCX
  clear hng hl hd hq hCX
  go_enter Tryz.func57, Tryz.ntmps57
  go_upto_region 3 with fail
  go_cut [4] (fun s4 wx => s4 = .bool ng ∧ Hid (Nul w wx))
  case first => as_aux_lemma =>
    by_cases h0 : s.size = 0
    · have hn : ng = false := by rw [HNG.out]; exact (pre_nil 45 (List.length_eq_zero_iff.1 (by rw [len_data]; exact h0))).1
      subst hn
      go_wp2_with fail
      go_meet
      exact ⟨rfl, HT⟩
    · have h0' : 0 < s.size := by omega
      by_cases h1 : s[0].toNat = 45
      · have hn : ng = true := by rw [HNG.out]; exact (pre_yes h0' (byte_is (c := 45) h1)).1
        subst hn
        go_wp2_with fail
        go_meet
        exact ⟨rfl, HT⟩
      · have hn : ng = false := by rw [HNG.out]; exact (pre_no h0' (fun e => h1 (by rw [e]; rfl))).1
        subst hn
        have hb : ((s[0].toNat : Int) == 45) = false := byte_b h1
        go_wp2_with fail
        go_meet
        exact ⟨rfl, HT⟩
  case rest => as_aux_lemma =>
    obtain ⟨rfl, HT2⟩ := hcut
    obtain ⟨w2, rfl⟩ : ∃ w2, w2 = wc := ⟨_, rfl⟩
    clear HT hsd
    go_upto_if 27 with fail
    go_cut [0] (fun s0 wx => ∃ t : ByteArray, s0 = .string t ∧ Hid (t.data.toList = l) ∧ t.size ≤ 4096 ∧ Hid (Nul w wx))
    case first => as_aux_lemma =>
      cases ng
      · have h2 := trim_of HNG.out
        rw [← HL.out] at h2
        have h3 := Lib.hid h2.symm
        clear h2
        go_wp2_with fail
        go_meet
        exact ⟨s, rfl, h3, hs, HT2⟩
      · obtain ⟨h0, _⟩ := pre_pos HNG.out.symm
        have h2 := trim_of HNG.out
        rw [← HL.out] at h2
        have h3 := Lib.hid h2
        have h4 := Lib.hid (show (s.extract 1 s.size).size ≤ 4096 by rw [← len_data, ext_tail, List.length_drop, len_data]; omega)
        clear h2
        go_wp2_with fail
        go_meet
        exact ⟨_, rfl, Lib.hid (by rw [ext_tail, h3.out]; rfl), h4.out, HT2⟩
    case rest => as_aux_lemma =>
      obtain ⟨t, rfl, HTL, hts, HT3⟩ := hcut
      obtain ⟨w3, rfl⟩ : ∃ w3, w3 = wc := ⟨_, rfl⟩
      clear HT2 w2 HNG HL hs
      obtain ⟨dl, hdl⟩ : ∃ k, d.length = k := ⟨_, rfl⟩
      have CD := Lib.hid (rdig_at HTL.out HD.out hdl hts)
      have hlt : l.length = t.size := by rw [← HTL.out]; rfl
      have hdt : dl ≤ t.size := by rw [← hlt, ← hdl, HD.out]; exact (List.takeWhile_sublist _).length_le
      clear hlt
      by_cases hd0 : d = []
      · have hd9 : dl = 0 := by rw [← hdl, hd0]; rfl
        subst hd9
        have HE := Lib.hid (show (C, X) = (4, 0) by rw [HC.out]; unfold bodyR; rw [if_pos hd0])
        clear hdl hd0
        go_wp2_with (go_at_call 93; (with_reducible refine (CD.out _).mono ?_); rintro e w4 ⟨rfl, k4⟩; refine Hid.out ?_)
        refine Lib.hid ?_
        have T4 := Lib.hid (HT3.out.kp k4)
        clear k4
        obtain ⟨⟨e0, e1, e2, f0, f1, f2⟩, HPP, HV, HKF⟩ := rat_ends T4.out.rr T4.out.k (Below.refl _ _) (RatV.zero _) (by omega)
        obtain ⟨k0, k1, k2⟩ := HPP.out
        go_wp2
        exact bodyPost_ret (v := .tuple #[.agg #[.bool false, .slice none 0 0, .slice none 0 0], .int .i64 4]) (by simp [results, Tryz.results57, go_sem, k0, k1, k2]) rfl (PPost.err HE.out HKF.out)
      · have hd9 : 0 < dl := by rw [← hdl]; exact List.length_pos_iff.2 hd0
        have hdd : digits d = true := by rw [HD.out]; exact digits_takeWhile l
        obtain ⟨x1, hx1⟩ : ∃ x, t.extract 0 dl = x := ⟨_, rfl⟩
        obtain ⟨x2, hx2⟩ : ∃ x, t.extract dl t.size = x := ⟨_, rfl⟩
        have h1 : x1.data.toList = d := by rw [← hx1, ext_head, HTL.out, ← hdl]; exact take_dig HD.out
        have HX2 := Lib.hid (show x2.data.toList = q by rw [← hx2, ext_tail, HTL.out, ← hdl]; exact drop_dig HD.out HQ.out)
        have hs1 : x1.size ≤ 4096 := by have := len_data x1; rw [h1] at this; omega
        have hs2 : x2.size ≤ 4096 := by have := len_data x2; rw [HX2.out, HQ.out, ← HTL.out] at this; have h3 := (List.dropWhile_sublist (p := isDig) (l := t.data.toList)).length_le; rw [len_data] at h3; omega
        have CP := Lib.hid (fun w' => rparse_dig (w := w') h1 hdd hd0 hs1)
        have HDD := Lib.hid hdd
        have HDS := Lib.hid (show Sz 4096 (dval d) from (dval_szk hdd).mono (by omega))
        have HD0 := Lib.hid hd0
        have HDL := Lib.hid hdl
        clear h1 hs1 hdd hd0 hdl
        go_wp2_with (go_at_call 93; (with_reducible refine (CD.out _).mono ?_); rintro e w4 ⟨rfl, k4⟩; refine Hid.out ?_)
        refine Lib.hid ?_
        have T4 := Lib.hid (HT3.out.kp k4)
        clear k4 HT3
        go_wp2_with (go_at_call 94; (with_reducible refine (CP.out _).mono ?_); rintro e w5 ⟨v6, rfl, m6, k5⟩; refine Hid.out ?_)
        refine Lib.hid ?_
        have T5 := Lib.hid (T4.out.kp k5)
        have M6 := Lib.hid m6
        clear k5 T4 m6
        have KA := Kp.alloc w5 (Obj.cells #[Value.int IntKind.u32 1] 55)
        have T6 := Lib.hid (T5.out.kp KA)
        have N6 := Lib.hid (M6.out.kp KA)
        have D6 := Lib.hid (show M (w5.alloc (Obj.cells #[Value.int IntKind.u32 1] 55)) (.slice (some ⟨w5.heap.size, 0, none⟩) 1 1) 1 from m_one (x := 1) (cell_of_row _ _ 0 _ _ _ (heap_alloc_new w5 _)) (by decide) (by decide) (by decide) (by decide))
        clear KA T5 M6
        obtain ⟨sl, hsl⟩ : ∃ b, b = Lib.hasPrefix q [47] := ⟨_, rfl⟩
        have HSL := Lib.hid hsl
        clear hsl
        go_upto_region 12 with fail
        go_cut [53, 8] (fun s53 s8 wx => s53 = .bool sl ∧ ∃ v8 : Value, v8 = s8 ∧ Hid (M wx v8 1) ∧ Hid (M wx v6 (dval d)) ∧ Hid (Nul w wx))
        case first => as_aux_lemma =>
          by_cases h0 : x2.size = 0
          · have hn : sl = false := by rw [HSL.out, ← HX2.out]; exact (pre_nil 47 (List.length_eq_zero_iff.1 (by rw [len_data]; exact h0))).1
            subst hn
            go_wp2_with fail
            go_meet
            exact ⟨rfl, _, rfl, D6, N6, T6⟩
          · have h0' : 0 < x2.size := by omega
            by_cases h1 : x2[0].toNat = 47
            · have hn : sl = true := by rw [HSL.out, ← HX2.out]; exact (pre_yes h0' (byte_is (c := 47) h1)).1
              subst hn
              go_wp2_with fail
              go_meet
              exact ⟨rfl, _, rfl, D6, N6, T6⟩
            · have hn : sl = false := by rw [HSL.out, ← HX2.out]; exact (pre_no h0' (fun e => h1 (by rw [e]; rfl))).1
              subst hn
              have hb : ((x2[0].toNat : Int) == 47) = false := byte_b h1
              go_wp2_with fail
              go_meet
              exact ⟨rfl, _, rfl, D6, N6, T6⟩
        case rest => as_aux_lemma =>
          obtain ⟨rfl, v8, rfl, D7, N7, T7⟩ := hcut
          obtain ⟨w7, rfl⟩ : ∃ w7, w7 = wc := ⟨_, rfl⟩
          clear D6 N6 T6 CD CP hx1 hx2 hdt hts hd9 HTL
          go_upto_if 53 with fail
          go_cut [0, 8] (fun s0 s8 wx => ∃ (t9 : ByteArray) (v9 : Value) (q9 : List UInt8) (D9 : Nat), s0 = .string t9 ∧ v9 = s8 ∧ t9.size ≤ 4096 ∧ Hid (t9.data.toList = q9) ∧ Hid (M wx v9 D9) ∧ Hid (Sz 4096 D9 ∧ D9 ≠ 0) ∧ Hid ((C, X) = body2 ng (dval d) D9 q9) ∧ Hid (M wx v6 (dval d)) ∧ Hid (Nul w wx))
          case first => as_aux_lemma =>
            cases sl
            · have HB := Lib.hid (show (C, X) = body2 ng (dval d) 1 q by rw [HC.out]; exact body_two HD0.out (by rw [← HSL.out]; decide))
              have HS1 := Lib.hid (show Sz 4096 1 ∧ (1 : Nat) ≠ 0 from ⟨Sz.mono (length_toL_le 1 1 (by decide)) (by decide), by decide⟩)
              go_wp2_with fail
              go_meet
              exact ⟨x2, _, q, 1, rfl, rfl, hs2, HX2, D7, HS1, HB, N7, T7⟩
            · obtain ⟨h0, hx⟩ := pre_pos (s := x2) (c := 47) (by rw [HX2.out]; exact HSL.out.symm)
              have hx4 : x2[0].toNat = 47 := by rw [hx]; rfl
              clear hx
              obtain ⟨r, hr⟩ : ∃ r, r = Lib.trimPrefix q [47] := ⟨_, rfl⟩
              obtain ⟨b, hb⟩ : ∃ d, d = r.takeWhile isDig := ⟨_, rfl⟩
              obtain ⟨q2, hq2⟩ : ∃ d, d = r.dropWhile isDig := ⟨_, rfl⟩
              have hrq : r = q.drop 1 := by rw [hr, trim_of (ng := true) HSL.out]; rfl
              obtain ⟨x3, hx3⟩ : ∃ x, x2.extract 1 x2.size = x := ⟨_, rfl⟩
              have h3 : x3.data.toList = r := by rw [← hx3, ext_tail, HX2.out, hrq]
              have hl3 : x3.size + 1 = x2.size := by rw [← len_data, h3, hrq, List.length_drop, ← HX2.out, len_data]; omega
              have hs3 : x3.size ≤ 4096 := by omega
              obtain ⟨bl, hbl⟩ : ∃ k, b.length = k := ⟨_, rfl⟩
              have hlr : r.length = x3.size := by rw [← h3]; rfl
              have hbr : b.length + q2.length = r.length := by
                have := congrArg List.length (List.takeWhile_append_dropWhile (p := isDig) (l := r))
                rw [List.length_append, ← hb, ← hq2] at this
                exact this
              have hble : bl ≤ x3.size := by omega
              have CD3 := Lib.hid (rdig_at h3 hb hbl hs3)
              have HBODY : Hid ((C, X) = slashR ng d r) := Lib.hid (by
                rw [HC.out]; unfold bodyR
                rw [if_neg HD0.out, if_pos HSL.out.symm, ← hr])
              have hbd : digits b = true := by rw [hb]; exact digits_takeWhile r
              by_cases hbad : b = [] ∨ q2 ≠ []
              · have HE := Lib.hid (show (C, X) = (4, 0) by rw [HBODY.out]; unfold slashR; rw [← hb, ← hq2, if_pos hbad])
                have hq3 : bl ≠ 0 → bl + 1 ≠ x2.size := by
                  intro h e
                  rcases hbad with h4 | h4
                  · exact h (by rw [← hbl, h4]; rfl)
                  · have : 0 < q2.length := List.length_pos_iff.2 h4
                    omega
                clear hr hb hq2 hrq h3 hlr hbr hbad hbl hbd
                by_cases hz : bl = 0
                · subst hz
                  go_wp2_with (go_at_call 93; (with_reducible refine (CD3.out _).mono ?_); rintro e w8 ⟨rfl, k8⟩; refine Hid.out ?_)
                  refine Lib.hid ?_
                  have T8 := Lib.hid (T7.out.kp k8)
                  clear k8
                  obtain ⟨⟨e0, e1, e2, f0, f1, f2⟩, HPP, HV, HKF⟩ := rat_ends T8.out.rr T8.out.k (Below.refl _ _) (RatV.zero _) (by omega)
                  obtain ⟨k0, k1, k2⟩ := HPP.out
                  go_wp2
                  exact bodyPost_ret (v := .tuple #[.agg #[.bool false, .slice none 0 0, .slice none 0 0], .int .i64 4]) (by simp [results, Tryz.results57, go_sem, k0, k1, k2]) rfl (PPost.err HE.out HKF.out)
                · have hzb : ((bl : Int) == 0) = false := beq_eq_false_iff_ne.2 (by omega)
                  have hnb : ((bl : Int) + 1 != (x2.size : Int)) = true := by have := hq3 hz; simp; omega
                  have hnb2 : ((bl : Int) + 1 == (x2.size : Int)) = false := by have := hq3 hz; simp; omega
                  clear hq3
                  go_wp2_with (go_at_call 93; (with_reducible refine (CD3.out _).mono ?_); rintro e w8 ⟨rfl, k8⟩; refine Hid.out ?_)
                  refine Lib.hid ?_
                  have T8 := Lib.hid (T7.out.kp k8)
                  clear k8
                  obtain ⟨⟨e0, e1, e2, f0, f1, f2⟩, HPP, HV, HKF⟩ := rat_ends T8.out.rr T8.out.k (Below.refl _ _) (RatV.zero _) (by omega)
                  obtain ⟨k0, k1, k2⟩ := HPP.out
                  go_wp2
                  exact bodyPost_ret (v := .tuple #[.agg #[.bool false, .slice none 0 0, .slice none 0 0], .int .i64 4]) (by simp [results, Tryz.results57, go_sem, k0, k1, k2]) rfl (PPost.err HE.out HKF.out)
              · have hb0 : b ≠ [] := fun h => hbad (Or.inl h)
                have hq0 : q2 = [] := by
                  cases q2 with
                  | nil => rfl
                  | cons c t => exact absurd (Or.inr (by simp)) hbad
                have hbr2 : b = r := by
                  have := List.takeWhile_append_dropWhile (p := isDig) (l := r)
                  rw [← hb, ← hq2, hq0, List.append_nil] at this
                  exact this
                have hq2l : q2.length = 0 := by rw [hq0]; rfl
                have hble2 : bl + 1 = x2.size := by omega
                have hbl0 : 0 < bl := by rw [← hbl]; exact List.length_pos_iff.2 hb0
                have hzb : ((bl : Int) == 0) = false := beq_eq_false_iff_ne.2 (by omega)
                have hnb : ((bl : Int) + 1 != (x2.size : Int)) = false := by simp; omega
                have hnb2 : ((bl : Int) + 1 == (x2.size : Int)) = true := by simp; omega
                have CP3 := Lib.hid (fun w' => rparse_dig (w := w') (h3.trans hbr2.symm) hbd hb0 hs3)
                have HBS := Lib.hid (show Sz 4096 (dval b) from (dval_szk hbd).mono (by omega))
                have HEZ := Lib.hid (fun (hz : dval b = 0) => (show (C, X) = (3, 0) by rw [HBODY.out]; unfold slashR; rw [← hb, ← hq2, if_neg hbad, if_pos hz]))
                have HEN := Lib.hid (fun (hz : dval b ≠ 0) => (show (C, X) = body2 ng (dval d) (dval b) [] by rw [HBODY.out, body2_nil]; unfold slashR; rw [← hb, ← hq2, if_neg hbad, if_neg hz]))
                obtain ⟨bv, hbv⟩ : ∃ n, n = dval b := ⟨_, rfl⟩
                rw [← hbv] at CP3 HBS HEZ HEN
                clear hr hb hq2 hrq h3 hlr hbr hbad hbl hbd hb0 hq0 hbr2 hbv HBODY hq2l
                go_wp2_with (go_at_call 93; (with_reducible refine (CD3.out _).mono ?_); rintro e w8 ⟨rfl, k8⟩; refine Hid.out ?_)
                refine Lib.hid ?_
                have T8 := Lib.hid (T7.out.kp k8)
                have N8 := Lib.hid (N7.out.kp k8)
                clear k8
                go_wp2_with (go_at_call 94; (with_reducible refine (CP3.out _).mono ?_); rintro e w9 ⟨v9, rfl, m9, k9⟩; refine Hid.out ?_)
                refine Lib.hid ?_
                have T9 := Lib.hid (T8.out.kp k9)
                have N9 := Lib.hid (N8.out.kp k9)
                have D9 := Lib.hid m9
                obtain ⟨o9, l9, c9, rfl⟩ := m_slice m9
                have hl9 := m_len_zero' m9
                clear m9 k9 T8 N8
                by_cases hz : bv = 0
                · obtain rfl := hl9.2 hz
                  have HE := Lib.hid (HEZ.out hz)
                  clear hl9
                  obtain ⟨⟨e0, e1, e2, f0, f1, f2⟩, HPP, HV, HKF⟩ := rat_ends T9.out.rr T9.out.k (Below.refl _ _) (RatV.zero _) (by omega)
                  obtain ⟨k0, k1, k2⟩ := HPP.out
                  go_wp2
                  exact bodyPost_ret (v := .tuple #[.agg #[.bool false, .slice none 0 0, .slice none 0 0], .int .i64 3]) (by simp [results, Tryz.results57, go_sem, k0, k1, k2]) rfl (PPost.err HE.out HKF.out)
                · have hl0 : ((l9 : Int) == 0) = false := beq_eq_false_iff_ne.2 (by have := fun h => hz (hl9.1 h); omega)
                  have HB := Lib.hid (HEN.out hz)
                  have HS9 := Lib.hid (show Sz 4096 bv ∧ bv ≠ 0 from ⟨HBS.out, hz⟩)
                  clear hl9 hz
                  go_wp2_with fail
                  go_meet
                  exact ⟨⟨#[]⟩, _, [], bv, rfl, rfl, by decide, Lib.hid rfl, D9, HS9, HB, N9, T9⟩
          case rest => as_aux_lemma =>
            obtain ⟨t9, v9, q9, D9, rfl, rfl, hts9, HT9, MD9, HS9, HB9, N9, T9⟩ := hcut
            obtain ⟨w9, rfl⟩ : ∃ w9, w9 = wc := ⟨_, rfl⟩
            clear D7 N7 T7 HSL HX2 hs2 HC HQ
            obtain ⟨dt, hdt⟩ : ∃ b, b = Lib.hasPrefix q9 [46] := ⟨_, rfl⟩
            have HDT := Lib.hid hdt
            clear hdt
            go_upto_region 20 with fail
            go_cut [84] (fun s84 wx => s84 = .bool dt ∧ Hid (M wx v9 D9) ∧ Hid (M wx v6 (dval d)) ∧ Hid (Nul w wx))
            case first => as_aux_lemma =>
              by_cases h0 : t9.size = 0
              · have hn : dt = false := by rw [HDT.out, ← HT9.out]; exact (pre_nil 46 (List.length_eq_zero_iff.1 (by rw [len_data]; exact h0))).1
                subst hn
                go_wp2_with fail
                go_meet
                exact ⟨rfl, MD9, N9, T9⟩
              · have h0' : 0 < t9.size := by omega
                by_cases h1 : t9[0].toNat = 46
                · have hn : dt = true := by rw [HDT.out, ← HT9.out]; exact (pre_yes h0' (byte_is (c := 46) h1)).1
                  subst hn
                  go_wp2_with fail
                  go_meet
                  exact ⟨rfl, MD9, N9, T9⟩
                · have hn : dt = false := by rw [HDT.out, ← HT9.out]; exact (pre_no h0' (fun e => h1 (by rw [e]; rfl))).1
                  subst hn
                  have hb : ((t9[0].toNat : Int) == 46) = false := byte_b h1
                  go_wp2_with fail
                  go_meet
                  exact ⟨rfl, MD9, N9, T9⟩
            case rest => as_aux_lemma =>
              obtain ⟨rfl, MD10, N10, T10⟩ := hcut
              obtain ⟨w10, rfl⟩ : ∃ w10, w10 = wc := ⟨_, rfl⟩
              clear MD9 N9 T9
              go_upto_if 84 with fail
              go_cut [0, 6, 8] (fun s0 s6 s8 wx => ∃ (t11 : ByteArray) (u6 u8 : Value) (q11 : List UInt8) (N D : Nat), s0 = .string t11 ∧ u6 = s6 ∧ u8 = s8 ∧ t11.size ≤ 4096 ∧ Hid (t11.data.toList = q11) ∧ Hid (M wx u6 N) ∧ Hid (M wx u8 D) ∧ Hid (Sz 9000 N ∧ Sz 9000 D ∧ D ≠ 0) ∧ Hid ((C, X) = finR ng N D q11) ∧ Hid (Nul w wx))
              case first => as_aux_lemma =>
                cases dt
                · have HE := Lib.hid (show (C, X) = finR ng (dval d) D9 q9 by rw [HB9.out]; unfold body2; rw [← HDT.out, if_neg (by decide)])
                  have HZ := Lib.hid (show Sz 9000 (dval d) ∧ Sz 9000 D9 ∧ D9 ≠ 0 from ⟨HDS.out.mono (by decide), HS9.out.1.mono (by decide), HS9.out.2⟩)
                  go_wp2_with fail
                  go_meet
                  exact ⟨t9, _, _, q9, dval d, D9, rfl, rfl, rfl, hts9, HT9, N10, MD10, HZ, HE, T10⟩
                · obtain ⟨h0, hx⟩ := pre_pos (s := t9) (c := 46) (by rw [HT9.out]; exact HDT.out.symm)
                  have hx4 : t9[0].toNat = 46 := by rw [hx]; rfl
                  clear hx
                  obtain ⟨r, hr⟩ : ∃ r, r = Lib.trimPrefix q9 [46] := ⟨_, rfl⟩
                  obtain ⟨b, hb⟩ : ∃ d, d = r.takeWhile isDig := ⟨_, rfl⟩
                  obtain ⟨q2, hq2⟩ : ∃ d, d = r.dropWhile isDig := ⟨_, rfl⟩
                  have hrq : r = q9.drop 1 := by rw [hr, trim_of (ng := true) HDT.out]; rfl
                  obtain ⟨x3, hx3⟩ : ∃ x, t9.extract 1 t9.size = x := ⟨_, rfl⟩
                  have h3 : x3.data.toList = r := by rw [← hx3, ext_tail, HT9.out, hrq]
                  have hl3 : x3.size + 1 = t9.size := by rw [← len_data, h3, hrq, List.length_drop, ← HT9.out, len_data]; omega
                  have hs3 : x3.size ≤ 4096 := by omega
                  obtain ⟨bl, hbl⟩ : ∃ k, b.length = k := ⟨_, rfl⟩
                  have hlr : r.length = x3.size := by rw [← h3]; rfl
                  have hble : bl ≤ x3.size := by rw [← hlr, ← hbl, hb]; exact (List.takeWhile_sublist _).length_le
                  have CD3 := Lib.hid (rdig_at h3 hb hbl hs3)
                  have hbd : digits b = true := by rw [hb]; exact digits_takeWhile r
                  have HDOT : Hid ((C, X) = dot2 ng (dval d) r) := Lib.hid (by rw [HB9.out]; unfold body2; rw [← HDT.out, if_pos rfl, ← hr])
                  by_cases hb0 : b = []
                  · have hbz : bl = 0 := by rw [← hbl, hb0]; rfl
                    subst hbz
                    have HE := Lib.hid (show (C, X) = (4, 0) by rw [HDOT.out]; unfold dot2; rw [← hb, if_pos hb0])
                    clear hr hb hq2 hrq h3 hlr hbl hbd hb0
                    go_wp2_with (go_at_call 93; (with_reducible refine (CD3.out _).mono ?_); rintro e w8 ⟨rfl, k8⟩; refine Hid.out ?_)
                    refine Lib.hid ?_
                    have T11 := Lib.hid (T10.out.kp k8)
                    clear k8
                    obtain ⟨⟨e0, e1, e2, f0, f1, f2⟩, HPP, HV, HKF⟩ := rat_ends T11.out.rr T11.out.k (Below.refl _ _) (RatV.zero _) (by omega)
                    obtain ⟨k0, k1, k2⟩ := HPP.out
                    go_wp2
                    exact bodyPost_ret (v := .tuple #[.agg #[.bool false, .slice none 0 0, .slice none 0 0], .int .i64 4]) (by simp [results, Tryz.results57, go_sem, k0, k1, k2]) rfl (PPost.err HE.out HKF.out)
                  · have hbl0 : 0 < bl := by rw [← hbl]; exact List.length_pos_iff.2 hb0
                    have hzb : ((bl : Int) == 0) = false := beq_eq_false_iff_ne.2 (by omega)
                    obtain ⟨x4, hx4'⟩ : ∃ x, t9.extract 1 (bl + 1) = x := ⟨_, rfl⟩
                    have h4 : x4.data.toList = b := by
                      rw [← hx4', ext_list, HT9.out, ← hrq, show bl + 1 - 1 = b.length by omega]
                      exact take_dig hb
                    obtain ⟨x5, hx5⟩ : ∃ x, t9.extract (bl + 1) t9.size = x := ⟨_, rfl⟩
                    have HX5 := Lib.hid (show x5.data.toList = q2 by
                      rw [← hx5, ext_tail, HT9.out, show bl + 1 = 1 + b.length by omega, ← List.drop_drop, ← hrq]
                      exact drop_dig hb hq2)
                    have hs4 : x4.size ≤ 4096 := by rw [← len_data, h4]; omega
                    have hs5 : x5.size ≤ 4096 := by rw [← len_data, HX5.out, hq2]; exact Nat.le_trans (List.dropWhile_sublist _).length_le (by omega)
                    have CP4 := Lib.hid (fun w' => rparse_dig (w := w') h4 hbd hb0 hs4)
                    have CT := Lib.hid (fun w' => rten_any bl w' (by omega))
                    have SB := Lib.hid (show Sz 4096 (dval b) from (dval_szk hbd).mono (by omega))
                    have ST := Lib.hid (show Sz 4097 (10 ^ bl) from (ten_szk bl).mono (by omega))
                    have HE := Lib.hid (show (C, X) = finR ng (dval d * 10 ^ bl + dval b) (10 ^ bl) q2 by rw [HDOT.out]; unfold dot2; rw [← hb, ← hq2, if_neg hb0, hbl])
                    obtain ⟨bv, hbv⟩ : ∃ n, n = dval b := ⟨_, rfl⟩
                    obtain ⟨pv, hpv⟩ : ∃ n, n = 10 ^ bl := ⟨_, rfl⟩
                    rw [← hbv] at CP4 SB HE
                    rw [← hpv] at CT ST HE
                    have hp0 : pv ≠ 0 := by rw [hpv]; exact Nat.pos_iff_ne_zero.1 (Nat.pow_pos (by decide))
                    have SM := Lib.hid (show Sz 8193 (dval d * pv) from HDS.out.mul ST.out)
                    have HZ := Lib.hid (show Sz 9000 (dval d * pv + bv) ∧ Sz 9000 pv ∧ pv ≠ 0 from ⟨(SM.out.plus (SB.out.mono (by decide))).mono (by decide), ST.out.mono (by decide), hp0⟩)
                    have CM := Lib.hid (fun w' u v (hu : M w' u (dval d)) (hv : M w' v pv) => rmul_any hu hv HDS.out ST.out (by decide) (by decide))
                    have CA := Lib.hid (fun w' u v (hu : M w' u (dval d * pv)) (hv : M w' v bv) => radd_any hu hv SM.out SB.out (by decide) (by decide))
                    have hA : (bl : Int) + 1 ≤ (t9.size : Int) := by omega
                    have hB : bl + 1 ≤ t9.size := by omega
                    have hB2 : bl < t9.size := by omega
                    have hT : ((bl : Int) + 1).toNat = bl + 1 := by omega
                    have hsl : ∀ wx, (Instr.slice 9 (.string t9) (some (.int .i64 1)) (some (.int .i64 ((bl : Int) + 1))) none).run Tryz.prog wx = .ok (.string x4) wx := fun wx => by
                      have h := run_slice_string (P := Tryz.prog) wx 9 t9 .i64 .i64 1 ((bl : Int) + 1) Tryz.underlying9 (by decide) (by omega) (by omega)
                      rw [hT, show (1 : Int).toNat = 1 from rfl, hx4'] at h
                      exact h
                    have hW : IntKind.i64.wrap ((bl : Int) + 1) = (bl : Int) + 1 := IntWalk.i64_in _ (by omega)
                    clear hr hb hq2 hrq h3 hlr hbl hbd hb0 h4 hs3 hs4 hbv hpv hp0 hl3 hble
                    go_wp2_with (go_at_call 93; (with_reducible refine (CD3.out _).mono ?_); rintro e w8 ⟨rfl, k8⟩; refine Hid.out ?_)
                    refine Lib.hid ?_
                    have T11 := Lib.hid (T10.out.kp k8)
                    have N11 := Lib.hid (N10.out.kp k8)
                    clear k8
                    go_wp2_with (go_at_call 94; (with_reducible refine (CP4.out _).mono ?_); rintro e w12 ⟨v12, rfl, m12, k12⟩; refine Hid.out ?_)
                    refine Lib.hid ?_
                    have T12 := Lib.hid (T11.out.kp k12)
                    have N12 := Lib.hid (N11.out.kp k12)
                    have X12 := Lib.hid m12
                    clear k12 m12 T11 N11
                    go_wp2_with (go_at_call 95; (with_reducible refine (CT.out _).mono ?_); rintro e w13 ⟨v13, rfl, m13, k13⟩; refine Hid.out ?_)
                    refine Lib.hid ?_
                    have T13 := Lib.hid (T12.out.kp k13)
                    have N13 := Lib.hid (N12.out.kp k13)
                    have X13 := Lib.hid (X12.out.kp k13)
                    have P13 := Lib.hid m13
                    clear k13 m13 T12 N12 X12
                    go_wp2_with (go_at_call 77; (with_reducible refine (CM.out _ _ _ N13.out P13.out).mono ?_); rintro e w14 ⟨v14, rfl, m14, k14⟩; refine Hid.out ?_)
                    refine Lib.hid ?_
                    have T14 := Lib.hid (T13.out.kp k14)
                    have X14 := Lib.hid (X13.out.kp k14)
                    have P14 := Lib.hid (P13.out.kp k14)
                    have Y14 := Lib.hid m14
                    clear k14 m14 T13 N13 X13 P13
                    go_wp2_with (go_at_call 79; (with_reducible refine (CA.out _ _ _ Y14.out X14.out).mono ?_); rintro e w15 ⟨v15, rfl, m15, k15⟩; refine Hid.out ?_)
                    refine Lib.hid ?_
                    have T15 := Lib.hid (T14.out.kp k15)
                    have P15 := Lib.hid (P14.out.kp k15)
                    have Y15 := Lib.hid m15
                    clear k15 m15 T14 X14 P14 Y14
                    go_wp2_with fail
                    go_meet
                    exact ⟨x5, _, _, q2, _, pv, rfl, rfl, rfl, hs5, HX5, Y15, P15, HZ, HE, T15⟩
              case rest => as_aux_lemma =>
                obtain ⟨t11, u6, u8, q11, N, D, rfl, rfl, rfl, hts11, HT11, MN11, MD11, HS11, HF, T11⟩ := hcut
                obtain ⟨w11, rfl⟩ : ∃ w11, w11 = wc := ⟨_, rfl⟩
                clear MD10 N10 T10 HDT HB9 HS9 hts9 HT9 HDS HDD HD0 HDL
                --DEV
                go_upto_if 112 with fail
                go_cut [6, 8] (fun s6 s8 wx => ∃ (a6 a8 : Value) (N2 D2 : Nat), a6 = s6 ∧ a8 = s8 ∧ Hid (M wx a6 N2) ∧ Hid (M wx a8 D2) ∧ Hid (Sz 30000 N2 ∧ Sz 30000 D2 ∧ D2 ≠ 0) ∧ Hid ((C, X) = sizedR (ratOf ng N2 D2)) ∧ Hid (Nul w wx))
                case first => as_aux_lemma =>
                  by_cases h0 : t11.size = 0
                  · have HZ := Lib.hid (show Sz 30000 N ∧ Sz 30000 D ∧ D ≠ 0 from ⟨HS11.out.1.mono (by decide), HS11.out.2.1.mono (by decide), HS11.out.2.2⟩)
                    have HE := Lib.hid (show (C, X) = sizedR (ratOf ng N D) by rw [HF.out, ← HT11.out, List.length_eq_zero_iff.1 (show t11.data.toList.length = 0 by rw [len_data]; exact h0)]; exact fin_nil ng N D)
                    go_wp2_with fail
                    go_meet
                    exact ⟨_, _, N, D, rfl, rfl, MN11, MD11, HZ, HE, T11⟩
                  · have h0' : 0 < t11.size := by omega
                    obtain ⟨r, hr⟩ := pre_head h0'
                    obtain ⟨y1, hy1⟩ : ∃ x, t11.extract 1 t11.size = x := ⟨_, rfl⟩
                    have HY1 := Lib.hid (show y1.data.toList = r by rw [← hy1, ext_tail, hr]; rfl)
                    have hsy1 : y1.size ≤ 4096 := by rw [← len_data, HY1.out]; have := congrArg List.length hr; rw [len_data, List.length_cons] at this; omega
                    obtain ⟨eb, heb⟩ : ∃ b, b = !(decide (t11[0].toNat = 69) || decide (t11[0].toNat = 101)) := ⟨_, rfl⟩
                    have HEB := Lib.hid heb
                    have HOK := Lib.hid (show expOk q11 = (!eb && expB r) by rw [← HT11.out, hr, heb, Bool.not_not]; rfl)
                    have HDN := Lib.hid (show expDown q11 = Lib.hasPrefix r [45] by rw [← HT11.out, hr]; rfl)
                    have HVV := Lib.hid (show expV q11 = expZ r by rw [← HT11.out, hr]; rfl)
                    have hd0 : decide ((0 : Int) < (t11.size : Int)) = true := decide_eq_true (by omega)
                    clear heb hr
                    go_upto_region 29 with fail
                    go_cut [120] (fun s120 wx => s120 = .bool eb ∧ w11 = wx)
                    case first => as_aux_lemma =>
                      by_cases h1 : t11[0].toNat = 69
                      · have hn : eb = false := by rw [HEB.out, decide_eq_true h1]; rfl
                        subst hn
                        go_wp2_with fail
                        go_meet
                        exact ⟨rfl, rfl⟩
                      · have hb1 : ((t11[0].toNat : Int) == 69) = false := byte_b h1
                        have hb2 : ((t11[0].toNat : Int) != 69) = true := by simp; omega
                        by_cases h2 : t11[0].toNat = 101
                        · have hn : eb = false := by rw [HEB.out, decide_eq_true h2, Bool.or_true]; rfl
                          subst hn
                          go_wp2_with fail
                          go_meet
                          exact ⟨rfl, rfl⟩
                        · have hn : eb = true := by rw [HEB.out, decide_eq_false h1, decide_eq_false h2]; rfl
                          have hb3 : ((t11[0].toNat : Int) == 101) = false := byte_b h2
                          have hb4 : ((t11[0].toNat : Int) != 101) = true := by simp; omega
                          subst hn
                          go_wp2_with fail
                          go_meet
                          exact ⟨rfl, rfl⟩
                    case rest => as_aux_lemma =>
                      obtain ⟨rfl, rfl⟩ := hcut
                      go_upto_if 120 with fail
                      cases eb
                      · obtain ⟨dn, hdn⟩ : ∃ b, b = Lib.hasPrefix r [45] := ⟨_, rfl⟩
                        have HDNN := Lib.hid hdn
                        clear hdn HEB
                        go_upto_region 32 with fail
                        go_cut [11] (fun s11 wx => s11 = .bool dn ∧ Hid (M wx u6 N) ∧ Hid (M wx u8 D) ∧ Hid (Nul w wx))
                        case first => as_aux_lemma =>
                          by_cases h0 : y1.size = 0
                          · have hn : dn = false := by rw [HDNN.out, ← HY1.out]; exact (pre_nil 45 (List.length_eq_zero_iff.1 (by rw [len_data]; exact h0))).1
                            subst hn
                            go_wp2_with fail
                            go_meet
                            exact ⟨rfl, MN11, MD11, T11⟩
                          · have h0' : 0 < y1.size := by omega
                            by_cases h1 : y1[0].toNat = 45
                            · have hn : dn = true := by rw [HDNN.out, ← HY1.out]; exact (pre_yes h0' (byte_is (c := 45) h1)).1
                              subst hn
                              go_wp2_with fail
                              go_meet
                              exact ⟨rfl, MN11, MD11, T11⟩
                            · have hn : dn = false := by rw [HDNN.out, ← HY1.out]; exact (pre_no h0' (fun e => h1 (by rw [e]; rfl))).1
                              subst hn
                              have hb : ((y1[0].toNat : Int) == 45) = false := byte_b h1
                              go_wp2_with fail
                              go_meet
                              exact ⟨rfl, MN11, MD11, T11⟩
                        case rest => as_aux_lemma =>
                          obtain ⟨rfl, MN12, MD12, T12⟩ := hcut
                          obtain ⟨w13, rfl⟩ : ∃ w13, w13 = wc := ⟨_, rfl⟩
                          clear MN11 MD11 T11
                          obtain ⟨sg, hsg⟩ : ∃ b, b = (dn || Lib.hasPrefix r [43]) := ⟨_, rfl⟩
                          have HSG := Lib.hid hsg
                          clear hsg
                          go_upto_region 33 with fail
                          go_cut [142] (fun s142 wx => s142 = .bool sg ∧ w13 = wx)
                          case first => as_aux_lemma =>
                            cases dn
                            · by_cases h0 : y1.size = 0
                              · have hn : sg = false := by rw [HSG.out, Bool.false_or, ← HY1.out]; exact (pre_nil 43 (List.length_eq_zero_iff.1 (by rw [len_data]; exact h0))).1
                                subst hn
                                go_wp2_with fail
                                go_meet
                                exact ⟨rfl, rfl⟩
                              · have h0' : 0 < y1.size := by omega
                                by_cases h1 : y1[0].toNat = 43
                                · have hn : sg = true := by rw [HSG.out, Bool.false_or, ← HY1.out]; exact (pre_yes h0' (byte_is (c := 43) h1)).1
                                  subst hn
                                  go_wp2_with fail
                                  go_meet
                                  exact ⟨rfl, rfl⟩
                                · have hn : sg = false := by rw [HSG.out, Bool.false_or, ← HY1.out]; exact (pre_no h0' (fun e => h1 (by rw [e]; rfl))).1
                                  subst hn
                                  have hb : ((y1[0].toNat : Int) == 43) = false := byte_b h1
                                  go_wp2_with fail
                                  go_meet
                                  exact ⟨rfl, rfl⟩
                            · have hn : sg = true := by rw [HSG.out, Bool.true_or]
                              subst hn
                              go_wp2_with fail
                              go_meet
                              exact ⟨rfl, rfl⟩
                          case rest => as_aux_lemma =>
                            obtain ⟨rfl, rfl⟩ := hcut
                            go_upto_if 142 with fail
                            go_cut [0] (fun s0 wx => ∃ y2 : ByteArray, s0 = .string y2 ∧ Hid (y2.data.toList = expR r) ∧ y2.size ≤ 4096 ∧ w13 = wx)
                            case first => as_aux_lemma =>
                              cases sg
                              · have hx := Lib.hid (show y1.data.toList = expR r by
                                  have h := Bool.or_eq_false_iff.1 HSG.out.symm
                                  have h1 : Lib.hasPrefix r [45] = false := by rw [← HDNN.out]; exact h.1
                                  have h2 : Lib.hasPrefix r [43] = false := h.2
                                  unfold expR
                                  rw [h1, if_neg (by decide), trim_of h1.symm, if_neg (by decide), trim_of h2.symm, if_neg (by decide)]
                                  exact HY1.out)
                                go_wp2_with fail
                                go_meet
                                exact ⟨y1, rfl, hx, hsy1, rfl⟩
                              · have hp : 0 < y1.size := by
                                  have h := HSG.out.symm
                                  rw [Bool.or_eq_true] at h
                                  rcases h with h | h
                                  · rw [HDNN.out, ← HY1.out] at h; exact (pre_pos h).1
                                  · rw [← HY1.out] at h; exact (pre_pos h).1
                                have hx := Lib.hid (show (y1.extract 1 y1.size).data.toList = expR r by
                                  rw [ext_tail, HY1.out]
                                  unfold expR
                                  cases hdn : dn
                                  · have h1 : Lib.hasPrefix r [45] = false := by rw [← HDNN.out]; exact hdn
                                    have h2 : Lib.hasPrefix r [43] = true := by have h := HSG.out; rw [hdn, Bool.false_or] at h; exact h.symm
                                    rw [h1, if_neg (by decide), trim_of h1.symm, if_neg (by decide), trim_of h2.symm, if_pos rfl]
                                  · have h1 : Lib.hasPrefix r [45] = true := by rw [← HDNN.out]; exact hdn
                                    rw [h1, if_pos rfl, trim_of h1.symm, if_pos rfl])
                                have hs := Lib.hid (show (y1.extract 1 y1.size).size ≤ 4096 by rw [← len_data, ext_tail, List.length_drop, len_data]; omega)
                                go_wp2_with fail
                                go_meet
                                exact ⟨_, rfl, hx, hs.out, rfl⟩
                            case rest => as_aux_lemma =>
                              obtain ⟨y2, rfl, HY2, hsy2, rfl⟩ := hcut
                              clear HSG sg
                              obtain ⟨e, he⟩ : ∃ d, d = (expR r).takeWhile isDig := ⟨_, rfl⟩
                              obtain ⟨el, hel⟩ : ∃ k, e.length = k := ⟨_, rfl⟩
                              have CDE := Lib.hid (rdig_at HY2.out he hel hsy2)
                              have HXB := Lib.hid (exp_test HY2.out he hel)
                              have HEE := Lib.hid he
                              by_cases hg : 0 < el ∧ el ≤ 3 ∧ el = y2.size
                              · obtain ⟨hg1, hg2, hg3⟩ := hg
                                have HDG := Lib.hid (show digits y2.data.toList = true ∧ y2.data.toList = e by
                                  have h1 : e.length = (expR r).length := by rw [hel, hg3, ← HY2.out]; rfl
                                  have h2 : e = expR r := by
                                    have := List.takeWhile_append_dropWhile (p := isDig) (l := expR r)
                                    have h3 := congrArg List.length this
                                    rw [List.length_append, ← he, h1] at h3
                                    have h4 : (expR r).dropWhile isDig = [] := List.length_eq_zero_iff.1 (by omega)
                                    rw [← he, h4, List.append_nil] at this
                                    exact this
                                  refine ⟨?_, by rw [HY2.out, ← h2]⟩
                                  rw [HY2.out, ← h2, he]
                                  exact digits_takeWhile _)
                                clear he hel
                                subst hg3
                                have HEX := Lib.hid (show (C, X) = sizedR (if dn = true then ratOf ng N (D * 10 ^ dval y2.data.toList) else ratOf ng (N * 10 ^ dval y2.data.toList) D) by
                                  rw [HF.out]
                                  unfold finR
                                  have h1 : expOk q11 = true := by rw [HOK.out, HXB.out, decide_eq_true hg1, decide_eq_true hg2, decide_eq_true rfl]; rfl
                                  have h2 : (expV q11).natAbs = dval y2.data.toList := by
                                    rw [HVV.out, HDG.out.2, HEE.out]
                                    unfold expZ
                                    split <;> simp
                                  rw [if_pos h1, HDN.out, ← HDNN.out, h2])
                                have hd1 : decide ((y2.size : Int) < 1) = false := decide_eq_false (by omega)
                                have hd2 : decide ((3 : Int) < (y2.size : Int)) = false := decide_eq_false (by omega)
                                have hdd : digits y2.data.toList = true := HDG.out.1
                                have HDD2 := Lib.hid hdd
                                clear hdd HXB HEE HDG HF HOK HDN HVV HDNN
                                go_wp2_with (go_at_call 93; (with_reducible refine (CDE.out _).mono ?_); rintro e w16 ⟨rfl, k16⟩; refine Hid.out ?_)
                                refine Lib.hid ?_
                                have T16 := Lib.hid (T12.out.kp k16)
                                have MN16 := Lib.hid (MN12.out.kp k16)
                                have MD16 := Lib.hid (MD12.out.kp k16)
                                clear k16 T12 MN12 MD12
                                go_wp2_with fail
                                go_loop [12, 13] (fun v i => ∃ k : Nat, k ≤ y2.size ∧ i = .int .i64 k ∧ v = .int .i64 (dval (y2.data.toList.take k) : Nat)) (fun _ i => y2.size - (intOf i).toNat)
                                case atStart => exact ⟨0, Nat.zero_le _, rfl, rfl⟩
                                case round =>
                                  obtain ⟨k, hk, rfl, rfl⟩ := hrel
                                  by_cases hlt : k < y2.size
                                  · have h1 := digits_get HDD2.out k hlt
                                    have h2 := dval_lt (digits_take HDD2.out k)
                                    rw [List.length_take, Nat.min_eq_left (by rw [len_data]; omega)] at h2
                                    have h3 : 10 ^ k ≤ 10 ^ 2 := Nat.pow_le_pow_right (by omega) (by omega)
                                    have h4 := dval_next y2 k hlt
                                    obtain ⟨n, hn⟩ : ∃ n, n = dval (y2.data.toList.take k) := ⟨_, rfl⟩
                                    rw [← hn] at h2 h4 ⊢
                                    have hb : n < 100 := by omega
                                    have H4 := Lib.hid h4
                                    have hc1 : 48 ≤ y2[k].toNat := h1.1
                                    have hc2 : y2[k].toNat ≤ 57 := h1.2
                                    clear h1 h2 h3 h4 hn
                                    go_wp2
                                    go_round
                                    case rel => exact ⟨k + 1, by omega, by go_num, by rw [H4.out]; go_num⟩
                                    case measure => simp [intOf]; omega
                                  · obtain rfl : k = y2.size := by omega
                                    have h2 := dval_lt HDD2.out
                                    rw [len_data] at h2
                                    have h3 : 10 ^ y2.size ≤ 10 ^ 3 := Nat.pow_le_pow_right (by omega) hg2
                                    have HTS := Lib.hid (show dval (y2.data.toList.take y2.size) = dval y2.data.toList by rw [take_size])
                                    rw [HTS.out]
                                    obtain ⟨ev, hev⟩ : ∃ n, n = dval y2.data.toList := ⟨_, rfl⟩
                                    rw [← hev] at h2 HEX ⊢
                                    have hev9 : ev < 1000 := by omega
                                    have CT := Lib.hid (fun w' => rten_any ev w' (by omega))
                                    have ST := Lib.hid (show Sz 1001 (10 ^ ev) from (ten_szk ev).mono (by omega))
                                    obtain ⟨pv, hpv⟩ : ∃ n, n = 10 ^ ev := ⟨_, rfl⟩
                                    rw [← hpv] at CT ST HEX
                                    have hp0 : pv ≠ 0 := by rw [hpv]; exact Nat.pos_iff_ne_zero.1 (Nat.pow_pos (by decide))
                                    have SN := Lib.hid (show Sz 10001 (N * pv) from HS11.out.1.mul ST.out)
                                    have SD := Lib.hid (show Sz 10001 (D * pv) from HS11.out.2.1.mul ST.out)
                                    have HNZ := Lib.hid (show D * pv ≠ 0 from Nat.mul_ne_zero HS11.out.2.2 hp0)
                                    have CMN := Lib.hid (fun w' v (hu : M w' u6 N) (hv : M w' v pv) => rmul_any hu hv HS11.out.1 ST.out (by decide) (by decide))
                                    have CMD := Lib.hid (fun w' v (hu : M w' u8 D) (hv : M w' v pv) => rmul_any hu hv HS11.out.2.1 ST.out (by decide) (by decide))
                                    clear h2 h3 hev hpv hp0 HTS
                                    cases dn
                                    · have HE := Lib.hid (show (C, X) = sizedR (ratOf ng (N * pv) D) from HEX.out)
                                      have HZ := Lib.hid (show Sz 30000 (N * pv) ∧ Sz 30000 D ∧ D ≠ 0 from ⟨SN.out.mono (by decide), HS11.out.2.1.mono (by decide), HS11.out.2.2⟩)
                                      go_wp2_with (go_at_call 95; (with_reducible refine (CT.out _).mono ?_); rintro e w17 ⟨v17, rfl, m17, k17⟩; refine Hid.out ?_)
                                      refine Lib.hid ?_
                                      have T17 := Lib.hid (T16.out.kp k17)
                                      have MN17 := Lib.hid (MN16.out.kp k17)
                                      have MD17 := Lib.hid (MD16.out.kp k17)
                                      have P17 := Lib.hid m17
                                      clear k17 m17 T16 MN16 MD16
                                      go_wp2_with (go_at_call 77; (with_reducible refine (CMN.out _ _ MN17.out P17.out).mono ?_); rintro e w18 ⟨v18, rfl, m18, k18⟩; refine Hid.out ?_)
                                      refine Lib.hid ?_
                                      have T18 := Lib.hid (T17.out.kp k18)
                                      have MD18 := Lib.hid (MD17.out.kp k18)
                                      have P18 := Lib.hid m18
                                      clear k18 m18 T17 MN17 MD17
                                      go_wp2_with fail
                                      go_meet
                                      exact ⟨_, _, N * pv, D, rfl, rfl, P18, MD18, HZ, HE, T18⟩
                                    · have HE := Lib.hid (show (C, X) = sizedR (ratOf ng N (D * pv)) from HEX.out)
                                      have HZ := Lib.hid (show Sz 30000 N ∧ Sz 30000 (D * pv) ∧ D * pv ≠ 0 from ⟨HS11.out.1.mono (by decide), SD.out.mono (by decide), HNZ.out⟩)
                                      go_wp2_with (go_at_call 95; (with_reducible refine (CT.out _).mono ?_); rintro e w17 ⟨v17, rfl, m17, k17⟩; refine Hid.out ?_)
                                      refine Lib.hid ?_
                                      have T17 := Lib.hid (T16.out.kp k17)
                                      have MN17 := Lib.hid (MN16.out.kp k17)
                                      have MD17 := Lib.hid (MD16.out.kp k17)
                                      have P17 := Lib.hid m17
                                      clear k17 m17 T16 MN16 MD16
                                      go_wp2_with (go_at_call 77; (with_reducible refine (CMD.out _ _ MD17.out P17.out).mono ?_); rintro e w18 ⟨v18, rfl, m18, k18⟩; refine Hid.out ?_)
                                      refine Lib.hid ?_
                                      have T18 := Lib.hid (T17.out.kp k18)
                                      have MN18 := Lib.hid (MN17.out.kp k18)
                                      have P18 := Lib.hid m18
                                      clear k18 m18 T17 MN17 MD17
                                      go_wp2_with fail
                                      go_meet
                                      exact ⟨_, _, N, D * pv, rfl, rfl, MN18, P18, HZ, HE, T18⟩
                              · have HE := Lib.hid (show (C, X) = (4, 0) by
                                  rw [HF.out]; unfold finR
                                  have h1 : expOk q11 = false := by
                                    rw [HOK.out, HXB.out, Bool.not_false, Bool.true_and, Bool.eq_false_iff]
                                    intro h
                                    rw [Bool.and_eq_true, Bool.and_eq_true, decide_eq_true_iff, decide_eq_true_iff, decide_eq_true_iff] at h
                                    exact hg ⟨h.1.1, h.1.2, h.2⟩
                                  rw [h1]; rfl)
                                have hbad : el < 1 ∨ 3 < el ∨ el ≠ y2.size := by omega
                                clear he hel hg
                                by_cases b1 : el < 1
                                · have hd1 : decide ((el : Int) < 1) = true := decide_eq_true (by omega)
                                  go_wp2_with (go_at_call 93; (with_reducible refine (CDE.out _).mono ?_); rintro e w16 ⟨rfl, k16⟩; refine Hid.out ?_)
                                  refine Lib.hid ?_
                                  have T16 := Lib.hid (T12.out.kp k16)
                                  clear k16
                                  obtain ⟨⟨e0, e1, e2, f0, f1, f2⟩, HPP, HV, HKF⟩ := rat_ends T16.out.rr T16.out.k (Below.refl _ _) (RatV.zero _) (by omega)
                                  obtain ⟨k0, k1, k2⟩ := HPP.out
                                  go_wp2
                                  exact bodyPost_ret (v := .tuple #[.agg #[.bool false, .slice none 0 0, .slice none 0 0], .int .i64 4]) (by simp [results, Tryz.results57, go_sem, k0, k1, k2]) rfl (PPost.err HE.out HKF.out)
                                · have hd1 : decide ((el : Int) < 1) = false := decide_eq_false (by omega)
                                  by_cases b2 : 3 < el
                                  · have hd2 : decide ((3 : Int) < (el : Int)) = true := decide_eq_true (by omega)
                                    go_wp2_with (go_at_call 93; (with_reducible refine (CDE.out _).mono ?_); rintro e w16 ⟨rfl, k16⟩; refine Hid.out ?_)
                                    refine Lib.hid ?_
                                    have T16 := Lib.hid (T12.out.kp k16)
                                    clear k16
                                    obtain ⟨⟨e0, e1, e2, f0, f1, f2⟩, HPP, HV, HKF⟩ := rat_ends T16.out.rr T16.out.k (Below.refl _ _) (RatV.zero _) (by omega)
                                    obtain ⟨k0, k1, k2⟩ := HPP.out
                                    go_wp2
                                    exact bodyPost_ret (v := .tuple #[.agg #[.bool false, .slice none 0 0, .slice none 0 0], .int .i64 4]) (by simp [results, Tryz.results57, go_sem, k0, k1, k2]) rfl (PPost.err HE.out HKF.out)
                                  · have hd2 : decide ((3 : Int) < (el : Int)) = false := decide_eq_false (by omega)
                                    have hd3 : ((el : Int) != (y2.size : Int)) = true := by simp; omega
                                    have hd4 : ((el : Int) == (y2.size : Int)) = false := by simp; omega
                                    go_wp2_with (go_at_call 93; (with_reducible refine (CDE.out _).mono ?_); rintro e w16 ⟨rfl, k16⟩; refine Hid.out ?_)
                                    refine Lib.hid ?_
                                    have T16 := Lib.hid (T12.out.kp k16)
                                    clear k16
                                    obtain ⟨⟨e0, e1, e2, f0, f1, f2⟩, HPP, HV, HKF⟩ := rat_ends T16.out.rr T16.out.k (Below.refl _ _) (RatV.zero _) (by omega)
                                    obtain ⟨k0, k1, k2⟩ := HPP.out
                                    go_wp2
                                    exact bodyPost_ret (v := .tuple #[.agg #[.bool false, .slice none 0 0, .slice none 0 0], .int .i64 4]) (by simp [results, Tryz.results57, go_sem, k0, k1, k2]) rfl (PPost.err HE.out HKF.out)
                      · have HE := Lib.hid (show (C, X) = (4, 0) by rw [HF.out]; unfold finR; rw [HOK.out]; rfl)
                        obtain ⟨⟨e0, e1, e2, f0, f1, f2⟩, HPP, HV, HKF⟩ := rat_ends T11.out.rr T11.out.k (Below.refl _ _) (RatV.zero _) (by omega)
                        obtain ⟨k0, k1, k2⟩ := HPP.out
                        go_wp2
                        exact bodyPost_ret (v := .tuple #[.agg #[.bool false, .slice none 0 0, .slice none 0 0], .int .i64 4]) (by simp [results, Tryz.results57, go_sem, k0, k1, k2]) rfl (PPost.err HE.out HKF.out)
                case rest => as_aux_lemma =>
                  obtain ⟨a6, a8, N2, D2, rfl, rfl, MN2, MD2, HZ2, HE2, T20⟩ := hcut
                  obtain ⟨w20, rfl⟩ : ∃ w20, w20 = wc := ⟨_, rfl⟩
                  clear MN11 MD11 HS11 HF T11 HT11
                  have CR := Lib.hid (reduce_m (neg := ng) MN2.out MD2.out HZ2.out.1 HZ2.out.2.1 (by decide) (by decide) HZ2.out.2.2)
                  have SY : RSz 30000 (ratOf ng N2 D2) := rsz_of HZ2.out.1 HZ2.out.2.1 HZ2.out.2.2
                  obtain ⟨Y, hY⟩ : ∃ y, y = ratOf ng N2 D2 := ⟨_, rfl⟩
                  rw [← hY] at CR SY HE2
                  have CB := Lib.hid (fun w' a (h : RatV w' a Y) => rqbits_any h SY (by decide))
                  have HLG := Lib.hid (show sizedR Y = if 2048 < max (bitsN Y.num.natAbs) (bitsN Y.den) then (2, 0) else (0, Y) by
                    unfold sizedR longR
                    by_cases h : 2048 < max (bitsN Y.num.natAbs) (bitsN Y.den)
                    · rw [decide_eq_true h, if_pos rfl, if_pos h]
                    · rw [decide_eq_false h, if_neg (by decide), if_neg h])
                  obtain ⟨bb, hbb⟩ : ∃ b, b = max (bitsN Y.num.natAbs) (bitsN Y.den) := ⟨_, rfl⟩
                  rw [← hbb] at CB HLG
                  clear hbb hY SY MN2 MD2 HZ2
                  go_wp2_with (go_at_call 64; (with_reducible refine CR.out.mono ?_); rintro e w21 ⟨vr, rfl, hvr, k21⟩; refine Hid.out ?_)
                  refine Lib.hid ?_
                  have T21 := Lib.hid (T20.out.kp k21)
                  clear T20 k21
                  obtain ⟨sgn, q1, r1, s1, q2, r2, s2, rfl⟩ := hvr.lit
                  have VR := Lib.hid hvr
                  clear hvr
                  have VB := Lib.hid (Res.new w21 (.bool sgn) (.slice q1 r1 s1) (.slice q2 r2 s2))
                  have T22 := Lib.hid (T21.out.kp (Kp.alloc _ (Obj.cells #[Value.bool sgn, Value.slice q1 r1 s1, Value.slice q2 r2 s2] 27)))
                  have V22 := Lib.hid (VR.out.kp (Kp.alloc _ (Obj.cells #[Value.bool sgn, Value.slice q1 r1 s1, Value.slice q2 r2 s2] 27)))
                  clear T21 VR
                  by_cases hlong : 2048 < bb
                  · have hbd : decide ((2048 : Int) < (bb : Int)) = true := decide_eq_true (by omega)
                    have HE := Lib.hid (show (C, X) = (2, 0) by rw [HE2.out, HLG.out, if_pos hlong])
                    clear hlong
                    go_wp2_with (go_at_call 55; (with_reducible refine (CB.out _ _ V22.out).mono ?_); rintro e w23 ⟨rfl, k23⟩; refine Hid.out ?_)
                    refine Lib.hid ?_
                    have T23 := Lib.hid (T22.out.kp k23)
                    clear k23 T22
                    obtain ⟨⟨e0, e1, e2, f0, f1, f2⟩, HPP, HV, HKF⟩ := rat_ends T23.out.rr T23.out.k (Below.refl _ _) (RatV.zero _) (by omega)
                    obtain ⟨k0, k1, k2⟩ := HPP.out
                    go_wp2
                    exact bodyPost_ret (v := .tuple #[.agg #[.bool false, .slice none 0 0, .slice none 0 0], .int .i64 2]) (by simp [results, Tryz.results57, go_sem, k0, k1, k2]) rfl (PPost.err HE.out HKF.out)
                  · have hbd : decide ((2048 : Int) < (bb : Int)) = false := decide_eq_false (by omega)
                    have HE := Lib.hid (show (C, X) = (0, Y) by rw [HE2.out, HLG.out, if_neg hlong])
                    clear hlong
                    go_wp2_with (go_at_call 55; (with_reducible refine (CB.out _ _ V22.out).mono ?_); rintro e w23 ⟨rfl, k23⟩; refine Hid.out ?_)
                    refine Lib.hid ?_
                    have T23 := Lib.hid (T22.out.kp k23)
                    have V23 := Lib.hid (V22.out.kp k23)
                    have VB23 := Lib.hid (VB.out.kp k23)
                    clear k23 T22 V22 VB
                    obtain ⟨x0, x1, x2', _⟩ := VB23.out.cells
                    obtain ⟨⟨e0, e1, e2, f0, f1, f2⟩, HPP, HV, HKF⟩ := rat_ends T23.out.rr T23.out.k (Below.refl _ _) V23.out (by omega)
                    obtain ⟨k0, k1, k2⟩ := HPP.out
                    go_wp2
                    exact bodyPost_ret (v := .tuple #[.agg #[.bool sgn, .slice q1 r1 s1, .slice q2 r2 s2], .int .i64 0]) (by simp [results, Tryz.results57, go_sem, k0, k1, k2]) rfl (PPost.ok HE.out HV.out HKF.out)

set_option maxRecDepth 20000 in
theorem rqparse_long {w : World} (s : ByteArray) (hs : 4096 < s.size) :
    Calls Tryz.prog 57 #[.string s] w fun e w' => ∃ r, e = .returned (.tuple #[r, .int .i64 2]) ∧ RatV w' r 0 ∧ Kp w w' := by
  have hsd : decide ((4096 : Int) < (s.size : Int)) = true := decide_eq_true (by omega)
  have HK := Lib.hid (fun o => Kp.alloc w o)
  clear hs
  go_enter Tryz.func57, Tryz.ntmps57
  go_wp2
  exact bodyPost_ret (v := .tuple #[.agg #[.bool false, .slice none 0 0, .slice none 0 0], .int .i64 2]) (by simp [results, Tryz.results57, go_sem]) rfl ⟨_, rfl, RatV.zero _, HK.out _⟩

theorem rqparse_all {w : World} (s : ByteArray) :
    Calls Tryz.prog 57 #[.string s] w fun e w' => ∃ r, e = .returned (.tuple #[r, .int .i64 (parseR s.data.toList).1]) ∧ RatV w' r (parseR s.data.toList).2 ∧ Kp w w' := by
  have hlen := len_data s
  unfold parseR
  by_cases hs : s.size ≤ 4096
  · rw [if_neg (by omega)]
    exact (rqparse_walk s w hs _ _ _ _ _ _ rfl rfl rfl rfl rfl).mono fun e w' h => h
  · rw [if_pos (by omega)]
    exact rqparse_long s (by omega)
end Go.Proofs.YtmnnnoeenfmckaaGreatDoor
