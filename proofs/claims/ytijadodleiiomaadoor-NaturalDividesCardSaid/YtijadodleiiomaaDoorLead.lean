/-
  natural.size, unchanged, lead: by walking their texts.
-/
import Derived.Test.YtijadodleiiomaaDoorLeadM
import Derived.Test.YtijadodleiiomaaDoorGcdS
namespace Go.Proofs.YtijadodleiiomaaDoor
open Go.RowKit

theorem size_any (n : Int) (w : World) (h1 : -9223372036854775808 < n) (h2 : n ≤ 9223372036854775807) :
    Calls Tryd.prog 89 #[.int .i64 n] w fun e w' => e = .returned (.int .i64 (n.natAbs : Nat)) ∧ w' = w := by
  have h3 : max n (-n) = (n.natAbs : Int) := by omega
  have h4 : wrap64 (-n) = -n := by unfold wrap64; omega
  go_enter Tryd.func89, Tryd.ntmps89
  go_wp2
  go_ret
  exact ⟨rfl, rfl⟩

theorem unchanged_any (w : World) :
    Calls Tryd.prog 82 #[] w fun e w' => e = .returned (.agg #[.int .i64 1, .int .i64 0, .int .i64 0, .int .i64 1]) ∧ Kp w w' := by
  go_enter Tryd.func82, Tryd.ntmps82
  go_wp2
  refine bodyPost_ret (v := .agg #[.int .i64 1, .int .i64 0, .int .i64 0, .int .i64 1]) (by simp [results, Tryd.results82, go_sem]) rfl ⟨rfl, Kp.alloc _ _⟩

/-- The rows of what lead has come to. -/
def mat (σ : Int) (p q r s : Nat) : Array Value := #[.int .i64 (σ * p), .int .i64 (-σ * q), .int .i64 (-σ * r), .int .i64 (σ * s)]

theorem row_set {w : World} {g : Nat} {cs : Array Value} {e : TypeId} (h : w.heap[g]? = some (.cells cs e (0, 0))) (j : Nat) (v : Value) : (w.setCell ⟨g, j, none⟩ v).heap[g]? = some (.cells (cs.setIfInBounds j v) e (0, 0)) :=
  heap_setCell_same w g j cs e v h

theorem four_set {w0 w : World} {g h : Nat} {a0 a1 a2 a3 b0 b1 b2 b3 : Int} {e : TypeId} {R : Obj} (hg : w.heap[g]? = some (.cells #[.int .i64 a0, .int .i64 a1, .int .i64 a2, .int .i64 a3] e (0, 0))) (hh : w.heap[h]? = some R) (hne : h ≠ g)
    (k : Kp w0 w) (hk : w0.heap.size ≤ g) (o : Obj) :
    (((((w.setCell ⟨g, 0, none⟩ (.int .i64 b0)).setCell ⟨g, 1, none⟩ (.int .i64 b1)).setCell ⟨g, 2, none⟩ (.int .i64 b2)).setCell ⟨g, 3, none⟩ (.int .i64 b3)).alloc o).heap[g]? = some (.cells #[.int .i64 b0, .int .i64 b1, .int .i64 b2, .int .i64 b3] e (0, 0)) ∧
    (((((w.setCell ⟨g, 0, none⟩ (.int .i64 b0)).setCell ⟨g, 1, none⟩ (.int .i64 b1)).setCell ⟨g, 2, none⟩ (.int .i64 b2)).setCell ⟨g, 3, none⟩ (.int .i64 b3)).alloc o).heap[h]? = some R ∧
    Kp w0 (((((w.setCell ⟨g, 0, none⟩ (.int .i64 b0)).setCell ⟨g, 1, none⟩ (.int .i64 b1)).setCell ⟨g, 2, none⟩ (.int .i64 b2)).setCell ⟨g, 3, none⟩ (.int .i64 b3)).alloc o) := by
  have h0 := row_set hg 0 (.int .i64 b0)
  have h1 := row_set h0 1 (.int .i64 b1)
  have h2 := row_set h1 2 (.int .i64 b2)
  have h3 := row_set h2 3 (.int .i64 b3)
  have on : Only g w ((((w.setCell ⟨g, 0, none⟩ (.int .i64 b0)).setCell ⟨g, 1, none⟩ (.int .i64 b1)).setCell ⟨g, 2, none⟩ (.int .i64 b2)).setCell ⟨g, 3, none⟩ (.int .i64 b3)) :=
    ((((Only.refl g w).setCell 0 _).setCell 1 _).setCell 2 _).setCell 3 _
  have hh2 := (on.block h hne).trans hh
  have k2 := on.kp k hk
  obtain ⟨w', hw'⟩ : ∃ w', w' = ((((w.setCell ⟨g, 0, none⟩ (.int .i64 b0)).setCell ⟨g, 1, none⟩ (.int .i64 b1)).setCell ⟨g, 2, none⟩ (.int .i64 b2)).setCell ⟨g, 3, none⟩ (.int .i64 b3)) := ⟨_, rfl⟩
  rw [← hw'] at h3 hh2 k2 ⊢
  refine ⟨?_, ?_, k2.tr (Kp.alloc _ _)⟩
  · rw [(Kp.alloc w' o).block g (Array.getElem?_eq_some_iff.1 h3).1, h3]
    simp
  · rw [(Kp.alloc w' o).block h (Array.getElem?_eq_some_iff.1 hh2).1, hh2]

set_option maxRecDepth 20000 in
set_option maxHeartbeats 1000000 in
theorem lead_any (x0 y0 : Nat) (w : World) (hx : x0 < 4611686018427387904) (hy : y0 ≤ x0) :
    Calls Tryd.prog 80 #[.int .i64 (x0 : Nat), .int .i64 (y0 : Nat)] w fun e w' => ∃ (σ : Int) (p q r s x y : Nat), e = .returned (.agg (mat σ p q r s)) ∧ Steps x0 y0 σ p q r s x y ∧ Kp w w' := by
  have HU := Lib.hid unchanged_any
  go_enter Tryd.func80, Tryd.ntmps80
  go_wp2_with (go_at_call 82; refine (HU.out _).mono ?_; rintro e w1 ⟨rfl, K1⟩; refine Hid.out ?_)
  refine Lib.hid ?_
  go_wp2_with fail
  have hres : w.heap.size < w1.heap.size := by
    have := K1.size
    simp at this
    omega
  obtain ⟨g, hg⟩ : ∃ g, g = w1.heap.size := ⟨_, rfl⟩
  obtain ⟨w2, hw2⟩ : ∃ w2, w2 = w1.alloc (Obj.cells #[Value.int IntKind.i64 1, Value.int IntKind.i64 0, Value.int IntKind.i64 0, Value.int IntKind.i64 1] 85) := ⟨_, rfl⟩
  have hH2 : w2.heap[g]? = some (.cells #[.int .i64 1, .int .i64 0, .int .i64 0, .int .i64 1] 85 (0, 0)) := by rw [hw2, hg]; exact heap_alloc_new w1 _
  rw [← hg, ← hw2]
  rw [← hg] at hres
  have K2 : Kp w w2 := by
    rw [hw2]
    exact ((Kp.alloc w _).tr K1).tr (Kp.alloc _ _)
  have hR2 : w2.heap[w.heap.size]? = some (.cells #[.int .i64 0, .int .i64 0, .int .i64 0, .int .i64 0] 85 (0, 0)) := by
    rw [hw2, (Kp.alloc w1 _).block _ (by rw [← hg]; exact hres), K1.block _ (by simp), heap_alloc_new w _]
  have HR2 := Lib.hid hR2
  have HH2 := Lib.hid hH2
  have HK2 := Lib.hid K2
  clear hw2 hg hH2 hR2 K2
  go_loopw [0, 1] (fun xv yv wr => ∃ (σ : Int) (p q r s x y : Nat), xv = .int .i64 x ∧ yv = .int .i64 y ∧ Hid (Steps x0 y0 σ p q r s x y) ∧ Hid (wr.heap[g]? = some (.cells (mat σ p q r s) 85 (0, 0))) ∧ Hid (wr.heap[w.heap.size]? = some (.cells #[.int .i64 0, .int .i64 0, .int .i64 0, .int .i64 0] 85 (0, 0))) ∧ Kp w wr) (fun _ yv _ => (intOf yv).toNat)
  case atStart => exact ⟨1, 1, 0, 0, 1, x0, y0, rfl, rfl, Lib.hid (Steps.start hy), HH2, HR2, HK2.out⟩
  case round =>
    obtain ⟨σ, p, q, r, s, x, y, rfl, rfl, HS, HM, HRS, K3⟩ := hrel
    have hxs : x ≤ x0 := by
      have := HS.out.hx
      have h2 := Nat.le_mul_of_pos_left x HS.out.s1
      omega
    have hyx : y ≤ x := HS.out.le
    have hsb := HS.out.short hx
    obtain ⟨M0, hM0⟩ : ∃ M : Int, M = σ * p := ⟨_, rfl⟩
    obtain ⟨M1, hM1⟩ : ∃ M : Int, M = -σ * q := ⟨_, rfl⟩
    obtain ⟨M2, hM2⟩ : ∃ M : Int, M = -σ * r := ⟨_, rfl⟩
    obtain ⟨M3, hM3⟩ : ∃ M : Int, M = σ * s := ⟨_, rfl⟩
    have hmat : mat σ p q r s = #[.int .i64 M0, .int .i64 M1, .int .i64 M2, .int .i64 M3] := by unfold mat; rw [← hM0, ← hM1, ← hM2, ← hM3]
    have hm := HM.out
    rw [hmat] at hm
    by_cases hy0 : y = 0
    · subst hy0
      clear hM0 hM1 hM2 hM3 hsb
      have c0 : wr.cell? ⟨g, 0, none⟩ = some (.int .i64 M0) := cell_of_row wr g 0 _ _ _ hm
      have c1 : wr.cell? ⟨g, 1, none⟩ = some (.int .i64 M1) := cell_of_row wr g 1 _ _ _ hm
      have c2 : wr.cell? ⟨g, 2, none⟩ = some (.int .i64 M2) := cell_of_row wr g 2 _ _ _ hm
      have c3 : wr.cell? ⟨g, 3, none⟩ = some (.int .i64 M3) := cell_of_row wr g 3 _ _ _ hm
      have f0 := frozen_of_row wr g 0 _ _ hm
      have f1 := frozen_of_row wr g 1 _ _ hm
      have f2 := frozen_of_row wr g 2 _ _ hm
      have f3 := frozen_of_row wr g 3 _ _ hm
      clear hm
      have d0 : wr.cell? ⟨w.heap.size, 0, none⟩ = some (.int .i64 0) := cell_of_row wr _ 0 _ _ _ HRS.out
      have d1 : wr.cell? ⟨w.heap.size, 1, none⟩ = some (.int .i64 0) := cell_of_row wr _ 1 _ _ _ HRS.out
      have d2 : wr.cell? ⟨w.heap.size, 2, none⟩ = some (.int .i64 0) := cell_of_row wr _ 2 _ _ _ HRS.out
      have d3 : wr.cell? ⟨w.heap.size, 3, none⟩ = some (.int .i64 0) := cell_of_row wr _ 3 _ _ _ HRS.out
      have e0 := frozen_of_row wr w.heap.size 0 _ _ HRS.out
      have e1 := frozen_of_row wr w.heap.size 1 _ _ HRS.out
      have e2 := frozen_of_row wr w.heap.size 2 _ _ HRS.out
      have e3 := frozen_of_row wr w.heap.size 3 _ _ HRS.out
      go_wp2
      refine bodyPost_ret (v := .agg #[.int .i64 M0, .int .i64 M1, .int .i64 M2, .int .i64 M3]) (by simp [results, Tryd.results80, go_sem, d0, d1, d2, d3]) rfl ⟨σ, p, q, r, s, x, 0, by rw [hmat], HS.out, (((K3.setCell (Nat.le_refl _) _).setCell (Nat.le_refl _) _).setCell (Nat.le_refl _) _).setCell (Nat.le_refl _) _⟩
    · have hyp : 0 < y := Nat.pos_of_ne_zero hy0
      have hrow := HS.out.row hyp
      obtain ⟨t, ht⟩ : ∃ t, t = x / y := ⟨_, rfl⟩
      obtain ⟨z, hz⟩ : ∃ z, z = x % y := ⟨_, rfl⟩
      have hnext := HS.out.next hyp
      rw [← ht] at hrow
      rw [← ht, ← hz] at hnext
      obtain ⟨f, hf⟩ : ∃ f, f = q + t * s := ⟨_, rfl⟩
      obtain ⟨e, he⟩ : ∃ e, e = p + t * r := ⟨_, rfl⟩
      rw [← hf, ← he] at hrow hnext
      have hzy : z < y := by rw [hz]; exact Nat.mod_lt _ hyp
      have hps : p ≤ s ∧ q ≤ s ∧ r ≤ s := by
        have h1 := HS.out.rs
        have h2 := HS.out.qs
        rcases HS.out.st with ⟨h3, _, _, h4, _⟩ | ⟨_, _, h3, _⟩ <;> omega
      have htx : (x : Int).tdiv (y : Int) = (t : Int) := by rw [tdivN, ht]
      have htz : (x : Int).tmod (y : Int) = (z : Int) := by rw [hz]; rfl
      have htb : t ≤ x := by rw [ht]; exact Nat.div_le_self _ _
      obtain ⟨N2, hN2⟩ : ∃ N : Int, N = (t : Int) * M2 := ⟨_, rfl⟩
      obtain ⟨N3, hN3⟩ : ∃ N : Int, N = (t : Int) * M3 := ⟨_, rfl⟩
      obtain ⟨R0, hR0⟩ : ∃ N : Int, N = M0 - N2 := ⟨_, rfl⟩
      obtain ⟨R1, hR1⟩ : ∃ N : Int, N = M1 - N3 := ⟨_, rfl⟩
      have hei : (e : Int) = p + t * r := by rw [he]; simp
      have hfi : (f : Int) = q + t * s := by rw [hf]; simp
      have eN2 : N2 = -σ * (t * r) := by rw [hN2, hM2]; grind
      have eN3 : N3 = σ * (t * s) := by rw [hN3, hM3]; grind
      have eR0 : R0 = σ * e := by rw [hR0, hM0, eN2, hei]; grind
      have eR1 : R1 = -σ * f := by rw [hR1, hM1, eN3, hfi]; grind
      obtain ⟨tr, htr⟩ : ∃ z, z = t * r := ⟨_, rfl⟩
      obtain ⟨ts, hts⟩ : ∃ z, z = t * s := ⟨_, rfl⟩
      have eN2' : N2 = -σ * (tr : Int) := by rw [eN2, htr]; simp
      have eN3' : N3 = σ * (ts : Int) := by rw [eN3, hts]; simp
      rw [← htr] at he
      rw [← hts] at hf
      have hb : (-4611686018427387904 < N2 ∧ N2 < 4611686018427387904) ∧ (-4611686018427387904 < N3 ∧ N3 < 4611686018427387904) ∧ (-4611686018427387904 < R0 ∧ R0 < 4611686018427387904) ∧ (-4611686018427387904 < R1 ∧ R1 < 4611686018427387904) ∧
          (-2147483648 < M0 ∧ M0 < 2147483648) ∧ (-2147483648 < M1 ∧ M1 < 2147483648) ∧ (-2147483648 < M2 ∧ M2 < 2147483648) ∧ (-2147483648 < M3 ∧ M3 < 2147483648) ∧ R1.natAbs = f ∧ M3.natAbs = s := by
        rcases HS.out.sign with e1 | e1 <;> rw [e1] at eN2' eN3' eR0 eR1 hM0 hM1 hM2 hM3 <;> omega
      obtain ⟨⟨b1, b2⟩, ⟨b3, b4⟩, ⟨b5, b6⟩, ⟨b7, b8⟩, ⟨b9, b10⟩, ⟨b11, b12⟩, ⟨b13, b14⟩, ⟨b15, b16⟩, hab1, hab2⟩ := hb
      have hz1 := fun w => size_any R1 w (by omega) (by omega)
      have hz2 := fun w => size_any M3 w (by omega) (by omega)
      rw [hab1] at hz1
      rw [hab2] at hz2
      have HZ1 := Lib.hid hz1
      have HZ2 := Lib.hid hz2
      have hfb : f < 4611686018427387904 := by omega
      have HMAT : Hid (mat (-σ) r s e f = #[.int .i64 M2, .int .i64 M3, .int .i64 R0, .int .i64 R1]) := by
        refine Lib.hid ?_
        unfold mat
        rw [hM2, hM3, eR0, eR1]
        simp
      have HNX := Lib.hid hnext
      have hN2' := hN2.symm
      have hN3' := hN3.symm
      have hR0' := hR0.symm
      have hR1' := hR1.symm
      clear hz1 hz2 hM0 hM1 hM2 hM3 hN2 hN3 hR0 hR1 eN2 eN3 eR0 eR1 hei hfi htr hts eN2' eN3' he hf hab1 hab2 hnext ht hz hrow
      by_cases hbr : z < f ∨ y < z + f + s
      · have HMA := Lib.hid hmat
        have HSN := HS
        clear hmat HNX HMAT
        have HMM := Lib.hid hm
        clear hm
        go_wp2
        go_quiet (fail)
        have hm : (wr.drewN nq).heap[g]? = some (.cells #[.int .i64 M0, .int .i64 M1, .int .i64 M2, .int .i64 M3] 85 (0, 0)) := HMM.out
        have HRN : Hid ((wr.drewN nq).heap[w.heap.size]? = some (.cells #[.int .i64 0, .int .i64 0, .int .i64 0, .int .i64 0] 85 (0, 0))) := HRS
        have K4 : Kp w (wr.drewN nq) := K3.drewN nq
        obtain ⟨wn, hwn⟩ : ∃ wn, wn = wr.drewN nq := ⟨_, rfl⟩
        rw [← hwn] at hm HRN K4 ⊢
        clear hwn HRS HM HMM K3
        have c0 : wn.cell? ⟨g, 0, none⟩ = some (.int .i64 M0) := cell_of_row wn g 0 _ _ _ hm
        have c1 : wn.cell? ⟨g, 1, none⟩ = some (.int .i64 M1) := cell_of_row wn g 1 _ _ _ hm
        have c2 : wn.cell? ⟨g, 2, none⟩ = some (.int .i64 M2) := cell_of_row wn g 2 _ _ _ hm
        have c3 : wn.cell? ⟨g, 3, none⟩ = some (.int .i64 M3) := cell_of_row wn g 3 _ _ _ hm
        have f0 := frozen_of_row wn g 0 _ _ hm
        have f1 := frozen_of_row wn g 1 _ _ hm
        have f2 := frozen_of_row wn g 2 _ _ hm
        have f3 := frozen_of_row wn g 3 _ _ hm
        have hgn : g < wn.heap.size := (Array.getElem?_eq_some_iff.1 hm).1
        have HMN := Lib.hid hm
        clear hm
        have d0 : wn.cell? ⟨w.heap.size, 0, none⟩ = some (.int .i64 0) := cell_of_row wn _ 0 _ _ _ HRN.out
        have e0 := frozen_of_row wn w.heap.size 0 _ _ HRN.out
        have d1 : wn.cell? ⟨w.heap.size, 1, none⟩ = some (.int .i64 0) := cell_of_row wn _ 1 _ _ _ HRN.out
        have e1 := frozen_of_row wn w.heap.size 1 _ _ HRN.out
        have d2 : wn.cell? ⟨w.heap.size, 2, none⟩ = some (.int .i64 0) := cell_of_row wn _ 2 _ _ _ HRN.out
        have e2 := frozen_of_row wn w.heap.size 2 _ _ HRN.out
        have d3 : wn.cell? ⟨w.heap.size, 3, none⟩ = some (.int .i64 0) := cell_of_row wn _ 3 _ _ _ HRN.out
        have e3 := frozen_of_row wn w.heap.size 3 _ _ HRN.out
        have hwn2 : w.heap.size < wn.heap.size := by omega
        have nd0 := World.new_ne wn ⟨w.heap.size, 0, none⟩ d0
        by_cases hz1 : z < f
        · clear hbr
          go_wp2_with (go_at_call 89; first | ((with_reducible refine (HZ1.out _).mono ?_); rintro e w5 ⟨rfl, rfl⟩) | ((with_reducible refine (HZ2.out _).mono ?_); rintro e w5 ⟨rfl, rfl⟩))
          have H4 := four_set (b0 := M0) (b1 := M1) (b2 := M2) (b3 := M3) HRN.out HMN.out (show g ≠ w.heap.size by omega) K4 (Nat.le_refl _) (Obj.cells #[Value.int IntKind.i64 R0, Value.int IntKind.i64 R1] 83)
          obtain ⟨W, hW⟩ : ∃ W, W = (((((wn.setCell ⟨w.heap.size, 0, none⟩ (.int .i64 M0)).setCell ⟨w.heap.size, 1, none⟩ (.int .i64 M1)).setCell ⟨w.heap.size, 2, none⟩ (.int .i64 M2)).setCell ⟨w.heap.size, 3, none⟩ (.int .i64 M3)).alloc (Obj.cells #[Value.int IntKind.i64 R0, Value.int IntKind.i64 R1] 83)) := ⟨_, rfl⟩
          rw [← hW] at H4 ⊢
          have C0 : W.cell? ⟨w.heap.size, 0, none⟩ = some (.int .i64 M0) := cell_of_row W _ 0 _ _ _ H4.1
          have C1 : W.cell? ⟨w.heap.size, 1, none⟩ = some (.int .i64 M1) := cell_of_row W _ 1 _ _ _ H4.1
          have C2 : W.cell? ⟨w.heap.size, 2, none⟩ = some (.int .i64 M2) := cell_of_row W _ 2 _ _ _ H4.1
          have C3 : W.cell? ⟨w.heap.size, 3, none⟩ = some (.int .i64 M3) := cell_of_row W _ 3 _ _ _ H4.1
          exact bodyPost_ret (v := .agg #[.int .i64 M0, .int .i64 M1, .int .i64 M2, .int .i64 M3]) (by simp [results, Tryd.results80, go_sem, C0, C1, C2, C3]) rfl ⟨σ, p, q, r, s, x, y, by rw [HMA.out], HSN.out, H4.2.2⟩
        · have hz2 : y < z + f + s := by omega
          clear hbr
          go_wp2_with (go_at_call 89; first | ((with_reducible refine (HZ1.out _).mono ?_); rintro e w5 ⟨rfl, rfl⟩) | ((with_reducible refine (HZ2.out _).mono ?_); rintro e w5 ⟨rfl, rfl⟩))
          have H4 := four_set (b0 := M0) (b1 := M1) (b2 := M2) (b3 := M3) HRN.out HMN.out (show g ≠ w.heap.size by omega) K4 (Nat.le_refl _) (Obj.cells #[Value.int IntKind.i64 R0, Value.int IntKind.i64 R1] 83)
          obtain ⟨W, hW⟩ : ∃ W, W = (((((wn.setCell ⟨w.heap.size, 0, none⟩ (.int .i64 M0)).setCell ⟨w.heap.size, 1, none⟩ (.int .i64 M1)).setCell ⟨w.heap.size, 2, none⟩ (.int .i64 M2)).setCell ⟨w.heap.size, 3, none⟩ (.int .i64 M3)).alloc (Obj.cells #[Value.int IntKind.i64 R0, Value.int IntKind.i64 R1] 83)) := ⟨_, rfl⟩
          rw [← hW] at H4 ⊢
          have C0 : W.cell? ⟨w.heap.size, 0, none⟩ = some (.int .i64 M0) := cell_of_row W _ 0 _ _ _ H4.1
          have C1 : W.cell? ⟨w.heap.size, 1, none⟩ = some (.int .i64 M1) := cell_of_row W _ 1 _ _ _ H4.1
          have C2 : W.cell? ⟨w.heap.size, 2, none⟩ = some (.int .i64 M2) := cell_of_row W _ 2 _ _ _ H4.1
          have C3 : W.cell? ⟨w.heap.size, 3, none⟩ = some (.int .i64 M3) := cell_of_row W _ 3 _ _ _ H4.1
          exact bodyPost_ret (v := .agg #[.int .i64 M0, .int .i64 M1, .int .i64 M2, .int .i64 M3]) (by simp [results, Tryd.results80, go_sem, C0, C1, C2, C3]) rfl ⟨σ, p, q, r, s, x, y, by rw [HMA.out], HSN.out, H4.2.2⟩
      · have hn := HNX.out (by omega) (by omega)
        have HN := Lib.hid hn
        have hz1 : ¬ z < f := by omega
        have hz2 : ¬ y < z + f + s := by omega
        clear hn hbr
        have HMM := Lib.hid hm
        clear hm
        go_wp2
        go_quiet (fail)
        have hm : (wr.drewN nq).heap[g]? = some (.cells #[.int .i64 M0, .int .i64 M1, .int .i64 M2, .int .i64 M3] 85 (0, 0)) := HMM.out
        have HRN : Hid ((wr.drewN nq).heap[w.heap.size]? = some (.cells #[.int .i64 0, .int .i64 0, .int .i64 0, .int .i64 0] 85 (0, 0))) := HRS
        have K4 : Kp w (wr.drewN nq) := K3.drewN nq
        obtain ⟨wn, hwn⟩ : ∃ wn, wn = wr.drewN nq := ⟨_, rfl⟩
        rw [← hwn] at hm HRN K4 ⊢
        clear hwn HRS HM HMM K3
        have c0 : wn.cell? ⟨g, 0, none⟩ = some (.int .i64 M0) := cell_of_row wn g 0 _ _ _ hm
        have c1 : wn.cell? ⟨g, 1, none⟩ = some (.int .i64 M1) := cell_of_row wn g 1 _ _ _ hm
        have c2 : wn.cell? ⟨g, 2, none⟩ = some (.int .i64 M2) := cell_of_row wn g 2 _ _ _ hm
        have c3 : wn.cell? ⟨g, 3, none⟩ = some (.int .i64 M3) := cell_of_row wn g 3 _ _ _ hm
        have f0 := frozen_of_row wn g 0 _ _ hm
        have f1 := frozen_of_row wn g 1 _ _ hm
        have f2 := frozen_of_row wn g 2 _ _ hm
        have f3 := frozen_of_row wn g 3 _ _ hm
        have hgn : g < wn.heap.size := (Array.getElem?_eq_some_iff.1 hm).1
        have HMN := Lib.hid hm
        clear hm
        go_wp2_with (go_at_call 89; first | ((with_reducible refine (HZ1.out _).mono ?_); rintro e w5 ⟨rfl, rfl⟩) | ((with_reducible refine (HZ2.out _).mono ?_); rintro e w5 ⟨rfl, rfl⟩))
        have H4 := Lib.hid (fun o => four_set (b0 := M2) (b1 := M3) (b2 := R0) (b3 := R1) HMN.out HRN.out (by omega) K4 (by omega) o)
        go_roundw
        case rel => exact ⟨-σ, r, s, e, f, y, z, rfl, rfl, HN, Lib.hid (by rw [HMAT.out]; exact (H4.out _).1), Lib.hid (H4.out _).2.1, (H4.out _).2.2⟩
        case measure => simp [intOf]; omega
end Go.Proofs.YtijadodleiiomaaDoor
