/- TokenAlls' walk. -/
import Derived.Test.YtkpndghmiidkgaaRd1
import Derived.Test.YtkpndghmiidkgaaRd2
import Derived.Deep.QuietTactic
import Derived.BigQuiet
namespace Go.Proofs.Ytkpndghmiidkgaa
open Go.RowKit
set_option linter.unusedVariables false


set_option maxRecDepth 100000 in
set_option maxHeartbeats 8000000 in
theorem tokenAlls_bad (d : Int) (v : Value) (l : List Int) (w : World) (h : PatV w v l) (hp : patE d l ≠ 0) : Calls Try.prog 4 #[.int .i64 d, v] w fun e w' => e = .returned (.bool true) ∧ Below w.heap.size w w' := by
  have HX := hide (all_any d v l w h)
  have HR := hide (fun W (hb : Below w.heap.size w W) => right_any d v l W (h.below hb))
  have HBg := hide (fun W => begun_any W)
  obtain ⟨ao, c, hv⟩ := h.shape
  obtain ⟨n, hn⟩ : ∃ n, n = l.length := ⟨_, rfl⟩
  rw [← hn] at hv
  rw [hv] at HX HR ⊢
  have HP := hide hp
  clear h hv hn hp
  go_enter Try.func4, Try.ntmps4
  go_wp2_with fail
  refine HX.out.mono ?_
  rintro e w1 ⟨hb1, ⟨hz, rfl⟩ | ⟨hz, i, L, S, z, hrun, hil, hR, rfl⟩ | ⟨hz, L, S, v1, v2, hrun, rfl, ho1, ho2⟩⟩
  · obtain ⟨z, hze⟩ : ∃ z, z = patE d l := ⟨_, rfl⟩
    rw [← hze] at HR hz ⊢
    have hzb : (z != 0) = true := by simpa using hz
    have HB1 := hide hb1
    obtain ⟨w2, hw2⟩ : ∃ w2, w2 = w1.alloc (fauO z 0) := ⟨_, rfl⟩
    have hB2 : Below w.heap.size w w2 := by rw [hw2]; exact HB1.out.alloc HB1.out.size _
    have hF2 : w2.heap[w1.heap.size]? = some (fauO z 0) := by rw [hw2]; exact at_new _ _
    have HB2 := hide hB2
    have HF2 := hide hF2
    simp only [fauO] at hw2
    clear hb1 hz hze hB2 hF2 HX HP
    go_wp2_with fail
    rw [← hw2]
    clear hw2
    refine (HR.out w2 HB2.out).mono ?_
    rintro e w3 ⟨rfl, rfl⟩
    go_wp2_with fail
    refine (HBg.out w2).mono ?_
    rintro e w4 ⟨rfl, hb4⟩
    have HB4 := hide (HB2.out.trans (hb4.mono HB2.out.size))
    have HF4 := hide (below_at hb4 HF2.out)
    clear hb4 HB2 HF2
    go_wp2_with fail
    refine (HBg.out w4).mono ?_
    rintro e w5 ⟨rfl, hb5⟩
    have HB5 := hide (HB4.out.trans (hb5.mono HB4.out.size))
    obtain ⟨c0, c1, fz⟩ := fau_cells (below_at hb5 HF4.out)
    clear hb5 HB4 HF4
    go_wp2
    go_ret
    exact ⟨rfl, HB5.out⟩
  · exact absurd hz HP.out
  · exact absurd hz HP.out

set_option maxRecDepth 100000 in
set_option maxHeartbeats 16000000 in
theorem tokenAlls_good (hesc : EscOk) (d : Int) (v : Value) (l : List Int) (w : World) (h : PatV w v l) (hp : patE d l = 0) : Calls Try.prog 4 #[.int .i64 d, v] w fun e w' => e = .returned (.bool true) ∧ Below w.heap.size w w' := by
  obtain ⟨hd, hl, hpts⟩ := patE_ok hp
  have HX := hide (all_any d v l w h)
  have HR := hide (fun W (hb : Below w.heap.size w W) => right_any d v l W (h.below hb))
  have HBg := hide (fun W => begun_any W)
  have HTk : Hid (∀ W, Below w.heap.size w W → ∀ (i : Nat) (hi : i < l.length), Calls Try.prog 10 #[.int .i64 d, v, .int .i64 i] W fun e w' => NextE (nextT d l i) W e w') := fun W hb i hi => by
    obtain ⟨x, c, hv, hcap, hrd⟩ := h.some (by omega)
    have := tokenAt_any hesc d x c l i W (hrd.below hb) hi hl hcap hpts hd
    rw [show nextT d l i = tokT d l i l[i] from by unfold nextT; rw [List.getElem?_eq_getElem hi], hv]
    exact this
  obtain ⟨ao, c, hv⟩ := h.shape
  rw [hp] at HR
  obtain ⟨n, hn⟩ : ∃ n, n = l.length := ⟨_, rfl⟩
  have HN := hide hn
  rw [← hn] at hv hl HTk
  rw [hv] at HX HR HTk ⊢
  have HP := hide hp
  clear h hv hn hp hd hpts hesc
  go_enter Try.func4, Try.ntmps4
  go_wp2_with fail
  refine HX.out.mono ?_
  rintro e w1 ⟨hb1, ⟨hz, rfl⟩ | ⟨hz, i0, L0, S0, z, hrun, hil, hR, rfl⟩ | ⟨hz, L0, S0, v1, v2, hrun, rfl, ho1, ho2⟩⟩
  · exact absurd HP.out hz
  · -- a fault
    have hzn := next_err hR
    have hzb : (z == 0) = false := by rcases hzn with rfl | rfl | rfl <;> rfl
    have HB1 := hide hb1
    obtain ⟨w2, hw2⟩ : ∃ w2, w2 = w1.alloc (fauO z i0) := ⟨_, rfl⟩
    have hB2 : Below w.heap.size w w2 := by rw [hw2]; exact HB1.out.alloc HB1.out.size _
    have hF2 : w2.heap[w1.heap.size]? = some (fauO z i0) := by rw [hw2]; exact at_new _ _
    have HB2 := hide hB2
    have HF2 := hide hF2
    have HRun0 := hide hrun
    have HR0 := hide hR
    have HIl := hide hil
    simp only [fauO] at hw2
    clear hb1 hz hB2 hF2 HX hrun hR hzn hil
    go_wp2_with fail
    rw [← hw2]
    clear hw2
    refine (HR.out w2 HB2.out).mono ?_
    rintro e w3 ⟨rfl, rfl⟩
    go_wp2_with fail
    refine (HBg.out w2).mono ?_
    rintro e w4 ⟨rfl, hb4⟩
    have HB4 := hide (HB2.out.trans (hb4.mono HB2.out.size))
    have HF4 := hide (below_at hb4 HF2.out)
    clear hb4 HB2 HF2
    go_wp2
    go_loopw [9, 10] (fun s t wr => ∃ (i : Nat) (L : List Tok) (S : List Int), i ≤ n ∧ s = .int .i64 (L.length : Nat) ∧ t = .int .i64 i ∧ Run d l i L S ∧ wr.heap[w1.heap.size]? = some (fauO z i0) ∧ Below w.heap.size w wr) (fun _ t _ => n - (intOf t).toNat)
    case atStart => exact ⟨0, [], [], Nat.zero_le _, rfl, rfl, .nil, HF4.out, HB4.out⟩
    case round =>
      obtain ⟨i, L, S, hin, rfl, rfl, hru, hf, hb⟩ := hrel
      have HRu := hide hru
      have HF5 := hide hf
      have HB5 := hide hb
      have hLl : L.length ≤ 300 := by have := hru.len; omega
      obtain ⟨w5, hw5⟩ : ∃ w5, w5 = wr := ⟨_, rfl⟩
      subst hw5
      clear hf hb hru HF4 HB4
      by_cases hlt : i < n
      · have e1 : (i : Int) < (n : Int) := by omega
        go_wp2_with fail
        refine (HTk.out w5 HB5.out i hlt).mono ?_
        rintro e w6 (⟨t, k, hR6, rfl, hb6⟩ | ⟨z6, hR6, rfl, hb6⟩)
        · have HR6 := hide hR6
          have HB6 := hide (HB5.out.trans (hb6.mono HB5.out.size))
          have HF6 := hide (below_at hb6 HF5.out)
          have hkn : k ≤ n := by have := run_in HRu.out hR6 HRun0.out (fun t k e => by rw [HR0.out] at e; cases e); have := HN.out; have := HIl.out; omega
          have hik := next_pos hR6
          clear hR6 hb6 HB5 HF5
          have HF7 : Hid ((w6.alloc (tokO t)).heap[w1.heap.size]? = some (fauO z i0)) := at_old HF6.out
          have HB7 : Hid (Below w.heap.size w (w6.alloc (tokO t))) := HB6.out.alloc HB6.out.size _
          have hlt6 : w1.heap.size < w6.heap.size := lt_of_block HF6.out
          obtain ⟨w7, hw7⟩ : ∃ w7, w7 = w6.alloc (tokO t) := ⟨_, rfl⟩
          rw [← hw7] at HF7 HB7
          simp only [tokO] at hw7
          obtain ⟨c0, c1, fz⟩ := fau_cells HF7.out
          obtain ⟨q, hq⟩ : ∃ q, q = L.length := ⟨_, rfl⟩
          rw [← hq] at hLl ⊢
          have HQ := hide hq
          clear hq HB6 HF6
          simp only [tokV]
          go_wp2_with fail
          rw [← hw7]
          clear hw7
          go_quiet (fail)
          go_wp2
          go_roundw
          case rel => exact ⟨k, L ++ [t], S ++ [(i : Int)], hkn, by rw [List.length_append]; have := HQ.out; simp; omega, rfl, .step HRu.out HR6.out, HF7.out, HB7.out.trans ⟨rfl, rfl, rfl, Nat.le_refl _, fun _ _ => rfl⟩⟩
          case measure => simp [intOf]; omega
        · obtain ⟨he1, he2⟩ := run_err HRu.out HRun0.out hR6 HR0.out
          subst he1 he2
          have HB6 := hide (HB5.out.trans (hb6.mono HB5.out.size))
          have HF6 := hide (below_at hb6 HF5.out)
          clear hR6 hb6 HB5 HF5
          have HF7 : Hid ((w6.alloc (tokO {})).heap[w1.heap.size]? = some (fauO z6 i)) := at_old HF6.out
          have HB7 : Hid (Below w.heap.size w (w6.alloc (tokO {}))) := HB6.out.alloc HB6.out.size _
          obtain ⟨w7, hw7⟩ : ∃ w7, w7 = w6.alloc (tokO {}) := ⟨_, rfl⟩
          rw [← hw7] at HF7 HB7
          simp only [tokO] at hw7
          obtain ⟨c0, c1, fz⟩ := fau_cells HF7.out
          have hzb2 : (z6 != 0) = true := by simpa using hzb
          clear HB6 HF6
          simp only [tokV]
          go_upto_region 9 with fail
          rw [← hw7]
          clear hw7
          go_wp2
          go_ret
          exact ⟨rfl, HB7.out⟩
      · exfalso
        have hi : i = l.length := by have := HN.out; omega
        subst hi
        exact run_bad HRun0.out (by have := HIl.out; omega) HRu.out HR0.out
  · -- none
    have HB1 := hide hb1
    obtain ⟨a1, k1, rfl⟩ := own_shape ho1
    obtain ⟨a2, k2, rfl⟩ := own_shape ho2
    obtain ⟨w2, hw2⟩ : ∃ w2, w2 = w1.alloc (fauO 0 0) := ⟨_, rfl⟩
    have hB2 : Below w.heap.size w w2 := by rw [hw2]; exact HB1.out.alloc HB1.out.size _
    have hF2 : w2.heap[w1.heap.size]? = some (fauO 0 0) := by rw [hw2]; exact at_new _ _
    have hO1 : w2.ownsRow w.heap.size 24 8 (.slice a1 L0.length k1) L0.length (cells8 L0) := by rw [hw2]; exact ho1.alloc _
    have hO2 : w2.ownsRow w.heap.size 3 1 (.slice a2 S0.length k2) S0.length (i64s S0) := by rw [hw2]; exact ho2.alloc _
    have HB2 := hide hB2
    have HF2 := hide hF2
    have HO1 := hide hO1
    have HO2 := hide hO2
    have HRun0 := hide hrun
    have hSL := hrun.len
    have HS0 := hide hSL.2
    obtain ⟨q0, hq0⟩ : ∃ q0, q0 = L0.length := ⟨_, rfl⟩
    have HQ0 := hide hq0
    rw [hSL.2, ← hq0] at HO2 ⊢
    rw [← hq0] at HO1 hSL
    have hq3 : q0 ≤ 300 := by have := HN.out; omega
    simp only [fauO] at hw2
    clear hb1 hz hB2 hF2 HX hrun hO1 hO2 ho1 ho2 hSL hq0
    go_wp2_with fail
    rw [← hw2]
    clear hw2
    refine (HR.out w2 HB2.out).mono ?_
    rintro e w3 ⟨rfl, rfl⟩
    go_wp2_with fail
    refine (HBg.out w2).mono ?_
    rintro e w4 ⟨rfl, hb4⟩
    have HB4 := hide (HB2.out.trans (hb4.mono HB2.out.size))
    have HF4 := hide (below_at hb4 HF2.out)
    have HP4 := hide (own_keep HO1.out hb4)
    have HQ4 := hide (own_keep HO2.out hb4)
    clear hb4 HB2 HF2 HO1 HO2
    go_wp2
    go_loopw [9, 10] (fun s t wr => ∃ (i : Nat) (L : List Tok) (S : List Int), i ≤ n ∧ s = .int .i64 (L.length : Nat) ∧ t = .int .i64 i ∧ Run d l i L S ∧ wr.heap[w1.heap.size]? = some (fauO 0 0) ∧ Below w.heap.size w wr ∧ wr.ownsRow w.heap.size 24 8 (.slice a1 q0 k1) q0 (cells8 L0) ∧ wr.ownsRow w.heap.size 3 1 (.slice a2 q0 k2) q0 (i64s S0)) (fun _ t _ => n - (intOf t).toNat)
    case atStart => exact ⟨0, [], [], Nat.zero_le _, rfl, rfl, .nil, HF4.out, HB4.out, HP4.out, HQ4.out⟩
    case round =>
      obtain ⟨i, L, S, hin, rfl, rfl, hru, hf, hb, hp5, hq5⟩ := hrel
      have HRu := hide hru
      have HF5 := hide hf
      have HB5 := hide hb
      have HP5 := hide hp5
      have HQ5 := hide hq5
      have hLl : L.length ≤ 300 := by have := hru.len; omega
      obtain ⟨w5, hw5⟩ : ∃ w5, w5 = wr := ⟨_, rfl⟩
      subst hw5
      clear hf hb hru HF4 HB4 HP4 HQ4 hp5 hq5
      by_cases hlt : i < n
      · have e1 : (i : Int) < (n : Int) := by omega
        have hLt := run_lt HRu.out (by have := HN.out; omega) HRun0.out
        rw [← HQ0.out] at hLt
        obtain ⟨t0, k0, r1, r2, r3⟩ := run_next HRu.out HRun0.out (by have := HQ0.out; omega)
        go_wp2_with fail
        refine (HTk.out w5 HB5.out i hlt).mono ?_
        rintro e w6 (⟨t, k, hR6, rfl, hb6⟩ | ⟨z6, hR6, rfl, hb6⟩)
        · have htt : t = t0 := by rw [hR6] at r1; injection r1 with r1; injection r1
          subst htt
          have HR6 := hide hR6
          have HB6 := hide (HB5.out.trans (hb6.mono HB5.out.size))
          have HF6 := hide (below_at hb6 HF5.out)
          have hkn : k ≤ n := by have := run_in HRu.out hR6 HRun0.out (fun t k => next_end d l t k); have := HN.out; omega
          have hik := next_pos hR6
          have HP6 := hide (own_keep HP5.out hb6)
          have HQ6 := hide (own_keep HQ5.out hb6)
          clear hR6 hb6 HB5 HF5 HP5 HQ5 r1
          have HF7 : Hid ((w6.alloc (tokO t)).heap[w1.heap.size]? = some (fauO 0 0)) := at_old HF6.out
          have HB7 : Hid (Below w.heap.size w (w6.alloc (tokO t))) := HB6.out.alloc HB6.out.size _
          have HT7 : Hid ((w6.alloc (tokO t)).heap[w6.heap.size]? = some (tokO t)) := at_new _ _
          have HP7 := hide (HP6.out.alloc (tokO t))
          have HQ7 := hide (HQ6.out.alloc (tokO t))
          obtain ⟨w7, hw7⟩ : ∃ w7, w7 = w6.alloc (tokO t) := ⟨_, rfl⟩
          rw [← hw7] at HF7 HB7 HT7 HP7 HQ7
          simp only [tokO] at hw7
          obtain ⟨M, hM⟩ : ∃ M, M = w6.heap.size := ⟨_, rfl⟩
          have HM := hide hM
          rw [← hM] at HT7
          obtain ⟨c0, c1, fz⟩ := fau_cells HF7.out
          obtain ⟨m0, m1, m2, m3, m4, m5, m6, m7⟩ := tok_cells HT7.out
          have hkl : L.length < L0.length := by have := HQ0.out; omega
          obtain ⟨g1, cp1, hv1⟩ := own_some HP7.out (by omega)
          obtain ⟨rfl⟩ : a1 = some ⟨g1, 0, none⟩ := by cases hv1; rfl
          obtain ⟨t0, t1, t2, t3, t4, t5, t6, t7⟩ := tok_at HP7.out HQ0.out L.length hkl
          rw [show L0[L.length] = t from by rw [List.getElem?_eq_getElem hkl] at r2; injection r2] at t0 t1 t2 t3 t4 t5 t6 t7
          obtain ⟨g2, cp2, hv2⟩ := own_some HQ7.out (by omega)
          obtain ⟨rfl⟩ : a2 = some ⟨g2, 0, none⟩ := by cases hv2; rfl
          have p0 : w7.cell? ⟨g2, L.length, none⟩ = some (.int .i64 i) := by
            rw [HQ7.out.cellAt L.length (by omega)]
            unfold i64s
            rw [List.getElem?_map, r3]; rfl
          obtain ⟨q, hq⟩ : ∃ q, q = L.length := ⟨_, rfl⟩
          rw [← hq] at hLl hLt t0 t1 t2 t3 t4 t5 t6 t7 p0 ⊢
          have HQ := hide hq
          have e2 : (q : Int) < (q0 : Int) := by omega
          have e3 : (0 : Int) ≤ (q : Int) := by omega
          have hd1 : decide ((q0 : Int) ≤ (q : Int)) = false := decide_eq_false (by omega)
          clear hq HB6 HF6 HP6 HQ6 r2 r3 hkl hv1 hv2 hM
          simp only [tokV]
          go_upto_region 11 with fail
          rw [← hw7, ← HM.out]
          clear hw7 HM
          go_quiet (fail)
          go_wp2
          go_roundw
          case rel => exact ⟨k, L ++ [t], S ++ [(i : Int)], hkn, by rw [List.length_append]; have := HQ.out; simp; omega, rfl, .step HRu.out HR6.out, HF7.out, HB7.out.trans ⟨rfl, rfl, rfl, Nat.le_refl _, fun _ _ => rfl⟩, own_keep HP7.out ⟨rfl, rfl, rfl, Nat.le_refl _, fun _ _ => rfl⟩, own_keep HQ7.out ⟨rfl, rfl, rfl, Nat.le_refl _, fun _ _ => rfl⟩⟩
          case measure => simp [intOf]; omega
        · rw [hR6] at r1; cases r1
      · have hi : i = l.length := by have := HN.out; omega
        have hqq : L.length = q0 := by
          rcases Nat.lt_trichotomy L.length L0.length with h1 | h1 | h1
          · obtain ⟨t, k2, a, -⟩ := run_next HRu.out HRun0.out h1
            unfold nextT at a
            rw [hi, List.getElem?_eq_none (Nat.le_refl _)] at a
            cases a
          · have := HQ0.out; omega
          · obtain ⟨t, k2, a, -⟩ := run_next HRun0.out HRu.out h1
            unfold nextT at a
            rw [List.getElem?_eq_none (Nat.le_refl _)] at a
            cases a
        have e1 : ¬ (i : Int) < (n : Int) := by omega
        obtain ⟨q, hq⟩ : ∃ q, q = L.length := ⟨_, rfl⟩
        rw [← hq] at hLl hqq ⊢
        subst hqq
        obtain ⟨c0, c1, fz⟩ := fau_cells HF5.out
        clear hq hi
        go_wp2
        go_ret
        exact ⟨rfl, HB5.out⟩

theorem tokenAlls_walk (hesc : EscOk) (d : Int) (v : Value) (l : List Int) (w : World) (h : PatV w v l) : Calls Try.prog 4 #[.int .i64 d, v] w fun e w' => e = .returned (.bool true) ∧ Below w.heap.size w w' := by
  by_cases hp : patE d l = 0
  · exact tokenAlls_good hesc d v l w h hp
  · exact tokenAlls_bad d v l w h hp

end Go.Proofs.Ytkpndghmiidkgaa
