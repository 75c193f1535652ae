/- TokenNexts' walk: the program's reader and the reference's answer alike. -/
import Derived.Test.YtkpndghmiidkgaaRb9
import Derived.Test.YtkpndghmiidkgaaTnext3
import Derived.Test.YtkpndghmiidkgaaTmv
import Derived.Test.YtkpndghmiidkgaaTplain
namespace Go.Proofs.Ytkpndghmiidkgaa
open Go.RowKit
set_option linter.unusedVariables false

theorem tset_other {W : World} {N b : Nat} {o : Obj} {t : Tok} (h : W.heap[b]? = some o) (hb : b ≠ N) : (tset W N t).heap[b]? = some o := by
  simp only [tset]
  rw [Below.heap_setCell _ _ _ _ (fun e => hb e), Below.heap_setCell _ _ _ _ (fun e => hb e), Below.heap_setCell _ _ _ _ (fun e => hb e), Below.heap_setCell _ _ _ _ (fun e => hb e), Below.heap_setCell _ _ _ _ (fun e => hb e), Below.heap_setCell _ _ _ _ (fun e => hb e), Below.heap_setCell _ _ _ _ (fun e => hb e), Below.heap_setCell _ _ _ _ (fun e => hb e)]
  exact h
theorem alloc2_at (w : World) (t t' : Tok) : ((w.alloc (tokO t)).alloc (tokO t')).heap[w.heap.size]? = some (tokO t) := at_old (at_new _ _)

set_option maxRecDepth 100000 in
set_option maxHeartbeats 8000000 in
theorem tokenNexts_bad (d a z : Int) (v : Value) (l : List Int) (w : World) (h : PatV w v l) (hN : nextR d l a = .error z) (hz0 : z ≠ 0) (hz : patE d l = z ∨ (patE d l = 0 ∧ z = 3 ∧ (a < 0 ∨ (l.length : Int) ≤ a))) : Calls Try.prog 3 #[.int .i64 d, v, .int .i64 a] w fun e w' => e = .returned (.bool true) ∧ Below w.heap.size w w' := by
  have HX := hide (next_any2 d a v l w h)
  have HR := hide (fun W (hb : Below w.heap.size w W) => right_any d v l W (h.below hb))
  have HBg := hide (fun W => begun_any W)
  obtain ⟨ao, c, hv⟩ := h.shape
  obtain ⟨n, hn⟩ : ∃ n, n = l.length := ⟨_, rfl⟩
  rw [← hn] at hv hz
  rw [hv] at HX HR ⊢
  have HNn := hide hN
  clear h hv hn hN
  go_enter Try.func3, Try.ntmps3
  go_wp2_with fail
  refine HX.out.mono ?_
  rintro e w1 (⟨t, k, hR, rfl, hkl, hb1⟩ | ⟨z', hR, rfl, hb1⟩)
  · rw [HNn.out] at hR; cases hR
  · have hzz : z' = z := by rw [HNn.out] at hR; injection hR with hR; exact hR.symm
    subst hzz
    have HB1 := hide hb1
    clear hR hb1 HX
    have HRt := hide (HR.out (w1.alloc (tokO {})) (HB1.out.alloc HB1.out.size _))
    simp only [tokO] at HRt
    clear HR
    have hzb : (z' == 0) = false := by simpa using hz0
    simp only [tokV]
    go_wp2_with fail
    refine HRt.out.mono ?_
    rintro e w2 ⟨rfl, hw2⟩
    obtain ⟨w3, hw3⟩ : ∃ w3, w3 = (w1.alloc (tokO {})).alloc (tokO {}) := ⟨_, rfl⟩
    have hT1 : w3.heap[w1.heap.size]? = some (tokO {}) := by rw [hw3]; exact at_old (at_new _ _)
    have hT2 : w3.heap[w1.heap.size + 1]? = some (tokO {}) := by rw [hw3]; exact at_new' _ _ (by simp)
    have hB3 : Below w.heap.size w w3 := by rw [hw3]; exact (HB1.out.alloc HB1.out.size _).alloc (by have := HB1.out.size; simp; omega) _
    have HB3 := hide hB3
    have HT1 := hide hT1
    have HT2 := hide hT2
    have HG := hide (HBg.out w3)
    simp only [tokO] at hw3
    clear hT1 hT2 hB3 HRt HBg
    rcases hz with hpe | ⟨hpe, rfl, hra⟩
    · have hpb : (patE d l == 0) = false := by rw [hpe]; exact hzb
      rw [hpe]
      clear hpb hpe
      subst hw2
      go_wp2_with fail
      rw [← hw3]
      clear hw3
      refine HG.out.mono ?_
      rintro e w4 ⟨rfl, hb4⟩
      have HB4 := hide (HB3.out.trans (hb4.mono HB3.out.size))
      obtain ⟨m0, m1, m2, m3, m4, m5, m6, m7⟩ := tok_cells (below_at hb4 HT1.out)
      obtain ⟨q0, q1, q2, q3, q4, q5, q6, q7⟩ := tok_cells (below_at hb4 HT2.out)
      clear hb4
      go_wp2
      go_ret
      exact ⟨rfl, HB4.out⟩
    · rw [hpe]
      clear hpe
      subst hw2
      by_cases ha : a < 0
      · clear hra
        go_wp2_with fail
        rw [← hw3]
        clear hw3
        refine HG.out.mono ?_
        rintro e w4 ⟨rfl, hb4⟩
        have HB4 := hide (HB3.out.trans (hb4.mono HB3.out.size))
        obtain ⟨m0, m1, m2, m3, m4, m5, m6, m7⟩ := tok_cells (below_at hb4 HT1.out)
        obtain ⟨q0, q1, q2, q3, q4, q5, q6, q7⟩ := tok_cells (below_at hb4 HT2.out)
        clear hb4
        go_wp2
        go_ret
        exact ⟨rfl, HB4.out⟩
      · have hra2 : (n : Int) ≤ a := by omega
        clear hra
        go_wp2_with fail
        rw [← hw3]
        clear hw3
        refine HG.out.mono ?_
        rintro e w4 ⟨rfl, hb4⟩
        have HB4 := hide (HB3.out.trans (hb4.mono HB3.out.size))
        obtain ⟨m0, m1, m2, m3, m4, m5, m6, m7⟩ := tok_cells (below_at hb4 HT1.out)
        obtain ⟨q0, q1, q2, q3, q4, q5, q6, q7⟩ := tok_cells (below_at hb4 HT2.out)
        clear hb4
        go_wp2
        go_ret
        exact ⟨rfl, HB4.out⟩

set_option maxRecDepth 100000 in
set_option maxHeartbeats 8000000 in
theorem tokenNexts_good (hesc : EscOk) (d : Int) (i : Nat) (v : Value) (l : List Int) (w : World) (h : PatV w v l) (hp : patE d l = 0) (hi : i < l.length) : Calls Try.prog 3 #[.int .i64 d, v, .int .i64 i] w fun e w' => e = .returned (.bool true) ∧ Below w.heap.size w w' := by
  obtain ⟨hd, hl, hpts⟩ := patE_ok hp
  have hN : nextR d l i = tokT d l i l[i] := by
    unfold nextR
    rw [if_neg (by rw [hp]; simp), if_neg (by omega)]
    unfold nextT
    rw [Int.toNat_natCast, List.getElem?_eq_getElem hi]
  have HX := hide (next_any2 d i v l w h)
  rw [hN] at HX
  have HR := hide (fun W (hb : Below w.heap.size w W) => right_any d v l W (h.below hb))
  rw [hp] at HR
  have HBg := hide (fun W => begun_any W)
  obtain ⟨x, c, hv, hcap, hrd⟩ := h.some (by omega)
  have HTk := hide (fun W (hb : Below w.heap.size w W) => tokenAt_any hesc d x c l i W (hrd.below hb) hi hl hcap hpts hd)
  obtain ⟨RR, hRR⟩ : ∃ RR, RR = tokT d l i l[i] := ⟨_, rfl⟩
  rw [← hRR] at HX HTk
  obtain ⟨n, hn⟩ : ∃ n, n = l.length := ⟨_, rfl⟩
  rw [← hn] at hv hi HTk
  rw [hv] at HX HR ⊢
  have e0 : ¬ ((i : Int) < 0) := by omega
  have e1 : ¬ ((n : Int) ≤ (i : Int)) := by omega
  clear h hv hn hN hRR hd hl hpts hcap hrd hp hesc
  go_enter Try.func3, Try.ntmps3
  go_wp2_with fail
  refine HX.out.mono ?_
  rintro e w1 (⟨t, k, hR, rfl, hkl, hb1⟩ | ⟨z, hR, rfl, hb1⟩)
  · have HB1 := hide hb1
    have HRt := hide (HR.out (w1.alloc (tokO t)) (HB1.out.alloc HB1.out.size _))
    simp only [tokO] at HRt
    clear HR hb1 HX hkl
    simp only [tokV]
    go_wp2_with fail
    refine HRt.out.mono ?_
    rintro e w2 ⟨rfl, hw2⟩
    obtain ⟨w3, hw3⟩ : ∃ w3, w3 = (w1.alloc (tokO t)).alloc (tokO {}) := ⟨_, rfl⟩
    have hT1 : w3.heap[w1.heap.size]? = some (tokO t) := by rw [hw3]; exact at_old (at_new _ _)
    have hT2 : w3.heap[w1.heap.size + 1]? = some (tokO {}) := by rw [hw3]; exact at_new' _ _ (by simp)
    have hB3 : Below w.heap.size w w3 := by rw [hw3]; exact (HB1.out.alloc HB1.out.size _).alloc (by have := HB1.out.size; simp; omega) _
    have HB3 := hide hB3
    have HT1 := hide hT1
    have HT2 := hide hT2
    simp only [tokO] at hw3
    clear hT1 hT2 hB3 HRt
    subst hw2
    go_wp2_with fail
    rw [← hw3]
    clear hw3
    refine (HTk.out w3 HB3.out).mono ?_
    rintro e w4 (⟨t', k', hR', rfl, hb4⟩ | ⟨z', hR', rfl, hb4⟩)
    · have he : (t, k) = (t', k') := by rw [hR] at hR'; injection hR'
      injection he with e2 e3
      subst e2 e3
      have HB4 := hide (HB3.out.trans (hb4.mono HB3.out.size))
      have HT4 := hide (below_at hb4 HT1.out)
      have HU4 := hide (below_at hb4 HT2.out)
      have hsz := HB1.out.size
      obtain ⟨q0, q1, q2, q3, q4, q5, q6, q7⟩ := tok_cells HU4.out
      have qf := tok_free HU4.out
      clear hb4 HT1 HT2 hR hR' HB3
      simp only [tokV]
      go_upto_region 8 with fail
      obtain ⟨w5, hw5⟩ : ∃ w5, w5 = tset w4 (w1.heap.size + 1) t := ⟨_, rfl⟩
      have hT5 : w5.heap[w1.heap.size]? = some (tokO t) := by rw [hw5]; exact tset_other HT4.out (by omega)
      have hU5 : w5.heap[w1.heap.size + 1]? = some (tokO t) := by rw [hw5]; exact tok_set HU4.out t
      have hB5 : Below w.heap.size w w5 := by rw [hw5]; exact tset_below HB4.out (by omega) _
      have HT5 := hide hT5
      have HU5 := hide hU5
      have HB5 := hide hB5
      simp only [tset] at hw5
      rw [← hw5]
      clear hw5 hT5 hU5 hB5 q0 q1 q2 q3 q4 q5 q6 q7 qf HT4 HU4 HB4
      go_wp2_with fail
      refine (HBg.out w5).mono ?_
      rintro e w6 ⟨rfl, hb6⟩
      have HB6 := hide (HB5.out.trans (hb6.mono HB5.out.size))
      obtain ⟨m0, m1, m2, m3, m4, m5, m6, m7⟩ := tok_cells (below_at hb6 HT5.out)
      obtain ⟨q0, q1, q2, q3, q4, q5, q6, q7⟩ := tok_cells (below_at hb6 HU5.out)
      clear hb6
      go_wp2
      go_ret
      exact ⟨rfl, HB6.out⟩
    · rw [hR] at hR'; cases hR'
  · have HB1 := hide hb1
    have HRt := hide (HR.out (w1.alloc (tokO {})) (HB1.out.alloc HB1.out.size _))
    simp only [tokO] at HRt
    clear HR hb1 HX
    simp only [tokV]
    go_wp2_with fail
    refine HRt.out.mono ?_
    rintro e w2 ⟨rfl, hw2⟩
    obtain ⟨w3, hw3⟩ : ∃ w3, w3 = (w1.alloc (tokO {})).alloc (tokO {}) := ⟨_, rfl⟩
    have hT1 : w3.heap[w1.heap.size]? = some (tokO {}) := by rw [hw3]; exact at_old (at_new _ _)
    have hT2 : w3.heap[w1.heap.size + 1]? = some (tokO {}) := by rw [hw3]; exact at_new' _ _ (by simp)
    have hB3 : Below w.heap.size w w3 := by rw [hw3]; exact (HB1.out.alloc HB1.out.size _).alloc (by have := HB1.out.size; simp; omega) _
    have HB3 := hide hB3
    have HT1 := hide hT1
    have HT2 := hide hT2
    simp only [tokO] at hw3
    clear hT1 hT2 hB3 HRt
    subst hw2
    go_wp2_with fail
    rw [← hw3]
    clear hw3
    refine (HTk.out w3 HB3.out).mono ?_
    rintro e w4 (⟨t', k', hR', rfl, hb4⟩ | ⟨z', hR', rfl, hb4⟩)
    · rw [hR] at hR'; cases hR'
    · have he : z = z' := by rw [hR] at hR'; injection hR'
      subst he
      have HB4 := hide (HB3.out.trans (hb4.mono HB3.out.size))
      have HT4 := hide (below_at hb4 HT1.out)
      have HU4 := hide (below_at hb4 HT2.out)
      have hsz := HB1.out.size
      obtain ⟨q0, q1, q2, q3, q4, q5, q6, q7⟩ := tok_cells HU4.out
      have qf := tok_free HU4.out
      clear hb4 HT1 HT2 hR hR' HB3
      simp only [tokV]
      go_upto_region 8 with fail
      obtain ⟨w5, hw5⟩ : ∃ w5, w5 = tset w4 (w1.heap.size + 1) {} := ⟨_, rfl⟩
      have hT5 : w5.heap[w1.heap.size]? = some (tokO {}) := by rw [hw5]; exact tset_other HT4.out (by omega)
      have hU5 : w5.heap[w1.heap.size + 1]? = some (tokO {}) := by rw [hw5]; exact tok_set HU4.out {}
      have hB5 : Below w.heap.size w w5 := by rw [hw5]; exact tset_below HB4.out (by omega) _
      have HT5 := hide hT5
      have HU5 := hide hU5
      have HB5 := hide hB5
      simp only [tset] at hw5
      rw [← hw5]
      clear hw5 hT5 hU5 hB5 q0 q1 q2 q3 q4 q5 q6 q7 qf HT4 HU4 HB4
      go_wp2_with fail
      refine (HBg.out w5).mono ?_
      rintro e w6 ⟨rfl, hb6⟩
      have HB6 := hide (HB5.out.trans (hb6.mono HB5.out.size))
      obtain ⟨m0, m1, m2, m3, m4, m5, m6, m7⟩ := tok_cells (below_at hb6 HT5.out)
      obtain ⟨q0, q1, q2, q3, q4, q5, q6, q7⟩ := tok_cells (below_at hb6 HU5.out)
      clear hb6
      go_wp2
      go_ret
      exact ⟨rfl, HB6.out⟩

theorem tokenNexts_walk (hesc : EscOk) (d a : Int) (v : Value) (l : List Int) (w : World) (h : PatV w v l) : Calls Try.prog 3 #[.int .i64 d, v, .int .i64 a] w fun e w' => e = .returned (.bool true) ∧ Below w.heap.size w w' := by
  by_cases hp : patE d l = 0
  · by_cases hr : a < 0 ∨ (l.length : Int) ≤ a
    · exact tokenNexts_bad d a 3 v l w h (by unfold nextR; rw [if_neg (by rw [hp]; simp), if_pos hr]) (by decide) (.inr ⟨hp, rfl, hr⟩)
    · obtain ⟨i, rfl⟩ : ∃ i : Nat, a = (i : Int) := ⟨a.toNat, by omega⟩
      exact tokenNexts_good hesc d i v l w h hp (by omega)
  · exact tokenNexts_bad d a (patE d l) v l w h (by unfold nextR; rw [if_pos hp]) hp (.inl rfl)

end Go.Proofs.Ytkpndghmiidkgaa
