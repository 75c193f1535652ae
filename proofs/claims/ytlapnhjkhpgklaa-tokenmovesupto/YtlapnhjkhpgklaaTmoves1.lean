/- TokenMoves' walk. -/
import Derived.Test.YtlapnhjkhpgklaaTmv
import Derived.Test.YtlapnhjkhpgklaaTnext3
namespace Go.Proofs.Ytlapnhjkhpgklaa
open Go.RowKit
set_option linter.unusedVariables false

theorem patE_app {d : Int} {a l : List Int} (h : patE 1 (a ++ l) = 0) (hd : d = 1 ∨ d = 2 ∨ d = 3) : patE d (a ++ l) = 0 ∧ patE d l = 0 := by
  obtain ⟨_, h2, h3⟩ := patE_ok h
  have key : ∀ m : List Int, m.length ≤ 300 → (∀ p ∈ m, 0 ≤ p ∧ p ≤ 1114111) → patE d m = 0 := fun m hm hp => by
    unfold patE
    rw [if_neg (by omega), if_neg (by omega), if_pos]
    rw [List.all_eq_true]
    intro p hpm
    have := hp p hpm
    simp [pointB]
    omega
  rw [List.length_append] at h2
  exact ⟨key _ (by rw [List.length_append]; omega) h3, key _ (by omega) (fun p hp => h3 p (by simp [hp]))⟩
theorem patE_seven {d : Int} {l : List Int} (h : patE d l = 7) : ¬ (d = 1 ∨ d = 2 ∨ d = 3) := by
  intro hd
  unfold patE at h
  rw [if_neg (by omega)] at h
  split at h
  · cases h
  · split at h <;> cases h
/-- both answers, where the law asks for them. -/
theorem moves_both {d : Int} {a l : List Int} (hp : patE 1 (a ++ l) = 0) (hd : d = 1 ∨ d = 2 ∨ d = 3) (hl : l ≠ []) : nextR d l 0 = nextT d l 0 ∧ nextR d (a ++ l) a.length = shR a.length (nextT d l 0) := by
  obtain ⟨h1, h2⟩ := patE_app hp hd
  have hll : 0 < l.length := List.length_pos_iff.2 hl
  constructor
  · unfold nextR
    rw [if_neg (by simp [h2]), if_neg (by simp; omega)]
    rfl
  · unfold nextR
    rw [if_neg (by simp [h1]), if_neg (by rw [List.length_append]; omega)]
    have := next_sh a l d 0
    rw [Nat.zero_add] at this
    simpa using this

theorem nextR_err {d : Int} {l : List Int} {a z : Int} (h : nextR d l a = .error z) (hd : d = 1 ∨ d = 2 ∨ d = 3) : z ≠ 7 ∧ z ≠ 0 := by
  unfold nextR at h
  split at h
  · injection h with h
    subst h
    rename_i h0
    exact ⟨fun e => patE_seven e hd, h0⟩
  · split at h
    · injection h with h; omega
    · have := next_err h
      unfold eOk at this
      omega

set_option maxRecDepth 100000 in
set_option maxHeartbeats 16000000 in
theorem moves_long (d : Int) (va vl : Value) (A L : List Int) (w : World) (hA : PatV w va A) (hL : PatV w vl L) (hs : A.length + L.length ≤ 3000000) (hc : 300 < A.length + L.length) : Calls Try.prog 5 #[.int .i64 d, va, vl] w fun e w' => e = .returned (.bool true) ∧ Below w.heap.size w w' := by
  have HB := hide (begun_any w)
  have HX := hide (fun w1 (hb : Below w.heap.size w w1) => next_any2 d 0 vl L w1 (hL.below hb))
  obtain ⟨ao, ca, hva⟩ := hA.shape
  obtain ⟨lo, cl, hvl⟩ := hL.shape
  have HA := hide hA
  have HL := hide hL
  obtain ⟨na, hna⟩ : ∃ n, n = A.length := ⟨_, rfl⟩
  obtain ⟨nl, hnl⟩ : ∃ n, n = L.length := ⟨_, rfl⟩
  have HNA := hide hna
  have HNL := hide hnl
  rw [← hna] at hva
  rw [← hnl] at hvl
  rw [← hna, ← hnl] at hs
  rw [hva] at HA ⊢
  rw [hvl] at HX HL ⊢
  clear hA hL hva hvl hna hnl
  have hcc : (300 : Int) < ((na + nl : Nat) : Int) := by have := HNA.out; have := HNL.out; omega
  go_enter Try.func5, Try.ntmps5
  go_wp2_with fail
  refine HB.out.mono ?_
  rintro e w1 ⟨rfl, hb1⟩
  go_wp2_with fail
  refine (HX.out w1 hb1).mono ?_
  rintro e w2 (⟨t, k, hR, rfl, hkl, hb2⟩ | ⟨z, hR, rfl, hb2⟩)

  · have HB2 := hide (hb1.trans (hb2.mono hb1.size))
    have hbT : Below w.heap.size w ((w2.alloc (tokO t)).alloc (.cells #[] 3)) := (HB2.out.alloc HB2.out.size _).alloc (by have := HB2.out.size; simp; omega) _
    have hPA := hide (HA.out.below hbT)
    have hOE := own_empty (w2.alloc (tokO t))
    have hT4 : ((w2.alloc (tokO t)).alloc (.cells #[] 3)).heap[w2.heap.size]? = some (tokO t) := at_old (at_new _ _)
    have HT4 := hide hT4
    have HBT := hide hbT
    have hsz2 := HB2.out.size
    rw [World.size_alloc] at hOE
    have HOE := hide hOE
    simp only [tokO] at hPA HOE
    clear hb1 hb2 hbT hOE hT4 HX HB
    simp only [tokV]
    go_wp2_with (at_builtin; refine append_pat _ rfl _ _ rfl (w2.heap.size + 1) _ 0 [] rfl HOE.out _ A rfl hPA.out (by have := HNA.out; omega) (by simp) ?_)
    intro v5 w5 ho5 hb5
    obtain ⟨a5, c5, hv5⟩ := own_shape ho5
    have HB5 := hide (HBT.out.trans (hb5.mono (by omega)))
    have hT5 : w5.heap[w2.heap.size]? = some (tokO t) := by rw [hb5.block _ (by omega)]; exact HT4.out
    have hPL := hide (HL.out.below HB5.out)
    have hsz5 : w2.heap.size + 1 ≤ w5.heap.size := by have := hb5.size; simp at this; omega
    rw [← HNA.out] at hv5
    rw [hv5] at ho5 ⊢
    have HO5 := hide ho5
    have HT5 := hide hT5
    clear ho5 hb5 hT5 hv5 hPA HOE HT4 HBT
    go_wp2_with (at_builtin; refine append_pat _ rfl _ _ rfl (w2.heap.size + 1) _ _ _ rfl HO5.out _ L rfl hPL.out (by have := HNA.out; have := HNL.out; omega) (by omega) ?_)
    intro v6 w6 ho6 hb6
    obtain ⟨a6, c6, hv6⟩ := own_shape ho6
    have HB6 := hide (HB5.out.trans (hb6.mono (by omega)))
    have hT6 : w6.heap[w2.heap.size]? = some (tokO t) := by rw [hb6.block _ (by omega)]; exact HT5.out
    have hsz6 : w2.heap.size + 1 ≤ w6.heap.size := by have := hb6.size; omega
    have hlen6 : A.length + L.length = na + nl := by have := HNA.out; have := HNL.out; omega
    rw [hlen6] at hv6 ho6
    rw [hv6] at ho6 ⊢
    have hP6 : PatV w6 (.slice a6 (na + nl) c6) (A ++ L) := own_patV (n := na + nl) (by rw [i64s_append]; simpa using ho6) (by rw [List.length_append]; have := HNA.out; have := HNL.out; omega)
    have HP6 := hide hP6
    have HT6 := hide hT6
    clear ho6 hb6 hT6 hv6 hP6 HO5 HT5 hPL HB5 hlen6
    go_wp2_with fail
    refine (next_any2 d (na : Int) _ (A ++ L) w6 HP6.out).mono ?_
    rintro e w7 (⟨t', k', hR', rfl, hkl', hb7⟩ | ⟨z', hR', rfl, hb7⟩)
    · have HB7 := hide (HB6.out.trans (hb7.mono HB6.out.size))
      have hT7 : w7.heap[w2.heap.size]? = some (tokO t) := by rw [hb7.block _ (by omega)]; exact HT6.out
      have hP7 := hide (HP6.out.below hb7)
      have hq0 : w2.heap.size < w7.heap.size := lt_of_block hT7
      have hq1 : ¬ w2.heap.size = w7.heap.size := by omega
      have hq2 : ¬ w7.heap.size = w2.heap.size := by omega
      obtain ⟨q0, q1, q2, q3, q4, q5, q6, q7⟩ := tok_cells hT7
      clear hb7 hT7 hR' hR
      simp only [tokV]
      go_wp2
      go_ret
      exact ⟨rfl, HB7.out.alloc HB7.out.size _⟩
    · have HB7 := hide (HB6.out.trans (hb7.mono HB6.out.size))
      have hT7 : w7.heap[w2.heap.size]? = some (tokO t) := by rw [hb7.block _ (by omega)]; exact HT6.out
      have hP7 := hide (HP6.out.below hb7)
      have hq0 : w2.heap.size < w7.heap.size := lt_of_block hT7
      have hq1 : ¬ w2.heap.size = w7.heap.size := by omega
      have hq2 : ¬ w7.heap.size = w2.heap.size := by omega
      obtain ⟨q0, q1, q2, q3, q4, q5, q6, q7⟩ := tok_cells hT7
      clear hb7 hT7 hR' hR
      simp only [tokV]
      go_wp2
      go_ret
      exact ⟨rfl, HB7.out.alloc HB7.out.size _⟩
  · have HB2 := hide (hb1.trans (hb2.mono hb1.size))
    have hbT : Below w.heap.size w ((w2.alloc (tokO {})).alloc (.cells #[] 3)) := (HB2.out.alloc HB2.out.size _).alloc (by have := HB2.out.size; simp; omega) _
    have hPA := hide (HA.out.below hbT)
    have hOE := own_empty (w2.alloc (tokO {}))
    have hT4 : ((w2.alloc (tokO {})).alloc (.cells #[] 3)).heap[w2.heap.size]? = some (tokO {}) := at_old (at_new _ _)
    have HT4 := hide hT4
    have HBT := hide hbT
    have hsz2 := HB2.out.size
    rw [World.size_alloc] at hOE
    have HOE := hide hOE
    simp only [tokO] at hPA HOE
    clear hb1 hb2 hbT hOE hT4 HX HB
    simp only [tokV]
    go_wp2_with (at_builtin; refine append_pat _ rfl _ _ rfl (w2.heap.size + 1) _ 0 [] rfl HOE.out _ A rfl hPA.out (by have := HNA.out; omega) (by simp) ?_)
    intro v5 w5 ho5 hb5
    obtain ⟨a5, c5, hv5⟩ := own_shape ho5
    have HB5 := hide (HBT.out.trans (hb5.mono (by omega)))
    have hT5 : w5.heap[w2.heap.size]? = some (tokO {}) := by rw [hb5.block _ (by omega)]; exact HT4.out
    have hPL := hide (HL.out.below HB5.out)
    have hsz5 : w2.heap.size + 1 ≤ w5.heap.size := by have := hb5.size; simp at this; omega
    rw [← HNA.out] at hv5
    rw [hv5] at ho5 ⊢
    have HO5 := hide ho5
    have HT5 := hide hT5
    clear ho5 hb5 hT5 hv5 hPA HOE HT4 HBT
    go_wp2_with (at_builtin; refine append_pat _ rfl _ _ rfl (w2.heap.size + 1) _ _ _ rfl HO5.out _ L rfl hPL.out (by have := HNA.out; have := HNL.out; omega) (by omega) ?_)
    intro v6 w6 ho6 hb6
    obtain ⟨a6, c6, hv6⟩ := own_shape ho6
    have HB6 := hide (HB5.out.trans (hb6.mono (by omega)))
    have hT6 : w6.heap[w2.heap.size]? = some (tokO {}) := by rw [hb6.block _ (by omega)]; exact HT5.out
    have hsz6 : w2.heap.size + 1 ≤ w6.heap.size := by have := hb6.size; omega
    have hlen6 : A.length + L.length = na + nl := by have := HNA.out; have := HNL.out; omega
    rw [hlen6] at hv6 ho6
    rw [hv6] at ho6 ⊢
    have hP6 : PatV w6 (.slice a6 (na + nl) c6) (A ++ L) := own_patV (n := na + nl) (by rw [i64s_append]; simpa using ho6) (by rw [List.length_append]; have := HNA.out; have := HNL.out; omega)
    have HP6 := hide hP6
    have HT6 := hide hT6
    clear ho6 hb6 hT6 hv6 hP6 HO5 HT5 hPL HB5 hlen6
    go_wp2_with fail
    refine (next_any2 d (na : Int) _ (A ++ L) w6 HP6.out).mono ?_
    rintro e w7 (⟨t', k', hR', rfl, hkl', hb7⟩ | ⟨z', hR', rfl, hb7⟩)
    · have HB7 := hide (HB6.out.trans (hb7.mono HB6.out.size))
      have hT7 : w7.heap[w2.heap.size]? = some (tokO {}) := by rw [hb7.block _ (by omega)]; exact HT6.out
      have hP7 := hide (HP6.out.below hb7)
      have hq0 : w2.heap.size < w7.heap.size := lt_of_block hT7
      have hq1 : ¬ w2.heap.size = w7.heap.size := by omega
      have hq2 : ¬ w7.heap.size = w2.heap.size := by omega
      obtain ⟨q0, q1, q2, q3, q4, q5, q6, q7⟩ := tok_cells hT7
      clear hb7 hT7 hR' hR
      simp only [tokV]
      go_wp2
      go_ret
      exact ⟨rfl, HB7.out.alloc HB7.out.size _⟩
    · have HB7 := hide (HB6.out.trans (hb7.mono HB6.out.size))
      have hT7 : w7.heap[w2.heap.size]? = some (tokO {}) := by rw [hb7.block _ (by omega)]; exact HT6.out
      have hP7 := hide (HP6.out.below hb7)
      have hq0 : w2.heap.size < w7.heap.size := lt_of_block hT7
      have hq1 : ¬ w2.heap.size = w7.heap.size := by omega
      have hq2 : ¬ w7.heap.size = w2.heap.size := by omega
      obtain ⟨q0, q1, q2, q3, q4, q5, q6, q7⟩ := tok_cells hT7
      clear hb7 hT7 hR' hR
      simp only [tokV]
      go_wp2
      go_ret
      exact ⟨rfl, HB7.out.alloc HB7.out.size _⟩

set_option maxRecDepth 100000 in
set_option maxHeartbeats 16000000 in
theorem moves_kind (d : Int) (va vl : Value) (A L : List Int) (w : World) (hA : PatV w va A) (hL : PatV w vl L) (hs : A.length + L.length ≤ 3000000) (hc : ¬ 300 < A.length + L.length) (hd : ¬ (d = 1 ∨ d = 2 ∨ d = 3)) : Calls Try.prog 5 #[.int .i64 d, va, vl] w fun e w' => e = .returned (.bool true) ∧ Below w.heap.size w w' := by
  have HB := hide (begun_any w)
  have HX := hide (fun w1 (hb : Below w.heap.size w w1) => next_any2 d 0 vl L w1 (hL.below hb))
  obtain ⟨ao, ca, hva⟩ := hA.shape
  obtain ⟨lo, cl, hvl⟩ := hL.shape
  have HA := hide hA
  have HL := hide hL
  obtain ⟨na, hna⟩ : ∃ n, n = A.length := ⟨_, rfl⟩
  obtain ⟨nl, hnl⟩ : ∃ n, n = L.length := ⟨_, rfl⟩
  have HNA := hide hna
  have HNL := hide hnl
  rw [← hna] at hva
  rw [← hnl] at hvl
  rw [← hna, ← hnl] at hs
  rw [hva] at HA ⊢
  rw [hvl] at HX HL ⊢
  clear hA hL hva hvl hna hnl
  have hcc : ¬ (300 : Int) < ((na + nl : Nat) : Int) := by have := HNA.out; have := HNL.out; omega
  have hR0 : Hid (nextR d L 0 = .error 7) := by
    show _ = _
    have hz : patE d L = 7 := by unfold patE; rw [if_pos (by omega)]
    unfold nextR
    rw [if_pos (by rw [hz]; decide), hz]
  clear hd
  go_enter Try.func5, Try.ntmps5
  go_wp2_with fail
  refine HB.out.mono ?_
  rintro e w1 ⟨rfl, hb1⟩
  go_wp2_with fail
  refine (HX.out w1 hb1).mono ?_
  rintro e w2 (⟨t, k, hR, rfl, hkl, hb2⟩ | ⟨z, hR, rfl, hb2⟩)

  · rw [hR0.out] at hR; cases hR
  · rw [hR0.out] at hR
    injection hR with hR
    subst hR
    have HB2 := hide (hb1.trans (hb2.mono hb1.size))
    have hbT : Below w.heap.size w ((w2.alloc (tokO {})).alloc (.cells #[] 3)) := (HB2.out.alloc HB2.out.size _).alloc (by have := HB2.out.size; simp; omega) _
    have hPA := hide (HA.out.below hbT)
    have hOE := own_empty (w2.alloc (tokO {}))
    have hT4 : ((w2.alloc (tokO {})).alloc (.cells #[] 3)).heap[w2.heap.size]? = some (tokO {}) := at_old (at_new _ _)
    have HT4 := hide hT4
    have HBT := hide hbT
    have hsz2 := HB2.out.size
    rw [World.size_alloc] at hOE
    have HOE := hide hOE
    simp only [tokO] at hPA HOE
    clear hb1 hb2 hbT hOE hT4 HX HB
    simp only [tokV]
    go_wp2_with (at_builtin; refine append_pat _ rfl _ _ rfl (w2.heap.size + 1) _ 0 [] rfl HOE.out _ A rfl hPA.out (by have := HNA.out; omega) (by simp) ?_)
    intro v5 w5 ho5 hb5
    obtain ⟨a5, c5, hv5⟩ := own_shape ho5
    have HB5 := hide (HBT.out.trans (hb5.mono (by omega)))
    have hT5 : w5.heap[w2.heap.size]? = some (tokO {}) := by rw [hb5.block _ (by omega)]; exact HT4.out
    have hPL := hide (HL.out.below HB5.out)
    have hsz5 : w2.heap.size + 1 ≤ w5.heap.size := by have := hb5.size; simp at this; omega
    rw [← HNA.out] at hv5
    rw [hv5] at ho5 ⊢
    have HO5 := hide ho5
    have HT5 := hide hT5
    clear ho5 hb5 hT5 hv5 hPA HOE HT4 HBT
    go_wp2_with (at_builtin; refine append_pat _ rfl _ _ rfl (w2.heap.size + 1) _ _ _ rfl HO5.out _ L rfl hPL.out (by have := HNA.out; have := HNL.out; omega) (by omega) ?_)
    intro v6 w6 ho6 hb6
    obtain ⟨a6, c6, hv6⟩ := own_shape ho6
    have HB6 := hide (HB5.out.trans (hb6.mono (by omega)))
    have hT6 : w6.heap[w2.heap.size]? = some (tokO {}) := by rw [hb6.block _ (by omega)]; exact HT5.out
    have hsz6 : w2.heap.size + 1 ≤ w6.heap.size := by have := hb6.size; omega
    have hlen6 : A.length + L.length = na + nl := by have := HNA.out; have := HNL.out; omega
    rw [hlen6] at hv6 ho6
    rw [hv6] at ho6 ⊢
    have hP6 : PatV w6 (.slice a6 (na + nl) c6) (A ++ L) := own_patV (n := na + nl) (by rw [i64s_append]; simpa using ho6) (by rw [List.length_append]; have := HNA.out; have := HNL.out; omega)
    have HP6 := hide hP6
    have HT6 := hide hT6
    clear ho6 hb6 hT6 hv6 hP6 HO5 HT5 hPL HB5 hlen6
    go_wp2_with fail
    refine (next_any2 d (na : Int) _ (A ++ L) w6 HP6.out).mono ?_
    rintro e w7 (⟨t', k', hR', rfl, hkl', hb7⟩ | ⟨z', hR', rfl, hb7⟩)
    · have HB7 := hide (HB6.out.trans (hb7.mono HB6.out.size))
      have hT7 : w7.heap[w2.heap.size]? = some (tokO {}) := by rw [hb7.block _ (by omega)]; exact HT6.out
      have hP7 := hide (HP6.out.below hb7)
      have hq0 : w2.heap.size < w7.heap.size := lt_of_block hT7
      have hq1 : ¬ w2.heap.size = w7.heap.size := by omega
      have hq2 : ¬ w7.heap.size = w2.heap.size := by omega
      obtain ⟨q0, q1, q2, q3, q4, q5, q6, q7⟩ := tok_cells hT7
      clear hb7 hT7 hR'
      simp only [tokV]
      go_wp2
      go_ret
      exact ⟨rfl, HB7.out.alloc HB7.out.size _⟩
    · have HB7 := hide (HB6.out.trans (hb7.mono HB6.out.size))
      have hT7 : w7.heap[w2.heap.size]? = some (tokO {}) := by rw [hb7.block _ (by omega)]; exact HT6.out
      have hP7 := hide (HP6.out.below hb7)
      have hq0 : w2.heap.size < w7.heap.size := lt_of_block hT7
      have hq1 : ¬ w2.heap.size = w7.heap.size := by omega
      have hq2 : ¬ w7.heap.size = w2.heap.size := by omega
      obtain ⟨q0, q1, q2, q3, q4, q5, q6, q7⟩ := tok_cells hT7
      clear hb7 hT7 hR'
      simp only [tokV]
      go_wp2
      go_ret
      exact ⟨rfl, HB7.out.alloc HB7.out.size _⟩

set_option maxRecDepth 100000 in
set_option maxHeartbeats 16000000 in
theorem moves_none (d : Int) (va vl : Value) (A L : List Int) (w : World) (hA : PatV w va A) (hL : PatV w vl L) (hs : A.length + L.length ≤ 3000000) (hc : ¬ 300 < A.length + L.length) (hd : d = 1 ∨ d = 2 ∨ d = 3) (hl : L = []) : Calls Try.prog 5 #[.int .i64 d, va, vl] w fun e w' => e = .returned (.bool true) ∧ Below w.heap.size w w' := by
  have HB := hide (begun_any w)
  have HX := hide (fun w1 (hb : Below w.heap.size w w1) => next_any2 d 0 vl L w1 (hL.below hb))
  obtain ⟨ao, ca, hva⟩ := hA.shape
  obtain ⟨lo, cl, hvl⟩ := hL.shape
  have HA := hide hA
  have HL := hide hL
  obtain ⟨na, hna⟩ : ∃ n, n = A.length := ⟨_, rfl⟩
  obtain ⟨nl, hnl⟩ : ∃ n, n = L.length := ⟨_, rfl⟩
  have HNA := hide hna
  have HNL := hide hnl
  rw [← hna] at hva
  rw [← hnl] at hvl
  rw [← hna, ← hnl] at hs
  rw [hva] at HA ⊢
  rw [hvl] at HX HL ⊢
  clear hA hL hva hvl hna hnl
  have hcc : ¬ (300 : Int) < ((na + nl : Nat) : Int) := by have := HNA.out; have := HNL.out; omega
  have hR0 : Hid (nextR d L 0 = .error 3) := by
    show _ = _
    have hz : patE d L = 0 := by rw [hl]; unfold patE; rw [if_neg (by omega)]; rfl
    unfold nextR
    rw [if_neg (by simp [hz]), if_pos (by right; rw [hl]; simp)]
  have hn0 : nl = 0 := by rw [HNL.out, hl]; rfl
  have hnb : ((nl : Int) == 0) = true := by rw [hn0]; rfl
  clear hd hl hn0
  go_enter Try.func5, Try.ntmps5
  go_wp2_with fail
  refine HB.out.mono ?_
  rintro e w1 ⟨rfl, hb1⟩
  go_wp2_with fail
  refine (HX.out w1 hb1).mono ?_
  rintro e w2 (⟨t, k, hR, rfl, hkl, hb2⟩ | ⟨z, hR, rfl, hb2⟩)

  · rw [hR0.out] at hR; cases hR
  · rw [hR0.out] at hR
    injection hR with hR
    subst hR
    have HB2 := hide (hb1.trans (hb2.mono hb1.size))
    have hbT : Below w.heap.size w ((w2.alloc (tokO {})).alloc (.cells #[] 3)) := (HB2.out.alloc HB2.out.size _).alloc (by have := HB2.out.size; simp; omega) _
    have hPA := hide (HA.out.below hbT)
    have hOE := own_empty (w2.alloc (tokO {}))
    have hT4 : ((w2.alloc (tokO {})).alloc (.cells #[] 3)).heap[w2.heap.size]? = some (tokO {}) := at_old (at_new _ _)
    have HT4 := hide hT4
    have HBT := hide hbT
    have hsz2 := HB2.out.size
    rw [World.size_alloc] at hOE
    have HOE := hide hOE
    simp only [tokO] at hPA HOE
    clear hb1 hb2 hbT hOE hT4 HX HB
    simp only [tokV]
    go_wp2_with (at_builtin; refine append_pat _ rfl _ _ rfl (w2.heap.size + 1) _ 0 [] rfl HOE.out _ A rfl hPA.out (by have := HNA.out; omega) (by simp) ?_)
    intro v5 w5 ho5 hb5
    obtain ⟨a5, c5, hv5⟩ := own_shape ho5
    have HB5 := hide (HBT.out.trans (hb5.mono (by omega)))
    have hT5 : w5.heap[w2.heap.size]? = some (tokO {}) := by rw [hb5.block _ (by omega)]; exact HT4.out
    have hPL := hide (HL.out.below HB5.out)
    have hsz5 : w2.heap.size + 1 ≤ w5.heap.size := by have := hb5.size; simp at this; omega
    rw [← HNA.out] at hv5
    rw [hv5] at ho5 ⊢
    have HO5 := hide ho5
    have HT5 := hide hT5
    clear ho5 hb5 hT5 hv5 hPA HOE HT4 HBT
    go_wp2_with (at_builtin; refine append_pat _ rfl _ _ rfl (w2.heap.size + 1) _ _ _ rfl HO5.out _ L rfl hPL.out (by have := HNA.out; have := HNL.out; omega) (by omega) ?_)
    intro v6 w6 ho6 hb6
    obtain ⟨a6, c6, hv6⟩ := own_shape ho6
    have HB6 := hide (HB5.out.trans (hb6.mono (by omega)))
    have hT6 : w6.heap[w2.heap.size]? = some (tokO {}) := by rw [hb6.block _ (by omega)]; exact HT5.out
    have hsz6 : w2.heap.size + 1 ≤ w6.heap.size := by have := hb6.size; omega
    have hlen6 : A.length + L.length = na + nl := by have := HNA.out; have := HNL.out; omega
    rw [hlen6] at hv6 ho6
    rw [hv6] at ho6 ⊢
    have hP6 : PatV w6 (.slice a6 (na + nl) c6) (A ++ L) := own_patV (n := na + nl) (by rw [i64s_append]; simpa using ho6) (by rw [List.length_append]; have := HNA.out; have := HNL.out; omega)
    have HP6 := hide hP6
    have HT6 := hide hT6
    clear ho6 hb6 hT6 hv6 hP6 HO5 HT5 hPL HB5 hlen6
    go_wp2_with fail
    refine (next_any2 d (na : Int) _ (A ++ L) w6 HP6.out).mono ?_
    rintro e w7 (⟨t', k', hR', rfl, hkl', hb7⟩ | ⟨z', hR', rfl, hb7⟩)
    · have HB7 := hide (HB6.out.trans (hb7.mono HB6.out.size))
      have hT7 : w7.heap[w2.heap.size]? = some (tokO {}) := by rw [hb7.block _ (by omega)]; exact HT6.out
      have hP7 := hide (HP6.out.below hb7)
      have hq0 : w2.heap.size < w7.heap.size := lt_of_block hT7
      have hq1 : ¬ w2.heap.size = w7.heap.size := by omega
      have hq2 : ¬ w7.heap.size = w2.heap.size := by omega
      obtain ⟨q0, q1, q2, q3, q4, q5, q6, q7⟩ := tok_cells hT7
      clear hb7 hT7 hR'
      simp only [tokV]
      go_wp2
      go_ret
      exact ⟨rfl, HB7.out.alloc HB7.out.size _⟩
    · have HB7 := hide (HB6.out.trans (hb7.mono HB6.out.size))
      have hT7 : w7.heap[w2.heap.size]? = some (tokO {}) := by rw [hb7.block _ (by omega)]; exact HT6.out
      have hP7 := hide (HP6.out.below hb7)
      have hq0 : w2.heap.size < w7.heap.size := lt_of_block hT7
      have hq1 : ¬ w2.heap.size = w7.heap.size := by omega
      have hq2 : ¬ w7.heap.size = w2.heap.size := by omega
      obtain ⟨q0, q1, q2, q3, q4, q5, q6, q7⟩ := tok_cells hT7
      clear hb7 hT7 hR'
      simp only [tokV]
      go_wp2
      go_ret
      exact ⟨rfl, HB7.out.alloc HB7.out.size _⟩

set_option maxRecDepth 100000 in
set_option maxHeartbeats 16000000 in
theorem moves_wrong (d : Int) (va vl : Value) (A L : List Int) (w : World) (hA : PatV w va A) (hL : PatV w vl L) (hs : A.length + L.length ≤ 3000000) (hc : ¬ 300 < A.length + L.length) (hd : d = 1 ∨ d = 2 ∨ d = 3) (hl : L ≠ []) (hpe : patE 1 (A ++ L) ≠ 0) : Calls Try.prog 5 #[.int .i64 d, va, vl] w fun e w' => e = .returned (.bool true) ∧ Below w.heap.size w w' := by
  have HB := hide (begun_any w)
  have HX := hide (fun w1 (hb : Below w.heap.size w w1) => next_any2 d 0 vl L w1 (hL.below hb))
  obtain ⟨ao, ca, hva⟩ := hA.shape
  obtain ⟨lo, cl, hvl⟩ := hL.shape
  have HA := hide hA
  have HL := hide hL
  obtain ⟨na, hna⟩ : ∃ n, n = A.length := ⟨_, rfl⟩
  obtain ⟨nl, hnl⟩ : ∃ n, n = L.length := ⟨_, rfl⟩
  have HNA := hide hna
  have HNL := hide hnl
  rw [← hna] at hva
  rw [← hnl] at hvl
  rw [← hna, ← hnl] at hs
  rw [hva] at HA ⊢
  rw [hvl] at HX HL ⊢
  clear hA hL hva hvl hna hnl
  have hcc : ¬ (300 : Int) < ((na + nl : Nat) : Int) := by have := HNA.out; have := HNL.out; omega
  have hnb : ((nl : Int) == 0) = false := by
    have h1 : 0 < L.length := List.length_pos_iff.2 hl
    have h2 := HNL.out
    simp
    omega
  have HPE := hide hpe
  have HD := hide hd
  clear hd hl hpe
  go_enter Try.func5, Try.ntmps5
  go_wp2_with fail
  refine HB.out.mono ?_
  rintro e w1 ⟨rfl, hb1⟩
  go_wp2_with fail
  refine (HX.out w1 hb1).mono ?_
  rintro e w2 (⟨t, k, hR, rfl, hkl, hb2⟩ | ⟨z, hR, rfl, hb2⟩)

  · clear hR
    have HB2 := hide (hb1.trans (hb2.mono hb1.size))
    have hbT : Below w.heap.size w ((w2.alloc (tokO t)).alloc (.cells #[] 3)) := (HB2.out.alloc HB2.out.size _).alloc (by have := HB2.out.size; simp; omega) _
    have hPA := hide (HA.out.below hbT)
    have hOE := own_empty (w2.alloc (tokO t))
    have hT4 : ((w2.alloc (tokO t)).alloc (.cells #[] 3)).heap[w2.heap.size]? = some (tokO t) := at_old (at_new _ _)
    have HT4 := hide hT4
    have HBT := hide hbT
    have hsz2 := HB2.out.size
    rw [World.size_alloc] at hOE
    have HOE := hide hOE
    simp only [tokO] at hPA HOE
    clear hb1 hb2 hbT hOE hT4 HX HB
    simp only [tokV]
    go_wp2_with (at_builtin; refine append_pat _ rfl _ _ rfl (w2.heap.size + 1) _ 0 [] rfl HOE.out _ A rfl hPA.out (by have := HNA.out; omega) (by simp) ?_)
    intro v5 w5 ho5 hb5
    obtain ⟨a5, c5, hv5⟩ := own_shape ho5
    have HB5 := hide (HBT.out.trans (hb5.mono (by omega)))
    have hT5 : w5.heap[w2.heap.size]? = some (tokO t) := by rw [hb5.block _ (by omega)]; exact HT4.out
    have hPL := hide (HL.out.below HB5.out)
    have hsz5 : w2.heap.size + 1 ≤ w5.heap.size := by have := hb5.size; simp at this; omega
    rw [← HNA.out] at hv5
    rw [hv5] at ho5 ⊢
    have HO5 := hide ho5
    have HT5 := hide hT5
    clear ho5 hb5 hT5 hv5 hPA HOE HT4 HBT
    go_wp2_with (at_builtin; refine append_pat _ rfl _ _ rfl (w2.heap.size + 1) _ _ _ rfl HO5.out _ L rfl hPL.out (by have := HNA.out; have := HNL.out; omega) (by omega) ?_)
    intro v6 w6 ho6 hb6
    obtain ⟨a6, c6, hv6⟩ := own_shape ho6
    have HB6 := hide (HB5.out.trans (hb6.mono (by omega)))
    have hT6 : w6.heap[w2.heap.size]? = some (tokO t) := by rw [hb6.block _ (by omega)]; exact HT5.out
    have hsz6 : w2.heap.size + 1 ≤ w6.heap.size := by have := hb6.size; omega
    have hlen6 : A.length + L.length = na + nl := by have := HNA.out; have := HNL.out; omega
    rw [hlen6] at hv6 ho6
    rw [hv6] at ho6 ⊢
    have hP6 : PatV w6 (.slice a6 (na + nl) c6) (A ++ L) := own_patV (n := na + nl) (by rw [i64s_append]; simpa using ho6) (by rw [List.length_append]; have := HNA.out; have := HNL.out; omega)
    have HP6 := hide hP6
    have HT6 := hide hT6
    clear ho6 hb6 hT6 hv6 hP6 HO5 HT5 hPL HB5 hlen6
    go_wp2_with fail
    refine (next_any2 d (na : Int) _ (A ++ L) w6 HP6.out).mono ?_
    rintro e w7 (⟨t', k', hR', rfl, hkl', hb7⟩ | ⟨z', hR', rfl, hb7⟩)
    · have HB7 := hide (HB6.out.trans (hb7.mono HB6.out.size))
      have hT7 : w7.heap[w2.heap.size]? = some (tokO t) := by rw [hb7.block _ (by omega)]; exact HT6.out
      have hP7 := hide (HP6.out.below hb7)
      have hq0 : w2.heap.size < w7.heap.size := lt_of_block hT7
      have hq1 : ¬ w2.heap.size = w7.heap.size := by omega
      have hq2 : ¬ w7.heap.size = w2.heap.size := by omega
      obtain ⟨q0, q1, q2, q3, q4, q5, q6, q7⟩ := tok_cells hT7
      have HRt := hide (fun o => right_any 1 _ (A ++ L) (w7.alloc o) (hP7.out.below ((Below.refl _ w7).alloc (Nat.le_refl _) o)))
      obtain ⟨y, hy⟩ : ∃ y, y = patE 1 (A ++ L) := ⟨_, rfl⟩
      have hyb : (y != 0) = true := by rw [hy]; simpa using HPE.out
      rw [← hy] at HRt
      clear hb7 hT7 hR' hy hP7
      simp only [tokV]
      go_wp2_with fail
      refine (HRt.out _).mono ?_
      rintro e w8 ⟨rfl, rfl⟩
      go_wp2
      go_ret
      exact ⟨rfl, HB7.out.alloc HB7.out.size _⟩
    · have HB7 := hide (HB6.out.trans (hb7.mono HB6.out.size))
      have hT7 : w7.heap[w2.heap.size]? = some (tokO t) := by rw [hb7.block _ (by omega)]; exact HT6.out
      have hP7 := hide (HP6.out.below hb7)
      have hq0 : w2.heap.size < w7.heap.size := lt_of_block hT7
      have hq1 : ¬ w2.heap.size = w7.heap.size := by omega
      have hq2 : ¬ w7.heap.size = w2.heap.size := by omega
      obtain ⟨q0, q1, q2, q3, q4, q5, q6, q7⟩ := tok_cells hT7
      have HRt := hide (fun o => right_any 1 _ (A ++ L) (w7.alloc o) (hP7.out.below ((Below.refl _ w7).alloc (Nat.le_refl _) o)))
      obtain ⟨y, hy⟩ : ∃ y, y = patE 1 (A ++ L) := ⟨_, rfl⟩
      have hyb : (y != 0) = true := by rw [hy]; simpa using HPE.out
      rw [← hy] at HRt
      clear hb7 hT7 hR' hy hP7
      simp only [tokV]
      go_wp2_with fail
      refine (HRt.out _).mono ?_
      rintro e w8 ⟨rfl, rfl⟩
      go_wp2
      go_ret
      exact ⟨rfl, HB7.out.alloc HB7.out.size _⟩
  · have hz7 := (nextR_err hR HD.out).1
    have hzb : (z == 7) = false := by simpa using hz7
    clear hz7 hR
    have HB2 := hide (hb1.trans (hb2.mono hb1.size))
    have hbT : Below w.heap.size w ((w2.alloc (tokO {})).alloc (.cells #[] 3)) := (HB2.out.alloc HB2.out.size _).alloc (by have := HB2.out.size; simp; omega) _
    have hPA := hide (HA.out.below hbT)
    have hOE := own_empty (w2.alloc (tokO {}))
    have hT4 : ((w2.alloc (tokO {})).alloc (.cells #[] 3)).heap[w2.heap.size]? = some (tokO {}) := at_old (at_new _ _)
    have HT4 := hide hT4
    have HBT := hide hbT
    have hsz2 := HB2.out.size
    rw [World.size_alloc] at hOE
    have HOE := hide hOE
    simp only [tokO] at hPA HOE
    clear hb1 hb2 hbT hOE hT4 HX HB
    simp only [tokV]
    go_wp2_with (at_builtin; refine append_pat _ rfl _ _ rfl (w2.heap.size + 1) _ 0 [] rfl HOE.out _ A rfl hPA.out (by have := HNA.out; omega) (by simp) ?_)
    intro v5 w5 ho5 hb5
    obtain ⟨a5, c5, hv5⟩ := own_shape ho5
    have HB5 := hide (HBT.out.trans (hb5.mono (by omega)))
    have hT5 : w5.heap[w2.heap.size]? = some (tokO {}) := by rw [hb5.block _ (by omega)]; exact HT4.out
    have hPL := hide (HL.out.below HB5.out)
    have hsz5 : w2.heap.size + 1 ≤ w5.heap.size := by have := hb5.size; simp at this; omega
    rw [← HNA.out] at hv5
    rw [hv5] at ho5 ⊢
    have HO5 := hide ho5
    have HT5 := hide hT5
    clear ho5 hb5 hT5 hv5 hPA HOE HT4 HBT
    go_wp2_with (at_builtin; refine append_pat _ rfl _ _ rfl (w2.heap.size + 1) _ _ _ rfl HO5.out _ L rfl hPL.out (by have := HNA.out; have := HNL.out; omega) (by omega) ?_)
    intro v6 w6 ho6 hb6
    obtain ⟨a6, c6, hv6⟩ := own_shape ho6
    have HB6 := hide (HB5.out.trans (hb6.mono (by omega)))
    have hT6 : w6.heap[w2.heap.size]? = some (tokO {}) := by rw [hb6.block _ (by omega)]; exact HT5.out
    have hsz6 : w2.heap.size + 1 ≤ w6.heap.size := by have := hb6.size; omega
    have hlen6 : A.length + L.length = na + nl := by have := HNA.out; have := HNL.out; omega
    rw [hlen6] at hv6 ho6
    rw [hv6] at ho6 ⊢
    have hP6 : PatV w6 (.slice a6 (na + nl) c6) (A ++ L) := own_patV (n := na + nl) (by rw [i64s_append]; simpa using ho6) (by rw [List.length_append]; have := HNA.out; have := HNL.out; omega)
    have HP6 := hide hP6
    have HT6 := hide hT6
    clear ho6 hb6 hT6 hv6 hP6 HO5 HT5 hPL HB5 hlen6
    go_wp2_with fail
    refine (next_any2 d (na : Int) _ (A ++ L) w6 HP6.out).mono ?_
    rintro e w7 (⟨t', k', hR', rfl, hkl', hb7⟩ | ⟨z', hR', rfl, hb7⟩)
    · have HB7 := hide (HB6.out.trans (hb7.mono HB6.out.size))
      have hT7 : w7.heap[w2.heap.size]? = some (tokO {}) := by rw [hb7.block _ (by omega)]; exact HT6.out
      have hP7 := hide (HP6.out.below hb7)
      have hq0 : w2.heap.size < w7.heap.size := lt_of_block hT7
      have hq1 : ¬ w2.heap.size = w7.heap.size := by omega
      have hq2 : ¬ w7.heap.size = w2.heap.size := by omega
      obtain ⟨q0, q1, q2, q3, q4, q5, q6, q7⟩ := tok_cells hT7
      have HRt := hide (fun o => right_any 1 _ (A ++ L) (w7.alloc o) (hP7.out.below ((Below.refl _ w7).alloc (Nat.le_refl _) o)))
      obtain ⟨y, hy⟩ : ∃ y, y = patE 1 (A ++ L) := ⟨_, rfl⟩
      have hyb : (y != 0) = true := by rw [hy]; simpa using HPE.out
      rw [← hy] at HRt
      clear hb7 hT7 hR' hy hP7
      simp only [tokV]
      go_wp2_with fail
      refine (HRt.out _).mono ?_
      rintro e w8 ⟨rfl, rfl⟩
      go_wp2
      go_ret
      exact ⟨rfl, HB7.out.alloc HB7.out.size _⟩
    · have HB7 := hide (HB6.out.trans (hb7.mono HB6.out.size))
      have hT7 : w7.heap[w2.heap.size]? = some (tokO {}) := by rw [hb7.block _ (by omega)]; exact HT6.out
      have hP7 := hide (HP6.out.below hb7)
      have hq0 : w2.heap.size < w7.heap.size := lt_of_block hT7
      have hq1 : ¬ w2.heap.size = w7.heap.size := by omega
      have hq2 : ¬ w7.heap.size = w2.heap.size := by omega
      obtain ⟨q0, q1, q2, q3, q4, q5, q6, q7⟩ := tok_cells hT7
      have HRt := hide (fun o => right_any 1 _ (A ++ L) (w7.alloc o) (hP7.out.below ((Below.refl _ w7).alloc (Nat.le_refl _) o)))
      obtain ⟨y, hy⟩ : ∃ y, y = patE 1 (A ++ L) := ⟨_, rfl⟩
      have hyb : (y != 0) = true := by rw [hy]; simpa using HPE.out
      rw [← hy] at HRt
      clear hb7 hT7 hR' hy hP7
      simp only [tokV]
      go_wp2_with fail
      refine (HRt.out _).mono ?_
      rintro e w8 ⟨rfl, rfl⟩
      go_wp2
      go_ret
      exact ⟨rfl, HB7.out.alloc HB7.out.size _⟩

end Go.Proofs.Ytlapnhjkhpgklaa
