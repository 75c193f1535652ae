/- TokenMoves' walk, its last part. -/
import Derived.Test.YtlapnhjkhpgklaaTmoves1
namespace Go.Proofs.Ytlapnhjkhpgklaa
open Go.RowKit
set_option linter.unusedVariables false

set_option maxRecDepth 100000 in
set_option maxHeartbeats 16000000 in
theorem moves_main (d : Int) (va vl : Value) (A L : List Int) (w : World) (hA : PatV w va A) (hL : PatV w vl L) (hs : A.length + L.length ≤ 3000000) (hc : ¬ 300 < A.length + L.length) (hd : d = 1 ∨ d = 2 ∨ d = 3) (hl : L ≠ []) (hpe : patE 1 (A ++ L) = 0) : Calls Try.prog 5 #[.int .i64 d, va, vl] w fun e w' => e = .returned (.bool true) ∧ Below w.heap.size w w' := by
  have HB := hide (begun_any w)
  have HX := hide (fun w1 (hb : Below w.heap.size w w1) => next_any2 d 0 vl L w1 (hL.below hb))
  obtain ⟨ao, ca, hva⟩ := hA.shape
  obtain ⟨lo, cl, hvl⟩ := hL.shape
  have HA := hide hA
  have HL := hide hL
  obtain ⟨na, hna⟩ : ∃ n, n = A.length := ⟨_, rfl⟩
  obtain ⟨nl, hnl⟩ : ∃ n, n = L.length := ⟨_, rfl⟩
  have HNA := hide hna
  have HNL := hide hnl
  rw [← hna] at hva
  rw [← hnl] at hvl
  rw [← hna, ← hnl] at hs
  rw [hva] at HA ⊢
  rw [hvl] at HX HL ⊢
  clear hA hL hva hvl hna hnl
  have hcc : ¬ (300 : Int) < ((na + nl : Nat) : Int) := by have := HNA.out; have := HNL.out; omega
  have hnb : ((nl : Int) == 0) = false := by
    have h1 : 0 < L.length := List.length_pos_iff.2 hl
    have h2 := HNL.out
    simp
    omega
  have hbo := moves_both hpe hd hl
  have HM := hide hbo
  have HPE := hide hpe
  have HD := hide hd
  clear hd hl hpe hbo
  go_enter Try.func5, Try.ntmps5
  go_wp2_with fail
  refine HB.out.mono ?_
  rintro e w1 ⟨rfl, hb1⟩
  go_wp2_with fail
  refine (HX.out w1 hb1).mono ?_
  rintro e w2 (⟨t, k, hR, rfl, hkl, hb2⟩ | ⟨z, hR, rfl, hb2⟩)

  · rw [HM.out.1] at hR
    have hpos := next_pos hR
    have HNT := hide hR
    have hk1 : (1 : Int) ≤ (k : Int) := by omega
    have hk2 : (k : Int) ≤ (nl : Int) := by have := HNL.out; omega
    clear hR hkl hpos
    have HB2 := hide (hb1.trans (hb2.mono hb1.size))
    have hbT : Below w.heap.size w ((w2.alloc (tokO t)).alloc (.cells #[] 3)) := (HB2.out.alloc HB2.out.size _).alloc (by have := HB2.out.size; simp; omega) _
    have hPA := hide (HA.out.below hbT)
    have hOE := own_empty (w2.alloc (tokO t))
    have hT4 : ((w2.alloc (tokO t)).alloc (.cells #[] 3)).heap[w2.heap.size]? = some (tokO t) := at_old (at_new _ _)
    have HT4 := hide hT4
    have HBT := hide hbT
    have hsz2 := HB2.out.size
    rw [World.size_alloc] at hOE
    have HOE := hide hOE
    simp only [tokO] at hPA HOE
    clear hb1 hb2 hbT hOE hT4 HX HB
    simp only [tokV]
    go_wp2_with (at_builtin; refine append_pat _ rfl _ _ rfl (w2.heap.size + 1) _ 0 [] rfl HOE.out _ A rfl hPA.out (by have := HNA.out; omega) (by simp) ?_)
    intro v5 w5 ho5 hb5
    obtain ⟨a5, c5, hv5⟩ := own_shape ho5
    have HB5 := hide (HBT.out.trans (hb5.mono (by omega)))
    have hT5 : w5.heap[w2.heap.size]? = some (tokO t) := by rw [hb5.block _ (by omega)]; exact HT4.out
    have hPL := hide (HL.out.below HB5.out)
    have hsz5 : w2.heap.size + 1 ≤ w5.heap.size := by have := hb5.size; simp at this; omega
    rw [← HNA.out] at hv5
    rw [hv5] at ho5 ⊢
    have HO5 := hide ho5
    have HT5 := hide hT5
    clear ho5 hb5 hT5 hv5 hPA HOE HT4 HBT
    go_wp2_with (at_builtin; refine append_pat _ rfl _ _ rfl (w2.heap.size + 1) _ _ _ rfl HO5.out _ L rfl hPL.out (by have := HNA.out; have := HNL.out; omega) (by omega) ?_)
    intro v6 w6 ho6 hb6
    obtain ⟨a6, c6, hv6⟩ := own_shape ho6
    have HB6 := hide (HB5.out.trans (hb6.mono (by omega)))
    have hT6 : w6.heap[w2.heap.size]? = some (tokO t) := by rw [hb6.block _ (by omega)]; exact HT5.out
    have hsz6 : w2.heap.size + 1 ≤ w6.heap.size := by have := hb6.size; omega
    have hlen6 : A.length + L.length = na + nl := by have := HNA.out; have := HNL.out; omega
    rw [hlen6] at hv6 ho6
    rw [hv6] at ho6 ⊢
    have hP6 : PatV w6 (.slice a6 (na + nl) c6) (A ++ L) := own_patV (n := na + nl) (by rw [i64s_append]; simpa using ho6) (by rw [List.length_append]; have := HNA.out; have := HNL.out; omega)
    have HP6 := hide hP6
    have HT6 := hide hT6
    clear ho6 hb6 hT6 hv6 hP6 HO5 HT5 hPL HB5 hlen6
    go_wp2_with fail
    refine (next_any2 d (na : Int) _ (A ++ L) w6 HP6.out).mono ?_
    rintro e w7 (⟨t', k', hR', rfl, hkl', hb7⟩ | ⟨z', hR', rfl, hb7⟩)
    · have HB7 := hide (HB6.out.trans (hb7.mono HB6.out.size))
      have hT7 : w7.heap[w2.heap.size]? = some (tokO t) := by rw [hb7.block _ (by omega)]; exact HT6.out
      have hP7 := hide (HP6.out.below hb7)
      have hq0 : w2.heap.size < w7.heap.size := lt_of_block hT7
      have hq1 : ¬ w2.heap.size = w7.heap.size := by omega
      have hq2 : ¬ w7.heap.size = w2.heap.size := by omega
      obtain ⟨q0, q1, q2, q3, q4, q5, q6, q7⟩ := tok_cells hT7
      have HRt := hide (fun o => right_any 1 _ (A ++ L) (w7.alloc o) (hP7.out.below ((Below.refl _ w7).alloc (Nat.le_refl _) o)))
      rw [HPE.out] at HRt
      rw [HNA.out, HM.out.2, HNT.out] at hR'
      have hE : (t, k + A.length) = (t', k') := by simpa [shR] using hR'
      injection hE with e1 e2
      subst e1
      have hk' : (k' : Int) = (k : Int) + (na : Int) := by have := HNA.out; omega
      clear hb7 hT7 hR' hP7 hkl' e2
      obtain ⟨m', hm'⟩ : ∃ m' : Int, m' = (k' : Int) := ⟨_, rfl⟩
      rw [← hm'] at hk' ⊢
      subst hk'
      clear hm'
      simp only [tokV]
      go_wp2_with fail
      refine (HRt.out _).mono ?_
      rintro e w8 ⟨rfl, rfl⟩
      go_wp2
      go_ret
      exact ⟨rfl, HB7.out.alloc HB7.out.size _⟩
    · have HB7 := hide (HB6.out.trans (hb7.mono HB6.out.size))
      have hT7 : w7.heap[w2.heap.size]? = some (tokO t) := by rw [hb7.block _ (by omega)]; exact HT6.out
      have hP7 := hide (HP6.out.below hb7)
      have hq0 : w2.heap.size < w7.heap.size := lt_of_block hT7
      have hq1 : ¬ w2.heap.size = w7.heap.size := by omega
      have hq2 : ¬ w7.heap.size = w2.heap.size := by omega
      obtain ⟨q0, q1, q2, q3, q4, q5, q6, q7⟩ := tok_cells hT7
      rw [HNA.out, HM.out.2, HNT.out] at hR'
      cases hR'
  · have hz7 := nextR_err hR HD.out
    have hzb : (z == 7) = false := by simpa using hz7.1
    have hz0 : (z != 0) = true := by simpa using hz7.2
    rw [HM.out.1] at hR
    have HNT := hide hR
    clear hR hz7
    have HB2 := hide (hb1.trans (hb2.mono hb1.size))
    have hbT : Below w.heap.size w ((w2.alloc (tokO {})).alloc (.cells #[] 3)) := (HB2.out.alloc HB2.out.size _).alloc (by have := HB2.out.size; simp; omega) _
    have hPA := hide (HA.out.below hbT)
    have hOE := own_empty (w2.alloc (tokO {}))
    have hT4 : ((w2.alloc (tokO {})).alloc (.cells #[] 3)).heap[w2.heap.size]? = some (tokO {}) := at_old (at_new _ _)
    have HT4 := hide hT4
    have HBT := hide hbT
    have hsz2 := HB2.out.size
    rw [World.size_alloc] at hOE
    have HOE := hide hOE
    simp only [tokO] at hPA HOE
    clear hb1 hb2 hbT hOE hT4 HX HB
    simp only [tokV]
    go_wp2_with (at_builtin; refine append_pat _ rfl _ _ rfl (w2.heap.size + 1) _ 0 [] rfl HOE.out _ A rfl hPA.out (by have := HNA.out; omega) (by simp) ?_)
    intro v5 w5 ho5 hb5
    obtain ⟨a5, c5, hv5⟩ := own_shape ho5
    have HB5 := hide (HBT.out.trans (hb5.mono (by omega)))
    have hT5 : w5.heap[w2.heap.size]? = some (tokO {}) := by rw [hb5.block _ (by omega)]; exact HT4.out
    have hPL := hide (HL.out.below HB5.out)
    have hsz5 : w2.heap.size + 1 ≤ w5.heap.size := by have := hb5.size; simp at this; omega
    rw [← HNA.out] at hv5
    rw [hv5] at ho5 ⊢
    have HO5 := hide ho5
    have HT5 := hide hT5
    clear ho5 hb5 hT5 hv5 hPA HOE HT4 HBT
    go_wp2_with (at_builtin; refine append_pat _ rfl _ _ rfl (w2.heap.size + 1) _ _ _ rfl HO5.out _ L rfl hPL.out (by have := HNA.out; have := HNL.out; omega) (by omega) ?_)
    intro v6 w6 ho6 hb6
    obtain ⟨a6, c6, hv6⟩ := own_shape ho6
    have HB6 := hide (HB5.out.trans (hb6.mono (by omega)))
    have hT6 : w6.heap[w2.heap.size]? = some (tokO {}) := by rw [hb6.block _ (by omega)]; exact HT5.out
    have hsz6 : w2.heap.size + 1 ≤ w6.heap.size := by have := hb6.size; omega
    have hlen6 : A.length + L.length = na + nl := by have := HNA.out; have := HNL.out; omega
    rw [hlen6] at hv6 ho6
    rw [hv6] at ho6 ⊢
    have hP6 : PatV w6 (.slice a6 (na + nl) c6) (A ++ L) := own_patV (n := na + nl) (by rw [i64s_append]; simpa using ho6) (by rw [List.length_append]; have := HNA.out; have := HNL.out; omega)
    have HP6 := hide hP6
    have HT6 := hide hT6
    clear ho6 hb6 hT6 hv6 hP6 HO5 HT5 hPL HB5 hlen6
    go_wp2_with fail
    refine (next_any2 d (na : Int) _ (A ++ L) w6 HP6.out).mono ?_
    rintro e w7 (⟨t', k', hR', rfl, hkl', hb7⟩ | ⟨z', hR', rfl, hb7⟩)
    · have HB7 := hide (HB6.out.trans (hb7.mono HB6.out.size))
      have hT7 : w7.heap[w2.heap.size]? = some (tokO {}) := by rw [hb7.block _ (by omega)]; exact HT6.out
      have hP7 := hide (HP6.out.below hb7)
      have hq0 : w2.heap.size < w7.heap.size := lt_of_block hT7
      have hq1 : ¬ w2.heap.size = w7.heap.size := by omega
      have hq2 : ¬ w7.heap.size = w2.heap.size := by omega
      obtain ⟨q0, q1, q2, q3, q4, q5, q6, q7⟩ := tok_cells hT7
      rw [HNA.out, HM.out.2, HNT.out] at hR'
      cases hR'
    · have HB7 := hide (HB6.out.trans (hb7.mono HB6.out.size))
      have hT7 : w7.heap[w2.heap.size]? = some (tokO {}) := by rw [hb7.block _ (by omega)]; exact HT6.out
      have hP7 := hide (HP6.out.below hb7)
      have hq0 : w2.heap.size < w7.heap.size := lt_of_block hT7
      have hq1 : ¬ w2.heap.size = w7.heap.size := by omega
      have hq2 : ¬ w7.heap.size = w2.heap.size := by omega
      obtain ⟨q0, q1, q2, q3, q4, q5, q6, q7⟩ := tok_cells hT7
      have HRt := hide (fun o => right_any 1 _ (A ++ L) (w7.alloc o) (hP7.out.below ((Below.refl _ w7).alloc (Nat.le_refl _) o)))
      rw [HPE.out] at HRt
      rw [HNA.out, HM.out.2, HNT.out] at hR'
      have hE : z = z' := by simpa [shR] using hR'
      subst hE
      clear hb7 hT7 hR' hP7
      simp only [tokV]
      go_wp2_with fail
      refine (HRt.out _).mono ?_
      rintro e w8 ⟨rfl, rfl⟩
      go_wp2
      go_ret
      exact ⟨rfl, HB7.out.alloc HB7.out.size _⟩

theorem tokenMoves_walk (d : Int) (va vl : Value) (A L : List Int) (w : World) (hA : PatV w va A) (hL : PatV w vl L) (hs : A.length + L.length ≤ 3000000) : Calls Try.prog 5 #[.int .i64 d, va, vl] w fun e w' => e = .returned (.bool true) ∧ Below w.heap.size w w' := by
  by_cases hc : 300 < A.length + L.length
  · exact moves_long d va vl A L w hA hL hs hc
  · by_cases hd : d = 1 ∨ d = 2 ∨ d = 3
    · by_cases hl : L = []
      · exact moves_none d va vl A L w hA hL hs hc hd hl
      · by_cases hpe : patE 1 (A ++ L) = 0
        · exact moves_main d va vl A L w hA hL hs hc hd hl hpe
        · exact moves_wrong d va vl A L w hA hL hs hc hd hl hpe
    · exact moves_kind d va vl A L w hA hL hs hc hd

end Go.Proofs.Ytlapnhjkhpgklaa
