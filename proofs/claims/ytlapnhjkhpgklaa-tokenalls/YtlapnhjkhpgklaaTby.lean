/- What againBy answers. -/
import Derived.Test.YtlapnhjkhpgklaaTesc
namespace Go.Proofs.Ytlapnhjkhpgklaa
open Go.RowKit
set_option linter.unusedVariables false

theorem byteA_ne {l : List Int} (h : l ≠ []) : (byteA l).toList.isEmpty = false := by
  rw [ByteArray.toList_eq]
  unfold byteA
  cases l with
  | nil => exact absurd rfl h
  | cons a t => rfl
theorem agb_yes {l : List Int} {i : Nat} (hs : says l i [60] = true) {back : Bool} (hb : says l (i + 1) [45] = back) {j : Nat} (hj : j = if back then i + 2 else i + 1) {n : Int} {k : Nat} (he : digs 10 3 l j = (n, k)) :
    agbT l i = (if 0 < k then (if says l (j + k) [62] = false then .error 1 else if n = 0 then .error 3 else .ok (againT (if back then -n else n), j + k + 1)) else if back then .error 1 else if nameL l j = [] then .error 1 else if says l (j + (nameL l j).length) [62] = false then .error 1 else .ok ({ kind := 10, text := byteA (nameL l j) }, j + (nameL l j).length + 1)) := by
  unfold agbT
  rw [if_neg (by rw [hs]; simp)]
  simp only [hb, ← hj, he]

set_option maxHeartbeats 16000000 in
theorem againBy_any {b : Nat} {x : Addr} {c : Nat} {l : List Int} {i : Nat} {d : Int} (w : World) (h : RB w b x c l i d) : Calls Try.prog 55 #[.pointer (some ⟨b, 0, none⟩)] w fun e w' => OutT b x c l d w (agbT l i) e w' := by
  have hlt := h.lt
  have hxw := h.xw
  have hat := h.at'
  have hw0 := h.alloc (tokO {})
  cases hs : says l i [60] with
  | false =>
    have HS := hide (must_no 60 _ hw0 hs)
    have hE : Hid (agbT l i = .error 1) := by show _ = _; unfold agbT; rw [if_pos hs]
    clear hs h hw0
    go_enter Try.func55, Try.ntmps55
    go_wp2_with fail
    simp only [tokO] at HS
    refine HS.out.mono ?_
    rintro e w1 ⟨rfl, hm⟩
    have HMM := hide hm
    clear hm HS
    simp only [gives]
    go_wp2
    exact ⟨rfl, .inr ⟨1, hE.out, rfl, ((Mv.refl b w).alloc _).trans HMM.out⟩⟩
  | true =>
    have HS := hide (must_yes 60 _ hw0 hs)
    have hin := says_len hs (by simp)
    obtain ⟨back, hbk⟩ : ∃ back, says l (i + 1) [45] = back := ⟨_, rfl⟩
    obtain ⟨j, hj⟩ : ∃ j, j = (if back then i + 2 else i + 1) := ⟨_, rfl⟩
    have hjl : j ≤ l.length := by
      rw [hj]
      split
      · rename_i hb; rw [hb] at hbk; have := says_len hbk (by simp); simp at this; omega
      · simpa using hin
    obtain ⟨n, k, he, hr0⟩ := digs_spec 10 3 l j hjl (Or.inl rfl)
    have HA := hide (agb_yes hs hbk hj he)
    have HS2 : Hid (∀ w1, RB w1 b x c l (i + 1) d → Calls Try.prog 48 #[.pointer (some ⟨b, 0, none⟩), .slice (some ⟨w1.heap.size, 0, none⟩) 1 1] (w1.alloc (.cells #[.int .i64 45] 3)) fun e w' => e = .returned (.bool back) ∧ RB w' b x c l j d ∧ Mv b w1 w') := fun w1 h1 => by
      have := skip1 w1 h1 45
      rw [hbk] at this
      rw [hj]
      exact this
    have HD := hide (fun w1 (h1 : RB w1 b x c l j d) => digits_is w1 h1 (Or.inl rfl) (show 3 ≤ 6 by omega) he)
    have hnb := digR_bound hr0 (by omega)
    have hn0 := hr0.n0
    have hk1 := hr0.k1
    clear hs h hw0 he hr0 hbk hj hin
    by_cases hkp : 0 < k
    · have hki : (0 : Int) < (k : Int) := by omega
      cases back with
      | true =>
        go_enter Try.func55, Try.ntmps55
        go_wp2_with fail
        simp only [tokO] at HS
        refine HS.out.mono ?_
        rintro e w1 ⟨rfl, hr1, hm1⟩
        go_wp2_with fail
        refine (again_any 0 w1).mono ?_
        rintro e w2 ⟨rfl, hb2⟩
        have hr2 := hr1.keep hb2
        have hm2 := hm1.trans (Mv.of_below hb2)
        have hz2 : w.heap.size + 1 ≤ w2.heap.size := by have := hm2.size; simpa using this
        have hlt2 := hr2.lt
        have hxw2 := hr2.xw
        simp only [tokV, againT]
        have HS3 := hide (HS2.out _ (hr2.alloc (tokO (againT 0))))
        simp only [tokO, againT, World.size_alloc] at HS3
        clear hr1 hm1 hb2 HS HS2
        go_wp2_with fail
        refine HS3.out.mono ?_
        rintro e w3 ⟨rfl, hr3, hm3⟩
        go_wp2_with fail
        refine (HD.out w3 hr3).mono ?_
        rintro e w4 ⟨rfl, hr4, hm4⟩
        have hm24 := ((Mv.refl b w2).alloc (tokO (againT 0))).trans (hm3.trans hm4)
        have hT : w4.heap[w2.heap.size]? = some (tokO (againT 0)) := (hm3.trans hm4).blockAt (at_new _ _) (by omega)
        have hmA := hm2.trans hm24
        have frT := tok_free hT
        obtain ⟨n0, n1, n2, n3, n4, n5, n6, n7⟩ := tok_cells hT
        simp only [againT] at n0 n1 n2 n3 n4 n5 n6 n7
        clear HS3 HD hr2 hm2 hr3 hm3 hm4 hm24
        have hrX := hr4.other (p := ⟨w2.heap.size, 1, none⟩) (by simp; omega) (by simp; omega) (.int .i64 (-n))
        have hmX := hmA.setNew (p := ⟨w2.heap.size, 1, none⟩) (by simp; omega) (.int .i64 (-n))
        have HTX : Hid ((w4.setCell ⟨w2.heap.size, 1, none⟩ (.int .i64 (-n))).heap[w2.heap.size]? = some (tokO (againT (-n)))) := by
          show _ = _
          rw [set_one hT]
          simp [tokO, againT]
        clear hr4 hmA
        cases hs3 : says l (j + k) [62] with
        | false =>
          have hE : Hid (agbT l i = .error 1) := by show _ = _; rw [HA.out, if_pos hkp, if_pos hs3]
          have HM5 := hide (must_no 62 _ hrX hs3)
          clear hs3 hrX
          simp only []
          go_wp2_with fail
          refine HM5.out.mono ?_
          rintro e w9 ⟨rfl, hm9⟩
          have hm := hmX.trans hm9
          have HMM := hide hm
          clear hm hmX hm9 HM5
          simp only [gives]
          go_wp2
          exact ⟨rfl, .inr ⟨1, hE.out, rfl, ((Mv.refl b w).alloc _).trans HMM.out⟩⟩
        | true =>
          have HM5 := hide (must_yes 62 _ hrX hs3)
          by_cases hz : n = 0
          · subst hz
            have hE : Hid (agbT l i = .error 3) := by show _ = _; rw [HA.out, if_pos hkp, if_neg (by rw [hs3]; simp), if_pos rfl]
            clear hs3 hrX
            simp only []
            go_wp2_with fail
            refine HM5.out.mono ?_
            rintro e w9 ⟨rfl, hr, hm9⟩
            have hm := hmX.trans hm9
            have hT9 := hm9.blockAt HTX.out (by omega)
            obtain ⟨p0, p1, p2, p3, p4, p5, p6, p7⟩ := tok_cells hT9
            try simp only [againT, Int.neg_zero] at p0 p1 p2 p3 p4 p5 p6 p7
            have HMM := hide hm
            clear hm hr hmX hm9 HM5
            simp only
            go_wp2
            exact ⟨rfl, .inr ⟨3, hE.out, rfl, ((Mv.refl b w).alloc _).trans HMM.out⟩⟩
          · have hE : Hid (agbT l i = .ok ((againT (-n)), j + k + 1)) := by show _ = _; rw [HA.out, if_pos hkp, if_neg (by rw [hs3]; simp), if_neg hz]; rfl
            clear hs3 hrX
            have hzb : ((-n) == 0) = false := by simp; omega
            have hzc : ¬ (-n) = 0 := by omega
            simp only []
            go_wp2_with fail
            refine HM5.out.mono ?_
            rintro e w9 ⟨rfl, hr, hm9⟩
            have hm := hmX.trans hm9
            have hT9 := hm9.blockAt HTX.out (by omega)
            obtain ⟨p0, p1, p2, p3, p4, p5, p6, p7⟩ := tok_cells hT9
            try simp only [againT] at p0 p1 p2 p3 p4 p5 p6 p7
            have hN : w9.heap[w.heap.size]? = some (tokO {}) := hm.blockAt (at_new _ _) (by omega)
            obtain ⟨m0, m1, m2, m3, m4, m5, m6, m7⟩ := tok_cells hN
            have fr0 := tok_free hN
            have hq0 : w.heap.size < w9.heap.size := lt_of_block hN
            have hq1 : ¬ w.heap.size = w9.heap.size := by omega
            have hq2 : ¬ w9.heap.size = w.heap.size := by omega
            have HRR := hide hr
            have HMM := hide hm
            clear hr hm hmX hm9 HM5
            go_wp21
            go_wp21
            go_wp21
            exact ret_tok (N := w.heap.size) rfl rfl (tok_set hN (againT (-n))) (.inl ⟨(againT (-n)), (j + k + 1), hE.out, rfl, HRR.out.tok (by omega) (by omega) _ _ _ _ _ _ _ _, Mv.tok (((Mv.refl b w).alloc _).trans HMM.out) (Nat.le_refl _) _ _ _ _ _ _ _ _⟩)
      | false =>
        go_enter Try.func55, Try.ntmps55
        go_wp2_with fail
        simp only [tokO] at HS
        refine HS.out.mono ?_
        rintro e w1 ⟨rfl, hr1, hm1⟩
        go_wp2_with fail
        refine (again_any 0 w1).mono ?_
        rintro e w2 ⟨rfl, hb2⟩
        have hr2 := hr1.keep hb2
        have hm2 := hm1.trans (Mv.of_below hb2)
        have hz2 : w.heap.size + 1 ≤ w2.heap.size := by have := hm2.size; simpa using this
        have hlt2 := hr2.lt
        have hxw2 := hr2.xw
        simp only [tokV, againT]
        have HS3 := hide (HS2.out _ (hr2.alloc (tokO (againT 0))))
        simp only [tokO, againT, World.size_alloc] at HS3
        clear hr1 hm1 hb2 HS HS2
        go_wp2_with fail
        refine HS3.out.mono ?_
        rintro e w3 ⟨rfl, hr3, hm3⟩
        go_wp2_with fail
        refine (HD.out w3 hr3).mono ?_
        rintro e w4 ⟨rfl, hr4, hm4⟩
        have hm24 := ((Mv.refl b w2).alloc (tokO (againT 0))).trans (hm3.trans hm4)
        have hT : w4.heap[w2.heap.size]? = some (tokO (againT 0)) := (hm3.trans hm4).blockAt (at_new _ _) (by omega)
        have hmA := hm2.trans hm24
        have frT := tok_free hT
        obtain ⟨n0, n1, n2, n3, n4, n5, n6, n7⟩ := tok_cells hT
        simp only [againT] at n0 n1 n2 n3 n4 n5 n6 n7
        clear HS3 HD hr2 hm2 hr3 hm3 hm4 hm24
        have hrX := hr4.other (p := ⟨w2.heap.size, 1, none⟩) (by simp; omega) (by simp; omega) (.int .i64 (n))
        have hmX := hmA.setNew (p := ⟨w2.heap.size, 1, none⟩) (by simp; omega) (.int .i64 (n))
        have HTX : Hid ((w4.setCell ⟨w2.heap.size, 1, none⟩ (.int .i64 (n))).heap[w2.heap.size]? = some (tokO (againT (n)))) := by
          show _ = _
          rw [set_one hT]
          simp [tokO, againT]
        clear hr4 hmA
        cases hs3 : says l (j + k) [62] with
        | false =>
          have hE : Hid (agbT l i = .error 1) := by show _ = _; rw [HA.out, if_pos hkp, if_pos hs3]
          have HM5 := hide (must_no 62 _ hrX hs3)
          clear hs3 hrX
          simp only []
          go_wp2_with fail
          refine HM5.out.mono ?_
          rintro e w9 ⟨rfl, hm9⟩
          have hm := hmX.trans hm9
          have HMM := hide hm
          clear hm hmX hm9 HM5
          simp only [gives]
          go_wp2
          exact ⟨rfl, .inr ⟨1, hE.out, rfl, ((Mv.refl b w).alloc _).trans HMM.out⟩⟩
        | true =>
          have HM5 := hide (must_yes 62 _ hrX hs3)
          by_cases hz : n = 0
          · subst hz
            have hE : Hid (agbT l i = .error 3) := by show _ = _; rw [HA.out, if_pos hkp, if_neg (by rw [hs3]; simp), if_pos rfl]
            clear hs3 hrX
            simp only []
            go_wp2_with fail
            refine HM5.out.mono ?_
            rintro e w9 ⟨rfl, hr, hm9⟩
            have hm := hmX.trans hm9
            have hT9 := hm9.blockAt HTX.out (by omega)
            obtain ⟨p0, p1, p2, p3, p4, p5, p6, p7⟩ := tok_cells hT9
            try simp only [againT] at p0 p1 p2 p3 p4 p5 p6 p7
            have HMM := hide hm
            clear hm hr hmX hm9 HM5
            simp only
            go_wp2
            exact ⟨rfl, .inr ⟨3, hE.out, rfl, ((Mv.refl b w).alloc _).trans HMM.out⟩⟩
          · have hE : Hid (agbT l i = .ok ((againT (n)), j + k + 1)) := by show _ = _; rw [HA.out, if_pos hkp, if_neg (by rw [hs3]; simp), if_neg hz]; rfl
            clear hs3 hrX
            have hzb : ((n) == 0) = false := by simp; omega
            have hzc : ¬ (n) = 0 := by omega
            simp only []
            go_wp2_with fail
            refine HM5.out.mono ?_
            rintro e w9 ⟨rfl, hr, hm9⟩
            have hm := hmX.trans hm9
            have hT9 := hm9.blockAt HTX.out (by omega)
            obtain ⟨p0, p1, p2, p3, p4, p5, p6, p7⟩ := tok_cells hT9
            try simp only [againT] at p0 p1 p2 p3 p4 p5 p6 p7
            have hN : w9.heap[w.heap.size]? = some (tokO {}) := hm.blockAt (at_new _ _) (by omega)
            obtain ⟨m0, m1, m2, m3, m4, m5, m6, m7⟩ := tok_cells hN
            have fr0 := tok_free hN
            have hq0 : w.heap.size < w9.heap.size := lt_of_block hN
            have hq1 : ¬ w.heap.size = w9.heap.size := by omega
            have hq2 : ¬ w9.heap.size = w.heap.size := by omega
            have HRR := hide hr
            have HMM := hide hm
            clear hr hm hmX hm9 HM5
            go_wp21
            go_wp21
            go_wp21
            exact ret_tok (N := w.heap.size) rfl rfl (tok_set hN (againT (n))) (.inl ⟨(againT (n)), (j + k + 1), hE.out, rfl, HRR.out.tok (by omega) (by omega) _ _ _ _ _ _ _ _, Mv.tok (((Mv.refl b w).alloc _).trans HMM.out) (Nat.le_refl _) _ _ _ _ _ _ _ _⟩)
    · obtain rfl : k = 0 := by omega
      cases back with
      | true =>
        have hE : Hid (agbT l i = .error 1) := by show _ = _; rw [HA.out, if_neg hkp, if_pos rfl]
        go_enter Try.func55, Try.ntmps55
        go_wp2_with fail
        simp only [tokO] at HS
        refine HS.out.mono ?_
        rintro e w1 ⟨rfl, hr1, hm1⟩
        go_wp2_with fail
        refine (again_any 0 w1).mono ?_
        rintro e w2 ⟨rfl, hb2⟩
        have hr2 := hr1.keep hb2
        have hm2 := hm1.trans (Mv.of_below hb2)
        have hz2 : w.heap.size + 1 ≤ w2.heap.size := by have := hm2.size; simpa using this
        have hlt2 := hr2.lt
        have hxw2 := hr2.xw
        simp only [tokV, againT]
        have HS3 := hide (HS2.out _ (hr2.alloc (tokO (againT 0))))
        simp only [tokO, againT, World.size_alloc] at HS3
        clear hr1 hm1 hb2 HS HS2
        go_wp2_with fail
        refine HS3.out.mono ?_
        rintro e w3 ⟨rfl, hr3, hm3⟩
        go_wp2_with fail
        refine (HD.out w3 hr3).mono ?_
        rintro e w4 ⟨rfl, hr4, hm4⟩
        have hm24 := ((Mv.refl b w2).alloc (tokO (againT 0))).trans (hm3.trans hm4)
        have hT : w4.heap[w2.heap.size]? = some (tokO (againT 0)) := (hm3.trans hm4).blockAt (at_new _ _) (by omega)
        have hmA := hm2.trans hm24
        have frT := tok_free hT
        obtain ⟨n0, n1, n2, n3, n4, n5, n6, n7⟩ := tok_cells hT
        simp only [againT] at n0 n1 n2 n3 n4 n5 n6 n7
        clear HS3 HD hr2 hm2 hr3 hm3 hm4 hm24
        have hm := hmA
        have HMM := hide hm
        clear hm hmA hr4
        simp only
        go_wp2
        exact ⟨rfl, .inr ⟨1, hE.out, rfl, ((Mv.refl b w).alloc _).trans HMM.out⟩⟩
      | false =>
        go_enter Try.func55, Try.ntmps55
        go_wp2_with fail
        simp only [tokO] at HS
        refine HS.out.mono ?_
        rintro e w1 ⟨rfl, hr1, hm1⟩
        go_wp2_with fail
        refine (again_any 0 w1).mono ?_
        rintro e w2 ⟨rfl, hb2⟩
        have hr2 := hr1.keep hb2
        have hm2 := hm1.trans (Mv.of_below hb2)
        have hz2 : w.heap.size + 1 ≤ w2.heap.size := by have := hm2.size; simpa using this
        have hlt2 := hr2.lt
        have hxw2 := hr2.xw
        simp only [tokV, againT]
        have HS3 := hide (HS2.out _ (hr2.alloc (tokO (againT 0))))
        simp only [tokO, againT, World.size_alloc] at HS3
        clear hr1 hm1 hb2 HS HS2
        go_wp2_with fail
        refine HS3.out.mono ?_
        rintro e w3 ⟨rfl, hr3, hm3⟩
        go_wp2_with fail
        refine (HD.out w3 hr3).mono ?_
        rintro e w4 ⟨rfl, hr4, hm4⟩
        have hm24 := ((Mv.refl b w2).alloc (tokO (againT 0))).trans (hm3.trans hm4)
        have hT : w4.heap[w2.heap.size]? = some (tokO (againT 0)) := (hm3.trans hm4).blockAt (at_new _ _) (by omega)
        have hmA := hm2.trans hm24
        have frT := tok_free hT
        obtain ⟨n0, n1, n2, n3, n4, n5, n6, n7⟩ := tok_cells hT
        simp only [againT] at n0 n1 n2 n3 n4 n5 n6 n7
        clear HS3 HD hr2 hm2 hr3 hm3 hm4 hm24
        have hr4' : RB w4 b x c l j d := hr4
        clear hr4
        go_wp2_with fail
        refine (name_any w4 hr4').mono ?_
        rintro e w5 (⟨hnil, rfl, hm5⟩ | ⟨hnn, rfl, hr5, hm5⟩)
        · have hm := hmA.trans hm5
          have hE : Hid (agbT l i = .error 1) := by show _ = _; rw [HA.out, if_neg hkp, if_neg (by simp), if_pos hnil]
          have HMM := hide hm
          clear hm hmA hm5 hr4' hnil
          simp only [gives]
          go_wp2
          exact ⟨rfl, .inr ⟨1, hE.out, rfl, ((Mv.refl b w).alloc _).trans HMM.out⟩⟩
        · have hT5 := hm5.blockAt hT (by omega)
          have frT5 := tok_free hT5
          obtain ⟨q0, q1, q2, q3, q4, q5, q6, q7⟩ := tok_cells hT5
          simp only [againT] at q0 q1 q2 q3 q4 q5 q6 q7
          have hA2 : Hid (agbT l i = (if says l (j + (nameL l j).length) [62] = false then .error 1 else .ok ({ kind := 10, text := byteA (nameL l j) }, j + (nameL l j).length + 1))) := by show _ = _; rw [HA.out, if_neg hkp, if_neg (by simp), if_neg hnn]
          have hSe := byteA_ne hnn
          obtain ⟨S, hS⟩ : ∃ S, S = byteA (nameL l j) := ⟨_, rfl⟩
          obtain ⟨q, hq⟩ : ∃ q, q = j + (nameL l j).length := ⟨_, rfl⟩
          rw [← hS] at hA2 hSe ⊢
          rw [← hq] at hA2 hr5
          have hrX := hr5.other (p := ⟨w2.heap.size, 2, none⟩) (by simp; omega) (by simp; omega) (.string S)
          have hmX := (hmA.trans hm5).setNew (p := ⟨w2.heap.size, 2, none⟩) (by simp; omega) (.string S)
          have HTX : Hid ((w5.setCell ⟨w2.heap.size, 2, none⟩ (.string S)).heap[w2.heap.size]? = some (tokO { kind := 10, text := S })) := by
            show _ = _
            rw [set_one hT5]
            simp [tokO, againT]
          clear hr4' hmA hr5 hm5 hT hT5 frT n0 n1 n2 n3 n4 n5 n6 n7 hS hq hnn HA
          cases hs3 : says l (q) [62] with
          | false =>
            have hE : Hid (agbT l i = .error 1) := by show _ = _; rw [hA2.out, if_pos hs3]
            have HM5 := hide (must_no 62 _ hrX hs3)
            clear hs3 hrX
            simp only []
            go_wp2_with fail
            refine HM5.out.mono ?_
            rintro e w9 ⟨rfl, hm9⟩
            have hm := hmX.trans hm9
            have HMM := hide hm
            clear hm hmX hm9 HM5
            simp only [gives]
            go_wp2
            exact ⟨rfl, .inr ⟨1, hE.out, rfl, ((Mv.refl b w).alloc _).trans HMM.out⟩⟩
          | true =>
            have HM5 := hide (must_yes 62 _ hrX hs3)
            have hE : Hid (agbT l i = .ok ({ kind := 10, text := S }, q + 1)) := by show _ = _; rw [hA2.out, if_neg (by rw [hs3]; simp)]
            clear hs3 hrX
            simp only []
            go_wp2_with fail
            refine HM5.out.mono ?_
            rintro e w9 ⟨rfl, hr, hm9⟩
            have hm := hmX.trans hm9
            have hT9 := hm9.blockAt HTX.out (by omega)
            obtain ⟨p0, p1, p2, p3, p4, p5, p6, p7⟩ := tok_cells hT9
            try simp only at p0 p1 p2 p3 p4 p5 p6 p7
            have hN : w9.heap[w.heap.size]? = some (tokO {}) := hm.blockAt (at_new _ _) (by omega)
            obtain ⟨m0, m1, m2, m3, m4, m5, m6, m7⟩ := tok_cells hN
            have fr0 := tok_free hN
            have hq0 : w.heap.size < w9.heap.size := lt_of_block hN
            have hq1 : ¬ w.heap.size = w9.heap.size := by omega
            have hq2 : ¬ w9.heap.size = w.heap.size := by omega
            have HRR := hide hr
            have HMM := hide hm
            clear hr hm hmX hm9 HM5
            go_wp21
            go_wp21
            go_wp21
            exact ret_tok (N := w.heap.size) rfl rfl (tok_set hN { kind := 10, text := S }) (.inl ⟨{ kind := 10, text := S }, (q + 1), hE.out, rfl, HRR.out.tok (by omega) (by omega) _ _ _ _ _ _ _ _, Mv.tok (((Mv.refl b w).alloc _).trans HMM.out) (Nat.le_refl _) _ _ _ _ _ _ _ _⟩)

end Go.Proofs.Ytlapnhjkhpgklaa
