/- What class.token, control, hexPoint and againDigits answer. -/
import Derived.Test.YtlapnhjkhpgklaaTpart4
namespace Go.Proofs.Ytlapnhjkhpgklaa
open Go.RowKit
set_option linter.unusedVariables false

set_option maxHeartbeats 1000000 in
theorem classTok_any (n : ByteArray) (g : Bool) (w : World) : Calls Try.prog 52 #[.agg #[.string n, .bool g]] w fun e w' => e = .returned (tokV (classT (n, g))) ∧ Below w.heap.size w w' := by
  go_enter Try.func52, Try.ntmps52
  go_wp21
  go_wp21
  exact ret_tok (N := w.heap.size + 1) (t := classT (n, g)) rfl rfl (at_new' _ _ (by simp)) ⟨rfl, ((Below.refl _ _).alloc (Nat.le_refl _) _).alloc (by simp) _⟩

theorem ctl_no {p : Int} (h : ctlT p = .error 1) : p ≠ 110 ∧ p ≠ 116 ∧ p ≠ 114 ∧ p ≠ 102 ∧ p ≠ 118 ∧ p ≠ 97 ∧ p ≠ 101 ∧ (letB p = true ∨ p = 48) := by
  unfold ctlT at h
  repeat' (split at h)
  all_goals first | (cases h; done) | skip
  all_goals simp_all
set_option maxHeartbeats 4000000 in
theorem control_any (p : Int) (w : World) : Calls Try.prog 57 #[.int .i64 p] w fun e w' => (∃ q, ctlT p = .ok q ∧ e = .returned (.int .i64 q) ∧ w = w') ∨ (ctlT p = .error 1 ∧ e = gives 1 ∧ w = w') := by
  by_cases hp110 : p = 110
  · subst hp110
    go_enter Try.func57, Try.ntmps57
    go_wp2
    go_ret
    exact .inl ⟨10, by simp [ctlT], rfl, rfl⟩
  by_cases hp116 : p = 116
  · subst hp116
    go_enter Try.func57, Try.ntmps57
    go_wp2
    go_ret
    exact .inl ⟨9, by simp [ctlT], rfl, rfl⟩
  by_cases hp114 : p = 114
  · subst hp114
    go_enter Try.func57, Try.ntmps57
    go_wp2
    go_ret
    exact .inl ⟨13, by simp [ctlT], rfl, rfl⟩
  by_cases hp102 : p = 102
  · subst hp102
    go_enter Try.func57, Try.ntmps57
    go_wp2
    go_ret
    exact .inl ⟨12, by simp [ctlT], rfl, rfl⟩
  by_cases hp118 : p = 118
  · subst hp118
    go_enter Try.func57, Try.ntmps57
    go_wp2
    go_ret
    exact .inl ⟨11, by simp [ctlT], rfl, rfl⟩
  by_cases hp97 : p = 97
  · subst hp97
    go_enter Try.func57, Try.ntmps57
    go_wp2
    go_ret
    exact .inl ⟨7, by simp [ctlT], rfl, rfl⟩
  by_cases hp101 : p = 101
  · subst hp101
    go_enter Try.func57, Try.ntmps57
    go_wp2
    go_ret
    exact .inl ⟨27, by simp [ctlT], rfl, rfl⟩
  have hq110 : (p == 110) = false := by simpa using hp110
  have hq116 : (p == 116) = false := by simpa using hp116
  have hq114 : (p == 114) = false := by simpa using hp114
  have hq102 : (p == 102) = false := by simpa using hp102
  have hq118 : (p == 118) = false := by simpa using hp118
  have hq97 : (p == 97) = false := by simpa using hp97
  have hq101 : (p == 101) = false := by simpa using hp101
  have HL := hide (isLetter_any p w)
  cases hl : letB p with
  | true =>
    rw [hl] at HL
    have hE : Hid (ctlT p = .error 1) := by show _ = _; unfold ctlT; simp [hp110, hp116, hp114, hp102, hp118, hp97, hp101, hl]
    clear hl
    go_enter Try.func57, Try.ntmps57
    go_wp2_with fail
    refine HL.out.mono ?_
    rintro e w' ⟨rfl, rfl⟩
    go_wp2
    exact ⟨rfl, .inr ⟨hE.out, rfl, rfl⟩⟩
  | false =>
    rw [hl] at HL
    by_cases hp48 : p = 48
    · subst hp48
      have hE : Hid (ctlT 48 = .error 1) := by show _ = _; unfold ctlT; simp
      clear hl
      go_enter Try.func57, Try.ntmps57
      go_wp2_with fail
      refine HL.out.mono ?_
      rintro e w' ⟨rfl, rfl⟩
      go_wp2
      exact ⟨rfl, .inr ⟨hE.out, rfl, rfl⟩⟩
    · have hq48 : (p == 48) = false := by simpa using hp48
      have hE : Hid (ctlT p = .ok p) := by show _ = _; unfold ctlT; simp [hp110, hp116, hp114, hp102, hp118, hp97, hp101, hl, hp48]
      clear hl
      go_enter Try.func57, Try.ntmps57
      go_wp2_with fail
      refine HL.out.mono ?_
      rintro e w' ⟨rfl, rfl⟩
      go_wp2
      go_ret
      exact .inl ⟨p, hE.out, rfl, rfl⟩

theorem hex_is {b : Nat} {x : Addr} {c : Nat} {l : List Int} {i : Nat} {d : Int} {least most k : Nat} {n : Int} (w : World) (h : RB w b x c l i d) (hm : most ≤ 6) (hl : least ≤ 6) (he : digs 16 most l i = (n, k)) (hk : least ≤ k) :
    Calls Try.prog 54 #[.pointer (some ⟨b, 0, none⟩), .int .i64 least, .int .i64 most] w fun e w' => e = .returned (.int .i64 n) ∧ RB w' b x c l (i + k) d ∧ Mv b w w' := by
  have := hex_yes least most w h hm hl (by rw [he]; exact hk)
  rw [he] at this
  exact this
theorem hex_not {b : Nat} {x : Addr} {c : Nat} {l : List Int} {i : Nat} {d : Int} {least most k : Nat} {n : Int} (w : World) (h : RB w b x c l i d) (hm : most ≤ 6) (hl : least ≤ 6) (he : digs 16 most l i = (n, k)) (hk : k < least) :
    Calls Try.prog 54 #[.pointer (some ⟨b, 0, none⟩), .int .i64 least, .int .i64 most] w fun e w' => e = gives 1 ∧ Mv b w w' :=
  hex_no least most w h hm hl (by rw [he]; exact hk)

set_option maxHeartbeats 4000000 in
theorem hexPoint_any {b : Nat} {x : Addr} {c : Nat} {l : List Int} {i : Nat} {d : Int} (w : World) (h : RB w b x c l i d) : Calls Try.prog 53 #[.pointer (some ⟨b, 0, none⟩)] w fun e w' => OutT b x c l d w (hexT l i) e w' := by
  have hlt := h.lt
  have hxw := h.xw
  have hat := h.at'
  have hw0 := h.alloc (tokO {})
  cases hs : says l i [123] with
  | false =>
    have HS := hide (skip_no _ hw0 123 hs)
    obtain ⟨n, k, he, hr0⟩ := digs_spec 16 2 l i hat (Or.inr rfl)
    by_cases hk : k < 1
    · have HX := hide (fun w1 (h1 : RB w1 b x c l i d) => hex_not (least := 1) w1 h1 (by omega) (by omega) he hk)
      have hE : Hid (hexT l i = .error 1) := by show _ = _; unfold hexT; rw [if_pos hs]; simp only [he]; rw [if_pos hk]
      clear hs h hw0 he hr0 hk
      go_enter Try.func53, Try.ntmps53
      go_wp2_with fail
      simp only [tokO, World.size_alloc] at HS
      refine HS.out.mono ?_
      rintro e w1 ⟨rfl, hr1, hm1⟩
      go_wp2_with fail
      refine (HX.out w1 hr1).mono ?_
      rintro e w2 ⟨rfl, hm2⟩
      have hm := hm1.trans hm2
      have HMM := hide hm
      clear hm HS HX hr1 hm1 hm2
      simp only [gives]
      go_wp2
      exact ⟨rfl, .inr ⟨1, hE.out, rfl, ((Mv.refl b w).alloc _).trans HMM.out⟩⟩
    · have HX := hide (fun w1 (h1 : RB w1 b x c l i d) => hex_is (least := 1) w1 h1 (by omega) (by omega) he (by omega))
      have hE : Hid (hexT l i = .ok (pointT n, i + k)) := by show _ = _; unfold hexT; rw [if_pos hs]; simp only [he]; rw [if_neg hk]
      clear hs h hw0 he hr0 hk
      go_enter Try.func53, Try.ntmps53
      go_wp2_with fail
      simp only [tokO, World.size_alloc] at HS
      refine HS.out.mono ?_
      rintro e w1 ⟨rfl, hr1, hm1⟩
      go_wp2_with fail
      refine (HX.out w1 hr1).mono ?_
      rintro e w2 ⟨rfl, hr2, hm2⟩
      go_wp2_with fail
      refine (point_any n w2).mono ?_
      rintro e w3 ⟨rfl, hb3⟩
      have hr := hr2.keep hb3
      have hm := (hm1.trans hm2).trans (Mv.of_below hb3)
      have hN : w3.heap[w.heap.size]? = some (tokO {}) := hm.blockAt (at_new _ _) (by omega)
      obtain ⟨m0, m1, m2, m3, m4, m5, m6, m7⟩ := tok_cells hN
      have fr0 := tok_free hN
      have hq0 : w.heap.size < w3.heap.size := lt_of_block hN
      have hq1 : ¬ w.heap.size = w3.heap.size := by omega
      have hq2 : ¬ w3.heap.size = w.heap.size := by omega
      have HRR := hide hr
      have HMM := hide hm
      clear hr hm HS HX hr1 hm1 hr2 hm2 hb3
      simp only [tokV, pointT]
      go_wp21
      go_wp21
      go_wp21
      exact ret_tok (N := w.heap.size) rfl rfl (tok_set hN (pointT n)) (.inl ⟨(pointT n), (i + k), hE.out, rfl, HRR.out.tok (by omega) (by omega) _ _ _ _ _ _ _ _, Mv.tok (((Mv.refl b w).alloc _).trans HMM.out) (Nat.le_refl _) _ _ _ _ _ _ _ _⟩)
  | true =>
    have HS := hide (skip_yes _ hw0 123 hs)
    have hin := says_len hs (by simp)
    obtain ⟨n, k, he, hr0⟩ := digs_spec 16 6 l (i + 1) (by simpa using hin) (Or.inr rfl)
    have hnb := digR_bound hr0 (by omega)
    by_cases hk : k < 1
    · have HX := hide (fun w1 (h1 : RB w1 b x c l (i + 1) d) => hex_not (least := 1) w1 h1 (by omega) (by omega) he hk)
      have hE : Hid (hexT l i = .error 1) := by show _ = _; unfold hexT; rw [if_neg (by rw [hs]; simp)]; simp only [he]; rw [if_pos hk]
      clear hs h hw0 he hr0 hk hin
      go_enter Try.func53, Try.ntmps53
      go_wp2_with fail
      simp only [tokO, World.size_alloc] at HS
      refine HS.out.mono ?_
      rintro e w1 ⟨rfl, hr1, hm1⟩
      go_wp2_with fail
      refine (HX.out w1 hr1).mono ?_
      rintro e w2 ⟨rfl, hm2⟩
      have hm := hm1.trans hm2
      have HMM := hide hm
      clear hm HS HX hr1 hm1 hm2
      simp only [gives]
      go_wp2
      exact ⟨rfl, .inr ⟨1, hE.out, rfl, ((Mv.refl b w).alloc _).trans HMM.out⟩⟩
    · have HX := hide (fun w1 (h1 : RB w1 b x c l (i + 1) d) => hex_is (least := 1) w1 h1 (by omega) (by omega) he (by omega))
      have hE0 : Hid (hexT l i = (if says l (i + 1 + k) [125] = false then .error 1 else if n > 1114111 then .error 3 else .ok (pointT n, i + 1 + k + 1))) := by show _ = _; unfold hexT; rw [if_neg (by rw [hs]; simp)]; simp only [he]; rw [if_neg hk]
      clear hs h hw0 he hr0 hk hin
      cases hs2 : says l (i + 1 + k) [125] with
      | false =>
        have HM2 := hide (fun w1 (h1 : RB w1 b x c l (i + 1 + k) d) => must_no 125 w1 h1 hs2)
        have hE : Hid (hexT l i = .error 1) := by show _ = _; rw [hE0.out, if_pos hs2]
        clear hs2 hE0
        go_enter Try.func53, Try.ntmps53
        go_wp2_with fail
        simp only [tokO, World.size_alloc] at HS
        refine HS.out.mono ?_
        rintro e w1 ⟨rfl, hr1, hm1⟩
        go_wp2_with fail
        refine (HX.out w1 hr1).mono ?_
        rintro e w2 ⟨rfl, hr2, hm2⟩
        go_wp2_with fail
        refine (HM2.out w2 hr2).mono ?_
        rintro e w3 ⟨rfl, hm3⟩
        have hm := (hm1.trans hm2).trans hm3
        have HMM := hide hm
        clear hm HS HX HM2 hr1 hm1 hr2 hm2 hm3
        simp only [gives]
        go_wp2
        exact ⟨rfl, .inr ⟨1, hE.out, rfl, ((Mv.refl b w).alloc _).trans HMM.out⟩⟩
      | true =>
        have HM2 := hide (fun w1 (h1 : RB w1 b x c l (i + 1 + k) d) => must_yes 125 w1 h1 hs2)
        by_cases hbig : n > 1114111
        · have hE : Hid (hexT l i = .error 3) := by show _ = _; rw [hE0.out, if_neg (by rw [hs2]; simp), if_pos hbig]
          have hbig' : 1114111 < n := hbig
          clear hs2 hE0 hbig
          go_enter Try.func53, Try.ntmps53
          go_wp2_with fail
          simp only [tokO, World.size_alloc] at HS
          refine HS.out.mono ?_
          rintro e w1 ⟨rfl, hr1, hm1⟩
          go_wp2_with fail
          refine (HX.out w1 hr1).mono ?_
          rintro e w2 ⟨rfl, hr2, hm2⟩
          go_wp2_with fail
          refine (HM2.out w2 hr2).mono ?_
          rintro e w3 ⟨rfl, hr3, hm3⟩
          have hm := (hm1.trans hm2).trans hm3
          have HMM := hide hm
          clear hm HS HX HM2 hr1 hm1 hr2 hm2 hr3 hm3
          simp only
          go_wp2
          exact ⟨rfl, .inr ⟨3, hE.out, rfl, ((Mv.refl b w).alloc _).trans HMM.out⟩⟩
        · have hE : Hid (hexT l i = .ok (pointT n, i + 1 + k + 1)) := by show _ = _; rw [hE0.out, if_neg (by rw [hs2]; simp), if_neg hbig]
          have hbig' : ¬ 1114111 < n := hbig
          clear hs2 hE0 hbig
          go_enter Try.func53, Try.ntmps53
          go_wp2_with fail
          simp only [tokO, World.size_alloc] at HS
          refine HS.out.mono ?_
          rintro e w1 ⟨rfl, hr1, hm1⟩
          go_wp2_with fail
          refine (HX.out w1 hr1).mono ?_
          rintro e w2 ⟨rfl, hr2, hm2⟩
          go_wp2_with fail
          refine (HM2.out w2 hr2).mono ?_
          rintro e w3 ⟨rfl, hr3, hm3⟩
          go_wp2_with fail
          refine (point_any n w3).mono ?_
          rintro e w4 ⟨rfl, hb4⟩
          have hr := hr3.keep hb4
          have hm := ((hm1.trans hm2).trans hm3).trans (Mv.of_below hb4)
          have hN : w4.heap[w.heap.size]? = some (tokO {}) := hm.blockAt (at_new _ _) (by omega)
          obtain ⟨m0, m1, m2, m3, m4, m5, m6, m7⟩ := tok_cells hN
          have fr0 := tok_free hN
          have hq0 : w.heap.size < w4.heap.size := lt_of_block hN
          have hq1 : ¬ w.heap.size = w4.heap.size := by omega
          have hq2 : ¬ w4.heap.size = w.heap.size := by omega
          have HRR := hide hr
          have HMM := hide hm
          clear hr hm HS HX HM2 hr1 hm1 hr2 hm2 hr3 hm3 hb4
          simp only [tokV, pointT]
          go_wp21
          go_wp21
          go_wp21
          exact ret_tok (N := w.heap.size) rfl rfl (tok_set hN (pointT n)) (.inl ⟨(pointT n), (i + 1 + k + 1), hE.out, rfl, HRR.out.tok (by omega) (by omega) _ _ _ _ _ _ _ _, Mv.tok (((Mv.refl b w).alloc _).trans HMM.out) (Nat.le_refl _) _ _ _ _ _ _ _ _⟩)

set_option maxHeartbeats 4000000 in
theorem againDigits_any {b : Nat} {x : Addr} {c : Nat} {l : List Int} {i : Nat} {d : Int} (n : Int) (w : World) (h : RB w b x c l i d) (n0 : 0 ≤ n) (n1 : n ≤ 9) : Calls Try.prog 56 #[.pointer (some ⟨b, 0, none⟩), .int .i64 n] w fun e w' => OutT b x c l d w (.ok (agdT l i n)) e w' := by
  have hlt := h.lt
  have hxw := h.xw
  have hat := h.at'
  have hw0 := h.alloc (tokO {})
  obtain ⟨m, k, he, hr0⟩ := digs_spec 10 1 l i hat (Or.inl rfl)
  have HD := hide (digits_is _ hw0 (Or.inl rfl) (by omega) he)
  have hk1 := hr0.k1
  have hm0 := hr0.n0
  have hmb := digR_bound hr0 (by omega)
  by_cases hk : k = 1
  · subst hk
    have hE : Hid ((.ok (agdT l i n) : RT) = .ok (againT (n * 10 + m), i + 1)) := by show _ = _; unfold agdT; simp [he]
    clear h hw0 he hr0
    go_enter Try.func56, Try.ntmps56
    go_wp2_with fail
    simp only [tokO] at HD
    refine HD.out.mono ?_
    rintro e w1 ⟨rfl, hr1, hm1⟩
    go_wp2_with fail
    refine (again_any (n * 10 + m) w1).mono ?_
    rintro e w2 ⟨rfl, hb2⟩
    have hr := hr1.keep hb2
    have hm := hm1.trans (Mv.of_below hb2)
    have hN : w2.heap[w.heap.size]? = some (tokO {}) := hm.blockAt (at_new _ _) (by omega)
    obtain ⟨m0, m1, m2, m3, m4, m5, m6, m7⟩ := tok_cells hN
    have fr0 := tok_free hN
    have hq0 : w.heap.size < w2.heap.size := lt_of_block hN
    have hq1 : ¬ w.heap.size = w2.heap.size := by omega
    have hq2 : ¬ w2.heap.size = w.heap.size := by omega
    have HRR := hide hr
    have HMM := hide hm
    clear hr hm HD hr1 hm1 hb2
    simp only [tokV, againT]
    go_wp21
    go_wp21
    go_wp21
    exact ret_tok (N := w.heap.size) rfl rfl (tok_set hN (againT (n * 10 + m))) (.inl ⟨(againT (n * 10 + m)), (i + 1), hE.out, rfl, HRR.out.tok (by omega) (by omega) _ _ _ _ _ _ _ _, Mv.tok (((Mv.refl b w).alloc _).trans HMM.out) (Nat.le_refl _) _ _ _ _ _ _ _ _⟩)
  · obtain rfl : k = 0 := by omega
    have hE : Hid ((.ok (agdT l i n) : RT) = .ok (againT n, i)) := by show _ = _; unfold agdT; simp only [he]; rw [if_neg (by omega)]
    clear h hw0 he hr0 hk
    go_enter Try.func56, Try.ntmps56
    go_wp2_with fail
    simp only [tokO] at HD
    refine HD.out.mono ?_
    rintro e w1 ⟨rfl, hr1, hm1⟩
    go_wp2_with fail
    refine (again_any n w1).mono ?_
    rintro e w2 ⟨rfl, hb2⟩
    have hr := hr1.keep hb2
    have hm := hm1.trans (Mv.of_below hb2)
    have hN : w2.heap[w.heap.size]? = some (tokO {}) := hm.blockAt (at_new _ _) (by omega)
    obtain ⟨m0, m1, m2, m3, m4, m5, m6, m7⟩ := tok_cells hN
    have fr0 := tok_free hN
    have hq0 : w.heap.size < w2.heap.size := lt_of_block hN
    have hq1 : ¬ w.heap.size = w2.heap.size := by omega
    have hq2 : ¬ w2.heap.size = w.heap.size := by omega
    have HRR := hide hr
    have HMM := hide hm
    clear hr hm HD hr1 hm1 hb2
    simp only [tokV, againT]
    go_wp21
    go_wp21
    go_wp21
    exact ret_tok (N := w.heap.size) rfl rfl (tok_set hN (againT n)) (.inl ⟨(againT n), i, hE.out, rfl, HRR.out.tok (by omega) (by omega) _ _ _ _ _ _ _ _, Mv.tok (((Mv.refl b w).alloc _).trans HMM.out) (Nat.le_refl _) _ _ _ _ _ _ _ _⟩)

end Go.Proofs.Ytlapnhjkhpgklaa
