/- What open and parting answer. -/
import Derived.Test.YtlapnhjkhpgklaaTpart2
namespace Go.Proofs.Ytlapnhjkhpgklaa
open Go.RowKit
set_option linter.unusedVariables false

theorem openS_at {l : List Int} {i : Nat} {p : Int} (hs : says l i [63] = true) (hp : l[i + 1]? = some p) : openS 1 l i = (if p = 58 then .ok (openT 1, i + 2) else if p = 62 then .ok (openT 13, i + 2) else if p = 61 then .ok (openT 14, i + 2) else if p = 33 then .ok (openT 15, i + 2) else if p = 60 then behT l (i + 2) else if p = 105 then optT l (i + 2) 1 else if p = 45 then (if says l (i + 2) [105] then optT l (i + 3) (-1) else .error 1) else .error 1) := by
  unfold openS
  rw [if_neg (by simp), if_neg (by rw [hs]; simp), hp]

set_option maxHeartbeats 8000000 in
theorem openM_any {b : Nat} {x : Addr} {c : Nat} {l : List Int} {i : Nat} {d : Int} (w : World) (h : RB w b x c l i d) : Calls Try.prog 49 #[.pointer (some ⟨b, 0, none⟩)] w fun e w' => OutT b x c l d w (openS d l i) e w' := by
  have hlt := h.lt
  have hxw := h.xw
  have hat := h.at'
  have hw0 := h.alloc (tokO {})
  obtain ⟨c0, c1, c2, f1⟩ := h.cells
  by_cases hd : d = 1
  · subst hd
    cases hs : says l i [63] with
    | false =>
      have HS := hide (skip_no _ hw0 63 hs)
      have hE : Hid (openS 1 l i = .ok (openT 11, i)) := by show _ = _; unfold openS; rw [if_neg (by simp), if_pos hs]
      clear hs h hw0
      go_enter Try.func49, Try.ntmps49
      go_wp2_with fail
      simp only [tokO, World.size_alloc] at HS
      refine HS.out.mono ?_
      rintro e w1 ⟨rfl, hr1, hm1⟩
      go_wp2_with fail
      refine (open_any 11 w1).mono ?_
      rintro e w2 ⟨rfl, hb2⟩
      have hr := hr1.keep hb2
      have hm := hm1.trans (Mv.of_below hb2)
      have hN : w2.heap[w.heap.size]? = some (tokO {}) := hm.blockAt (at_new _ _) (by omega)
      obtain ⟨m0, m1, m2, m3, m4, m5, m6, m7⟩ := tok_cells hN
      have fr0 := tok_free hN
      have hq0 : w.heap.size < w2.heap.size := lt_of_block hN
      have hq1 : ¬ w.heap.size = w2.heap.size := by omega
      have hq2 : ¬ w2.heap.size = w.heap.size := by omega
      have HRR := hide hr
      have HMM := hide hm
      clear hr hm HS hr1 hm1 hb2
      simp only [tokV, openT]
      go_wp21
      go_wp21
      go_wp21
      exact ret_tok (N := w.heap.size) rfl rfl (tok_set hN (openT 11)) (.inl ⟨(openT 11), i, hE.out, rfl, HRR.out.tok (by omega) (by omega) _ _ _ _ _ _ _ _, Mv.tok (((Mv.refl b w).alloc _).trans HMM.out) (Nat.le_refl _) _ _ _ _ _ _ _ _⟩)
    | true =>
      have HS := hide (skip_yes _ hw0 63 hs)
      by_cases hi : i + 1 < l.length
      · have HT := hide (fun w1 (h1 : RB w1 b x c l (i + 1) 1) => take_yes w1 h1 hi)
        have hE0 := hide (openS_at hs (List.getElem?_eq_getElem hi))
        obtain ⟨p, hp⟩ : ∃ p, p = l[i + 1] := ⟨_, rfl⟩
        rw [← hp] at HT hE0
        clear hs h hw0 hp
        by_cases hp58 : p = 58
        · subst hp58
          have hE : Hid (openS 1 l i = .ok (openT 1, i + 2)) := by show _ = _; rw [hE0.out]; simp
          clear hE0
          go_enter Try.func49, Try.ntmps49
          go_wp2_with fail
          simp only [tokO, World.size_alloc] at HS
          refine HS.out.mono ?_
          rintro e w1 ⟨rfl, hr1, hm1⟩
          go_wp2_with fail
          refine (HT.out w1 hr1).mono ?_
          rintro e w2 ⟨rfl, hr2, hm2⟩
          go_wp2_with fail
          refine (open_any 1 w2).mono ?_
          rintro e w3 ⟨rfl, hb3⟩
          have hr := hr2.keep hb3
          have hm := (hm1.trans hm2).trans (Mv.of_below hb3)
          have hN : w3.heap[w.heap.size]? = some (tokO {}) := hm.blockAt (at_new _ _) (by omega)
          obtain ⟨m0, m1, m2, m3, m4, m5, m6, m7⟩ := tok_cells hN
          have fr0 := tok_free hN
          have hq0 : w.heap.size < w3.heap.size := lt_of_block hN
          have hq1 : ¬ w.heap.size = w3.heap.size := by omega
          have hq2 : ¬ w3.heap.size = w.heap.size := by omega
          have HRR := hide hr
          have HMM := hide hm
          clear hr hm HS HT hr1 hm1 hr2 hm2 hb3
          simp only [tokV, openT]
          go_wp21
          go_wp21
          go_wp21
          exact ret_tok (N := w.heap.size) rfl rfl (tok_set hN (openT 1)) (.inl ⟨(openT 1), (i + 2), hE.out, rfl, HRR.out.tok (by omega) (by omega) _ _ _ _ _ _ _ _, Mv.tok (((Mv.refl b w).alloc _).trans HMM.out) (Nat.le_refl _) _ _ _ _ _ _ _ _⟩)
        by_cases hp62 : p = 62
        · subst hp62
          have hE : Hid (openS 1 l i = .ok (openT 13, i + 2)) := by show _ = _; rw [hE0.out]; simp
          clear hE0
          go_enter Try.func49, Try.ntmps49
          go_wp2_with fail
          simp only [tokO, World.size_alloc] at HS
          refine HS.out.mono ?_
          rintro e w1 ⟨rfl, hr1, hm1⟩
          go_wp2_with fail
          refine (HT.out w1 hr1).mono ?_
          rintro e w2 ⟨rfl, hr2, hm2⟩
          go_wp2_with fail
          refine (open_any 13 w2).mono ?_
          rintro e w3 ⟨rfl, hb3⟩
          have hr := hr2.keep hb3
          have hm := (hm1.trans hm2).trans (Mv.of_below hb3)
          have hN : w3.heap[w.heap.size]? = some (tokO {}) := hm.blockAt (at_new _ _) (by omega)
          obtain ⟨m0, m1, m2, m3, m4, m5, m6, m7⟩ := tok_cells hN
          have fr0 := tok_free hN
          have hq0 : w.heap.size < w3.heap.size := lt_of_block hN
          have hq1 : ¬ w.heap.size = w3.heap.size := by omega
          have hq2 : ¬ w3.heap.size = w.heap.size := by omega
          have HRR := hide hr
          have HMM := hide hm
          clear hr hm HS HT hr1 hm1 hr2 hm2 hb3
          simp only [tokV, openT]
          go_wp21
          go_wp21
          go_wp21
          exact ret_tok (N := w.heap.size) rfl rfl (tok_set hN (openT 13)) (.inl ⟨(openT 13), (i + 2), hE.out, rfl, HRR.out.tok (by omega) (by omega) _ _ _ _ _ _ _ _, Mv.tok (((Mv.refl b w).alloc _).trans HMM.out) (Nat.le_refl _) _ _ _ _ _ _ _ _⟩)
        by_cases hp61 : p = 61
        · subst hp61
          have hE : Hid (openS 1 l i = .ok (openT 14, i + 2)) := by show _ = _; rw [hE0.out]; simp
          clear hE0
          go_enter Try.func49, Try.ntmps49
          go_wp2_with fail
          simp only [tokO, World.size_alloc] at HS
          refine HS.out.mono ?_
          rintro e w1 ⟨rfl, hr1, hm1⟩
          go_wp2_with fail
          refine (HT.out w1 hr1).mono ?_
          rintro e w2 ⟨rfl, hr2, hm2⟩
          go_wp2_with fail
          refine (open_any 14 w2).mono ?_
          rintro e w3 ⟨rfl, hb3⟩
          have hr := hr2.keep hb3
          have hm := (hm1.trans hm2).trans (Mv.of_below hb3)
          have hN : w3.heap[w.heap.size]? = some (tokO {}) := hm.blockAt (at_new _ _) (by omega)
          obtain ⟨m0, m1, m2, m3, m4, m5, m6, m7⟩ := tok_cells hN
          have fr0 := tok_free hN
          have hq0 : w.heap.size < w3.heap.size := lt_of_block hN
          have hq1 : ¬ w.heap.size = w3.heap.size := by omega
          have hq2 : ¬ w3.heap.size = w.heap.size := by omega
          have HRR := hide hr
          have HMM := hide hm
          clear hr hm HS HT hr1 hm1 hr2 hm2 hb3
          simp only [tokV, openT]
          go_wp21
          go_wp21
          go_wp21
          exact ret_tok (N := w.heap.size) rfl rfl (tok_set hN (openT 14)) (.inl ⟨(openT 14), (i + 2), hE.out, rfl, HRR.out.tok (by omega) (by omega) _ _ _ _ _ _ _ _, Mv.tok (((Mv.refl b w).alloc _).trans HMM.out) (Nat.le_refl _) _ _ _ _ _ _ _ _⟩)
        by_cases hp33 : p = 33
        · subst hp33
          have hE : Hid (openS 1 l i = .ok (openT 15, i + 2)) := by show _ = _; rw [hE0.out]; simp
          clear hE0
          go_enter Try.func49, Try.ntmps49
          go_wp2_with fail
          simp only [tokO, World.size_alloc] at HS
          refine HS.out.mono ?_
          rintro e w1 ⟨rfl, hr1, hm1⟩
          go_wp2_with fail
          refine (HT.out w1 hr1).mono ?_
          rintro e w2 ⟨rfl, hr2, hm2⟩
          go_wp2_with fail
          refine (open_any 15 w2).mono ?_
          rintro e w3 ⟨rfl, hb3⟩
          have hr := hr2.keep hb3
          have hm := (hm1.trans hm2).trans (Mv.of_below hb3)
          have hN : w3.heap[w.heap.size]? = some (tokO {}) := hm.blockAt (at_new _ _) (by omega)
          obtain ⟨m0, m1, m2, m3, m4, m5, m6, m7⟩ := tok_cells hN
          have fr0 := tok_free hN
          have hq0 : w.heap.size < w3.heap.size := lt_of_block hN
          have hq1 : ¬ w.heap.size = w3.heap.size := by omega
          have hq2 : ¬ w3.heap.size = w.heap.size := by omega
          have HRR := hide hr
          have HMM := hide hm
          clear hr hm HS HT hr1 hm1 hr2 hm2 hb3
          simp only [tokV, openT]
          go_wp21
          go_wp21
          go_wp21
          exact ret_tok (N := w.heap.size) rfl rfl (tok_set hN (openT 15)) (.inl ⟨(openT 15), (i + 2), hE.out, rfl, HRR.out.tok (by omega) (by omega) _ _ _ _ _ _ _ _, Mv.tok (((Mv.refl b w).alloc _).trans HMM.out) (Nat.le_refl _) _ _ _ _ _ _ _ _⟩)
        by_cases hp60 : p = 60
        · subst hp60
          have HR : Hid (openS 1 l i = behT l (i + 2)) := by show _ = _; rw [hE0.out]; simp
          clear hE0
          go_enter Try.func49, Try.ntmps49
          go_wp2_with fail
          simp only [tokO, World.size_alloc] at HS
          refine HS.out.mono ?_
          rintro e w1 ⟨rfl, hr1, hm1⟩
          go_wp2_with fail
          refine (HT.out w1 hr1).mono ?_
          rintro e w2 ⟨rfl, hr2, hm2⟩
          go_wp2_with fail
          refine (openBehind_any w2 hr2).mono ?_
          rintro e w3 (⟨t, k, hR, rfl, hr, hm9⟩ | ⟨z, hR, rfl, hm9⟩)
          · have hE := hide (HR.out.trans hR)
            have hm := (hm1.trans hm2).trans hm9
            have hN : w3.heap[w.heap.size]? = some (tokO {}) := hm.blockAt (at_new _ _) (by omega)
            obtain ⟨m0, m1, m2, m3, m4, m5, m6, m7⟩ := tok_cells hN
            have fr0 := tok_free hN
            have hq0 : w.heap.size < w3.heap.size := lt_of_block hN
            have hq1 : ¬ w.heap.size = w3.heap.size := by omega
            have hq2 : ¬ w3.heap.size = w.heap.size := by omega
            have HRR := hide hr
            have HMM := hide hm
            clear hr hm hm9 hR HR HS HT hr1 hm1 hr2 hm2
            simp only [tokV]
            go_wp21
            go_wp21
            exact ret_tok (N := w.heap.size) rfl rfl (tok_set hN t) (.inl ⟨t, k, hE.out, rfl, HRR.out.tok (by omega) (by omega) _ _ _ _ _ _ _ _, Mv.tok (((Mv.refl b w).alloc _).trans HMM.out) (Nat.le_refl _) _ _ _ _ _ _ _ _⟩)
          · have hE := hide (HR.out.trans hR)
            have hm := (hm1.trans hm2).trans hm9
            have HMM := hide hm
            clear hm hm9 hR HR HS HT hr1 hm1 hr2 hm2
            simp only [gives]
            go_wp2
            exact ⟨rfl, .inr ⟨z, hE.out, rfl, ((Mv.refl b w).alloc _).trans HMM.out⟩⟩
        by_cases hp105 : p = 105
        · subst hp105
          have HR : Hid (openS 1 l i = optT l (i + 2) 1) := by show _ = _; rw [hE0.out]; simp
          clear hE0
          go_enter Try.func49, Try.ntmps49
          go_wp2_with fail
          simp only [tokO, World.size_alloc] at HS
          refine HS.out.mono ?_
          rintro e w1 ⟨rfl, hr1, hm1⟩
          go_wp2_with fail
          refine (HT.out w1 hr1).mono ?_
          rintro e w2 ⟨rfl, hr2, hm2⟩
          go_wp2_with fail
          refine (option_any 1 w2 hr2).mono ?_
          rintro e w3 (⟨t, k, hR, rfl, hr, hm9⟩ | ⟨z, hR, rfl, hm9⟩)
          · have hE := hide (HR.out.trans hR)
            have hm := (hm1.trans hm2).trans hm9
            have hN : w3.heap[w.heap.size]? = some (tokO {}) := hm.blockAt (at_new _ _) (by omega)
            obtain ⟨m0, m1, m2, m3, m4, m5, m6, m7⟩ := tok_cells hN
            have fr0 := tok_free hN
            have hq0 : w.heap.size < w3.heap.size := lt_of_block hN
            have hq1 : ¬ w.heap.size = w3.heap.size := by omega
            have hq2 : ¬ w3.heap.size = w.heap.size := by omega
            have HRR := hide hr
            have HMM := hide hm
            clear hr hm hm9 hR HR HS HT hr1 hm1 hr2 hm2
            simp only [tokV]
            go_wp21
            go_wp21
            exact ret_tok (N := w.heap.size) rfl rfl (tok_set hN t) (.inl ⟨t, k, hE.out, rfl, HRR.out.tok (by omega) (by omega) _ _ _ _ _ _ _ _, Mv.tok (((Mv.refl b w).alloc _).trans HMM.out) (Nat.le_refl _) _ _ _ _ _ _ _ _⟩)
          · have hE := hide (HR.out.trans hR)
            have hm := (hm1.trans hm2).trans hm9
            have HMM := hide hm
            clear hm hm9 hR HR HS HT hr1 hm1 hr2 hm2
            simp only [gives]
            go_wp2
            exact ⟨rfl, .inr ⟨z, hE.out, rfl, ((Mv.refl b w).alloc _).trans HMM.out⟩⟩
        by_cases hp45 : p = 45
        · subst hp45
          cases hs2 : says l (i + 2) [105] with
          | true =>
            have HR : Hid (openS 1 l i = optT l (i + 3) (-1)) := by show _ = _; rw [hE0.out]; simp [hs2]
            have HM3 := hide (fun w2 (h2 : RB w2 b x c l (i + 2) 1) => must_yes 105 w2 h2 hs2)
            clear hE0 hs2
            go_enter Try.func49, Try.ntmps49
            go_wp2_with fail
            simp only [tokO, World.size_alloc] at HS
            refine HS.out.mono ?_
            rintro e w1 ⟨rfl, hr1, hm1⟩
            go_wp2_with fail
            refine (HT.out w1 hr1).mono ?_
            rintro e w2 ⟨rfl, hr2, hm2⟩
            go_wp2_with fail
            refine (HM3.out w2 hr2).mono ?_
            rintro e w3 ⟨rfl, hr3, hm3⟩
            go_wp2_with fail
            refine (option_any (-1) w3 hr3).mono ?_
            rintro e w4 (⟨t, k, hR, rfl, hr, hm9⟩ | ⟨z, hR, rfl, hm9⟩)
            · have hE := hide (HR.out.trans hR)
              have hm := ((hm1.trans hm2).trans hm3).trans hm9
              have hN : w4.heap[w.heap.size]? = some (tokO {}) := hm.blockAt (at_new _ _) (by omega)
              obtain ⟨m0, m1, m2, m3, m4, m5, m6, m7⟩ := tok_cells hN
              have fr0 := tok_free hN
              have hq0 : w.heap.size < w4.heap.size := lt_of_block hN
              have hq1 : ¬ w.heap.size = w4.heap.size := by omega
              have hq2 : ¬ w4.heap.size = w.heap.size := by omega
              have HRR := hide hr
              have HMM := hide hm
              clear hr hm hm9 hR HR HS HT HM3 hr1 hm1 hr2 hm2 hr3 hm3
              simp only [tokV]
              go_wp21
              go_wp21
              exact ret_tok (N := w.heap.size) rfl rfl (tok_set hN t) (.inl ⟨t, k, hE.out, rfl, HRR.out.tok (by omega) (by omega) _ _ _ _ _ _ _ _, Mv.tok (((Mv.refl b w).alloc _).trans HMM.out) (Nat.le_refl _) _ _ _ _ _ _ _ _⟩)
            · have hE := hide (HR.out.trans hR)
              have hm := ((hm1.trans hm2).trans hm3).trans hm9
              have HMM := hide hm
              clear hm hm9 hR HR HS HT HM3 hr1 hm1 hr2 hm2 hr3 hm3
              simp only [gives]
              go_wp2
              exact ⟨rfl, .inr ⟨z, hE.out, rfl, ((Mv.refl b w).alloc _).trans HMM.out⟩⟩
          | false =>
            have hE : Hid (openS 1 l i = .error 1) := by show _ = _; rw [hE0.out]; simp [hs2]
            have HM3 := hide (fun w2 (h2 : RB w2 b x c l (i + 2) 1) => must_no 105 w2 h2 hs2)
            clear hE0 hs2
            go_enter Try.func49, Try.ntmps49
            go_wp2_with fail
            simp only [tokO, World.size_alloc] at HS
            refine HS.out.mono ?_
            rintro e w1 ⟨rfl, hr1, hm1⟩
            go_wp2_with fail
            refine (HT.out w1 hr1).mono ?_
            rintro e w2 ⟨rfl, hr2, hm2⟩
            go_wp2_with fail
            refine (HM3.out w2 hr2).mono ?_
            rintro e w3 ⟨rfl, hm3⟩
            have hm := (hm1.trans hm2).trans hm3
            have HMM := hide hm
            clear hm HS HT HM3 hr1 hm1 hr2 hm2 hm3
            simp only [gives]
            go_wp2
            exact ⟨rfl, .inr ⟨1, hE.out, rfl, ((Mv.refl b w).alloc _).trans HMM.out⟩⟩
        have hE : Hid (openS 1 l i = .error 1) := by show _ = _; rw [hE0.out]; simp [hp58, hp62, hp61, hp33, hp60, hp105, hp45]
        have hq58 : (p == 58) = false := by simpa using hp58
        have hq62 : (p == 62) = false := by simpa using hp62
        have hq61 : (p == 61) = false := by simpa using hp61
        have hq33 : (p == 33) = false := by simpa using hp33
        have hq60 : (p == 60) = false := by simpa using hp60
        have hq105 : (p == 105) = false := by simpa using hp105
        have hq45 : (p == 45) = false := by simpa using hp45
        clear hE0
        go_enter Try.func49, Try.ntmps49
        go_wp2_with fail
        simp only [tokO, World.size_alloc] at HS
        refine HS.out.mono ?_
        rintro e w1 ⟨rfl, hr1, hm1⟩
        go_wp2_with fail
        refine (HT.out w1 hr1).mono ?_
        rintro e w2 ⟨rfl, hr2, hm2⟩
        have hm := hm1.trans hm2
        have HMM := hide hm
        clear hm HS HT hr1 hm1 hr2 hm2
        simp only
        go_wp2
        exact ⟨rfl, .inr ⟨1, hE.out, rfl, ((Mv.refl b w).alloc _).trans HMM.out⟩⟩
      · have HT := hide (fun w1 (h1 : RB w1 b x c l (i + 1) 1) => take_no w1 h1 hi)
        have hE : Hid (openS 1 l i = .error 1) := by show _ = _; unfold openS; rw [if_neg (by simp), if_neg (by rw [hs]; simp), List.getElem?_eq_none (by omega)]
        clear hs h hw0
        go_enter Try.func49, Try.ntmps49
        go_wp2_with fail
        simp only [tokO, World.size_alloc] at HS
        refine HS.out.mono ?_
        rintro e w1 ⟨rfl, hr1, hm1⟩
        go_wp2_with fail
        refine (HT.out w1 hr1).mono ?_
        rintro e w2 ⟨rfl, hm2⟩
        have hm := hm1.trans hm2
        have HMM := hide hm
        clear hm HS HT hr1 hm1 hm2
        simp only [gives]
        go_wp2
        exact ⟨rfl, .inr ⟨1, hE.out, rfl, ((Mv.refl b w).alloc _).trans HMM.out⟩⟩
  · have hE : Hid (openS d l i = .ok (openT 11, i)) := by show _ = _; unfold openS; rw [if_pos hd]
    have hdb : (d != 1) = true := by simpa using hd
    have HR0 := hide hw0
    have hm0 := (Mv.refl b (w.alloc (tokO {})))
    clear h hw0
    go_enter Try.func49, Try.ntmps49
    go_wp2_with fail
    refine (open_any 11 _).mono ?_
    rintro e w2 ⟨rfl, hb2⟩
    have hr := HR0.out.keep hb2
    have hm := hm0.trans (Mv.of_below hb2)
    have hN : w2.heap[w.heap.size]? = some (tokO {}) := hm.blockAt (at_new _ _) (by omega)
    obtain ⟨m0, m1, m2, m3, m4, m5, m6, m7⟩ := tok_cells hN
    have fr0 := tok_free hN
    have hq0 : w.heap.size < w2.heap.size := lt_of_block hN
    have hq1 : ¬ w.heap.size = w2.heap.size := by omega
    have hq2 : ¬ w2.heap.size = w.heap.size := by omega
    have HRR := hide hr
    have HMM := hide hm
    clear hr hm HR0 hm0 hb2 c0 c1 c2 f1
    simp only [tokV, openT]
    go_wp21
    go_wp21
    go_wp21
    exact ret_tok (N := w.heap.size) rfl rfl (tok_set hN (openT 11)) (.inl ⟨(openT 11), i, hE.out, rfl, HRR.out.tok (by omega) (by omega) _ _ _ _ _ _ _ _, Mv.tok (((Mv.refl b w).alloc _).trans HMM.out) (Nat.le_refl _) _ _ _ _ _ _ _ _⟩)

end Go.Proofs.Ytlapnhjkhpgklaa
