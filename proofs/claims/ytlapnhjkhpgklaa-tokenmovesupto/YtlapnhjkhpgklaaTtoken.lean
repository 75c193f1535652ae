/- What token answers. -/
import Derived.Test.YtlapnhjkhpgklaaTemacs
namespace Go.Proofs.Ytlapnhjkhpgklaa
open Go.RowKit
set_option linter.unusedVariables false

set_option maxHeartbeats 16000000 in
theorem token_any {b : Nat} {x : Addr} {c : Nat} {l : List Int} {i : Nat} {d : Int} (w : World) (h : RB w b x c l i d) (hi : i < l.length) : Calls Try.prog 28 #[.pointer (some ⟨b, 0, none⟩)] w fun e w' => OutT b x c l d w (nextT d l i) e w' := by
  have hlt := h.lt
  have hxw := h.xw
  have hat := h.at'
  have hw0 := h.alloc (tokO {})
  have HT := hide (take_yes _ hw0 hi)
  have hE0 : Hid (nextT d l i = tokT d l i l[i]) := by show _ = _; unfold nextT; rw [List.getElem?_eq_getElem hi]
  obtain ⟨p, hp⟩ : ∃ p, p = l[i] := ⟨_, rfl⟩
  rw [← hp] at HT hE0
  clear h hw0 hp
  by_cases hp92 : p = 92
  · subst hp92
    have HR : Hid (nextT d l i = escT d l (i + 1)) := by show _ = _; rw [hE0.out]; unfold tokT; simp
    clear hE0
    go_enter Try.func28, Try.ntmps28
    go_wp2_with fail
    simp only [tokO] at HT
    refine HT.out.mono ?_
    rintro e w1 ⟨rfl, hr1, hm1⟩
    go_wp2_with fail
    refine (escape_any w1 hr1).mono ?_
    rintro e w3 (⟨t, k, hR, rfl, hr, hm9⟩ | ⟨z, hR, rfl, hm9⟩)
    · have hE := hide (HR.out.trans hR)
      have hm := hm1.trans hm9
      have hN : w3.heap[w.heap.size]? = some (tokO {}) := hm.blockAt (at_new _ _) (by omega)
      obtain ⟨m0, m1, m2, m3, m4, m5, m6, m7⟩ := tok_cells hN
      have fr0 := tok_free hN
      have hq0 : w.heap.size < w3.heap.size := lt_of_block hN
      have hq1 : ¬ w.heap.size = w3.heap.size := by omega
      have hq2 : ¬ w3.heap.size = w.heap.size := by omega
      have HRR := hide hr
      have HMM := hide hm
      clear hr hm hm9 hR HR hr1 hm1 HT
      simp only [tokV]
      go_wp21
      go_wp21
      exact ret_tok (N := w.heap.size) rfl rfl (tok_set hN t) (.inl ⟨t, k, hE.out, rfl, HRR.out.tok (by omega) (by omega) _ _ _ _ _ _ _ _, Mv.tok (((Mv.refl b w).alloc _).trans HMM.out) (Nat.le_refl _) _ _ _ _ _ _ _ _⟩)
    · have hE := hide (HR.out.trans hR)
      have hm := hm1.trans hm9
      have HMM := hide hm
      clear hm hm9 hR HR hr1 hm1 HT
      simp only [gives]
      go_wp2
      exact ⟨rfl, .inr ⟨z, hE.out, rfl, ((Mv.refl b w).alloc _).trans HMM.out⟩⟩
  by_cases hp46 : p = 46
  · subst hp46
    have hE : Hid (nextT d l i = .ok ({ kind := 2 }, i + 1)) := by show _ = _; rw [hE0.out]; unfold tokT; simp
    clear hE0
    go_enter Try.func28, Try.ntmps28
    go_wp2_with fail
    simp only [tokO] at HT
    refine HT.out.mono ?_
    rintro e w1 ⟨rfl, hr1, hm1⟩
    have hr := hr1
    have hm := hm1
    have hN : w1.heap[w.heap.size]? = some (tokO {}) := hm.blockAt (at_new _ _) (by omega)
    obtain ⟨m0, m1, m2, m3, m4, m5, m6, m7⟩ := tok_cells hN
    have fr0 := tok_free hN
    have hq0 : w.heap.size < w1.heap.size := lt_of_block hN
    have hq1 : ¬ w.heap.size = w1.heap.size := by omega
    have hq2 : ¬ w1.heap.size = w.heap.size := by omega
    have HRR := hide hr
    have HMM := hide hm
    clear hr hm hr1 hm1 HT
    go_wp21
    go_wp21
    go_wp21
    exact ret_tok (N := w.heap.size) rfl rfl (tok_set hN { kind := 2 }) (.inl ⟨{ kind := 2 }, (i + 1), hE.out, rfl, HRR.out.tok (by omega) (by omega) _ _ _ _ _ _ _ _, Mv.tok (((Mv.refl b w).alloc _).trans HMM.out) (Nat.le_refl _) _ _ _ _ _ _ _ _⟩)
  by_cases hp91 : p = 91
  · subst hp91
    have hE : Hid (nextT d l i = .ok ({ kind := 5 }, i + 1)) := by show _ = _; rw [hE0.out]; unfold tokT; simp
    clear hE0
    go_enter Try.func28, Try.ntmps28
    go_wp2_with fail
    simp only [tokO] at HT
    refine HT.out.mono ?_
    rintro e w1 ⟨rfl, hr1, hm1⟩
    have hr := hr1
    have hm := hm1
    have hN : w1.heap[w.heap.size]? = some (tokO {}) := hm.blockAt (at_new _ _) (by omega)
    obtain ⟨m0, m1, m2, m3, m4, m5, m6, m7⟩ := tok_cells hN
    have fr0 := tok_free hN
    have hq0 : w.heap.size < w1.heap.size := lt_of_block hN
    have hq1 : ¬ w.heap.size = w1.heap.size := by omega
    have hq2 : ¬ w1.heap.size = w.heap.size := by omega
    have HRR := hide hr
    have HMM := hide hm
    clear hr hm hr1 hm1 HT
    go_wp21
    go_wp21
    go_wp21
    exact ret_tok (N := w.heap.size) rfl rfl (tok_set hN { kind := 5 }) (.inl ⟨{ kind := 5 }, (i + 1), hE.out, rfl, HRR.out.tok (by omega) (by omega) _ _ _ _ _ _ _ _, Mv.tok (((Mv.refl b w).alloc _).trans HMM.out) (Nat.le_refl _) _ _ _ _ _ _ _ _⟩)
  by_cases hp94 : p = 94
  · subst hp94
    have hE : Hid (nextT d l i = .ok (lookT 3, i + 1)) := by show _ = _; rw [hE0.out]; unfold tokT; simp
    clear hE0
    go_enter Try.func28, Try.ntmps28
    go_wp2_with fail
    simp only [tokO] at HT
    refine HT.out.mono ?_
    rintro e w1 ⟨rfl, hr1, hm1⟩
    go_wp2_with fail
    refine (look_any 3 w1).mono ?_
    rintro e w2 ⟨rfl, hb2⟩
    have hr := hr1.keep hb2
    have hm := hm1.trans (Mv.of_below hb2)
    have hN : w2.heap[w.heap.size]? = some (tokO {}) := hm.blockAt (at_new _ _) (by omega)
    obtain ⟨m0, m1, m2, m3, m4, m5, m6, m7⟩ := tok_cells hN
    have fr0 := tok_free hN
    have hq0 : w.heap.size < w2.heap.size := lt_of_block hN
    have hq1 : ¬ w.heap.size = w2.heap.size := by omega
    have hq2 : ¬ w2.heap.size = w.heap.size := by omega
    have HRR := hide hr
    have HMM := hide hm
    clear hr hm hr1 hm1 hb2 HT
    simp only [tokV, lookT]
    go_wp21
    go_wp21
    go_wp21
    exact ret_tok (N := w.heap.size) rfl rfl (tok_set hN (lookT 3)) (.inl ⟨(lookT 3), (i + 1), hE.out, rfl, HRR.out.tok (by omega) (by omega) _ _ _ _ _ _ _ _, Mv.tok (((Mv.refl b w).alloc _).trans HMM.out) (Nat.le_refl _) _ _ _ _ _ _ _ _⟩)
  by_cases hp36 : p = 36
  · subst hp36
    have hE : Hid (nextT d l i = .ok (lookT 4, i + 1)) := by show _ = _; rw [hE0.out]; unfold tokT; simp
    clear hE0
    go_enter Try.func28, Try.ntmps28
    go_wp2_with fail
    simp only [tokO] at HT
    refine HT.out.mono ?_
    rintro e w1 ⟨rfl, hr1, hm1⟩
    go_wp2_with fail
    refine (look_any 4 w1).mono ?_
    rintro e w2 ⟨rfl, hb2⟩
    have hr := hr1.keep hb2
    have hm := hm1.trans (Mv.of_below hb2)
    have hN : w2.heap[w.heap.size]? = some (tokO {}) := hm.blockAt (at_new _ _) (by omega)
    obtain ⟨m0, m1, m2, m3, m4, m5, m6, m7⟩ := tok_cells hN
    have fr0 := tok_free hN
    have hq0 : w.heap.size < w2.heap.size := lt_of_block hN
    have hq1 : ¬ w.heap.size = w2.heap.size := by omega
    have hq2 : ¬ w2.heap.size = w.heap.size := by omega
    have HRR := hide hr
    have HMM := hide hm
    clear hr hm hr1 hm1 hb2 HT
    simp only [tokV, lookT]
    go_wp21
    go_wp21
    go_wp21
    exact ret_tok (N := w.heap.size) rfl rfl (tok_set hN (lookT 4)) (.inl ⟨(lookT 4), (i + 1), hE.out, rfl, HRR.out.tok (by omega) (by omega) _ _ _ _ _ _ _ _, Mv.tok (((Mv.refl b w).alloc _).trans HMM.out) (Nat.le_refl _) _ _ _ _ _ _ _ _⟩)
  by_cases hp42 : p = 42
  · subst hp42
    obtain ⟨t, k, ht⟩ : ∃ t k, repT d l (i + 1) 0 (-1) = (t, k) := ⟨_, _, rfl⟩
    have hE : Hid (nextT d l i = .ok (t, k)) := by show _ = _; rw [hE0.out, ← ht]; unfold tokT; simp
    have HC := hide (fun w1 (h1 : RB w1 b x c l (i + 1) d) => repeat_any 0 (-1) w1 h1)
    rw [ht] at HC
    clear hE0 ht
    go_enter Try.func28, Try.ntmps28
    go_wp2_with fail
    simp only [tokO] at HT
    refine HT.out.mono ?_
    rintro e w1 ⟨rfl, hr1, hm1⟩
    go_wp2_with fail
    refine (HC.out w1 hr1).mono ?_
    rintro e w2 ⟨rfl, hr, hm2⟩
    have hm := hm1.trans hm2
    have hN : w2.heap[w.heap.size]? = some (tokO {}) := hm.blockAt (at_new _ _) (by omega)
    obtain ⟨m0, m1, m2, m3, m4, m5, m6, m7⟩ := tok_cells hN
    have fr0 := tok_free hN
    have hq0 : w.heap.size < w2.heap.size := lt_of_block hN
    have hq1 : ¬ w.heap.size = w2.heap.size := by omega
    have hq2 : ¬ w2.heap.size = w.heap.size := by omega
    have HRR := hide hr
    have HMM := hide hm
    clear hr hm hr1 hm1 hm2 HT HC
    simp only [tokV]
    go_wp21
    go_wp21
    go_wp21
    exact ret_tok (N := w.heap.size) rfl rfl (tok_set hN t) (.inl ⟨t, k, hE.out, rfl, HRR.out.tok (by omega) (by omega) _ _ _ _ _ _ _ _, Mv.tok (((Mv.refl b w).alloc _).trans HMM.out) (Nat.le_refl _) _ _ _ _ _ _ _ _⟩)
  by_cases hp43 : p = 43
  · subst hp43
    obtain ⟨t, k, ht⟩ : ∃ t k, repT d l (i + 1) 1 (-1) = (t, k) := ⟨_, _, rfl⟩
    have hE : Hid (nextT d l i = .ok (t, k)) := by show _ = _; rw [hE0.out, ← ht]; unfold tokT; simp
    have HC := hide (fun w1 (h1 : RB w1 b x c l (i + 1) d) => repeat_any 1 (-1) w1 h1)
    rw [ht] at HC
    clear hE0 ht
    go_enter Try.func28, Try.ntmps28
    go_wp2_with fail
    simp only [tokO] at HT
    refine HT.out.mono ?_
    rintro e w1 ⟨rfl, hr1, hm1⟩
    go_wp2_with fail
    refine (HC.out w1 hr1).mono ?_
    rintro e w2 ⟨rfl, hr, hm2⟩
    have hm := hm1.trans hm2
    have hN : w2.heap[w.heap.size]? = some (tokO {}) := hm.blockAt (at_new _ _) (by omega)
    obtain ⟨m0, m1, m2, m3, m4, m5, m6, m7⟩ := tok_cells hN
    have fr0 := tok_free hN
    have hq0 : w.heap.size < w2.heap.size := lt_of_block hN
    have hq1 : ¬ w.heap.size = w2.heap.size := by omega
    have hq2 : ¬ w2.heap.size = w.heap.size := by omega
    have HRR := hide hr
    have HMM := hide hm
    clear hr hm hr1 hm1 hm2 HT HC
    simp only [tokV]
    go_wp21
    go_wp21
    go_wp21
    exact ret_tok (N := w.heap.size) rfl rfl (tok_set hN t) (.inl ⟨t, k, hE.out, rfl, HRR.out.tok (by omega) (by omega) _ _ _ _ _ _ _ _, Mv.tok (((Mv.refl b w).alloc _).trans HMM.out) (Nat.le_refl _) _ _ _ _ _ _ _ _⟩)
  by_cases hp63 : p = 63
  · subst hp63
    obtain ⟨t, k, ht⟩ : ∃ t k, repT d l (i + 1) 0 1 = (t, k) := ⟨_, _, rfl⟩
    have hE : Hid (nextT d l i = .ok (t, k)) := by show _ = _; rw [hE0.out, ← ht]; unfold tokT; simp
    have HC := hide (fun w1 (h1 : RB w1 b x c l (i + 1) d) => repeat_any 0 1 w1 h1)
    rw [ht] at HC
    clear hE0 ht
    go_enter Try.func28, Try.ntmps28
    go_wp2_with fail
    simp only [tokO] at HT
    refine HT.out.mono ?_
    rintro e w1 ⟨rfl, hr1, hm1⟩
    go_wp2_with fail
    refine (HC.out w1 hr1).mono ?_
    rintro e w2 ⟨rfl, hr, hm2⟩
    have hm := hm1.trans hm2
    have hN : w2.heap[w.heap.size]? = some (tokO {}) := hm.blockAt (at_new _ _) (by omega)
    obtain ⟨m0, m1, m2, m3, m4, m5, m6, m7⟩ := tok_cells hN
    have fr0 := tok_free hN
    have hq0 : w.heap.size < w2.heap.size := lt_of_block hN
    have hq1 : ¬ w.heap.size = w2.heap.size := by omega
    have hq2 : ¬ w2.heap.size = w.heap.size := by omega
    have HRR := hide hr
    have HMM := hide hm
    clear hr hm hr1 hm1 hm2 HT HC
    simp only [tokV]
    go_wp21
    go_wp21
    go_wp21
    exact ret_tok (N := w.heap.size) rfl rfl (tok_set hN t) (.inl ⟨t, k, hE.out, rfl, HRR.out.tok (by omega) (by omega) _ _ _ _ _ _ _ _, Mv.tok (((Mv.refl b w).alloc _).trans HMM.out) (Nat.le_refl _) _ _ _ _ _ _ _ _⟩)
  have hq92 : (p == 92) = false := by simpa using hp92
  have hq46 : (p == 46) = false := by simpa using hp46
  have hq91 : (p == 91) = false := by simpa using hp91
  have hq94 : (p == 94) = false := by simpa using hp94
  have hq36 : (p == 36) = false := by simpa using hp36
  have hq42 : (p == 42) = false := by simpa using hp42
  have hq43 : (p == 43) = false := by simpa using hp43
  have hq63 : (p == 63) = false := by simpa using hp63
  by_cases hd3 : d = 3
  · subst hd3
    have hE : Hid (nextT 3 l i = .ok (pointT p, i + 1)) := by show _ = _; rw [hE0.out]; unfold tokT; simp [hp92, hp46, hp91, hp94, hp36, hp42, hp43, hp63]
    clear hE0 hp92 hp46 hp91 hp94 hp36 hp42 hp43 hp63
    go_enter Try.func28, Try.ntmps28
    go_wp2_with fail
    simp only [tokO] at HT
    refine HT.out.mono ?_
    rintro e w1 ⟨rfl, hr1, hm1⟩
    obtain ⟨c0, c1, c2, f1⟩ := hr1.cells
    go_wp2_with fail
    refine (point_any p w1).mono ?_
    rintro e w2 ⟨rfl, hb2⟩
    have hr := hr1.keep hb2
    have hm := hm1.trans (Mv.of_below hb2)
    have hN : w2.heap[w.heap.size]? = some (tokO {}) := hm.blockAt (at_new _ _) (by omega)
    obtain ⟨m0, m1, m2, m3, m4, m5, m6, m7⟩ := tok_cells hN
    have fr0 := tok_free hN
    have hq0 : w.heap.size < w2.heap.size := lt_of_block hN
    have hq1 : ¬ w.heap.size = w2.heap.size := by omega
    have hq2 : ¬ w2.heap.size = w.heap.size := by omega
    have HRR := hide hr
    have HMM := hide hm
    clear hr hm hr1 hm1 hb2 HT c0 c1 c2 f1
    simp only [tokV, pointT]
    go_wp21
    go_wp21
    go_wp21
    exact ret_tok (N := w.heap.size) rfl rfl (tok_set hN (pointT p)) (.inl ⟨(pointT p), (i + 1), hE.out, rfl, HRR.out.tok (by omega) (by omega) _ _ _ _ _ _ _ _, Mv.tok (((Mv.refl b w).alloc _).trans HMM.out) (Nat.le_refl _) _ _ _ _ _ _ _ _⟩)
  · have HR : Hid (nextT d l i = partT d l p (i + 1)) := by show _ = _; rw [hE0.out]; unfold tokT; simp [hp92, hp46, hp91, hp94, hp36, hp42, hp43, hp63, hd3]
    have hqd : (d == 3) = false := by simpa using hd3
    clear hE0 hd3 hp92 hp46 hp91 hp94 hp36 hp42 hp43 hp63
    go_enter Try.func28, Try.ntmps28
    go_wp2_with fail
    simp only [tokO] at HT
    refine HT.out.mono ?_
    rintro e w1 ⟨rfl, hr1, hm1⟩
    obtain ⟨c0, c1, c2, f1⟩ := hr1.cells
    go_wp2_with fail
    refine (parting_any p w1 hr1).mono ?_
    rintro e w3 (⟨t, k, hR, rfl, hr, hm9⟩ | ⟨z, hR, rfl, hm9⟩)
    · have hE := hide (HR.out.trans hR)
      have hm := hm1.trans hm9
      have hN : w3.heap[w.heap.size]? = some (tokO {}) := hm.blockAt (at_new _ _) (by omega)
      obtain ⟨m0, m1, m2, m3, m4, m5, m6, m7⟩ := tok_cells hN
      have fr0 := tok_free hN
      have hq0 : w.heap.size < w3.heap.size := lt_of_block hN
      have hq1 : ¬ w.heap.size = w3.heap.size := by omega
      have hq2 : ¬ w3.heap.size = w.heap.size := by omega
      have HRR := hide hr
      have HMM := hide hm
      clear hr hm hm9 hR HR hr1 hm1 HT c0 c1 c2 f1
      simp only [tokV]
      go_wp21
      go_wp21
      exact ret_tok (N := w.heap.size) rfl rfl (tok_set hN t) (.inl ⟨t, k, hE.out, rfl, HRR.out.tok (by omega) (by omega) _ _ _ _ _ _ _ _, Mv.tok (((Mv.refl b w).alloc _).trans HMM.out) (Nat.le_refl _) _ _ _ _ _ _ _ _⟩)
    · have hE := hide (HR.out.trans hR)
      have hm := hm1.trans hm9
      have HMM := hide hm
      clear hm hm9 hR HR hr1 hm1 HT c0 c1 c2 f1
      simp only [gives]
      go_wp2
      exact ⟨rfl, .inr ⟨z, hE.out, rfl, ((Mv.refl b w).alloc _).trans HMM.out⟩⟩

end Go.Proofs.Ytlapnhjkhpgklaa
