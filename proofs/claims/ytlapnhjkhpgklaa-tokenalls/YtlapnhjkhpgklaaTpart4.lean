/- What parting answers. -/
import Derived.Test.YtlapnhjkhpgklaaTpart3
namespace Go.Proofs.Ytlapnhjkhpgklaa
open Go.RowKit
set_option linter.unusedVariables false

set_option maxHeartbeats 4000000 in
theorem parting_any {b : Nat} {x : Addr} {c : Nat} {l : List Int} {i : Nat} {d : Int} (p : Int) (w : World) (h : RB w b x c l i d) : Calls Try.prog 43 #[.pointer (some ⟨b, 0, none⟩), .int .i64 p] w fun e w' => OutT b x c l d w (partT d l p i) e w' := by
  have hlt := h.lt
  have hxw := h.xw
  have hat := h.at'
  have hw0 := h.alloc (tokO {})
  have hm0 := (Mv.refl b (w.alloc (tokO {})))
  by_cases hp40 : p = 40
  · subst hp40
    have HR : Hid (partT d l 40 i = openS d l i) := by show _ = _; unfold partT; simp
    have HC := hide (openM_any _ hw0)
    clear h hw0 hm0
    go_enter Try.func43, Try.ntmps43
    go_wp2_with fail
    simp only [tokO] at HC
    refine HC.out.mono ?_
    rintro e w1 (⟨t, k, hR, rfl, hr, hm⟩ | ⟨z, hR, rfl, hm⟩)
    · have hE := hide (HR.out.trans hR)
      have hN : w1.heap[w.heap.size]? = some (tokO {}) := hm.blockAt (at_new _ _) (by omega)
      obtain ⟨m0, m1, m2, m3, m4, m5, m6, m7⟩ := tok_cells hN
      have fr0 := tok_free hN
      have hq0 : w.heap.size < w1.heap.size := lt_of_block hN
      have hq1 : ¬ w.heap.size = w1.heap.size := by omega
      have hq2 : ¬ w1.heap.size = w.heap.size := by omega
      have HRR := hide hr
      have HMM := hide hm
      clear hr hm hR HR HC
      simp only [tokV]
      go_wp21
      go_wp21
      exact ret_tok (N := w.heap.size) rfl rfl (tok_set hN t) (.inl ⟨t, k, hE.out, rfl, HRR.out.tok (by omega) (by omega) _ _ _ _ _ _ _ _, Mv.tok (((Mv.refl b w).alloc _).trans HMM.out) (Nat.le_refl _) _ _ _ _ _ _ _ _⟩)
    · have hE := hide (HR.out.trans hR)
      have HMM := hide hm
      clear hm hR HR HC
      simp only [gives]
      go_wp2
      exact ⟨rfl, .inr ⟨z, hE.out, rfl, ((Mv.refl b w).alloc _).trans HMM.out⟩⟩
  by_cases hp41 : p = 41
  · subst hp41
    have hE : Hid (partT d l 41 i = .ok ({ kind := 8 }, i)) := by show _ = _; unfold partT; simp
    have HR0 := hide h
    clear h hw0 hm0
    go_enter Try.func43, Try.ntmps43
    go_wp21
    go_wp21
    exact ret_tok (N := w.heap.size) (t := { kind := 8 }) rfl rfl (at_new _ _) (.inl ⟨{ kind := 8 }, i, hE.out, rfl, HR0.out.alloc _, (Mv.refl b w).alloc _⟩)
  by_cases hp124 : p = 124
  · subst hp124
    have hE : Hid (partT d l 124 i = .ok ({ kind := 9 }, i)) := by show _ = _; unfold partT; simp
    have HR0 := hide h
    clear h hw0 hm0
    go_enter Try.func43, Try.ntmps43
    go_wp21
    go_wp21
    exact ret_tok (N := w.heap.size) (t := { kind := 9 }) rfl rfl (at_new _ _) (.inl ⟨{ kind := 9 }, i, hE.out, rfl, HR0.out.alloc _, (Mv.refl b w).alloc _⟩)
  by_cases hp123 : p = 123
  · subst hp123
    have HR : Hid (partT d l 123 i = timesT d l i) := by show _ = _; unfold partT; simp
    have HC := hide (times_any _ hw0)
    clear h hw0 hm0
    go_enter Try.func43, Try.ntmps43
    go_wp2_with fail
    simp only [tokO] at HC
    refine HC.out.mono ?_
    rintro e w1 (⟨t, k, hR, rfl, hr, hm⟩ | ⟨z, hR, rfl, hm⟩)
    · have hE := hide (HR.out.trans hR)
      have hN : w1.heap[w.heap.size]? = some (tokO {}) := hm.blockAt (at_new _ _) (by omega)
      obtain ⟨m0, m1, m2, m3, m4, m5, m6, m7⟩ := tok_cells hN
      have fr0 := tok_free hN
      have hq0 : w.heap.size < w1.heap.size := lt_of_block hN
      have hq1 : ¬ w.heap.size = w1.heap.size := by omega
      have hq2 : ¬ w1.heap.size = w.heap.size := by omega
      have HRR := hide hr
      have HMM := hide hm
      clear hr hm hR HR HC
      simp only [tokV]
      go_wp21
      go_wp21
      exact ret_tok (N := w.heap.size) rfl rfl (tok_set hN t) (.inl ⟨t, k, hE.out, rfl, HRR.out.tok (by omega) (by omega) _ _ _ _ _ _ _ _, Mv.tok (((Mv.refl b w).alloc _).trans HMM.out) (Nat.le_refl _) _ _ _ _ _ _ _ _⟩)
    · have hE := hide (HR.out.trans hR)
      have HMM := hide hm
      clear hm hR HR HC
      simp only [gives]
      go_wp2
      exact ⟨rfl, .inr ⟨z, hE.out, rfl, ((Mv.refl b w).alloc _).trans HMM.out⟩⟩
  have hE : Hid (partT d l p i = .ok (pointT p, i)) := by show _ = _; unfold partT; simp [hp40, hp41, hp124, hp123]
  have hq40 : (p == 40) = false := by simpa using hp40
  have hq41 : (p == 41) = false := by simpa using hp41
  have hq124 : (p == 124) = false := by simpa using hp124
  have hq123 : (p == 123) = false := by simpa using hp123
  have HR0 := hide hw0
  clear h hw0
  go_enter Try.func43, Try.ntmps43
  go_wp2_with fail
  refine (point_any p _).mono ?_
  rintro e w2 ⟨rfl, hb2⟩
  have hr := HR0.out.keep hb2
  have hm := hm0.trans (Mv.of_below hb2)
  have hN : w2.heap[w.heap.size]? = some (tokO {}) := hm.blockAt (at_new _ _) (by omega)
  obtain ⟨m0, m1, m2, m3, m4, m5, m6, m7⟩ := tok_cells hN
  have fr0 := tok_free hN
  have hq0 : w.heap.size < w2.heap.size := lt_of_block hN
  have hq1 : ¬ w.heap.size = w2.heap.size := by omega
  have hq2 : ¬ w2.heap.size = w.heap.size := by omega
  have HRR := hide hr
  have HMM := hide hm
  clear hr hm HR0 hm0 hb2
  simp only [tokV, pointT]
  go_wp21
  go_wp21
  exact ret_tok (N := w.heap.size) rfl rfl (tok_set hN (pointT p)) (.inl ⟨(pointT p), i, hE.out, rfl, HRR.out.tok (by omega) (by omega) _ _ _ _ _ _ _ _, Mv.tok (((Mv.refl b w).alloc _).trans HMM.out) (Nat.le_refl _) _ _ _ _ _ _ _ _⟩)

end Go.Proofs.Ytlapnhjkhpgklaa
