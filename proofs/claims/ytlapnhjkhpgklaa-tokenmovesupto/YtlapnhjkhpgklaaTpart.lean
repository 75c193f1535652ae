/- What times, option, openBehind, open and parting answer. -/
import Derived.Test.YtlapnhjkhpgklaaTsign
namespace Go.Proofs.Ytlapnhjkhpgklaa
open Go.RowKit
set_option linter.unusedVariables false

/-- what a reader's method answers: a token, and where it is then; or it gives up. -/
def OutT (b : Nat) (x : Addr) (c : Nat) (l : List Int) (d : Int) (w : World) (R : RT) (e : Ending) (w' : World) : Prop :=
  (∃ t k, R = .ok (t, k) ∧ e = .returned (tokV t) ∧ RB w' b x c l k d ∧ Mv b w w') ∨ (∃ z, R = .error z ∧ e = gives z ∧ Mv b w w')

set_option maxHeartbeats 4000000 in
theorem times_any {b : Nat} {x : Addr} {c : Nat} {l : List Int} {i : Nat} {d : Int} (w : World) (h : RB w b x c l i d) : Calls Try.prog 50 #[.pointer (some ⟨b, 0, none⟩)] w fun e w' => OutT b x c l d w (timesT d l i) e w' := by
  have hlt := h.lt
  have hxw := h.xw
  have hat := h.at'
  have hw0 := h.alloc (tokO {})
  have HB := hide (bounds_any _ hw0)
  obtain ⟨c0, c1, c2, f1⟩ := h.cells
  obtain ⟨lo, hi, ok, pos, hbb⟩ : ∃ lo hi ok pos, boundsT d l i = (lo, hi, ok, pos) := ⟨_, _, _, _, rfl⟩
  have HBB := hide hbb
  rw [hbb] at HB
  simp only [tokO] at HB
  clear hbb hw0 h
  cases ok with
  | false =>
    by_cases hd : d = 1
    · subst hd
      have hE : Hid (timesT 1 l i = .ok (pointT 123, i)) := by show _ = _; unfold timesT; rw [HBB.out]; simp
      go_enter Try.func50, Try.ntmps50
      go_wp2_with fail
      refine HB.out.mono ?_
      rintro e w1 ⟨rfl, hr, hm⟩
      obtain ⟨d0, d1, d2, g1⟩ := hr.cells
      have hr1 := hr.go i hat
      have hm1 := hm.setCell 1 (.int .i64 i)
      clear c0 c1 c2 f1
      go_wp2_with fail
      refine (point_any 123 _).mono ?_
      rintro e w2 ⟨rfl, hb2⟩
      have hr2 := hr1.keep hb2
      have hm2 := hm1.trans (Mv.of_below hb2)
      have hN : w2.heap[w.heap.size]? = some (tokO {}) := hm2.blockAt (at_new _ _) (by omega)
      obtain ⟨m0, m1, m2, m3, m4, m5, m6, m7⟩ := tok_cells hN
      have fr0 := tok_free hN
      have HRR := hide hr2
      have HMM := hide hm2
      clear hr hm hr2 hm2 hr1 hm1 hb2 d0 d1 d2 g1 HB
      unfold tokV
      go_wp2
      refine bodyPost_ret (v := tokV (pointT 123)) (by simp [results, Try.results50, go_sem, tokV, m0, m1, m2, m3, m4, m5, m6, m7]) rfl (.inl ⟨(pointT 123), i, hE.out, rfl, HRR.out.tok (by omega) (by omega) _ _ _ _ _ _ _ _, Mv.tok (((Mv.refl b w).alloc _).trans HMM.out) (Nat.le_refl _) _ _ _ _ _ _ _ _⟩)
    · have hE : Hid (timesT d l i = .error 1) := by show _ = _; unfold timesT; rw [HBB.out]; simp [hd]
      have hdb : (d == 1) = false := by simpa using hd
      go_enter Try.func50, Try.ntmps50
      go_wp2_with fail
      refine HB.out.mono ?_
      rintro e w1 ⟨rfl, hr, hm⟩
      obtain ⟨d0, d1, d2, g1⟩ := hr.cells
      clear c0 c1 c2 f1 HB hr
      have HMM := hide hm
      clear hm
      go_wp2
      exact ⟨rfl, .inr ⟨1, hE.out, rfl, ((Mv.refl b w).alloc _).trans HMM.out⟩⟩
  | true =>
    have hend : ∀ (R : RT), timesT d l i = R → Hid (timesT d l i = R) := fun _ h => h
    by_cases h1 : hi ≠ -1 ∧ lo > hi
    · obtain ⟨h1a, h1b⟩ := h1
      have hE : Hid (timesT d l i = .error 3) := by show _ = _; unfold timesT; rw [HBB.out]; simp [h1a, h1b]
      have hnb : (hi != -1) = true := by simpa using h1a
      have hlt2 : hi < lo := h1b
      go_enter Try.func50, Try.ntmps50
      go_wp2_with fail
      refine HB.out.mono ?_
      rintro e w1 ⟨rfl, hr, hm⟩
      clear c0 c1 c2 f1 HB hr
      have HMM := hide hm
      clear hm
      go_wp2
      exact ⟨rfl, .inr ⟨3, hE.out, rfl, ((Mv.refl b w).alloc _).trans HMM.out⟩⟩
    · by_cases h2 : lo > 100 ∨ hi > 100
      · have hE : Hid (timesT d l i = .error 2) := by show _ = _; unfold timesT; rw [HBB.out]; simp only [Bool.true_eq_false, if_false]; rw [if_neg h1, if_pos h2]
        by_cases hn : hi = -1
        · subst hn
          have hlo : 100 < lo := by omega
          go_enter Try.func50, Try.ntmps50
          go_wp2_with fail
          refine HB.out.mono ?_
          rintro e w1 ⟨rfl, hr, hm⟩
          clear c0 c1 c2 f1 HB hr h1 h2
          have HMM := hide hm
          clear hm
          go_wp2
          exact ⟨rfl, .inr ⟨2, hE.out, rfl, ((Mv.refl b w).alloc _).trans HMM.out⟩⟩
        · have hnb : (hi != -1) = true := by simpa using hn
          have hle : ¬ hi < lo := by omega
          have hhi : 100 < hi := by omega
          go_enter Try.func50, Try.ntmps50
          go_wp2_with fail
          refine HB.out.mono ?_
          rintro e w1 ⟨rfl, hr, hm⟩
          clear c0 c1 c2 f1 HB hr h1 h2
          have HMM := hide hm
          clear hm
          go_wp2
          all_goals exact ⟨rfl, .inr ⟨2, hE.out, rfl, ((Mv.refl b w).alloc _).trans HMM.out⟩⟩
      · have hE : Hid (timesT d l i = .ok ((repT d l pos lo hi).1, (repT d l pos lo hi).2)) := by show _ = _; unfold timesT; rw [HBB.out]; simp only [Bool.true_eq_false, if_false]; rw [if_neg h1, if_neg h2]
        have hl1 : ¬ 100 < lo := by omega
        have hl2 : ¬ 100 < hi := by omega
        by_cases hn : hi = -1
        · subst hn
          go_enter Try.func50, Try.ntmps50
          go_wp2_with fail
          refine HB.out.mono ?_
          rintro e w1 ⟨rfl, hr1, hm1⟩
          clear c0 c1 c2 f1 HB h1 h2
          go_wp2_with fail
          refine (repeat_any lo (-1) w1 hr1).mono ?_
          rintro e w2 ⟨rfl, hr, hm2⟩
          have hm := hm1.trans hm2
          generalize repT d l pos lo (-1) = rt at *
          obtain ⟨t, k⟩ := rt
          simp only at hr hE ⊢
          have hN : w2.heap[w.heap.size]? = some (tokO {}) := hm.blockAt (at_new _ _) (by omega)
          obtain ⟨m0, m1, m2, m3, m4, m5, m6, m7⟩ := tok_cells hN
          have fr0 := tok_free hN
          have HRR := hide hr
          have HMM := hide hm
          clear hr hm hr1 hm1 hm2
          unfold tokV
          go_wp2
          refine bodyPost_ret (v := tokV t) (by simp [results, Try.results50, go_sem, tokV, m0, m1, m2, m3, m4, m5, m6, m7]) rfl (.inl ⟨t, k, hE.out, rfl, HRR.out.tok (by omega) (by omega) _ _ _ _ _ _ _ _, Mv.tok (((Mv.refl b w).alloc _).trans HMM.out) (Nat.le_refl _) _ _ _ _ _ _ _ _⟩)
        · have hnb : (hi != -1) = true := by simpa using hn
          have hle : ¬ hi < lo := by omega
          go_enter Try.func50, Try.ntmps50
          go_wp2_with fail
          refine HB.out.mono ?_
          rintro e w1 ⟨rfl, hr1, hm1⟩
          clear c0 c1 c2 f1 HB h1 h2
          go_wp2_with fail
          refine (repeat_any lo hi w1 hr1).mono ?_
          rintro e w2 ⟨rfl, hr, hm2⟩
          have hm := hm1.trans hm2
          generalize repT d l pos lo hi = rt at *
          obtain ⟨t, k⟩ := rt
          simp only at hr hE ⊢
          have hN : w2.heap[w.heap.size]? = some (tokO {}) := hm.blockAt (at_new _ _) (by omega)
          obtain ⟨m0, m1, m2, m3, m4, m5, m6, m7⟩ := tok_cells hN
          have fr0 := tok_free hN
          have HRR := hide hr
          have HMM := hide hm
          clear hr hm hr1 hm1 hm2
          unfold tokV
          go_wp2
          refine bodyPost_ret (v := tokV t) (by simp [results, Try.results50, go_sem, tokV, m0, m1, m2, m3, m4, m5, m6, m7]) rfl (.inl ⟨t, k, hE.out, rfl, HRR.out.tok (by omega) (by omega) _ _ _ _ _ _ _ _, Mv.tok (((Mv.refl b w).alloc _).trans HMM.out) (Nat.le_refl _) _ _ _ _ _ _ _ _⟩)

end Go.Proofs.Ytlapnhjkhpgklaa
