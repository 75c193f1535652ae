/- Next once more: a token reads no more points than there are. -/
import Derived.Test.YtlapnhjkhpgklaaTnext2
namespace Go.Proofs.Ytlapnhjkhpgklaa
open Go.RowKit
set_option linter.unusedVariables false

def NextE2 (l : List Int) (R : RT) (w : World) (e : Ending) (w' : World) : Prop :=
  (∃ t k, R = .ok (t, k) ∧ e = .returned (.tuple #[tokV t, .int .i64 (k : Nat), .int .i64 0]) ∧ k ≤ l.length ∧ Below w.heap.size w w') ∨
  (∃ z, R = .error z ∧ e = .returned (.tuple #[tokV {}, .int .i64 0, .int .i64 z]) ∧ Below w.heap.size w w')

set_option maxHeartbeats 4000000 in
theorem next_any2 (d a : Int) (v : Value) (l : List Int) (w : World) (h : PatV w v l) : Calls Try.prog 8 #[.int .i64 d, v, .int .i64 a] w fun e w' => NextE2 l (nextR d l a) w e w' := by
  have hb0 : Below w.heap.size w (w.alloc (tokO {})) := (Below.refl _ w).alloc (Nat.le_refl _) _
  have HC := hide (checkPattern_any d v l _ (h.below hb0))
  obtain ⟨ao, c, hv⟩ := h.shape
  by_cases hz : patE d l = 0
  · obtain ⟨hd, hsm, hpts⟩ := patE_ok hz
    rw [hz] at HC
    by_cases ha : a < 0
    · have hE : Hid (nextR d l a = .error 3) := by show _ = _; unfold nextR; rw [if_neg (by simp [hz]), if_pos (Or.inl ha)]
      simp only [tokO] at HC
      have HB := hide hb0
      rw [hv] at HC ⊢
      clear h hv hz hpts hb0
      go_enter Try.func8, Try.ntmps8
      go_wp2_with fail
      refine HC.out.mono ?_
      rintro e w' ⟨rfl, rfl⟩
      go_wp21
      go_wp21
      exact ret_next (N := w.heap.size) (t := {}) rfl rfl rfl (at_new _ _) (.inr ⟨3, hE.out, rfl, HB.out⟩)
    · by_cases hb : (l.length : Int) ≤ a
      · have hE : Hid (nextR d l a = .error 3) := by show _ = _; unfold nextR; rw [if_neg (by simp [hz]), if_pos (Or.inr hb)]
        simp only [tokO] at HC
        have HB := hide hb0
        rw [hv] at HC ⊢
        clear h hv hz hpts hb0
        go_enter Try.func8, Try.ntmps8
        go_wp2_with fail
        refine HC.out.mono ?_
        rintro e w' ⟨rfl, rfl⟩
        go_wp21
        go_wp21
        exact ret_next (N := w.heap.size) (t := {}) rfl rfl rfl (at_new _ _) (.inr ⟨3, hE.out, rfl, HB.out⟩)
      · obtain ⟨i, rfl⟩ : ∃ i : Nat, a = i := ⟨a.toNat, by omega⟩
        have hi : i < l.length := by omega
        obtain ⟨x, cx, hx, hcap, hrd⟩ := h.some (by omega)
        have hE : Hid (nextR d l (i : Int) = nextT d l i) := by show _ = _; unfold nextR; rw [if_neg (by simp [hz]), if_neg (by omega)]; simp
        have HR := hide (read_any d x cx l i _ ⟨hrd.below hb0, hcap, hsm, hpts⟩ hi)
        have hli : ¬ ((l.length : Int) ≤ (i : Int)) := by omega
        have hli2 : (i : Int) < (l.length : Int) := by omega
        simp only [tokO] at HC HR
        have HB := hide hb0
        rw [hx] at HC ⊢
        clear h hv hz hpts hb0 hrd hx ha hb
        go_enter Try.func8, Try.ntmps8
        go_wp2_with fail
        refine HC.out.mono ?_
        rintro e w' ⟨rfl, rfl⟩
        go_wp2_with fail
        refine HR.out.mono ?_
        rintro e w2 (⟨t, k, hR, rfl, hkl, hb2⟩ | ⟨z, hR, rfl, hb2⟩)
        · have hN : w2.heap[w.heap.size]? = some (tokO {}) := by rw [hb2.block _ (by simp)]; exact at_new _ _
          obtain ⟨m0, m1, m2, m3, m4, m5, m6, m7⟩ := tok_cells hN
          have fr0 := tok_free hN
          have HE := hide (hE.out.trans hR)
          have HKL := hide hkl
          have HB2 := hide (HB.out.trans (hb2.mono HB.out.size))
          clear hb2 hR hE hkl
          simp only [tokV]
          go_wp21
          exact ret_next (N := w.heap.size) (t := t) rfl rfl rfl (tok_set hN t) (.inl ⟨t, k, HE.out, rfl, HKL.out, below_tok HB2.out (Nat.le_refl _) _ _ _ _ _ _ _ _⟩)
        · have hN : w2.heap[w.heap.size]? = some (tokO {}) := by rw [hb2.block _ (by simp)]; exact at_new _ _
          obtain ⟨m0, m1, m2, m3, m4, m5, m6, m7⟩ := tok_cells hN
          have fr0 := tok_free hN
          have HE := hide (hE.out.trans hR)
          have HB2 := hide (HB.out.trans (hb2.mono HB.out.size))
          clear hb2 hR hE
          simp only [tokV]
          go_wp21
          exact ret_next (N := w.heap.size) (t := {}) rfl rfl rfl (tok_set hN {}) (.inr ⟨z, HE.out, rfl, below_tok HB2.out (Nat.le_refl _) _ _ _ _ _ _ _ _⟩)
  · have hE : Hid (nextR d l a = .error (patE d l)) := by show _ = _; unfold nextR; rw [if_pos hz]
    simp only [tokO] at HC
    have HB := hide hb0
    obtain ⟨z, hzz⟩ : ∃ z, z = patE d l := ⟨_, rfl⟩
    rw [← hzz] at HC hE hz
    rw [hv] at HC ⊢
    have hzb : (z != 0) = true := by simpa using hz
    clear h hv hb0 hzz hz
    go_enter Try.func8, Try.ntmps8
    go_wp2_with fail
    refine HC.out.mono ?_
    rintro e w' ⟨rfl, rfl⟩
    go_wp21
    go_wp21
    exact ret_next (N := w.heap.size) (t := {}) rfl rfl rfl (at_new _ _) (.inr ⟨z, hE.out, rfl, HB.out⟩)

end Go.Proofs.Ytlapnhjkhpgklaa
