/- What Next answers. -/
import Derived.Test.YtlapnhjkhpgklaaTnext
namespace Go.Proofs.Ytlapnhjkhpgklaa
open Go.RowKit
set_option linter.unusedVariables false

theorem below_tok {B : Nat} {w w1 : World} (h : Below B w w1) {k : Nat} (hk : B ≤ k) (v0 v1 v2 v3 v4 v5 v6 v7 : Value) :
    Below B w ((((((((w1.setCell ⟨k, 0, none⟩ v0).setCell ⟨k, 1, none⟩ v1).setCell ⟨k, 2, none⟩ v2).setCell ⟨k, 3, none⟩ v3).setCell ⟨k, 4, none⟩ v4).setCell ⟨k, 5, none⟩ v5).setCell ⟨k, 6, none⟩ v6).setCell ⟨k, 7, none⟩ v7) :=
  (((((((h.setCell (p := ⟨k, 0, none⟩) hk v0).setCell (p := ⟨k, 1, none⟩) hk v1).setCell (p := ⟨k, 2, none⟩) hk v2).setCell (p := ⟨k, 3, none⟩) hk v3).setCell (p := ⟨k, 4, none⟩) hk v4).setCell (p := ⟨k, 5, none⟩) hk v5).setCell (p := ⟨k, 6, none⟩) hk v6).setCell (p := ⟨k, 7, none⟩) hk v7
/-- what Next answers. -/
def nextR (d : Int) (l : List Int) (a : Int) : RT := if patE d l ≠ 0 then .error (patE d l) else if a < 0 ∨ (l.length : Int) ≤ a then .error 3 else nextT d l a.toNat
def NextE (R : RT) (w : World) (e : Ending) (w' : World) : Prop :=
  (∃ t k, R = .ok (t, k) ∧ e = .returned (.tuple #[tokV t, .int .i64 (k : Nat), .int .i64 0]) ∧ Below w.heap.size w w') ∨
  (∃ z, R = .error z ∧ e = .returned (.tuple #[tokV {}, .int .i64 0, .int .i64 z]) ∧ Below w.heap.size w w')
theorem patE_ok {d : Int} {l : List Int} (h : patE d l = 0) : (d = 1 ∨ d = 2 ∨ d = 3) ∧ l.length ≤ 300 ∧ ∀ p ∈ l, 0 ≤ p ∧ p ≤ 1114111 := by
  unfold patE at h
  split at h
  · cases h
  · split at h
    · cases h
    · split at h
      · rename_i h1 h2 h3
        refine ⟨by omega, by omega, fun p hp => ?_⟩
        have := List.all_eq_true.1 h3 p hp
        simpa [pointB] using this
      · cases h
theorem ret_next {tmps : Array Value} {W : World} {N : Nat} {t : Tok} {k z : Int} {R : Ending → World → Prop} (h6 : tmps[6]? = some (.pointer (some ⟨N, 0, none⟩))) (h7 : tmps[7]? = some (.int .i64 k)) (h8 : tmps[8]? = some (.int .i64 z)) (q0 : W.heap[N]? = some (tokO t)) (hF : R (.returned (.tuple #[tokV t, .int .i64 k, .int .i64 z])) W) :
    bodyPost Try.prog Try.f8 R Exit.ret { tmps := tmps, defers := [] } W := by
  obtain ⟨m0, m1, m2, m3, m4, m5, m6, m7⟩ := tok_cells q0
  refine bodyPost_ret (v := .tuple #[tokV t, .int .i64 k, .int .i64 z]) ?_ rfl hF
  simp [results, Try.results8, go_sem, h6, h7, h8, m0, m1, m2, m3, m4, m5, m6, m7, tokV]

set_option maxHeartbeats 4000000 in
theorem next_any (d a : Int) (v : Value) (l : List Int) (w : World) (h : PatV w v l) : Calls Try.prog 8 #[.int .i64 d, v, .int .i64 a] w fun e w' => NextE (nextR d l a) w e w' := by
  have hb0 : Below w.heap.size w (w.alloc (tokO {})) := (Below.refl _ w).alloc (Nat.le_refl _) _
  have HC := hide (checkPattern_any d v l _ (h.below hb0))
  obtain ⟨ao, c, hv⟩ := h.shape
  by_cases hz : patE d l = 0
  · obtain ⟨hd, hsm, hpts⟩ := patE_ok hz
    rw [hz] at HC
    by_cases ha : a < 0
    · have hE : Hid (nextR d l a = .error 3) := by show _ = _; unfold nextR; rw [if_neg (by simp [hz]), if_pos (Or.inl ha)]
      simp only [tokO] at HC
      have HB := hide hb0
      rw [hv] at HC ⊢
      clear h hv hz hpts hb0
      go_enter Try.func8, Try.ntmps8
      go_wp2_with fail
      refine HC.out.mono ?_
      rintro e w' ⟨rfl, rfl⟩
      go_wp21
      go_wp21
      exact ret_next (N := w.heap.size) (t := {}) rfl rfl rfl (at_new _ _) (.inr ⟨3, hE.out, rfl, HB.out⟩)
    · by_cases hb : (l.length : Int) ≤ a
      · have hE : Hid (nextR d l a = .error 3) := by show _ = _; unfold nextR; rw [if_neg (by simp [hz]), if_pos (Or.inr hb)]
        simp only [tokO] at HC
        have HB := hide hb0
        rw [hv] at HC ⊢
        clear h hv hz hpts hb0
        go_enter Try.func8, Try.ntmps8
        go_wp2_with fail
        refine HC.out.mono ?_
        rintro e w' ⟨rfl, rfl⟩
        go_wp21
        go_wp21
        exact ret_next (N := w.heap.size) (t := {}) rfl rfl rfl (at_new _ _) (.inr ⟨3, hE.out, rfl, HB.out⟩)
      · obtain ⟨i, rfl⟩ : ∃ i : Nat, a = i := ⟨a.toNat, by omega⟩
        have hi : i < l.length := by omega
        obtain ⟨x, cx, hx, hcap, hrd⟩ := h.some (by omega)
        have hE : Hid (nextR d l (i : Int) = nextT d l i) := by show _ = _; unfold nextR; rw [if_neg (by simp [hz]), if_neg (by omega)]; simp
        have HR := hide (read_any d x cx l i _ ⟨hrd.below hb0, hcap, hsm, hpts⟩ hi)
        have hli : ¬ ((l.length : Int) ≤ (i : Int)) := by omega
        have hli2 : (i : Int) < (l.length : Int) := by omega
        simp only [tokO] at HC HR
        have HB := hide hb0
        rw [hx] at HC ⊢
        clear h hv hz hpts hb0 hrd hx ha hb
        go_enter Try.func8, Try.ntmps8
        go_wp2_with fail
        refine HC.out.mono ?_
        rintro e w' ⟨rfl, rfl⟩
        go_wp2_with fail
        refine HR.out.mono ?_
        rintro e w2 (⟨t, k, hR, rfl, hkl, hb2⟩ | ⟨z, hR, rfl, hb2⟩)
        · have hN : w2.heap[w.heap.size]? = some (tokO {}) := by rw [hb2.block _ (by simp)]; exact at_new _ _
          obtain ⟨m0, m1, m2, m3, m4, m5, m6, m7⟩ := tok_cells hN
          have fr0 := tok_free hN
          have HE := hide (hE.out.trans hR)
          have HB2 := hide (HB.out.trans (hb2.mono HB.out.size))
          clear hb2 hR hE
          simp only [tokV]
          go_wp21
          exact ret_next (N := w.heap.size) (t := t) rfl rfl rfl (tok_set hN t) (.inl ⟨t, k, HE.out, rfl, below_tok HB2.out (Nat.le_refl _) _ _ _ _ _ _ _ _⟩)
        · have hN : w2.heap[w.heap.size]? = some (tokO {}) := by rw [hb2.block _ (by simp)]; exact at_new _ _
          obtain ⟨m0, m1, m2, m3, m4, m5, m6, m7⟩ := tok_cells hN
          have fr0 := tok_free hN
          have HE := hide (hE.out.trans hR)
          have HB2 := hide (HB.out.trans (hb2.mono HB.out.size))
          clear hb2 hR hE
          simp only [tokV]
          go_wp21
          exact ret_next (N := w.heap.size) (t := {}) rfl rfl rfl (tok_set hN {}) (.inr ⟨z, HE.out, rfl, below_tok HB2.out (Nat.le_refl _) _ _ _ _ _ _ _ _⟩)
  · have hE : Hid (nextR d l a = .error (patE d l)) := by show _ = _; unfold nextR; rw [if_pos hz]
    simp only [tokO] at HC
    have HB := hide hb0
    obtain ⟨z, hzz⟩ : ∃ z, z = patE d l := ⟨_, rfl⟩
    rw [← hzz] at HC hE hz
    rw [hv] at HC ⊢
    have hzb : (z != 0) = true := by simpa using hz
    clear h hv hb0 hzz hz
    go_enter Try.func8, Try.ntmps8
    go_wp2_with fail
    refine HC.out.mono ?_
    rintro e w' ⟨rfl, rfl⟩
    go_wp21
    go_wp21
    exact ret_next (N := w.heap.size) (t := {}) rfl rfl rfl (at_new _ _) (.inr ⟨z, hE.out, rfl, HB.out⟩)

end Go.Proofs.Ytlapnhjkhpgklaa
