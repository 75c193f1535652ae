/- TokenAlls: runs are one. -/
import Derived.Test.YtkpndghmiidkgaaTgreedy
namespace Go.Proofs.Ytkpndghmiidkgaa
open Go.RowKit
set_option linter.unusedVariables false

theorem run_same {d : Int} {l : List Int} {i : Nat} {L : List Tok} {S : List Int} (h : Run d l i L S) : ∀ {j : Nat} {L' : List Tok} {S' : List Int}, Run d l j L' S' → L.length = L'.length → i = j ∧ L = L' ∧ S = S' := by
  induction h with
  | nil =>
    intro j L' S' h' e
    cases h' with
    | nil => exact ⟨rfl, rfl, rfl⟩
    | step a b => simp at e
  | step h1 h2 ih =>
    intro j L' S' h' e
    cases h' with
    | nil => simp at e
    | step a b =>
      obtain ⟨rfl, rfl, rfl⟩ := ih a (by simpa using e)
      rw [h2] at b
      injection b with b
      injection b with b1 b2
      subst b1 b2
      exact ⟨rfl, rfl, rfl⟩
theorem run_cut {d : Int} {l : List Int} {j : Nat} {L' : List Tok} {S' : List Int} (h : Run d l j L' S') : ∀ k, k < L'.length → ∃ i t k2, Run d l i (L'.take k) (S'.take k) ∧ nextT d l i = .ok (t, k2) ∧ L'[k]? = some t ∧ S'[k]? = some (i : Int) := by
  induction h with
  | nil => intro k hk; simp at hk
  | @step i k2 t L S h1 h2 ih =>
    intro k hk
    have hlen := h1.len.2
    simp only [List.length_append, List.length_cons, List.length_nil] at hk
    by_cases hlt : k < L.length
    · obtain ⟨i', t', k', a, b, c, e⟩ := ih k hlt
      refine ⟨i', t', k', ?_, b, ?_, ?_⟩
      · rw [List.take_append_of_le_length (by omega), List.take_append_of_le_length (by omega)]; exact a
      · rw [List.getElem?_append_left hlt]; exact c
      · rw [List.getElem?_append_left (by omega)]; exact e
    · have hk' : k = L.length := by omega
      subst hk'
      refine ⟨i, t, k2, ?_, h2, ?_, ?_⟩
      · rw [List.take_left, show L.length = S.length from hlen.symm, List.take_left]; exact h1
      · simp
      · rw [← hlen]; simp
/-- where a run has not come to its end, the next one is the other run's. -/
theorem run_next {d : Int} {l : List Int} {i j : Nat} {L L' : List Tok} {S S' : List Int} (h : Run d l i L S) (h' : Run d l j L' S') (hl : L.length < L'.length) : ∃ t k2, nextT d l i = .ok (t, k2) ∧ L'[L.length]? = some t ∧ S'[L.length]? = some (i : Int) := by
  obtain ⟨i', t, k2, a, b, c, e⟩ := run_cut h' L.length hl
  obtain ⟨rfl, -, -⟩ := run_same h a (by rw [List.length_take]; omega)
  exact ⟨t, k2, b, c, e⟩
/-- one run ends where the other one does: at the one fault. -/
theorem run_err {d : Int} {l : List Int} {i j : Nat} {L L' : List Tok} {S S' : List Int} {z z' : Int} (h : Run d l i L S) (h' : Run d l j L' S') (e : nextT d l i = .error z) (e' : nextT d l j = .error z') : i = j ∧ z = z' := by
  have hl : L.length = L'.length := by
    rcases Nat.lt_trichotomy L.length L'.length with hlt | heq | hgt
    · obtain ⟨t, k2, a, -⟩ := run_next h h' hlt; rw [e] at a; cases a
    · exact heq
    · obtain ⟨t, k2, a, -⟩ := run_next h' h hgt; rw [e'] at a; cases a
  obtain ⟨rfl, -, -⟩ := run_same h h' hl
  rw [e] at e'
  injection e' with e'
  exact ⟨rfl, e'⟩
/-- .. and no run ends well where there is a fault. -/
theorem run_bad {d : Int} {l : List Int} {i : Nat} {L L' : List Tok} {S S' : List Int} {z : Int} (h : Run d l i L S) (hi : i < l.length) (h' : Run d l l.length L' S') (e : nextT d l i = .error z) : False := by
  rcases Nat.lt_trichotomy L.length L'.length with hlt | heq | hgt
  · obtain ⟨t, k2, a, -⟩ := run_next h h' hlt; rw [e] at a; cases a
  · obtain ⟨e1, -, -⟩ := run_same h h' heq; omega
  · obtain ⟨t, k2, a, -⟩ := run_next h' h hgt
    unfold nextT at a
    rw [List.getElem?_eq_none (Nat.le_refl _)] at a
    cases a
/-- a run that has not come to the end is shorter than the whole one. -/
theorem run_lt {d : Int} {l : List Int} {i : Nat} {L L' : List Tok} {S S' : List Int} (h : Run d l i L S) (hi : i < l.length) (h' : Run d l l.length L' S') : L.length < L'.length := by
  rcases Nat.lt_trichotomy L.length L'.length with hlt | heq | hgt
  · exact hlt
  · obtain ⟨e1, -, -⟩ := run_same h h' heq; omega
  · obtain ⟨t, k2, a, -⟩ := run_next h' h hgt
    unfold nextT at a
    rw [List.getElem?_eq_none (Nat.le_refl _)] at a
    cases a
theorem run_le {d : Int} {l : List Int} {j : Nat} {L' : List Tok} {S' : List Int} (h' : Run d l j L' S') : ∀ {i : Nat} {L : List Tok} {S : List Int}, Run d l i L S → L.length ≤ L'.length → i ≤ j := by
  induction h' with
  | nil =>
    intro i L S h hl
    obtain ⟨rfl, -, -⟩ := run_same h (.nil) (by simp at hl ⊢; exact hl)
    exact Nat.le_refl _
  | @step i1 k2 t L1 S1 h1 h2 ih =>
    intro i L S h hl
    simp only [List.length_append, List.length_cons, List.length_nil] at hl
    by_cases hlt : L.length ≤ L1.length
    · have := ih h hlt
      have := next_pos h2
      omega
    · obtain ⟨rfl, -, -⟩ := run_same h (.step h1 h2) (by simp; omega)
      exact Nat.le_refl _
/-- what is read on the way to the end, or to the fault, ends there at the latest. -/
theorem run_in {d : Int} {l : List Int} {i j k : Nat} {t : Tok} {L L' : List Tok} {S S' : List Int} (h : Run d l i L S) (e : nextT d l i = .ok (t, k)) (h' : Run d l j L' S') (hj : ∀ t k, nextT d l j ≠ .ok (t, k)) : k ≤ j := by
  have hlt : L.length < L'.length := by
    rcases Nat.lt_trichotomy L.length L'.length with hlt | heq | hgt
    · exact hlt
    · obtain ⟨rfl, -, -⟩ := run_same h h' heq; exact absurd e (hj _ _)
    · obtain ⟨t, k2, a, -⟩ := run_next h' h hgt; exact absurd a (hj _ _)
  exact run_le h' (.step h e) (by simp; omega)
theorem next_end (d : Int) (l : List Int) (t : Tok) (k : Nat) : nextT d l l.length ≠ .ok (t, k) := by
  unfold nextT
  rw [List.getElem?_eq_none (Nat.le_refl _)]
  intro h; cases h

end Go.Proofs.Ytkpndghmiidkgaa
