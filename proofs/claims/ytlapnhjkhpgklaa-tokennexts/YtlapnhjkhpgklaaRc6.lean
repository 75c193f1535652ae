/- The reference's digits of sixteen. -/
import Derived.Test.YtlapnhjkhpgklaaRc4
namespace Go.Proofs.Ytlapnhjkhpgklaa
open Go.RowKit
set_option linter.unusedVariables false

theorem hexV_yes {l : List Int} {j : Nat} (h : 0 ≤ hexV (ptA l j)) : ∃ hj : j < l.length, digV l[j] < 16 ∧ hexV (ptA l j) = digV l[j] := by
  by_cases hj : j < l.length
  · rw [ptA_in hj] at h ⊢
    unfold hexV at h ⊢
    split at h
    · rename_i h1; exact ⟨hj, h1, by rw [if_pos h1]⟩
    · omega
  · rw [ptA_out hj] at h
    exact absurd h (by decide)
theorem hexV_no {l : List Int} {j : Nat} (h : ¬ 0 ≤ hexV (ptA l j)) : ¬ ∃ h2 : j < l.length, digV l[j] < 16 := by
  rintro ⟨h2, h3⟩
  rw [ptA_in h2] at h
  unfold hexV at h
  rw [if_pos h3] at h
  exact h (digV_rng _).1
theorem pow_two {v : Int} {k m : Nat} (h : v < 16 ^ k) (hk : k ≤ m) (hm : m ≤ 4) : v < 65536 := by
  have : k = 0 ∨ k = 1 ∨ k = 2 ∨ k = 3 ∨ k = 4 := by omega
  rcases this with rfl | rfl | rfl | rfl | rfl <;> omega

end Go.Proofs.Ytlapnhjkhpgklaa
