/- What the walks of SetTurns, SetSame, SetSpreads and SetCounts share. -/
import Derived.Test.YtjlnmlelmjmneabShas
import Derived.Test.YtjlnmlelmjmneabSbegun
namespace Go.Proofs.Ytjlnmlelmjmneab
open Go.RowKit
set_option linter.unusedVariables false

theorem made_inv {f : Int → Bool} {c err : Int} {O : RL} (h : Made f c err O) : (err ≠ 0 ∧ O = [] ∧ (c = 0 → err = 2)) ∨ (err = 0 ∧ c = 0 ∧ IsSet f O ∧ O.length ≤ 400) := by
  rcases h with ⟨h1, h2, h3⟩ | ⟨h1, S, hS, ⟨h2, h3, h4⟩ | ⟨h2, h3, h4⟩⟩
  · exact .inl ⟨by rw [h2]; exact h1, h3, fun h => absurd h h1⟩
  · subst h4; exact .inr ⟨h3, h1, hS, h2⟩
  · exact .inl ⟨by rw [h3]; decide, h4, fun _ => h3⟩
theorem same_yes (va vb : Value) (A : RL) (w : World) (hA : Reads w va A) (hB : Reads w vb A) (lA : A.length ≤ 1000000) : Calls Try.prog 16 #[va, vb] w fun e w' => e = .returned (.bool true) ∧ Below w.heap.size w w' :=
  (sameSet_any va vb A A w hA hB lA).mono fun e w' ⟨h, q, hq⟩ => ⟨by rw [h]; simp, by rw [hq]; exact below_drewN (Below.refl _ _) q⟩
theorem below_one (w : World) (o : Obj) : Below w.heap.size w (w.alloc o) := (Below.refl _ w).alloc (Nat.le_refl _) o
theorem reads_pp (w : World) (p : Int) : Reads (w.alloc (.cells #[.int .i64 p, .int .i64 p] 38)) (.slice (some ⟨w.heap.size, 0, none⟩) 1 1) [(p, p)] := by
  refine .inr ⟨_, 1, rfl, fun j hj => ?_⟩
  match j, hj with
  | 0, _ => exact ⟨World.cell?_alloc_at _ _ _ _ rfl, World.cell?_alloc_at _ _ _ _ rfl⟩
  | (j + 1), hj => simp at hj

end Go.Proofs.Ytjlnmlelmjmneab
