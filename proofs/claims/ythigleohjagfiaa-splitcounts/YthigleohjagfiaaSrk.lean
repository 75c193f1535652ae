/- How many roads there are at most. -/
import Derived.Test.YthigleohjagfiaaSrc
namespace Go.Proofs.Ythigleohjagfiaa
open Go.RowKit Go.PlainAid
set_option linter.unusedVariables false

theorem RRow.len {S : ShP} {A : RL} {M : List RL} (h : RRow S A M) : (∀ r ∈ A, okR r) → M.length ≤ A.length * 1114112 := by
  induction h with
  | nil => simp
  | snoc h1 h2 ih =>
    intro hA
    have l1 := ih (fun r hr => hA r (by simp [hr]))
    have hr := hA _ (List.mem_append_right _ (List.mem_singleton.2 rfl))
    have l2 := h2.len ⟨hr.1, hr.2.2⟩
    simp only [List.length_append, List.length_cons, List.length_nil]
    omega
theorem RAll.len {A : RL} {Ss : List ShP} {LL : List RL} (h : RAll A Ss LL) (hA : A.length ≤ 400 ∧ ∀ r ∈ A, okR r) : LL.length ≤ Ss.length * (400 * 1114112) := by
  induction h with
  | nil => simp
  | snoc h1 h2 ih =>
    have l2 := h2.len hA.2
    have : A.length * 1114112 ≤ 400 * 1114112 := Nat.mul_le_mul_right _ hA.1
    simp only [List.length_append, List.length_cons, List.length_nil]
    omega
theorem RAll.big {enc : Int} (he : isEnc enc) {A : RL} {LL : List RL} (h : RAll A (shapesP enc) LL) (hC : A.length ≤ 400 ∧ Canon A) : LL.length ≤ 2228224000 := by
  have h1 := h.len ⟨hC.1, hC.2.1⟩
  have h2 : (shapesP enc).length ≤ 5 := by rcases he with rfl | rfl | rfl | rfl <;> simp [shapesP, paired]
  have : (shapesP enc).length * (400 * 1114112) ≤ 5 * (400 * 1114112) := Nat.mul_le_mul_right _ h2
  omega

end Go.Proofs.Ythigleohjagfiaa
