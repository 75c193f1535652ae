/- What stands behind an opening bracket, by what is said there. No program. -/
import Derived.Test.YtlapnhjkhpgklaaRb5
namespace Go.Proofs.Ytlapnhjkhpgklaa
set_option linter.unusedVariables false

theorem openS_q {l : List Int} {i : Nat} (hq : says l i [63] = true) : openS 1 l i = if says l (i + 1) [58] then .ok (openT 1, i + 2) else if says l (i + 1) [62] then .ok (openT 13, i + 2) else if says l (i + 1) [61] then .ok (openT 14, i + 2) else if says l (i + 1) [33] then .ok (openT 15, i + 2) else if says l (i + 1) [60] then behT l (i + 2) else if says l (i + 1) [105] then optT l (i + 2) 1 else if says l (i + 1) [45] then (if says l (i + 2) [105] then optT l (i + 3) (-1) else .error 1) else .error 1 := by
  unfold openS
  rw [if_neg (by simp), if_neg (by rw [hq]; simp)]
  cases h : l[i + 1]? with
  | none => simp [says_one, h]
  | some p => simp [says_one, h]
def sgn : List (List Int) := [[58], [62], [61], [33], [60, 61], [60, 33]]
/-- none of the first signs stands there. -/
def noS (l : List Int) (j r : Nat) : Prop := ∀ s ∈ sgn.take r, says l j s = false
theorem noS_zero (l : List Int) (j : Nat) : noS l j 0 := fun s hs => by simp at hs
theorem noS_next {l : List Int} {j r : Nat} (h : noS l j r) (hr : r < sgn.length) (hn : says l j sgn[r] = false) : noS l j (r + 1) := fun s hs => by
  rw [List.take_add_one, List.getElem?_eq_getElem hr] at hs
  rcases List.mem_append.1 hs with hs | hs
  · exact h s hs
  · simp at hs; rw [hs]; exact hn
theorem open_0 {l : List Int} {i : Nat} (hq : says l i [63] = true) (h : noS l (i + 1) 0) (hy : says l (i + 1) [58] = true) : openS 1 l i = .ok (openT 1, i + 2) := by
  rw [openS_q hq, if_pos hy]
theorem open_1 {l : List Int} {i : Nat} (hq : says l i [63] = true) (h : noS l (i + 1) 1) (hy : says l (i + 1) [62] = true) : openS 1 l i = .ok (openT 13, i + 2) := by
  have h0 : says l (i + 1) [58] = false := h [58] (by decide)
  rw [openS_q hq, if_neg (by rw [h0]; simp), if_pos hy]
theorem open_2 {l : List Int} {i : Nat} (hq : says l i [63] = true) (h : noS l (i + 1) 2) (hy : says l (i + 1) [61] = true) : openS 1 l i = .ok (openT 14, i + 2) := by
  have h0 : says l (i + 1) [58] = false := h [58] (by decide)
  have h1 : says l (i + 1) [62] = false := h [62] (by decide)
  rw [openS_q hq, if_neg (by rw [h0]; simp), if_neg (by rw [h1]; simp), if_pos hy]
theorem open_3 {l : List Int} {i : Nat} (hq : says l i [63] = true) (h : noS l (i + 1) 3) (hy : says l (i + 1) [33] = true) : openS 1 l i = .ok (openT 15, i + 2) := by
  have h0 : says l (i + 1) [58] = false := h [58] (by decide)
  have h1 : says l (i + 1) [62] = false := h [62] (by decide)
  have h2 : says l (i + 1) [61] = false := h [61] (by decide)
  rw [openS_q hq, if_neg (by rw [h0]; simp), if_neg (by rw [h1]; simp), if_neg (by rw [h2]; simp), if_pos hy]
theorem open_4 {l : List Int} {i : Nat} (hq : says l i [63] = true) (h : noS l (i + 1) 4) (hy : says l (i + 1) [60, 61] = true) : openS 1 l i = .ok (openT 16, i + 3) := by
  have h0 : says l (i + 1) [58] = false := h [58] (by decide)
  have h1 : says l (i + 1) [62] = false := h [62] (by decide)
  have h2 : says l (i + 1) [61] = false := h [61] (by decide)
  have h3 : says l (i + 1) [33] = false := h [33] (by decide)
  rw [says_two, Bool.and_eq_true] at hy
  rw [openS_q hq, if_neg (by rw [h0]; simp), if_neg (by rw [h1]; simp), if_neg (by rw [h2]; simp), if_neg (by rw [h3]; simp), if_pos hy.1]
  unfold behT
  rw [if_pos hy.2]
theorem open_5 {l : List Int} {i : Nat} (hq : says l i [63] = true) (h : noS l (i + 1) 5) (hy : says l (i + 1) [60, 33] = true) : openS 1 l i = .ok (openT 17, i + 3) := by
  have h0 : says l (i + 1) [58] = false := h [58] (by decide)
  have h1 : says l (i + 1) [62] = false := h [62] (by decide)
  have h2 : says l (i + 1) [61] = false := h [61] (by decide)
  have h3 : says l (i + 1) [33] = false := h [33] (by decide)
  have h4 : says l (i + 1) [60, 61] = false := h [60, 61] (by decide)
  rw [says_two, Bool.and_eq_true] at hy
  rw [says_two, hy.1, Bool.true_and] at h4
  rw [openS_q hq, if_neg (by rw [h0]; simp), if_neg (by rw [h1]; simp), if_neg (by rw [h2]; simp), if_neg (by rw [h3]; simp), if_pos hy.1]
  unfold behT
  rw [if_neg (by rw [h4]; simp), if_pos hy.2]
theorem open_name {l : List Int} {i : Nat} (hq : says l i [63] = true) (h : noS l (i + 1) 6) (hy : says l (i + 1) [60] = true) : openS 1 l i = if nameL l (i + 2) = [] then .error 1 else if says l (i + 2 + (nameL l (i + 2)).length) [62] then .ok ({ kind := 7, num := 11, text := byteA (nameL l (i + 2)) }, i + 2 + (nameL l (i + 2)).length + 1) else .error 1 := by
  have h0 : says l (i + 1) [58] = false := h [58] (by decide)
  have h1 : says l (i + 1) [62] = false := h [62] (by decide)
  have h2 : says l (i + 1) [61] = false := h [61] (by decide)
  have h3 : says l (i + 1) [33] = false := h [33] (by decide)
  have h4 : says l (i + 1) [60, 61] = false := h [60, 61] (by decide)
  have h5 : says l (i + 1) [60, 33] = false := h [60, 33] (by decide)
  rw [says_two, hy, Bool.true_and] at h4 h5
  rw [openS_q hq, if_neg (by rw [h0]; simp), if_neg (by rw [h1]; simp), if_neg (by rw [h2]; simp), if_neg (by rw [h3]; simp), if_pos hy]
  unfold behT
  rw [if_neg (by rw [h4]; simp), if_neg (by rw [h5]; simp)]
theorem says_apart {l : List Int} {j : Nat} {p q : Int} (h : says l j [p] = true) (hpq : p ≠ q) : says l j [q] = false := by
  rw [says_one] at h ⊢
  simp only [beq_iff_eq] at h
  rw [h]
  simpa using hpq
theorem open_opt {l : List Int} {i : Nat} (hq : says l i [63] = true) (h : noS l (i + 1) 6) (h6 : says l (i + 1) [60] = false) (h45 : says l (i + 1) [45] = false) : openS 1 l i = if says l (i + 1) [105, 41] then .ok ({ kind := 11, fold := 1 }, i + 3) else if says l (i + 1) [105, 58] then .ok ({ kind := 7, num := 1, fold := 1 }, i + 3) else .error 1 := by
  have h0 : says l (i + 1) [58] = false := h [58] (by decide)
  have h1 : says l (i + 1) [62] = false := h [62] (by decide)
  have h2 : says l (i + 1) [61] = false := h [61] (by decide)
  have h3 : says l (i + 1) [33] = false := h [33] (by decide)
  rw [openS_q hq, if_neg (by rw [h0]; simp), if_neg (by rw [h1]; simp), if_neg (by rw [h2]; simp), if_neg (by rw [h3]; simp), if_neg (by rw [h6]; simp), says_two, says_two]
  cases h7 : says l (i + 1) [105] with
  | true => rw [if_pos rfl, Bool.true_and, Bool.true_and]; rfl
  | false => rw [if_neg (by simp), if_neg (by rw [h45]; simp), Bool.false_and, Bool.false_and, if_neg (by simp), if_neg (by simp)]
theorem open_off {l : List Int} {i : Nat} (hq : says l i [63] = true) (h : noS l (i + 1) 6) (h45 : says l (i + 1) [45] = true) : openS 1 l i = if says l (i + 2) [105, 41] then .ok ({ kind := 11, fold := -1 }, i + 4) else if says l (i + 2) [105, 58] then .ok ({ kind := 7, num := 1, fold := -1 }, i + 4) else .error 1 := by
  have h0 : says l (i + 1) [58] = false := h [58] (by decide)
  have h1 : says l (i + 1) [62] = false := h [62] (by decide)
  have h2 : says l (i + 1) [61] = false := h [61] (by decide)
  have h3 : says l (i + 1) [33] = false := h [33] (by decide)
  rw [openS_q hq, if_neg (by rw [h0]; simp), if_neg (by rw [h1]; simp), if_neg (by rw [h2]; simp), if_neg (by rw [h3]; simp), if_neg (by rw [says_apart h45 (by decide)]; simp), if_neg (by rw [says_apart h45 (by decide)]; simp), if_pos h45, says_two, says_two]
  cases h7 : says l (i + 2) [105] with
  | true => rw [if_pos rfl, Bool.true_and, Bool.true_and]; rfl
  | false => rw [if_neg (by simp), Bool.false_and, Bool.false_and, if_neg (by simp), if_neg (by simp)]

end Go.Proofs.Ytlapnhjkhpgklaa
