/- The reference's Escaped in the first dialect: what its tables say. -/
import Derived.Test.YtlapnhjkhpgklaaRc2
namespace Go.Proofs.Ytlapnhjkhpgklaa
open Go.RowKit
set_option linter.unusedVariables false

def noC (p : Int) (r : Nat) : Prop := (2 ≤ r → p ≠ 100 ∧ p ≠ 68) ∧ (4 ≤ r → p ≠ 119 ∧ p ≠ 87) ∧ (6 ≤ r → p ≠ 115 ∧ p ≠ 83) ∧ (8 ≤ r → p ≠ 104 ∧ p ≠ 72)
theorem noC_zero (p : Int) : noC p 0 := by unfold noC; omega
theorem noC_next0 {p : Int} (h : noC p 0) (h1 : ¬ p = 100) (h2 : ¬ p = 68) : noC p 2 := by unfold noC at *; omega
theorem noC_next2 {p : Int} (h : noC p 2) (h1 : ¬ p = 119) (h2 : ¬ p = 87) : noC p 4 := by unfold noC at *; omega
theorem noC_next4 {p : Int} (h : noC p 4) (h1 : ¬ p = 115) (h2 : ¬ p = 83) : noC p 6 := by unfold noC at *; omega
theorem noC_next6 {p : Int} (h : noC p 6) (h1 : ¬ p = 104) (h2 : ¬ p = 72) : noC p 8 := by unfold noC at *; omega
theorem noC_none {p : Int} (h : noC p 8) : clsT p = none := by
  unfold noC at h
  unfold clsT
  rw [if_neg (by omega), if_neg (by omega), if_neg (by omega), if_neg (by omega), if_neg (by omega), if_neg (by omega), if_neg (by omega), if_neg (by omega)]
abbrev ctlO : Obj := .cells #[.int .i64 110, .int .i64 10, .int .i64 116, .int .i64 9, .int .i64 114, .int .i64 13, .int .i64 102, .int .i64 12, .int .i64 118, .int .i64 11, .int .i64 97, .int .i64 7, .int .i64 101, .int .i64 27] 3
theorem ctl_cell {W : World} {k : Nat} (h : W.heap[k]? = some ctlO) (j : Nat) (v : Value) (hv : (#[.int .i64 110, .int .i64 10, .int .i64 116, .int .i64 9, .int .i64 114, .int .i64 13, .int .i64 102, .int .i64 12, .int .i64 118, .int .i64 11, .int .i64 97, .int .i64 7, .int .i64 101, .int .i64 27] : Array Value)[j]? = some v) : W.cell? ⟨k, j, none⟩ = some v := by
  unfold World.cell?
  simp only [h]
  exact hv
def noK (p : Int) (r : Nat) : Prop := (2 ≤ r → p ≠ 110) ∧ (4 ≤ r → p ≠ 116) ∧ (6 ≤ r → p ≠ 114) ∧ (8 ≤ r → p ≠ 102) ∧ (10 ≤ r → p ≠ 118) ∧ (12 ≤ r → p ≠ 97) ∧ (14 ≤ r → p ≠ 101)
theorem noK_zero (p : Int) : noK p 0 := by unfold noK; omega
theorem noK_next0 {p : Int} (h : noK p 0) (h1 : ¬ p = 110) : noK p 2 := by unfold noK at *; omega
theorem noK_next2 {p : Int} (h : noK p 2) (h1 : ¬ p = 116) : noK p 4 := by unfold noK at *; omega
theorem noK_next4 {p : Int} (h : noK p 4) (h1 : ¬ p = 114) : noK p 6 := by unfold noK at *; omega
theorem noK_next6 {p : Int} (h : noK p 6) (h1 : ¬ p = 102) : noK p 8 := by unfold noK at *; omega
theorem noK_next8 {p : Int} (h : noK p 8) (h1 : ¬ p = 118) : noK p 10 := by unfold noK at *; omega
theorem noK_next10 {p : Int} (h : noK p 10) (h1 : ¬ p = 97) : noK p 12 := by unfold noK at *; omega
theorem noK_next12 {p : Int} (h : noK p 12) (h1 : ¬ p = 101) : noK p 14 := by unfold noK at *; omega
/-- a ruby word that is none of the classes and of those that look. -/
theorem esc1_rest {l : List Int} {i : Nat} {p : Int} (h : l[i]? = some p) (hc : clsT p = none) (h1 : ¬ p = 65) (h2 : ¬ p = 122) (h3 : ¬ p = 98) (h4 : ¬ p = 66) : escT 1 l i = if p = 120 then hexT l (i + 1) else if p = 117 then uniT l (i + 1) else if p = 107 then agbT l (i + 1) else if 49 ≤ p ∧ p ≤ 57 then .ok (agdT l (i + 1) (p - 48)) else match ctlT p with
      | .ok q => .ok (pointT q, i + 1)
      | .error e => .error e := by
  unfold escT; rw [h]; simp only [if_true]
  unfold rubyT; rw [hc]; simp only
  rw [if_neg h1, if_neg h2, if_neg h3, if_neg h4]
  rfl
theorem digs_two {l : List Int} {i : Nat} {p : Int} (h : l[i]? = some p) (h1 : 49 ≤ p) (h2 : p ≤ 57) : digs 10 2 l i = if (digs 10 1 l (i + 1)).2 = 1 then ((p - 48) * 10 + (digs 10 1 l (i + 1)).1, 2) else (p - 48, 1) := by
  obtain ⟨hi, hp⟩ := List.getElem?_eq_some_iff.1 h
  have hd : digV p = p - 48 := by unfold digV; rw [if_pos ⟨by omega, h2⟩]
  unfold digs
  rw [List.drop_eq_getElem_cons hi, hp, digsS, if_pos (by omega), hd]
  cases l.drop (i + 1) with
  | nil => simp [digsS]
  | cons q t =>
    simp only [digsS]
    by_cases hq : digV q < 10
    · simp [hq]
    · simp [hq]
theorem esc1_dig {l : List Int} {i : Nat} {p : Int} (h : l[i]? = some p) (hc : clsT p = none) (h1 : 49 ≤ p) (h2 : p ≤ 57) : escT 1 l i = .ok (againT (digs 10 2 l i).1, i + (digs 10 2 l i).2) := by
  rw [esc1_rest h hc (by omega) (by omega) (by omega) (by omega), if_neg (by omega), if_neg (by omega), if_neg (by omega), if_pos ⟨h1, h2⟩, digs_two h h1 h2]
  unfold agdT
  simp only
  by_cases hq : (digs 10 1 l (i + 1)).2 = 1
  · rw [if_pos hq, if_pos hq]; try rfl
  · rw [if_neg hq, if_neg hq]; try rfl
theorem esc1_last {l : List Int} {i : Nat} {p : Int} (h : l[i]? = some p) (hc : clsT p = none) (h1 : ¬ p = 65) (h2 : ¬ p = 122) (h3 : ¬ p = 98) (h4 : ¬ p = 66) (h5 : ¬ p = 120) (h6 : ¬ p = 117) (h7 : ¬ p = 107) (h8 : ¬ (49 ≤ p ∧ p ≤ 57)) (hk : noK p 14) : escT 1 l i = if letB p = true ∨ p = 48 then .error 1 else .ok (pointT p, i + 1) := by
  unfold noK at hk
  rw [esc1_rest h hc h1 h2 h3 h4, if_neg h5, if_neg h6, if_neg h7, if_neg h8]
  unfold ctlT
  rw [if_neg (by omega), if_neg (by omega), if_neg (by omega), if_neg (by omega), if_neg (by omega), if_neg (by omega), if_neg (by omega)]
  by_cases hq : letB p = true ∨ p = 48
  · rw [if_pos hq, if_pos hq]; try rfl
  · rw [if_neg hq, if_neg hq]; try rfl

end Go.Proofs.Ytlapnhjkhpgklaa
