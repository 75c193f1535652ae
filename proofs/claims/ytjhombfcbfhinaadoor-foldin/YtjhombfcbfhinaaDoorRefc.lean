/- What the reference answers of classes: whether there is one by a name, and whether a point is in it. -/
import Derived.Test.YtjhombfcbfhinaaDoorIn
namespace Go.Proofs.YtjhombfcbfhinaaDoor
open Go.RowKit
set_option linter.unusedVariables false

set_option maxHeartbeats 400000 in
theorem between_any (p a b : Int) (w : World) : Calls Tryd.prog 36 #[.int .i64 p, .int .i64 a, .int .i64 b] w fun e w' => e = .returned (.bool (decide (a ≤ p ∧ p ≤ b))) ∧ w' = w := by
  go_enter Tryd.func36, Tryd.ntmps36
  go_wp2
  all_goals go_ret
  all_goals exact ⟨ret_bool (by rw [Bool.eq_iff_iff]; simp <;> omega), rfl⟩
/-- told apart. -/
theorem between_yes (p a b : Int) (h1 : a ≤ p) (h2 : p ≤ b) (w : World) : Calls Tryd.prog 36 #[.int .i64 p, .int .i64 a, .int .i64 b] w fun e w' => e = .returned (.bool true) ∧ w = w' :=
  (between_any p a b w).mono fun e w' ⟨h, k⟩ => ⟨by rw [h]; exact ret_bool (by simp; omega), k.symm⟩
theorem between_no (p a b : Int) (h : ¬ (a ≤ p ∧ p ≤ b)) (w : World) : Calls Tryd.prog 36 #[.int .i64 p, .int .i64 a, .int .i64 b] w fun e w' => e = .returned (.bool false) ∧ w = w' :=
  (between_any p a b w).mono fun e w' ⟨h', k⟩ => ⟨by rw [h']; exact ret_bool (by simpa using h), k.symm⟩

theorem inP_append (p : Int) (a b : List (Int × Int)) : inP p (a ++ b) = (inP p a || inP p b) := by simp [inP]
theorem inP_every (p a : Int) (n : Nat) : inP p (psEvery a n) = true ↔ a ≤ p ∧ p < a + 2 * (n : Int) ∧ (p - a) % 2 = 0 := by
  simp only [inP, psEvery, List.any_eq_true, List.mem_map, List.mem_range, Bool.and_eq_true, decide_eq_true_eq]
  constructor
  · rintro ⟨x, ⟨i, hi, rfl⟩, h1, h2⟩
    simp only at h1 h2
    omega
  · rintro ⟨h1, h2, h3⟩
    exact ⟨_, ⟨((p - a) / 2).toNat, by omega, rfl⟩, by simp only; omega, by simp only; omega⟩

set_option maxHeartbeats 4000000 in
set_option maxRecDepth 100000 in
theorem inR_any (p : Int) (w : World) : Calls Tryd.prog 20 #[.string ⟨#[97, 110, 121]⟩, .int .i64 p] w fun e w' => e = .returned (.bool (inP p ps_any)) ∧ w = w' := by
  have HB := hide (between_any p)
  have HP := hide (isPointR_any p)
  go_enter Tryd.func20, Tryd.ntmps20
  go_wp2_with (first | (go_at_call 36; refine (HB.out _ _ _).mono ?_; rintro e w' ⟨rfl, hw⟩; have hw2 := hw.symm; clear hw; subst hw2) | (go_at_call 11; refine (HP.out _).mono ?_; rintro e w' ⟨rfl, hw⟩; have hw2 := hw.symm; clear hw; subst hw2))
  all_goals go_ret
  all_goals exact ⟨ret_bool (by rw [Bool.eq_iff_iff]; simp [inP, ps_any]), rfl⟩

set_option maxHeartbeats 4000000 in
set_option maxRecDepth 100000 in
theorem inR_ascii (p : Int) (w : World) : Calls Tryd.prog 20 #[.string ⟨#[97, 115, 99, 105, 105]⟩, .int .i64 p] w fun e w' => e = .returned (.bool (inP p ps_ascii)) ∧ w = w' := by
  have HB := hide (between_any p)
  go_enter Tryd.func20, Tryd.ntmps20
  go_wp2_with (first | (go_at_call 36; refine (HB.out _ _ _).mono ?_; rintro e w' ⟨rfl, hw⟩; have hw2 := hw.symm; clear hw; subst hw2))
  all_goals go_ret
  all_goals exact ⟨ret_bool (by rw [Bool.eq_iff_iff]; simp [inP, ps_ascii] <;> omega), rfl⟩

set_option maxHeartbeats 4000000 in
set_option maxRecDepth 100000 in
theorem inR_cntrl (p : Int) (w : World) : Calls Tryd.prog 20 #[.string ⟨#[99, 110, 116, 114, 108]⟩, .int .i64 p] w fun e w' => e = .returned (.bool (inP p ps_cntrl)) ∧ w = w' := by
  have HB := hide (between_any p)
  go_enter Tryd.func20, Tryd.ntmps20
  go_wp2_with (first | (go_at_call 36; refine (HB.out _ _ _).mono ?_; rintro e w' ⟨rfl, hw⟩; have hw2 := hw.symm; clear hw; subst hw2))
  all_goals go_ret
  all_goals exact ⟨ret_bool (by rw [Bool.eq_iff_iff]; simp [inP, ps_cntrl] <;> omega), rfl⟩

set_option maxHeartbeats 4000000 in
set_option maxRecDepth 100000 in
theorem inR_digit (p : Int) (w : World) : Calls Tryd.prog 20 #[.string ⟨#[100, 105, 103, 105, 116]⟩, .int .i64 p] w fun e w' => e = .returned (.bool (inP p ps_digit)) ∧ w = w' := by
  have HB := hide (between_any p)
  go_enter Tryd.func20, Tryd.ntmps20
  go_wp2_with (first | (go_at_call 36; refine (HB.out _ _ _).mono ?_; rintro e w' ⟨rfl, hw⟩; have hw2 := hw.symm; clear hw; subst hw2))
  all_goals go_ret
  all_goals exact ⟨ret_bool (by rw [Bool.eq_iff_iff]; simp [inP, ps_digit, psDigit] <;> omega), rfl⟩

set_option maxHeartbeats 4000000 in
set_option maxRecDepth 100000 in
theorem inR_xdigit (p : Int) (w : World) : Calls Tryd.prog 20 #[.string ⟨#[120, 100, 105, 103, 105, 116]⟩, .int .i64 p] w fun e w' => e = .returned (.bool (inP p ps_xdigit)) ∧ w = w' := by
  have HB := hide (between_any p)
  go_enter Tryd.func20, Tryd.ntmps20
  go_wp2_with (first | (go_at_call 36; refine (HB.out _ _ _).mono ?_; rintro e w' ⟨rfl, hw⟩; have hw2 := hw.symm; clear hw; subst hw2))
  all_goals go_ret
  all_goals exact ⟨ret_bool (by rw [Bool.eq_iff_iff]; simp [inP, ps_xdigit] <;> omega), rfl⟩

set_option maxHeartbeats 4000000 in
set_option maxRecDepth 100000 in
theorem inR_blank (p : Int) (w : World) : Calls Tryd.prog 20 #[.string ⟨#[98, 108, 97, 110, 107]⟩, .int .i64 p] w fun e w' => e = .returned (.bool (inP p ps_blank)) ∧ w = w' := by
  have HB := hide (between_any p)
  go_enter Tryd.func20, Tryd.ntmps20
  go_wp2_with (first | (go_at_call 36; refine (HB.out _ _ _).mono ?_; rintro e w' ⟨rfl, hw⟩; have hw2 := hw.symm; clear hw; subst hw2))
  all_goals go_ret
  all_goals exact ⟨ret_bool (by rw [Bool.eq_iff_iff]; simp [inP, ps_blank] <;> omega), rfl⟩

set_option maxHeartbeats 4000000 in
set_option maxRecDepth 100000 in
theorem inR_space (p : Int) (w : World) : Calls Tryd.prog 20 #[.string ⟨#[115, 112, 97, 99, 101]⟩, .int .i64 p] w fun e w' => e = .returned (.bool (inP p ps_space)) ∧ w = w' := by
  have HB := hide (between_any p)
  go_enter Tryd.func20, Tryd.ntmps20
  go_wp2_with (first | (go_at_call 36; refine (HB.out _ _ _).mono ?_; rintro e w' ⟨rfl, hw⟩; have hw2 := hw.symm; clear hw; subst hw2))
  all_goals go_ret
  all_goals exact ⟨ret_bool (by rw [Bool.eq_iff_iff]; simp [inP, ps_space] <;> omega), rfl⟩

set_option maxHeartbeats 4000000 in
set_option maxRecDepth 100000 in
theorem inR_punct (p : Int) (w : World) : Calls Tryd.prog 20 #[.string ⟨#[112, 117, 110, 99, 116]⟩, .int .i64 p] w fun e w' => e = .returned (.bool (inP p ps_punct)) ∧ w = w' := by
  have HB := hide (between_any p)
  go_enter Tryd.func20, Tryd.ntmps20
  go_wp2_with (first | (go_at_call 36; refine (HB.out _ _ _).mono ?_; rintro e w' ⟨rfl, hw⟩; have hw2 := hw.symm; clear hw; subst hw2))
  all_goals go_ret
  all_goals exact ⟨ret_bool (by rw [Bool.eq_iff_iff]; simp [inP, ps_punct, psPunct, psPunct1, psPunct2] <;> omega), rfl⟩

set_option maxHeartbeats 4000000 in
set_option maxRecDepth 100000 in
theorem inR_alpha (p : Int) (w : World) : Calls Tryd.prog 20 #[.string ⟨#[97, 108, 112, 104, 97]⟩, .int .i64 p] w fun e w' => e = .returned (.bool (inP p ps_alpha)) ∧ w = w' := by
  have HB := hide (between_any p)
  go_enter Tryd.func20, Tryd.ntmps20
  go_wp2_with (first | (go_at_call 36; refine (HB.out _ _ _).mono ?_; rintro e w' ⟨rfl, hw⟩; have hw2 := hw.symm; clear hw; subst hw2))
  all_goals go_ret
  all_goals exact ⟨ret_bool (by rw [Bool.eq_iff_iff]; simp [inP, ps_alpha, psAlpha, psAlpha1, psAlpha2] <;> omega), rfl⟩

set_option maxHeartbeats 4000000 in
set_option maxRecDepth 100000 in
theorem inR_upper (p : Int) (w : World) : Calls Tryd.prog 20 #[.string ⟨#[117, 112, 112, 101, 114]⟩, .int .i64 p] w fun e w' => e = .returned (.bool (inP p ps_upper)) ∧ w = w' := by
  have HB := hide (between_any p)
  go_enter Tryd.func20, Tryd.ntmps20
  go_wp2_with (first | (go_at_call 36; refine (HB.out _ _ _).mono ?_; rintro e w' ⟨rfl, hw⟩; have hw2 := hw.symm; clear hw; subst hw2))
  all_goals go_ret
  all_goals exact ⟨ret_bool (by rw [Bool.eq_iff_iff]; simp only [ps_upper, inP_append, Bool.or_eq_true, inP_every]; simp [inP] <;> omega), rfl⟩

set_option maxHeartbeats 4000000 in
set_option maxRecDepth 100000 in
theorem inR_lower (p : Int) (w : World) : Calls Tryd.prog 20 #[.string ⟨#[108, 111, 119, 101, 114]⟩, .int .i64 p] w fun e w' => e = .returned (.bool (inP p ps_lower)) ∧ w = w' := by
  have HB := hide (between_any p)
  go_enter Tryd.func20, Tryd.ntmps20
  go_wp2_with (first | (go_at_call 36; refine (HB.out _ _ _).mono ?_; rintro e w' ⟨rfl, hw⟩; have hw2 := hw.symm; clear hw; subst hw2))
  all_goals go_ret
  all_goals exact ⟨ret_bool (by rw [Bool.eq_iff_iff]; simp only [ps_lower, inP_append, Bool.or_eq_true, inP_every]; simp [inP] <;> omega), rfl⟩

end Go.Proofs.YtjhombfcbfhinaaDoor
