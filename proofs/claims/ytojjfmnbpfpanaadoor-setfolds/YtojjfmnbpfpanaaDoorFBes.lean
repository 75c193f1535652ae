/- What the reference's beside answers. -/
import Derived.Test.YtojjfmnbpfpanaaDoorFOpure
namespace Go.Proofs.YtojjfmnbpfpanaaDoor.Fo
open Go.RowKit
set_option linter.unusedVariables false

theorem betw (p a b : Int) (w : World) : Calls Tryd.prog 41 #[.int .i64 p, .int .i64 a, .int .i64 b] w fun e w' => e = .returned (.bool (decide (a ≤ p ∧ p ≤ b))) ∧ w = w' := by
  go_enter Tryd.func41, Tryd.ntmps41
  go_wp2
  all_goals go_ret
  all_goals exact ⟨ret_bool (by rw [Bool.eq_iff_iff]; simp <;> omega), rfl⟩
set_option maxRecDepth 100000 in
theorem betw_yes (p a b : Int) (w : World) (h : a ≤ p ∧ p ≤ b) : Calls Tryd.prog 41 #[.int .i64 p, .int .i64 a, .int .i64 b] w fun e w' => e = .returned (.bool true) ∧ w = w' :=
  (betw p a b w).mono fun e w' ⟨h1, h2⟩ => ⟨by rw [h1]; simp [h], h2⟩
set_option maxRecDepth 100000 in
theorem betw_no (p a b : Int) (w : World) (h : ¬ (a ≤ p ∧ p ≤ b)) : Calls Tryd.prog 41 #[.int .i64 p, .int .i64 a, .int .i64 b] w fun e w' => e = .returned (.bool false) ∧ w = w' :=
  (betw p a b w).mono fun e w' ⟨h1, h2⟩ => ⟨by rw [h1]; rw [show decide (a ≤ p ∧ p ≤ b) = false from by simpa using h], h2⟩


set_option maxRecDepth 100000 in
set_option maxHeartbeats 2000000 in
theorem bes_r1 (p : Int) (w : World) (h0 : 65 ≤ p) (h1 : p ≤ 90) : Calls Tryd.prog 20 #[.int .i64 p] w fun e w' => ∃ v, e = .returned v ∧ w'.ownsRow w.heap.size 3 1 v 1 (i64s [p + 32]) ∧ Below w.heap.size w w' := by
  obtain ⟨i0, hi, hz0, hz1, hz2⟩ := info_parts Tryd.info3
  go_enter Tryd.func20, Tryd.ntmps20
  go_wp2_with (first | (go_at_call 41; first | (refine (betw_yes _ _ _ _ (by omega)).mono ?_; rintro e w' ⟨rfl, rfl⟩) | (refine (betw_no _ _ _ _ (by omega)).mono ?_; rintro e w' ⟨rfl, rfl⟩)) | (at_builtin; refine wpList_append_own _ rfl _ _ 37 rfl w.heap.size 3 i0 (.int .i64 0) 1 8 Tryd.underlying37 hi hz0 hz1 hz2 rfl (by decide) _ 0 [] rfl (World.ownsRow_nil _ _ _ _) ⟨w.heap.size, 0, none⟩ 1 1 [.int .i64 (p + 32)] rfl rfl (cells_one3 _ _ rfl (p + 32)) (one3 (p + 32)) (by decide) (by decide) (by simp) ?_; intro v' w3 hown' hgrow _))
  have HO3 := hide hown'
  have hb3 := hide (below_app3 (World.ownsRow_nil w w.heap.size 3 1) (Nat.le_refl _) hgrow)
  clear hown' hgrow
  go_wp2_with (first | (go_at_call 41; first | (refine (betw_yes _ _ _ _ (by omega)).mono ?_; rintro e w' ⟨rfl, rfl⟩) | (refine (betw_no _ _ _ _ (by omega)).mono ?_; rintro e w' ⟨rfl, rfl⟩)))
  go_ret
  exact ⟨_, rfl, HO3.out, hb3.out⟩

set_option maxRecDepth 100000 in
set_option maxHeartbeats 2000000 in
theorem bes_r2 (p : Int) (w : World) (h0 : 192 ≤ p) (h1 : p ≤ 214) : Calls Tryd.prog 20 #[.int .i64 p] w fun e w' => ∃ v, e = .returned v ∧ w'.ownsRow w.heap.size 3 1 v 1 (i64s [p + 32]) ∧ Below w.heap.size w w' := by
  obtain ⟨i0, hi, hz0, hz1, hz2⟩ := info_parts Tryd.info3
  go_enter Tryd.func20, Tryd.ntmps20
  go_wp2_with (first | (go_at_call 41; first | (refine (betw_yes _ _ _ _ (by omega)).mono ?_; rintro e w' ⟨rfl, rfl⟩) | (refine (betw_no _ _ _ _ (by omega)).mono ?_; rintro e w' ⟨rfl, rfl⟩)) | (at_builtin; refine wpList_append_own _ rfl _ _ 37 rfl w.heap.size 3 i0 (.int .i64 0) 1 8 Tryd.underlying37 hi hz0 hz1 hz2 rfl (by decide) _ 0 [] rfl (World.ownsRow_nil _ _ _ _) ⟨w.heap.size, 0, none⟩ 1 1 [.int .i64 (p + 32)] rfl rfl (cells_one3 _ _ rfl (p + 32)) (one3 (p + 32)) (by decide) (by decide) (by simp) ?_; intro v' w3 hown' hgrow _))
  have HO3 := hide hown'
  have hb3 := hide (below_app3 (World.ownsRow_nil w w.heap.size 3 1) (Nat.le_refl _) hgrow)
  clear hown' hgrow
  go_wp2_with (first | (go_at_call 41; first | (refine (betw_yes _ _ _ _ (by omega)).mono ?_; rintro e w' ⟨rfl, rfl⟩) | (refine (betw_no _ _ _ _ (by omega)).mono ?_; rintro e w' ⟨rfl, rfl⟩)))
  go_ret
  exact ⟨_, rfl, HO3.out, hb3.out⟩

set_option maxRecDepth 100000 in
set_option maxHeartbeats 2000000 in
theorem bes_r3 (p : Int) (w : World) (h0 : 216 ≤ p) (h1 : p ≤ 222) : Calls Tryd.prog 20 #[.int .i64 p] w fun e w' => ∃ v, e = .returned v ∧ w'.ownsRow w.heap.size 3 1 v 1 (i64s [p + 32]) ∧ Below w.heap.size w w' := by
  obtain ⟨i0, hi, hz0, hz1, hz2⟩ := info_parts Tryd.info3
  go_enter Tryd.func20, Tryd.ntmps20
  go_wp2_with (first | (go_at_call 41; first | (refine (betw_yes _ _ _ _ (by omega)).mono ?_; rintro e w' ⟨rfl, rfl⟩) | (refine (betw_no _ _ _ _ (by omega)).mono ?_; rintro e w' ⟨rfl, rfl⟩)) | (at_builtin; refine wpList_append_own _ rfl _ _ 37 rfl w.heap.size 3 i0 (.int .i64 0) 1 8 Tryd.underlying37 hi hz0 hz1 hz2 rfl (by decide) _ 0 [] rfl (World.ownsRow_nil _ _ _ _) ⟨w.heap.size, 0, none⟩ 1 1 [.int .i64 (p + 32)] rfl rfl (cells_one3 _ _ rfl (p + 32)) (one3 (p + 32)) (by decide) (by decide) (by simp) ?_; intro v' w3 hown' hgrow _))
  have HO3 := hide hown'
  have hb3 := hide (below_app3 (World.ownsRow_nil w w.heap.size 3 1) (Nat.le_refl _) hgrow)
  clear hown' hgrow
  go_wp2_with (first | (go_at_call 41; first | (refine (betw_yes _ _ _ _ (by omega)).mono ?_; rintro e w' ⟨rfl, rfl⟩) | (refine (betw_no _ _ _ _ (by omega)).mono ?_; rintro e w' ⟨rfl, rfl⟩)))
  go_ret
  exact ⟨_, rfl, HO3.out, hb3.out⟩

set_option maxRecDepth 100000 in
set_option maxHeartbeats 2000000 in
theorem bes_r4 (p : Int) (w : World) (h0 : 913 ≤ p) (h1 : p ≤ 929) : Calls Tryd.prog 20 #[.int .i64 p] w fun e w' => ∃ v, e = .returned v ∧ w'.ownsRow w.heap.size 3 1 v 1 (i64s [p + 32]) ∧ Below w.heap.size w w' := by
  obtain ⟨i0, hi, hz0, hz1, hz2⟩ := info_parts Tryd.info3
  go_enter Tryd.func20, Tryd.ntmps20
  go_wp2_with (first | (go_at_call 41; first | (refine (betw_yes _ _ _ _ (by omega)).mono ?_; rintro e w' ⟨rfl, rfl⟩) | (refine (betw_no _ _ _ _ (by omega)).mono ?_; rintro e w' ⟨rfl, rfl⟩)) | (at_builtin; refine wpList_append_own _ rfl _ _ 37 rfl w.heap.size 3 i0 (.int .i64 0) 1 8 Tryd.underlying37 hi hz0 hz1 hz2 rfl (by decide) _ 0 [] rfl (World.ownsRow_nil _ _ _ _) ⟨w.heap.size, 0, none⟩ 1 1 [.int .i64 (p + 32)] rfl rfl (cells_one3 _ _ rfl (p + 32)) (one3 (p + 32)) (by decide) (by decide) (by simp) ?_; intro v' w3 hown' hgrow _))
  have HO3 := hide hown'
  have hb3 := hide (below_app3 (World.ownsRow_nil w w.heap.size 3 1) (Nat.le_refl _) hgrow)
  clear hown' hgrow
  go_wp2_with (first | (go_at_call 41; first | (refine (betw_yes _ _ _ _ (by omega)).mono ?_; rintro e w' ⟨rfl, rfl⟩) | (refine (betw_no _ _ _ _ (by omega)).mono ?_; rintro e w' ⟨rfl, rfl⟩)))
  go_ret
  exact ⟨_, rfl, HO3.out, hb3.out⟩

set_option maxRecDepth 100000 in
set_option maxHeartbeats 2000000 in
theorem bes_r5 (p : Int) (w : World) (h0 : 931 ≤ p) (h1 : p ≤ 939) : Calls Tryd.prog 20 #[.int .i64 p] w fun e w' => ∃ v, e = .returned v ∧ w'.ownsRow w.heap.size 3 1 v 1 (i64s [p + 32]) ∧ Below w.heap.size w w' := by
  obtain ⟨i0, hi, hz0, hz1, hz2⟩ := info_parts Tryd.info3
  go_enter Tryd.func20, Tryd.ntmps20
  go_wp2_with (first | (go_at_call 41; first | (refine (betw_yes _ _ _ _ (by omega)).mono ?_; rintro e w' ⟨rfl, rfl⟩) | (refine (betw_no _ _ _ _ (by omega)).mono ?_; rintro e w' ⟨rfl, rfl⟩)) | (at_builtin; refine wpList_append_own _ rfl _ _ 37 rfl w.heap.size 3 i0 (.int .i64 0) 1 8 Tryd.underlying37 hi hz0 hz1 hz2 rfl (by decide) _ 0 [] rfl (World.ownsRow_nil _ _ _ _) ⟨w.heap.size, 0, none⟩ 1 1 [.int .i64 (p + 32)] rfl rfl (cells_one3 _ _ rfl (p + 32)) (one3 (p + 32)) (by decide) (by decide) (by simp) ?_; intro v' w3 hown' hgrow _))
  have HO3 := hide hown'
  have hb3 := hide (below_app3 (World.ownsRow_nil w w.heap.size 3 1) (Nat.le_refl _) hgrow)
  clear hown' hgrow
  go_wp2_with (first | (go_at_call 41; first | (refine (betw_yes _ _ _ _ (by omega)).mono ?_; rintro e w' ⟨rfl, rfl⟩) | (refine (betw_no _ _ _ _ (by omega)).mono ?_; rintro e w' ⟨rfl, rfl⟩)))
  go_ret
  exact ⟨_, rfl, HO3.out, hb3.out⟩

set_option maxRecDepth 100000 in
set_option maxHeartbeats 2000000 in
theorem bes_r6 (p : Int) (w : World) (h0 : 1040 ≤ p) (h1 : p ≤ 1071) : Calls Tryd.prog 20 #[.int .i64 p] w fun e w' => ∃ v, e = .returned v ∧ w'.ownsRow w.heap.size 3 1 v 1 (i64s [p + 32]) ∧ Below w.heap.size w w' := by
  obtain ⟨i0, hi, hz0, hz1, hz2⟩ := info_parts Tryd.info3
  go_enter Tryd.func20, Tryd.ntmps20
  go_wp2_with (first | (go_at_call 41; first | (refine (betw_yes _ _ _ _ (by omega)).mono ?_; rintro e w' ⟨rfl, rfl⟩) | (refine (betw_no _ _ _ _ (by omega)).mono ?_; rintro e w' ⟨rfl, rfl⟩)) | (at_builtin; refine wpList_append_own _ rfl _ _ 37 rfl w.heap.size 3 i0 (.int .i64 0) 1 8 Tryd.underlying37 hi hz0 hz1 hz2 rfl (by decide) _ 0 [] rfl (World.ownsRow_nil _ _ _ _) ⟨w.heap.size, 0, none⟩ 1 1 [.int .i64 (p + 32)] rfl rfl (cells_one3 _ _ rfl (p + 32)) (one3 (p + 32)) (by decide) (by decide) (by simp) ?_; intro v' w3 hown' hgrow _))
  have HO3 := hide hown'
  have hb3 := hide (below_app3 (World.ownsRow_nil w w.heap.size 3 1) (Nat.le_refl _) hgrow)
  clear hown' hgrow
  go_wp2_with (first | (go_at_call 41; first | (refine (betw_yes _ _ _ _ (by omega)).mono ?_; rintro e w' ⟨rfl, rfl⟩) | (refine (betw_no _ _ _ _ (by omega)).mono ?_; rintro e w' ⟨rfl, rfl⟩)))
  go_ret
  exact ⟨_, rfl, HO3.out, hb3.out⟩

set_option maxRecDepth 100000 in
set_option maxHeartbeats 2000000 in
theorem bes_ev (p : Int) (w : World) (h0 : 256 ≤ p) (h1 : p ≤ 302) (h2 : p % 2 = 0) : Calls Tryd.prog 20 #[.int .i64 p] w fun e w' => ∃ v, e = .returned v ∧ w'.ownsRow w.heap.size 3 1 v 1 (i64s [p + 1]) ∧ Below w.heap.size w w' := by
  obtain ⟨i0, hi, hz0, hz1, hz2⟩ := info_parts Tryd.info3
  have ht : Int.tmod p 2 = 0 := by rw [Int.tmod_eq_emod_of_nonneg (by omega)]; exact h2
  go_enter Tryd.func20, Tryd.ntmps20
  go_wp2_with (first | (go_at_call 41; first | (refine (betw_yes _ _ _ _ (by omega)).mono ?_; rintro e w' ⟨rfl, rfl⟩) | (refine (betw_no _ _ _ _ (by omega)).mono ?_; rintro e w' ⟨rfl, rfl⟩)) | (at_builtin; refine wpList_append_own _ rfl _ _ 37 rfl w.heap.size 3 i0 (.int .i64 0) 1 8 Tryd.underlying37 hi hz0 hz1 hz2 rfl (by decide) _ 0 [] rfl (World.ownsRow_nil _ _ _ _) ⟨w.heap.size, 0, none⟩ 1 1 [.int .i64 (p + 1)] rfl rfl (cells_one3 _ _ rfl (p + 1)) (one3 (p + 1)) (by decide) (by decide) (by simp) ?_; intro v' w3 hown' hgrow _))
  have HO3 := hide hown'
  have hb3 := hide (below_app3 (World.ownsRow_nil w w.heap.size 3 1) (Nat.le_refl _) hgrow)
  clear hown' hgrow
  go_wp2_with (first | (go_at_call 41; first | (refine (betw_yes _ _ _ _ (by omega)).mono ?_; rintro e w' ⟨rfl, rfl⟩) | (refine (betw_no _ _ _ _ (by omega)).mono ?_; rintro e w' ⟨rfl, rfl⟩)))
  go_ret
  exact ⟨_, rfl, HO3.out, hb3.out⟩

set_option maxRecDepth 100000 in
set_option maxHeartbeats 2000000 in
theorem bes_p80 (p : Int) (w : World) (h0 : 1024 ≤ p) (h1 : p ≤ 1039) : Calls Tryd.prog 20 #[.int .i64 p] w fun e w' => ∃ v, e = .returned v ∧ w'.ownsRow w.heap.size 3 1 v 1 (i64s [p + 80]) ∧ Below w.heap.size w w' := by
  obtain ⟨i0, hi, hz0, hz1, hz2⟩ := info_parts Tryd.info3
  go_enter Tryd.func20, Tryd.ntmps20
  go_wp2_with (first | (go_at_call 41; first | (refine (betw_yes _ _ _ _ (by omega)).mono ?_; rintro e w' ⟨rfl, rfl⟩) | (refine (betw_no _ _ _ _ (by omega)).mono ?_; rintro e w' ⟨rfl, rfl⟩)) | (at_builtin; refine wpList_append_own _ rfl _ _ 37 rfl w.heap.size 3 i0 (.int .i64 0) 1 8 Tryd.underlying37 hi hz0 hz1 hz2 rfl (by decide) _ 0 [] rfl (World.ownsRow_nil _ _ _ _) ⟨w.heap.size, 0, none⟩ 1 1 [.int .i64 (p + 80)] rfl rfl (cells_one3 _ _ rfl (p + 80)) (one3 (p + 80)) (by decide) (by decide) (by simp) ?_; intro v' w3 hown' hgrow _))
  have HO3 := hide hown'
  have hb3 := hide (below_app3 (World.ownsRow_nil w w.heap.size 3 1) (Nat.le_refl _) hgrow)
  clear hown' hgrow
  go_wp2_with (first | (go_at_call 41; first | (refine (betw_yes _ _ _ _ (by omega)).mono ?_; rintro e w' ⟨rfl, rfl⟩) | (refine (betw_no _ _ _ _ (by omega)).mono ?_; rintro e w' ⟨rfl, rfl⟩)))
  go_ret
  exact ⟨_, rfl, HO3.out, hb3.out⟩

set_option maxRecDepth 100000 in
set_option maxHeartbeats 2000000 in
theorem bes_p962 (p : Int) (w : World) (h0 : p = 962) : Calls Tryd.prog 20 #[.int .i64 p] w fun e w' => ∃ v, e = .returned v ∧ w'.ownsRow w.heap.size 3 1 v 1 (i64s [963]) ∧ Below w.heap.size w w' := by
  obtain ⟨i0, hi, hz0, hz1, hz2⟩ := info_parts Tryd.info3
  subst h0
  go_enter Tryd.func20, Tryd.ntmps20
  go_wp2_with (first | (go_at_call 41; first | (refine (betw_yes _ _ _ _ (by omega)).mono ?_; rintro e w' ⟨rfl, rfl⟩) | (refine (betw_no _ _ _ _ (by omega)).mono ?_; rintro e w' ⟨rfl, rfl⟩)) | (at_builtin; refine wpList_append_own _ rfl _ _ 37 rfl w.heap.size 3 i0 (.int .i64 0) 1 8 Tryd.underlying37 hi hz0 hz1 hz2 rfl (by decide) _ 0 [] rfl (World.ownsRow_nil _ _ _ _) ⟨w.heap.size, 0, none⟩ 1 1 [.int .i64 (963)] rfl rfl (cells_one3 _ _ rfl (963)) (one3 (963)) (by decide) (by decide) (by simp) ?_; intro v' w3 hown' hgrow _))
  have HO3 := hide hown'
  have hb3 := hide (below_app3 (World.ownsRow_nil w w.heap.size 3 1) (Nat.le_refl _) hgrow)
  clear hown' hgrow
  go_wp2_with (first | (go_at_call 41; first | (refine (betw_yes _ _ _ _ (by omega)).mono ?_; rintro e w' ⟨rfl, rfl⟩) | (refine (betw_no _ _ _ _ (by omega)).mono ?_; rintro e w' ⟨rfl, rfl⟩)))
  go_ret
  exact ⟨_, rfl, HO3.out, hb3.out⟩

set_option maxRecDepth 100000 in
set_option maxHeartbeats 2000000 in
theorem bes_p181 (p : Int) (w : World) (h0 : p = 181) : Calls Tryd.prog 20 #[.int .i64 p] w fun e w' => ∃ v, e = .returned v ∧ w'.ownsRow w.heap.size 3 1 v 1 (i64s [956]) ∧ Below w.heap.size w w' := by
  obtain ⟨i0, hi, hz0, hz1, hz2⟩ := info_parts Tryd.info3
  subst h0
  go_enter Tryd.func20, Tryd.ntmps20
  go_wp2_with (first | (go_at_call 41; first | (refine (betw_yes _ _ _ _ (by omega)).mono ?_; rintro e w' ⟨rfl, rfl⟩) | (refine (betw_no _ _ _ _ (by omega)).mono ?_; rintro e w' ⟨rfl, rfl⟩)) | (at_builtin; refine wpList_append_own _ rfl _ _ 37 rfl w.heap.size 3 i0 (.int .i64 0) 1 8 Tryd.underlying37 hi hz0 hz1 hz2 rfl (by decide) _ 0 [] rfl (World.ownsRow_nil _ _ _ _) ⟨w.heap.size, 0, none⟩ 1 1 [.int .i64 (956)] rfl rfl (cells_one3 _ _ rfl (956)) (one3 (956)) (by decide) (by decide) (by simp) ?_; intro v' w3 hown' hgrow _))
  have HO3 := hide hown'
  have hb3 := hide (below_app3 (World.ownsRow_nil w w.heap.size 3 1) (Nat.le_refl _) hgrow)
  clear hown' hgrow
  go_wp2_with (first | (go_at_call 41; first | (refine (betw_yes _ _ _ _ (by omega)).mono ?_; rintro e w' ⟨rfl, rfl⟩) | (refine (betw_no _ _ _ _ (by omega)).mono ?_; rintro e w' ⟨rfl, rfl⟩)))
  go_ret
  exact ⟨_, rfl, HO3.out, hb3.out⟩

set_option maxRecDepth 100000 in
set_option maxHeartbeats 2000000 in
theorem bes_p8490 (p : Int) (w : World) (h0 : p = 8490) : Calls Tryd.prog 20 #[.int .i64 p] w fun e w' => ∃ v, e = .returned v ∧ w'.ownsRow w.heap.size 3 1 v 1 (i64s [107]) ∧ Below w.heap.size w w' := by
  obtain ⟨i0, hi, hz0, hz1, hz2⟩ := info_parts Tryd.info3
  subst h0
  go_enter Tryd.func20, Tryd.ntmps20
  go_wp2_with (first | (go_at_call 41; first | (refine (betw_yes _ _ _ _ (by omega)).mono ?_; rintro e w' ⟨rfl, rfl⟩) | (refine (betw_no _ _ _ _ (by omega)).mono ?_; rintro e w' ⟨rfl, rfl⟩)) | (at_builtin; refine wpList_append_own _ rfl _ _ 37 rfl w.heap.size 3 i0 (.int .i64 0) 1 8 Tryd.underlying37 hi hz0 hz1 hz2 rfl (by decide) _ 0 [] rfl (World.ownsRow_nil _ _ _ _) ⟨w.heap.size, 0, none⟩ 1 1 [.int .i64 (107)] rfl rfl (cells_one3 _ _ rfl (107)) (one3 (107)) (by decide) (by decide) (by simp) ?_; intro v' w3 hown' hgrow _))
  have HO3 := hide hown'
  have hb3 := hide (below_app3 (World.ownsRow_nil w w.heap.size 3 1) (Nat.le_refl _) hgrow)
  clear hown' hgrow
  go_wp2_with (first | (go_at_call 41; first | (refine (betw_yes _ _ _ _ (by omega)).mono ?_; rintro e w' ⟨rfl, rfl⟩) | (refine (betw_no _ _ _ _ (by omega)).mono ?_; rintro e w' ⟨rfl, rfl⟩)))
  go_ret
  exact ⟨_, rfl, HO3.out, hb3.out⟩

set_option maxRecDepth 100000 in
set_option maxHeartbeats 2000000 in
theorem bes_p8491 (p : Int) (w : World) (h0 : p = 8491) : Calls Tryd.prog 20 #[.int .i64 p] w fun e w' => ∃ v, e = .returned v ∧ w'.ownsRow w.heap.size 3 1 v 1 (i64s [229]) ∧ Below w.heap.size w w' := by
  obtain ⟨i0, hi, hz0, hz1, hz2⟩ := info_parts Tryd.info3
  subst h0
  go_enter Tryd.func20, Tryd.ntmps20
  go_wp2_with (first | (go_at_call 41; first | (refine (betw_yes _ _ _ _ (by omega)).mono ?_; rintro e w' ⟨rfl, rfl⟩) | (refine (betw_no _ _ _ _ (by omega)).mono ?_; rintro e w' ⟨rfl, rfl⟩)) | (at_builtin; refine wpList_append_own _ rfl _ _ 37 rfl w.heap.size 3 i0 (.int .i64 0) 1 8 Tryd.underlying37 hi hz0 hz1 hz2 rfl (by decide) _ 0 [] rfl (World.ownsRow_nil _ _ _ _) ⟨w.heap.size, 0, none⟩ 1 1 [.int .i64 (229)] rfl rfl (cells_one3 _ _ rfl (229)) (one3 (229)) (by decide) (by decide) (by simp) ?_; intro v' w3 hown' hgrow _))
  have HO3 := hide hown'
  have hb3 := hide (below_app3 (World.ownsRow_nil w w.heap.size 3 1) (Nat.le_refl _) hgrow)
  clear hown' hgrow
  go_wp2_with (first | (go_at_call 41; first | (refine (betw_yes _ _ _ _ (by omega)).mono ?_; rintro e w' ⟨rfl, rfl⟩) | (refine (betw_no _ _ _ _ (by omega)).mono ?_; rintro e w' ⟨rfl, rfl⟩)))
  go_ret
  exact ⟨_, rfl, HO3.out, hb3.out⟩

set_option maxRecDepth 100000 in
set_option maxHeartbeats 2000000 in
theorem bes_p7838 (p : Int) (w : World) (h0 : p = 7838) : Calls Tryd.prog 20 #[.int .i64 p] w fun e w' => ∃ v, e = .returned v ∧ w'.ownsRow w.heap.size 3 1 v 1 (i64s [223]) ∧ Below w.heap.size w w' := by
  obtain ⟨i0, hi, hz0, hz1, hz2⟩ := info_parts Tryd.info3
  subst h0
  go_enter Tryd.func20, Tryd.ntmps20
  go_wp2_with (first | (go_at_call 41; first | (refine (betw_yes _ _ _ _ (by omega)).mono ?_; rintro e w' ⟨rfl, rfl⟩) | (refine (betw_no _ _ _ _ (by omega)).mono ?_; rintro e w' ⟨rfl, rfl⟩)) | (at_builtin; refine wpList_append_own _ rfl _ _ 37 rfl w.heap.size 3 i0 (.int .i64 0) 1 8 Tryd.underlying37 hi hz0 hz1 hz2 rfl (by decide) _ 0 [] rfl (World.ownsRow_nil _ _ _ _) ⟨w.heap.size, 0, none⟩ 1 1 [.int .i64 (223)] rfl rfl (cells_one3 _ _ rfl (223)) (one3 (223)) (by decide) (by decide) (by simp) ?_; intro v' w3 hown' hgrow _))
  have HO3 := hide hown'
  have hb3 := hide (below_app3 (World.ownsRow_nil w w.heap.size 3 1) (Nat.le_refl _) hgrow)
  clear hown' hgrow
  go_wp2_with (first | (go_at_call 41; first | (refine (betw_yes _ _ _ _ (by omega)).mono ?_; rintro e w' ⟨rfl, rfl⟩) | (refine (betw_no _ _ _ _ (by omega)).mono ?_; rintro e w' ⟨rfl, rfl⟩)))
  go_ret
  exact ⟨_, rfl, HO3.out, hb3.out⟩

set_option maxRecDepth 100000 in
set_option maxHeartbeats 2000000 in
theorem bes_odd (p : Int) (w : World) (h0 : 256 ≤ p) (h1 : p ≤ 302) (h2 : ¬ p % 2 = 0) : Calls Tryd.prog 20 #[.int .i64 p] w fun e w' => e = .returned (.slice none 0 0) ∧ w = w' := by
  have ht2 : p % 2 = 1 := by omega
  clear h2
  go_enter Tryd.func20, Tryd.ntmps20
  go_wp2_with (first | (go_at_call 41; first | (refine (betw_yes _ _ _ _ (by omega)).mono ?_; rintro e w' ⟨rfl, rfl⟩) | (refine (betw_no _ _ _ _ (by omega)).mono ?_; rintro e w' ⟨rfl, rfl⟩)))
  go_ret
  exact ⟨rfl, rfl⟩
set_option maxRecDepth 100000 in
set_option maxHeartbeats 2000000 in
theorem bes_none (p : Int) (w : World) (h : besL p = []) (h0 : ¬ (256 ≤ p ∧ p ≤ 302)) : Calls Tryd.prog 20 #[.int .i64 p] w fun e w' => e = .returned (.slice none 0 0) ∧ w = w' := by
  have c1 : b32 p = false := by cases hb : b32 p; rfl; simp [besL, hb] at h
  have c2 : b1 p = false := by cases hb : b1 p; rfl; simp [besL, c1, hb] at h
  have c3 : b80 p = false := by cases hb : b80 p; rfl; simp [besL, c1, c2, hb] at h
  have c4 : (p == 181) = false := by cases hb : p == 181; rfl; simp only [besL, c1, c2, c3, hb] at h; simp at h
  have c5 : (p == 8490) = false := by cases hb : p == 8490; rfl; simp only [besL, c1, c2, c3, c4, hb] at h; simp at h
  have c6 : (p == 8491) = false := by cases hb : p == 8491; rfl; simp only [besL, c1, c2, c3, c4, c5, hb] at h; simp at h
  have c7 : (p == 7838) = false := by cases hb : p == 7838; rfl; simp only [besL, c1, c2, c3, c4, c5, c6, hb] at h; simp at h
  have d1 : ¬ (65 ≤ p ∧ p ≤ 90) := by intro hh; simp [b32] at c1; omega
  have d2 : ¬ (192 ≤ p ∧ p ≤ 214) := by intro hh; simp [b32] at c1; omega
  have d3 : ¬ (216 ≤ p ∧ p ≤ 222) := by intro hh; simp [b32] at c1; omega
  have d4 : ¬ (913 ≤ p ∧ p ≤ 929) := by intro hh; simp [b32] at c1; omega
  have d5 : ¬ (931 ≤ p ∧ p ≤ 939) := by intro hh; simp [b32] at c1; omega
  have d6 : ¬ (1040 ≤ p ∧ p ≤ 1071) := by intro hh; simp [b32] at c1; omega
  have d7 : ¬ (1024 ≤ p ∧ p ≤ 1039) := by intro hh; simp [b80] at c3; omega
  have c8 : (p == 962) = false := by cases hb : p == 962; rfl; simp [b1, hb] at c2
  clear c1 c2 c3 h
  go_enter Tryd.func20, Tryd.ntmps20
  go_wp2_with (first | (go_at_call 41; first | (refine (betw_yes _ _ _ _ (by omega)).mono ?_; rintro e w' ⟨rfl, rfl⟩) | (refine (betw_no _ _ _ _ (by omega)).mono ?_; rintro e w' ⟨rfl, rfl⟩)))
  go_ret
  exact ⟨rfl, rfl⟩

set_option maxRecDepth 100000 in
theorem beside_any (p : Int) (w : World) : Calls Tryd.prog 20 #[.int .i64 p] w fun e w' => ∃ v, e = .returned v ∧ w'.ownsRow w.heap.size 3 1 v (besL p).length (i64s (besL p)) ∧ Below w.heap.size w w' := by
  by_cases r1h : 65 ≤ p ∧ p ≤ 90
  · have e : besL p = [p + 32] := by simp [besL, b32, b1, b80]; omega
    rw [e]
    exact bes_r1 p w r1h.1 r1h.2
  by_cases r2h : 192 ≤ p ∧ p ≤ 214
  · have e : besL p = [p + 32] := by simp [besL, b32, b1, b80]; omega
    rw [e]
    exact bes_r2 p w r2h.1 r2h.2
  by_cases r3h : 216 ≤ p ∧ p ≤ 222
  · have e : besL p = [p + 32] := by simp [besL, b32, b1, b80]; omega
    rw [e]
    exact bes_r3 p w r3h.1 r3h.2
  by_cases r4h : 913 ≤ p ∧ p ≤ 929
  · have e : besL p = [p + 32] := by simp [besL, b32, b1, b80]; omega
    rw [e]
    exact bes_r4 p w r4h.1 r4h.2
  by_cases r5h : 931 ≤ p ∧ p ≤ 939
  · have e : besL p = [p + 32] := by simp [besL, b32, b1, b80]; omega
    rw [e]
    exact bes_r5 p w r5h.1 r5h.2
  by_cases r6h : 1040 ≤ p ∧ p ≤ 1071
  · have e : besL p = [p + 32] := by simp [besL, b32, b1, b80]; omega
    rw [e]
    exact bes_r6 p w r6h.1 r6h.2
  by_cases evh : 256 ≤ p ∧ p ≤ 302
  · by_cases hm : p % 2 = 0
    · have e : besL p = [p + 1] := by
        have q1 : b32 p = false := by simp [b32]; omega
        have q2 : b1 p = true := by simp [b1]; omega
        simp [besL, q1, q2]
      rw [e]
      exact bes_ev p w evh.1 evh.2 hm
    · have e : besL p = [] := by
        have q1 : b32 p = false := by simp [b32]; omega
        have q2 : b1 p = false := by simp [b1]; omega
        have q3 : b80 p = false := by simp [b80]; omega
        have q4 : (p == 181) = false := by simp; omega
        have q5 : (p == 8490) = false := by simp; omega
        have q6 : (p == 8491) = false := by simp; omega
        have q7 : (p == 7838) = false := by simp; omega
        simp only [besL, q1, q2, q3, q4, q5, q6, q7, Bool.false_eq_true, if_false]
      rw [e]
      exact (bes_odd p w evh.1 evh.2 hm).mono fun e w' ⟨h1, h2⟩ => ⟨_, h1, by rw [← h2]; exact World.ownsRow_nil _ _ _ _, by rw [← h2]; exact Below.refl _ _⟩
  by_cases p80h : 1024 ≤ p ∧ p ≤ 1039
  · have e : besL p = [p + 80] := by
      have q1 : b32 p = false := by simp [b32]; omega
      have q2 : b1 p = false := by simp [b1]; omega
      have q3 : b80 p = true := by simp [b80]; omega
      simp [besL, q1, q2, q3]
    rw [e]
    exact bes_p80 p w p80h.1 p80h.2
  by_cases p962h : p = 962
  · have e : besL p = [963] := by subst p962h; decide
    rw [e]
    exact bes_p962 p w p962h
  by_cases p181h : p = 181
  · have e : besL p = [956] := by subst p181h; decide
    rw [e]
    exact bes_p181 p w p181h
  by_cases p8490h : p = 8490
  · have e : besL p = [107] := by subst p8490h; decide
    rw [e]
    exact bes_p8490 p w p8490h
  by_cases p8491h : p = 8491
  · have e : besL p = [229] := by subst p8491h; decide
    rw [e]
    exact bes_p8491 p w p8491h
  by_cases p7838h : p = 7838
  · have e : besL p = [223] := by subst p7838h; decide
    rw [e]
    exact bes_p7838 p w p7838h
  have e : besL p = [] := by
    have q1 : b32 p = false := by simp [b32]; omega
    have q2 : b1 p = false := by simp [b1]; omega
    have q3 : b80 p = false := by simp [b80]; omega
    have q4 : (p == 181) = false := by simp; omega
    have q5 : (p == 8490) = false := by simp; omega
    have q6 : (p == 8491) = false := by simp; omega
    have q7 : (p == 7838) = false := by simp; omega
    simp only [besL, q1, q2, q3, q4, q5, q6, q7, Bool.false_eq_true, if_false]
  have hn := bes_none p w e evh
  rw [e]
  exact hn.mono fun e w' ⟨h1, h2⟩ => ⟨_, h1, by rw [← h2]; exact World.ownsRow_nil _ _ _ _, by rw [← h2]; exact Below.refl _ _⟩

end Go.Proofs.YtojjfmnbpfpanaaDoor.Fo
