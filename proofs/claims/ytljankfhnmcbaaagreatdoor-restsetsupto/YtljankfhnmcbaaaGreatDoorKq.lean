/- What the reference's beside answers. -/
import Derived.Test.YtljankfhnmcbaaaGreatDoorFOpure
import Derived.Deep.RegionLaw
import Derived.Deep.AppendLies
namespace Go.Proofs.YtljankfhnmcbaaaGreatDoor.Fo
open Go.RowKit
set_option linter.unusedVariables false

theorem betw (p a b : Int) (w : World) : Calls Tryz.prog 68 #[.int .i64 p, .int .i64 a, .int .i64 b] w fun e w' => e = .returned (.bool (decide (a ≤ p ∧ p ≤ b))) ∧ w = w' := by
  go_enter Tryz.func68, Tryz.ntmps68
  go_wp2
  all_goals go_ret
  all_goals exact ⟨ret_bool (by rw [Bool.eq_iff_iff]; simp <;> omega), rfl⟩
set_option maxRecDepth 100000 in
theorem betw_yes (p a b : Int) (w : World) (h : a ≤ p ∧ p ≤ b) : Calls Tryz.prog 68 #[.int .i64 p, .int .i64 a, .int .i64 b] w fun e w' => e = .returned (.bool true) ∧ w = w' :=
  (betw p a b w).mono fun e w' ⟨h1, h2⟩ => ⟨by rw [h1]; simp [h], h2⟩
set_option maxRecDepth 100000 in
theorem betw_no (p a b : Int) (w : World) (h : ¬ (a ≤ p ∧ p ≤ b)) : Calls Tryz.prog 68 #[.int .i64 p, .int .i64 a, .int .i64 b] w fun e w' => e = .returned (.bool false) ∧ w = w' :=
  (betw p a b w).mono fun e w' ⟨h1, h2⟩ => ⟨by rw [h1]; rw [show decide (a ≤ p ∧ p ≤ b) = false from by simpa using h], h2⟩


set_option maxRecDepth 100000 in
set_option maxHeartbeats 2000000 in
theorem bes_r1 (p : Int) (w : World) (h0 : 65 ≤ p) (h1 : p ≤ 90) : Calls Tryz.prog 46 #[.int .i64 p] w fun e w' => ∃ v, e = .returned v ∧ w'.ownsRow w.heap.size 3 1 v 1 (i64s [p + 32]) ∧ Below w.heap.size w w' := by
  obtain ⟨i0, hi, hz0, hz1, hz2⟩ := info_parts Tryz.info3
  go_enter Tryz.func46, Tryz.ntmps46
  go_wp2_with (first | (go_at_call 68; first | (refine (betw_yes _ _ _ _ (by omega)).mono ?_; rintro e w' ⟨rfl, rfl⟩) | (refine (betw_no _ _ _ _ (by omega)).mono ?_; rintro e w' ⟨rfl, rfl⟩)) | (at_builtin; refine wpList_append_own _ rfl _ _ 46 rfl w.heap.size 3 i0 (.int .i64 0) 1 8 Tryz.underlying46 hi hz0 hz1 hz2 rfl (by decide) _ 0 [] rfl (World.ownsRow_nil _ _ _ _) ⟨w.heap.size, 0, none⟩ 1 1 [.int .i64 (p + 32)] rfl rfl (cells_one3 _ _ rfl (p + 32)) (one3 (p + 32)) (by decide) (by decide) (by simp) ?_; intro v' w3 hown' hgrow _))
  have HO3 := hide hown'
  have hb3 := hide (below_app3 (World.ownsRow_nil w w.heap.size 3 1) (Nat.le_refl _) hgrow)
  clear hown' hgrow
  go_wp2_with (first | (go_at_call 68; first | (refine (betw_yes _ _ _ _ (by omega)).mono ?_; rintro e w' ⟨rfl, rfl⟩) | (refine (betw_no _ _ _ _ (by omega)).mono ?_; rintro e w' ⟨rfl, rfl⟩)))
  go_ret
  exact ⟨_, rfl, HO3.out, hb3.out⟩

set_option maxRecDepth 100000 in
set_option maxHeartbeats 2000000 in
theorem bes_r2 (p : Int) (w : World) (h0 : 192 ≤ p) (h1 : p ≤ 214) : Calls Tryz.prog 46 #[.int .i64 p] w fun e w' => ∃ v, e = .returned v ∧ w'.ownsRow w.heap.size 3 1 v 1 (i64s [p + 32]) ∧ Below w.heap.size w w' := by
  obtain ⟨i0, hi, hz0, hz1, hz2⟩ := info_parts Tryz.info3
  go_enter Tryz.func46, Tryz.ntmps46
  go_wp2_with (first | (go_at_call 68; first | (refine (betw_yes _ _ _ _ (by omega)).mono ?_; rintro e w' ⟨rfl, rfl⟩) | (refine (betw_no _ _ _ _ (by omega)).mono ?_; rintro e w' ⟨rfl, rfl⟩)) | (at_builtin; refine wpList_append_own _ rfl _ _ 46 rfl w.heap.size 3 i0 (.int .i64 0) 1 8 Tryz.underlying46 hi hz0 hz1 hz2 rfl (by decide) _ 0 [] rfl (World.ownsRow_nil _ _ _ _) ⟨w.heap.size, 0, none⟩ 1 1 [.int .i64 (p + 32)] rfl rfl (cells_one3 _ _ rfl (p + 32)) (one3 (p + 32)) (by decide) (by decide) (by simp) ?_; intro v' w3 hown' hgrow _))
  have HO3 := hide hown'
  have hb3 := hide (below_app3 (World.ownsRow_nil w w.heap.size 3 1) (Nat.le_refl _) hgrow)
  clear hown' hgrow
  go_wp2_with (first | (go_at_call 68; first | (refine (betw_yes _ _ _ _ (by omega)).mono ?_; rintro e w' ⟨rfl, rfl⟩) | (refine (betw_no _ _ _ _ (by omega)).mono ?_; rintro e w' ⟨rfl, rfl⟩)))
  go_ret
  exact ⟨_, rfl, HO3.out, hb3.out⟩

set_option maxRecDepth 100000 in
set_option maxHeartbeats 2000000 in
theorem bes_r3 (p : Int) (w : World) (h0 : 216 ≤ p) (h1 : p ≤ 222) : Calls Tryz.prog 46 #[.int .i64 p] w fun e w' => ∃ v, e = .returned v ∧ w'.ownsRow w.heap.size 3 1 v 1 (i64s [p + 32]) ∧ Below w.heap.size w w' := by
  obtain ⟨i0, hi, hz0, hz1, hz2⟩ := info_parts Tryz.info3
  go_enter Tryz.func46, Tryz.ntmps46
  go_wp2_with (first | (go_at_call 68; first | (refine (betw_yes _ _ _ _ (by omega)).mono ?_; rintro e w' ⟨rfl, rfl⟩) | (refine (betw_no _ _ _ _ (by omega)).mono ?_; rintro e w' ⟨rfl, rfl⟩)) | (at_builtin; refine wpList_append_own _ rfl _ _ 46 rfl w.heap.size 3 i0 (.int .i64 0) 1 8 Tryz.underlying46 hi hz0 hz1 hz2 rfl (by decide) _ 0 [] rfl (World.ownsRow_nil _ _ _ _) ⟨w.heap.size, 0, none⟩ 1 1 [.int .i64 (p + 32)] rfl rfl (cells_one3 _ _ rfl (p + 32)) (one3 (p + 32)) (by decide) (by decide) (by simp) ?_; intro v' w3 hown' hgrow _))
  have HO3 := hide hown'
  have hb3 := hide (below_app3 (World.ownsRow_nil w w.heap.size 3 1) (Nat.le_refl _) hgrow)
  clear hown' hgrow
  go_wp2_with (first | (go_at_call 68; first | (refine (betw_yes _ _ _ _ (by omega)).mono ?_; rintro e w' ⟨rfl, rfl⟩) | (refine (betw_no _ _ _ _ (by omega)).mono ?_; rintro e w' ⟨rfl, rfl⟩)))
  go_ret
  exact ⟨_, rfl, HO3.out, hb3.out⟩

set_option maxRecDepth 100000 in
set_option maxHeartbeats 2000000 in
theorem bes_r4 (p : Int) (w : World) (h0 : 913 ≤ p) (h1 : p ≤ 929) : Calls Tryz.prog 46 #[.int .i64 p] w fun e w' => ∃ v, e = .returned v ∧ w'.ownsRow w.heap.size 3 1 v 1 (i64s [p + 32]) ∧ Below w.heap.size w w' := by
  obtain ⟨i0, hi, hz0, hz1, hz2⟩ := info_parts Tryz.info3
  go_enter Tryz.func46, Tryz.ntmps46
  go_wp2_with (first | (go_at_call 68; first | (refine (betw_yes _ _ _ _ (by omega)).mono ?_; rintro e w' ⟨rfl, rfl⟩) | (refine (betw_no _ _ _ _ (by omega)).mono ?_; rintro e w' ⟨rfl, rfl⟩)) | (at_builtin; refine wpList_append_own _ rfl _ _ 46 rfl w.heap.size 3 i0 (.int .i64 0) 1 8 Tryz.underlying46 hi hz0 hz1 hz2 rfl (by decide) _ 0 [] rfl (World.ownsRow_nil _ _ _ _) ⟨w.heap.size, 0, none⟩ 1 1 [.int .i64 (p + 32)] rfl rfl (cells_one3 _ _ rfl (p + 32)) (one3 (p + 32)) (by decide) (by decide) (by simp) ?_; intro v' w3 hown' hgrow _))
  have HO3 := hide hown'
  have hb3 := hide (below_app3 (World.ownsRow_nil w w.heap.size 3 1) (Nat.le_refl _) hgrow)
  clear hown' hgrow
  go_wp2_with (first | (go_at_call 68; first | (refine (betw_yes _ _ _ _ (by omega)).mono ?_; rintro e w' ⟨rfl, rfl⟩) | (refine (betw_no _ _ _ _ (by omega)).mono ?_; rintro e w' ⟨rfl, rfl⟩)))
  go_ret
  exact ⟨_, rfl, HO3.out, hb3.out⟩

set_option maxRecDepth 100000 in
set_option maxHeartbeats 2000000 in
theorem bes_r5 (p : Int) (w : World) (h0 : 931 ≤ p) (h1 : p ≤ 939) : Calls Tryz.prog 46 #[.int .i64 p] w fun e w' => ∃ v, e = .returned v ∧ w'.ownsRow w.heap.size 3 1 v 1 (i64s [p + 32]) ∧ Below w.heap.size w w' := by
  obtain ⟨i0, hi, hz0, hz1, hz2⟩ := info_parts Tryz.info3
  go_enter Tryz.func46, Tryz.ntmps46
  go_wp2_with (first | (go_at_call 68; first | (refine (betw_yes _ _ _ _ (by omega)).mono ?_; rintro e w' ⟨rfl, rfl⟩) | (refine (betw_no _ _ _ _ (by omega)).mono ?_; rintro e w' ⟨rfl, rfl⟩)) | (at_builtin; refine wpList_append_own _ rfl _ _ 46 rfl w.heap.size 3 i0 (.int .i64 0) 1 8 Tryz.underlying46 hi hz0 hz1 hz2 rfl (by decide) _ 0 [] rfl (World.ownsRow_nil _ _ _ _) ⟨w.heap.size, 0, none⟩ 1 1 [.int .i64 (p + 32)] rfl rfl (cells_one3 _ _ rfl (p + 32)) (one3 (p + 32)) (by decide) (by decide) (by simp) ?_; intro v' w3 hown' hgrow _))
  have HO3 := hide hown'
  have hb3 := hide (below_app3 (World.ownsRow_nil w w.heap.size 3 1) (Nat.le_refl _) hgrow)
  clear hown' hgrow
  go_wp2_with (first | (go_at_call 68; first | (refine (betw_yes _ _ _ _ (by omega)).mono ?_; rintro e w' ⟨rfl, rfl⟩) | (refine (betw_no _ _ _ _ (by omega)).mono ?_; rintro e w' ⟨rfl, rfl⟩)))
  go_ret
  exact ⟨_, rfl, HO3.out, hb3.out⟩

set_option maxRecDepth 100000 in
set_option maxHeartbeats 2000000 in
theorem bes_r6 (p : Int) (w : World) (h0 : 1040 ≤ p) (h1 : p ≤ 1071) : Calls Tryz.prog 46 #[.int .i64 p] w fun e w' => ∃ v, e = .returned v ∧ w'.ownsRow w.heap.size 3 1 v 1 (i64s [p + 32]) ∧ Below w.heap.size w w' := by
  obtain ⟨i0, hi, hz0, hz1, hz2⟩ := info_parts Tryz.info3
  go_enter Tryz.func46, Tryz.ntmps46
  go_wp2_with (first | (go_at_call 68; first | (refine (betw_yes _ _ _ _ (by omega)).mono ?_; rintro e w' ⟨rfl, rfl⟩) | (refine (betw_no _ _ _ _ (by omega)).mono ?_; rintro e w' ⟨rfl, rfl⟩)) | (at_builtin; refine wpList_append_own _ rfl _ _ 46 rfl w.heap.size 3 i0 (.int .i64 0) 1 8 Tryz.underlying46 hi hz0 hz1 hz2 rfl (by decide) _ 0 [] rfl (World.ownsRow_nil _ _ _ _) ⟨w.heap.size, 0, none⟩ 1 1 [.int .i64 (p + 32)] rfl rfl (cells_one3 _ _ rfl (p + 32)) (one3 (p + 32)) (by decide) (by decide) (by simp) ?_; intro v' w3 hown' hgrow _))
  have HO3 := hide hown'
  have hb3 := hide (below_app3 (World.ownsRow_nil w w.heap.size 3 1) (Nat.le_refl _) hgrow)
  clear hown' hgrow
  go_wp2_with (first | (go_at_call 68; first | (refine (betw_yes _ _ _ _ (by omega)).mono ?_; rintro e w' ⟨rfl, rfl⟩) | (refine (betw_no _ _ _ _ (by omega)).mono ?_; rintro e w' ⟨rfl, rfl⟩)))
  go_ret
  exact ⟨_, rfl, HO3.out, hb3.out⟩

set_option maxRecDepth 100000 in
set_option maxHeartbeats 2000000 in
theorem bes_ev (p : Int) (w : World) (h0 : 256 ≤ p) (h1 : p ≤ 302) (h2 : p % 2 = 0) : Calls Tryz.prog 46 #[.int .i64 p] w fun e w' => ∃ v, e = .returned v ∧ w'.ownsRow w.heap.size 3 1 v 1 (i64s [p + 1]) ∧ Below w.heap.size w w' := by
  obtain ⟨i0, hi, hz0, hz1, hz2⟩ := info_parts Tryz.info3
  have ht : Int.tmod p 2 = 0 := by rw [Int.tmod_eq_emod_of_nonneg (by omega)]; exact h2
  go_enter Tryz.func46, Tryz.ntmps46
  go_wp2_with (first | (go_at_call 68; first | (refine (betw_yes _ _ _ _ (by omega)).mono ?_; rintro e w' ⟨rfl, rfl⟩) | (refine (betw_no _ _ _ _ (by omega)).mono ?_; rintro e w' ⟨rfl, rfl⟩)) | (at_builtin; refine wpList_append_own _ rfl _ _ 46 rfl w.heap.size 3 i0 (.int .i64 0) 1 8 Tryz.underlying46 hi hz0 hz1 hz2 rfl (by decide) _ 0 [] rfl (World.ownsRow_nil _ _ _ _) ⟨w.heap.size, 0, none⟩ 1 1 [.int .i64 (p + 1)] rfl rfl (cells_one3 _ _ rfl (p + 1)) (one3 (p + 1)) (by decide) (by decide) (by simp) ?_; intro v' w3 hown' hgrow _))
  have HO3 := hide hown'
  have hb3 := hide (below_app3 (World.ownsRow_nil w w.heap.size 3 1) (Nat.le_refl _) hgrow)
  clear hown' hgrow
  go_wp2_with (first | (go_at_call 68; first | (refine (betw_yes _ _ _ _ (by omega)).mono ?_; rintro e w' ⟨rfl, rfl⟩) | (refine (betw_no _ _ _ _ (by omega)).mono ?_; rintro e w' ⟨rfl, rfl⟩)))
  go_ret
  exact ⟨_, rfl, HO3.out, hb3.out⟩

set_option maxRecDepth 100000 in
set_option maxHeartbeats 2000000 in
theorem bes_p80 (p : Int) (w : World) (h0 : 1024 ≤ p) (h1 : p ≤ 1039) : Calls Tryz.prog 46 #[.int .i64 p] w fun e w' => ∃ v, e = .returned v ∧ w'.ownsRow w.heap.size 3 1 v 1 (i64s [p + 80]) ∧ Below w.heap.size w w' := by
  obtain ⟨i0, hi, hz0, hz1, hz2⟩ := info_parts Tryz.info3
  go_enter Tryz.func46, Tryz.ntmps46
  go_wp2_with (first | (go_at_call 68; first | (refine (betw_yes _ _ _ _ (by omega)).mono ?_; rintro e w' ⟨rfl, rfl⟩) | (refine (betw_no _ _ _ _ (by omega)).mono ?_; rintro e w' ⟨rfl, rfl⟩)) | (at_builtin; refine wpList_append_own _ rfl _ _ 46 rfl w.heap.size 3 i0 (.int .i64 0) 1 8 Tryz.underlying46 hi hz0 hz1 hz2 rfl (by decide) _ 0 [] rfl (World.ownsRow_nil _ _ _ _) ⟨w.heap.size, 0, none⟩ 1 1 [.int .i64 (p + 80)] rfl rfl (cells_one3 _ _ rfl (p + 80)) (one3 (p + 80)) (by decide) (by decide) (by simp) ?_; intro v' w3 hown' hgrow _))
  have HO3 := hide hown'
  have hb3 := hide (below_app3 (World.ownsRow_nil w w.heap.size 3 1) (Nat.le_refl _) hgrow)
  clear hown' hgrow
  go_wp2_with (first | (go_at_call 68; first | (refine (betw_yes _ _ _ _ (by omega)).mono ?_; rintro e w' ⟨rfl, rfl⟩) | (refine (betw_no _ _ _ _ (by omega)).mono ?_; rintro e w' ⟨rfl, rfl⟩)))
  go_ret
  exact ⟨_, rfl, HO3.out, hb3.out⟩

set_option maxRecDepth 100000 in
set_option maxHeartbeats 2000000 in
theorem bes_p962 (p : Int) (w : World) (h0 : p = 962) : Calls Tryz.prog 46 #[.int .i64 p] w fun e w' => ∃ v, e = .returned v ∧ w'.ownsRow w.heap.size 3 1 v 1 (i64s [963]) ∧ Below w.heap.size w w' := by
  obtain ⟨i0, hi, hz0, hz1, hz2⟩ := info_parts Tryz.info3
  subst h0
  go_enter Tryz.func46, Tryz.ntmps46
  go_wp2_with (first | (go_at_call 68; first | (refine (betw_yes _ _ _ _ (by omega)).mono ?_; rintro e w' ⟨rfl, rfl⟩) | (refine (betw_no _ _ _ _ (by omega)).mono ?_; rintro e w' ⟨rfl, rfl⟩)) | (at_builtin; refine wpList_append_own _ rfl _ _ 46 rfl w.heap.size 3 i0 (.int .i64 0) 1 8 Tryz.underlying46 hi hz0 hz1 hz2 rfl (by decide) _ 0 [] rfl (World.ownsRow_nil _ _ _ _) ⟨w.heap.size, 0, none⟩ 1 1 [.int .i64 (963)] rfl rfl (cells_one3 _ _ rfl (963)) (one3 (963)) (by decide) (by decide) (by simp) ?_; intro v' w3 hown' hgrow _))
  have HO3 := hide hown'
  have hb3 := hide (below_app3 (World.ownsRow_nil w w.heap.size 3 1) (Nat.le_refl _) hgrow)
  clear hown' hgrow
  go_wp2_with (first | (go_at_call 68; first | (refine (betw_yes _ _ _ _ (by omega)).mono ?_; rintro e w' ⟨rfl, rfl⟩) | (refine (betw_no _ _ _ _ (by omega)).mono ?_; rintro e w' ⟨rfl, rfl⟩)))
  go_ret
  exact ⟨_, rfl, HO3.out, hb3.out⟩

set_option maxRecDepth 100000 in
set_option maxHeartbeats 2000000 in
theorem bes_p181 (p : Int) (w : World) (h0 : p = 181) : Calls Tryz.prog 46 #[.int .i64 p] w fun e w' => ∃ v, e = .returned v ∧ w'.ownsRow w.heap.size 3 1 v 1 (i64s [956]) ∧ Below w.heap.size w w' := by
  obtain ⟨i0, hi, hz0, hz1, hz2⟩ := info_parts Tryz.info3
  subst h0
  go_enter Tryz.func46, Tryz.ntmps46
  go_wp2_with (first | (go_at_call 68; first | (refine (betw_yes _ _ _ _ (by omega)).mono ?_; rintro e w' ⟨rfl, rfl⟩) | (refine (betw_no _ _ _ _ (by omega)).mono ?_; rintro e w' ⟨rfl, rfl⟩)) | (at_builtin; refine wpList_append_own _ rfl _ _ 46 rfl w.heap.size 3 i0 (.int .i64 0) 1 8 Tryz.underlying46 hi hz0 hz1 hz2 rfl (by decide) _ 0 [] rfl (World.ownsRow_nil _ _ _ _) ⟨w.heap.size, 0, none⟩ 1 1 [.int .i64 (956)] rfl rfl (cells_one3 _ _ rfl (956)) (one3 (956)) (by decide) (by decide) (by simp) ?_; intro v' w3 hown' hgrow _))
  have HO3 := hide hown'
  have hb3 := hide (below_app3 (World.ownsRow_nil w w.heap.size 3 1) (Nat.le_refl _) hgrow)
  clear hown' hgrow
  go_wp2_with (first | (go_at_call 68; first | (refine (betw_yes _ _ _ _ (by omega)).mono ?_; rintro e w' ⟨rfl, rfl⟩) | (refine (betw_no _ _ _ _ (by omega)).mono ?_; rintro e w' ⟨rfl, rfl⟩)))
  go_ret
  exact ⟨_, rfl, HO3.out, hb3.out⟩

set_option maxRecDepth 100000 in
set_option maxHeartbeats 2000000 in
theorem bes_p8490 (p : Int) (w : World) (h0 : p = 8490) : Calls Tryz.prog 46 #[.int .i64 p] w fun e w' => ∃ v, e = .returned v ∧ w'.ownsRow w.heap.size 3 1 v 1 (i64s [107]) ∧ Below w.heap.size w w' := by
  obtain ⟨i0, hi, hz0, hz1, hz2⟩ := info_parts Tryz.info3
  subst h0
  go_enter Tryz.func46, Tryz.ntmps46
  go_wp2_with (first | (go_at_call 68; first | (refine (betw_yes _ _ _ _ (by omega)).mono ?_; rintro e w' ⟨rfl, rfl⟩) | (refine (betw_no _ _ _ _ (by omega)).mono ?_; rintro e w' ⟨rfl, rfl⟩)) | (at_builtin; refine wpList_append_own _ rfl _ _ 46 rfl w.heap.size 3 i0 (.int .i64 0) 1 8 Tryz.underlying46 hi hz0 hz1 hz2 rfl (by decide) _ 0 [] rfl (World.ownsRow_nil _ _ _ _) ⟨w.heap.size, 0, none⟩ 1 1 [.int .i64 (107)] rfl rfl (cells_one3 _ _ rfl (107)) (one3 (107)) (by decide) (by decide) (by simp) ?_; intro v' w3 hown' hgrow _))
  have HO3 := hide hown'
  have hb3 := hide (below_app3 (World.ownsRow_nil w w.heap.size 3 1) (Nat.le_refl _) hgrow)
  clear hown' hgrow
  go_wp2_with (first | (go_at_call 68; first | (refine (betw_yes _ _ _ _ (by omega)).mono ?_; rintro e w' ⟨rfl, rfl⟩) | (refine (betw_no _ _ _ _ (by omega)).mono ?_; rintro e w' ⟨rfl, rfl⟩)))
  go_ret
  exact ⟨_, rfl, HO3.out, hb3.out⟩

set_option maxRecDepth 100000 in
set_option maxHeartbeats 2000000 in
theorem bes_p8491 (p : Int) (w : World) (h0 : p = 8491) : Calls Tryz.prog 46 #[.int .i64 p] w fun e w' => ∃ v, e = .returned v ∧ w'.ownsRow w.heap.size 3 1 v 1 (i64s [229]) ∧ Below w.heap.size w w' := by
  obtain ⟨i0, hi, hz0, hz1, hz2⟩ := info_parts Tryz.info3
  subst h0
  go_enter Tryz.func46, Tryz.ntmps46
  go_wp2_with (first | (go_at_call 68; first | (refine (betw_yes _ _ _ _ (by omega)).mono ?_; rintro e w' ⟨rfl, rfl⟩) | (refine (betw_no _ _ _ _ (by omega)).mono ?_; rintro e w' ⟨rfl, rfl⟩)) | (at_builtin; refine wpList_append_own _ rfl _ _ 46 rfl w.heap.size 3 i0 (.int .i64 0) 1 8 Tryz.underlying46 hi hz0 hz1 hz2 rfl (by decide) _ 0 [] rfl (World.ownsRow_nil _ _ _ _) ⟨w.heap.size, 0, none⟩ 1 1 [.int .i64 (229)] rfl rfl (cells_one3 _ _ rfl (229)) (one3 (229)) (by decide) (by decide) (by simp) ?_; intro v' w3 hown' hgrow _))
  have HO3 := hide hown'
  have hb3 := hide (below_app3 (World.ownsRow_nil w w.heap.size 3 1) (Nat.le_refl _) hgrow)
  clear hown' hgrow
  go_wp2_with (first | (go_at_call 68; first | (refine (betw_yes _ _ _ _ (by omega)).mono ?_; rintro e w' ⟨rfl, rfl⟩) | (refine (betw_no _ _ _ _ (by omega)).mono ?_; rintro e w' ⟨rfl, rfl⟩)))
  go_ret
  exact ⟨_, rfl, HO3.out, hb3.out⟩

set_option maxRecDepth 100000 in
set_option maxHeartbeats 2000000 in
theorem bes_p7838 (p : Int) (w : World) (h0 : p = 7838) : Calls Tryz.prog 46 #[.int .i64 p] w fun e w' => ∃ v, e = .returned v ∧ w'.ownsRow w.heap.size 3 1 v 1 (i64s [223]) ∧ Below w.heap.size w w' := by
  obtain ⟨i0, hi, hz0, hz1, hz2⟩ := info_parts Tryz.info3
  subst h0
  go_enter Tryz.func46, Tryz.ntmps46
  go_wp2_with (first | (go_at_call 68; first | (refine (betw_yes _ _ _ _ (by omega)).mono ?_; rintro e w' ⟨rfl, rfl⟩) | (refine (betw_no _ _ _ _ (by omega)).mono ?_; rintro e w' ⟨rfl, rfl⟩)) | (at_builtin; refine wpList_append_own _ rfl _ _ 46 rfl w.heap.size 3 i0 (.int .i64 0) 1 8 Tryz.underlying46 hi hz0 hz1 hz2 rfl (by decide) _ 0 [] rfl (World.ownsRow_nil _ _ _ _) ⟨w.heap.size, 0, none⟩ 1 1 [.int .i64 (223)] rfl rfl (cells_one3 _ _ rfl (223)) (one3 (223)) (by decide) (by decide) (by simp) ?_; intro v' w3 hown' hgrow _))
  have HO3 := hide hown'
  have hb3 := hide (below_app3 (World.ownsRow_nil w w.heap.size 3 1) (Nat.le_refl _) hgrow)
  clear hown' hgrow
  go_wp2_with (first | (go_at_call 68; first | (refine (betw_yes _ _ _ _ (by omega)).mono ?_; rintro e w' ⟨rfl, rfl⟩) | (refine (betw_no _ _ _ _ (by omega)).mono ?_; rintro e w' ⟨rfl, rfl⟩)))
  go_ret
  exact ⟨_, rfl, HO3.out, hb3.out⟩

set_option maxRecDepth 100000 in
set_option maxHeartbeats 2000000 in
theorem bes_odd (p : Int) (w : World) (h0 : 256 ≤ p) (h1 : p ≤ 302) (h2 : ¬ p % 2 = 0) : Calls Tryz.prog 46 #[.int .i64 p] w fun e w' => e = .returned (.slice none 0 0) ∧ w = w' := by
  have ht2 : p % 2 = 1 := by omega
  clear h2
  go_enter Tryz.func46, Tryz.ntmps46
  go_wp2_with (first | (go_at_call 68; first | (refine (betw_yes _ _ _ _ (by omega)).mono ?_; rintro e w' ⟨rfl, rfl⟩) | (refine (betw_no _ _ _ _ (by omega)).mono ?_; rintro e w' ⟨rfl, rfl⟩)))
  go_ret
  exact ⟨rfl, rfl⟩
set_option maxRecDepth 100000 in
set_option maxHeartbeats 2000000 in
theorem bes_none (p : Int) (w : World) (h : besL p = []) (h0 : ¬ (256 ≤ p ∧ p ≤ 302)) : Calls Tryz.prog 46 #[.int .i64 p] w fun e w' => e = .returned (.slice none 0 0) ∧ w = w' := by
  have c1 : b32 p = false := by cases hb : b32 p; rfl; simp [besL, hb] at h
  have c2 : b1 p = false := by cases hb : b1 p; rfl; simp [besL, c1, hb] at h
  have c3 : b80 p = false := by cases hb : b80 p; rfl; simp [besL, c1, c2, hb] at h
  have c4 : (p == 181) = false := by cases hb : p == 181; rfl; simp only [besL, c1, c2, c3, hb] at h; simp at h
  have c5 : (p == 8490) = false := by cases hb : p == 8490; rfl; simp only [besL, c1, c2, c3, c4, hb] at h; simp at h
  have c6 : (p == 8491) = false := by cases hb : p == 8491; rfl; simp only [besL, c1, c2, c3, c4, c5, hb] at h; simp at h
  have c7 : (p == 7838) = false := by cases hb : p == 7838; rfl; simp only [besL, c1, c2, c3, c4, c5, c6, hb] at h; simp at h
  have d1 : ¬ (65 ≤ p ∧ p ≤ 90) := by intro hh; simp [b32] at c1; omega
  have d2 : ¬ (192 ≤ p ∧ p ≤ 214) := by intro hh; simp [b32] at c1; omega
  have d3 : ¬ (216 ≤ p ∧ p ≤ 222) := by intro hh; simp [b32] at c1; omega
  have d4 : ¬ (913 ≤ p ∧ p ≤ 929) := by intro hh; simp [b32] at c1; omega
  have d5 : ¬ (931 ≤ p ∧ p ≤ 939) := by intro hh; simp [b32] at c1; omega
  have d6 : ¬ (1040 ≤ p ∧ p ≤ 1071) := by intro hh; simp [b32] at c1; omega
  have d7 : ¬ (1024 ≤ p ∧ p ≤ 1039) := by intro hh; simp [b80] at c3; omega
  have c8 : (p == 962) = false := by cases hb : p == 962; rfl; simp [b1, hb] at c2
  clear c1 c2 c3 h
  go_enter Tryz.func46, Tryz.ntmps46
  go_wp2_with (first | (go_at_call 68; first | (refine (betw_yes _ _ _ _ (by omega)).mono ?_; rintro e w' ⟨rfl, rfl⟩) | (refine (betw_no _ _ _ _ (by omega)).mono ?_; rintro e w' ⟨rfl, rfl⟩)))
  go_ret
  exact ⟨rfl, rfl⟩

set_option maxRecDepth 100000 in
theorem beside_any (p : Int) (w : World) : Calls Tryz.prog 46 #[.int .i64 p] w fun e w' => ∃ v, e = .returned v ∧ w'.ownsRow w.heap.size 3 1 v (besL p).length (i64s (besL p)) ∧ Below w.heap.size w w' := by
  by_cases r1h : 65 ≤ p ∧ p ≤ 90
  · have e : besL p = [p + 32] := by simp [besL, b32, b1, b80]; omega
    rw [e]
    exact bes_r1 p w r1h.1 r1h.2
  by_cases r2h : 192 ≤ p ∧ p ≤ 214
  · have e : besL p = [p + 32] := by simp [besL, b32, b1, b80]; omega
    rw [e]
    exact bes_r2 p w r2h.1 r2h.2
  by_cases r3h : 216 ≤ p ∧ p ≤ 222
  · have e : besL p = [p + 32] := by simp [besL, b32, b1, b80]; omega
    rw [e]
    exact bes_r3 p w r3h.1 r3h.2
  by_cases r4h : 913 ≤ p ∧ p ≤ 929
  · have e : besL p = [p + 32] := by simp [besL, b32, b1, b80]; omega
    rw [e]
    exact bes_r4 p w r4h.1 r4h.2
  by_cases r5h : 931 ≤ p ∧ p ≤ 939
  · have e : besL p = [p + 32] := by simp [besL, b32, b1, b80]; omega
    rw [e]
    exact bes_r5 p w r5h.1 r5h.2
  by_cases r6h : 1040 ≤ p ∧ p ≤ 1071
  · have e : besL p = [p + 32] := by simp [besL, b32, b1, b80]; omega
    rw [e]
    exact bes_r6 p w r6h.1 r6h.2
  by_cases evh : 256 ≤ p ∧ p ≤ 302
  · by_cases hm : p % 2 = 0
    · have e : besL p = [p + 1] := by
        have q1 : b32 p = false := by simp [b32]; omega
        have q2 : b1 p = true := by simp [b1]; omega
        simp [besL, q1, q2]
      rw [e]
      exact bes_ev p w evh.1 evh.2 hm
    · have e : besL p = [] := by
        have q1 : b32 p = false := by simp [b32]; omega
        have q2 : b1 p = false := by simp [b1]; omega
        have q3 : b80 p = false := by simp [b80]; omega
        have q4 : (p == 181) = false := by simp; omega
        have q5 : (p == 8490) = false := by simp; omega
        have q6 : (p == 8491) = false := by simp; omega
        have q7 : (p == 7838) = false := by simp; omega
        simp only [besL, q1, q2, q3, q4, q5, q6, q7, Bool.false_eq_true, if_false]
      rw [e]
      exact (bes_odd p w evh.1 evh.2 hm).mono fun e w' ⟨h1, h2⟩ => ⟨_, h1, by rw [← h2]; exact World.ownsRow_nil _ _ _ _, by rw [← h2]; exact Below.refl _ _⟩
  by_cases p80h : 1024 ≤ p ∧ p ≤ 1039
  · have e : besL p = [p + 80] := by
      have q1 : b32 p = false := by simp [b32]; omega
      have q2 : b1 p = false := by simp [b1]; omega
      have q3 : b80 p = true := by simp [b80]; omega
      simp [besL, q1, q2, q3]
    rw [e]
    exact bes_p80 p w p80h.1 p80h.2
  by_cases p962h : p = 962
  · have e : besL p = [963] := by subst p962h; decide
    rw [e]
    exact bes_p962 p w p962h
  by_cases p181h : p = 181
  · have e : besL p = [956] := by subst p181h; decide
    rw [e]
    exact bes_p181 p w p181h
  by_cases p8490h : p = 8490
  · have e : besL p = [107] := by subst p8490h; decide
    rw [e]
    exact bes_p8490 p w p8490h
  by_cases p8491h : p = 8491
  · have e : besL p = [229] := by subst p8491h; decide
    rw [e]
    exact bes_p8491 p w p8491h
  by_cases p7838h : p = 7838
  · have e : besL p = [223] := by subst p7838h; decide
    rw [e]
    exact bes_p7838 p w p7838h
  have e : besL p = [] := by
    have q1 : b32 p = false := by simp [b32]; omega
    have q2 : b1 p = false := by simp [b1]; omega
    have q3 : b80 p = false := by simp [b80]; omega
    have q4 : (p == 181) = false := by simp; omega
    have q5 : (p == 8490) = false := by simp; omega
    have q6 : (p == 8491) = false := by simp; omega
    have q7 : (p == 7838) = false := by simp; omega
    simp only [besL, q1, q2, q3, q4, q5, q6, q7, Bool.false_eq_true, if_false]
  have hn := bes_none p w e evh
  rw [e]
  exact hn.mono fun e w' ⟨h1, h2⟩ => ⟨_, h1, by rw [← h2]; exact World.ownsRow_nil _ _ _ _, by rw [← h2]; exact Below.refl _ _⟩

end Go.Proofs.YtljankfhnmcbaaaGreatDoor.Fo

namespace Go.Proofs.YtljankfhnmcbaaaGreatDoor.Fo
open Go.RowKit
set_option linter.unusedVariables false


set_option maxHeartbeats 1000000 in
theorem hasInt_any (l : List Int) (a : Addr) (cap : Nat) (x : Int) (hl : l.length ≤ 4000) (w : World) (hc : ∀ j, j < l.length → w.cell? (a.add j) = some (.int .i64 (l.getD j 0))) :
    Calls Tryz.prog 69 #[.slice (some a) l.length cap, .int .i64 x] w fun e w' => e = .returned (.bool (l.contains x)) ∧ w = w' := by
  have HC := hide hc
  clear hc
  go_enter Tryz.func69, Tryz.ntmps69
  go_wp2
  go_loop [5] (fun i => ∃ k : Nat, k ≤ l.length ∧ i = .int .i64 k ∧ x ∉ l.take k) (fun i => l.length - (intOf i).toNat)
  case atStart => exact ⟨0, Nat.zero_le _, rfl, by simp⟩
  case round =>
    obtain ⟨k, hk, rfl, hn⟩ := hrel
    by_cases hlt : k < l.length
    · obtain ⟨y, hy⟩ : ∃ y, y = l.getD k 0 := ⟨_, rfl⟩
      have hcy : w.cell? (a.add k) = some (.int .i64 y) := by rw [hy]; exact HC.out k hlt
      have HY := hide hy
      have HN := hide hn
      have hmem : Hid (y ∈ l) := by show _ ∈ _; rw [hy]; simp [List.getD, hlt]
      clear hy hn
      by_cases hxy : y = x
      · have hb : (y == x) = true := by simpa using hxy
        have HXY := hide hxy
        clear hxy
        go_wp2
        go_ret
        exact ⟨ret_bool (by have h := hmem.out; rw [HXY.out] at h; simp [h]), rfl⟩
      · have hb : (y == x) = false := by simpa using hxy
        have HXY := hide hxy
        clear hxy
        go_wp2
        go_round
        case rel => exact ⟨k + 1, by omega, by go_num, by
          rw [List.take_add_one]
          simp only [List.mem_append, not_or]
          refine ⟨HN.out, ?_⟩
          have := HY.out
          simp [List.getD, List.getElem?_eq_getElem hlt] at this ⊢
          rw [← this]; exact fun e => HXY.out e.symm⟩
        case measure => simp [intOf]; omega
    · have hkl : k = l.length := by omega
      subst hkl
      rw [List.take_length] at hn
      have HN := hide hn
      clear hn
      go_wp2
      go_ret
      exact ⟨ret_bool (by have h := HN.out; simp [h]), rfl⟩

/-- append to a row of the call's own, as one step of a region that draws. -/
theorem step_own {P : Program} {ops : Array Oper} {o : Oper} {a : Act} {w : World} {K : Act → World → Prop} {Q : Exit → Act → World → Prop} {E : Prop} (hgd : o.guard = none) (s x : Operand) (t : TypeId)
    (ho : o.op = .call { callee := .builtin .append, args := #[s, x], argTypes := #[t, t] })
    (base : Nat) (e : TypeId) (i : TypeInfo) (z : Value) (size bytes : Nat) (ht : P.underlying t = some (.slice e)) (hi : P.info? e = some i) (hz : i.zero = some z)
    (hsize : i.size = size) (hby : i.bytes = bytes) (hzs : z.cells.size = size) (hsz : 0 < size)
    (v : Value) (n : Nat) (xs : List Value) (hs : a.eval s = v) (hown : w.ownsRow base e size v n xs)
    (ad : Addr) (m c : Nat) (news : List Value) (hx : a.eval x = .slice (some ad) m c) (hl : news.length = m * size) (hnews : ∀ j u, news[j]? = some u → w.cell? (ad.add j) = some u) (h1 : ∀ u ∈ news, u.oneCell' = true)
    (h63 : n + m ≤ maxLen) (hbytes : (n + m) * bytes ≤ 140737488355328) (hbase : base ≤ w.heap.size)
    (h : ∀ v' w', w'.ownsRow base e size v' (n + m) (xs ++ news) → w.grownBy w' v.ownBlock → K (a.put o.dst v') w') :
    if Region.wanted o (yielded ops a.tmps) = true then Oper.wp P o a w K Q else E := by
  have hw : Region.wanted o (yielded ops a.tmps) = true := by simp [Region.wanted, hgd]
  rw [if_pos hw]
  exact wp_append_own w s x t ho base e i z size bytes ht hi hz hsize hby hzs hsz v n xs hs hown ad m c news hx hl hnews h1 h63 hbytes hbase fun v' w' h2 h3 _ => h v' w' h2 h3
/-- append to what has no room, as one step of a region that draws. -/
theorem step_grows {P : Program} {ops : Array Oper} {o : Oper} {a : Act} {w : World} {K : Act → World → Prop} {Q : Exit → Act → World → Prop} {E : Prop} (hgd : o.guard = none) (s x : Operand) (t : TypeId)
    (hop : o.op = .call { callee := .builtin .append, args := #[s, x], argTypes := #[t, t] })
    (e : TypeId) (i : TypeInfo) (z : Value) (size bytes : Nat) (h1 : P.underlying t = some (.slice e)) (h2 : P.info? e = some i) (h3 : i.zero = some z) (h4 : i.size = size) (h5 : i.bytes = bytes) (h6 : z.cells.size = size) (h7 : 0 < size)
    (b : Addr) (n cap : Nat) (olds : List Value) (hs : a.eval s = .slice (some b) n cap) (hlo : olds.length = n * size) (holds : ∀ j u, olds[j]? = some u → w.cell? (b.add j) = some u)
    (ad : Addr) (m c : Nat) (news : List Value) (hx : a.eval x = .slice (some ad) m c) (hn : news.length = m * size) (hc : ∀ j u, news[j]? = some u → w.cell? (ad.add j) = some u)
    (hfull : cap < n + m) (b1 : n + m ≤ maxLen) (b2 : (n + m) * bytes ≤ 140737488355328)
    (hK : ∀ v' w', w'.ownsRow w.heap.size e size v' (n + m) (olds ++ news) → w.grownBy w' none → K (a.put o.dst v') w') :
    if Region.wanted o (yielded ops a.tmps) = true then Oper.wp P o a w K Q else E := by
  have hw : Region.wanted o (yielded ops a.tmps) = true := by simp [Region.wanted, hgd]
  rw [if_pos hw]
  obtain ⟨v', w', hrun, r1, r2⟩ := run_append_arg_grows (P := P) w t o.type e i z size bytes h1 h2 h3 h4 h5 h6 h7 b n cap olds hlo holds ad m c news hn hc hfull b1 b2
  unfold Oper.wp
  simp [execOp, hop, resolve, invoke, builtin, hs, hx, hrun, Result.andThen]
  exact hK v' w' r1 r2


theorem i64s_len (l : List Int) : (i64s l).length = l.length := by simp [i64s]
theorem i64s_append (a b : List Int) : i64s (a ++ b) = i64s a ++ i64s b := by simp [i64s]
theorem i64s_get (l : List Int) (j : Nat) (h : j < l.length) : (i64s l)[j]? = some (.int .i64 l[j]) := by simp [i64s, h]
theorem i64s_one (l : List Int) : ∀ u ∈ i64s l, u.oneCell' = true := by
  intro u hu
  simp [i64s] at hu
  obtain ⟨z, _, rfl⟩ := hu
  rfl
theorem i64s_at {l : List Int} {t : Nat} {u : Value} (h : (i64s l)[t]? = some u) : ∃ ht : t < l.length, u = .int .i64 l[t] := by
  have ht : t < (i64s l).length := (List.getElem?_eq_some_iff.1 h).1
  rw [i64s_len] at ht
  rw [i64s_get l t ht] at h
  exact ⟨ht, (Option.some.inj h).symm⟩
theorem add_lit (g j t : Nat) : ((⟨g, j, none⟩ : Addr).add t) = ⟨g, j + t, none⟩ := by unfold Addr.add; split <;> simp_all
theorem add_lit0 (g j : Nat) : ((⟨g, 0, none⟩ : Addr).add j) = ⟨g, j, none⟩ := by rw [add_lit, Nat.zero_add]
/-- numbers in a block. -/
def Lies (w : World) (g : Nat) (l : List Int) : Prop := ∀ j (h : j < l.length), w.cell? ⟨g, j, none⟩ = some (.int .i64 l[j])
theorem below_cellf {B : Nat} {w w' : World} (hb : Below B w w') {a : Addr} {v : Value} (ha : a.block < B) (h : w.cell? a = some v) : w'.cell? a = some v := by
  rw [← h]
  unfold World.cell?
  rw [hb.block a.block ha]
theorem lt_of_cellf {w : World} {a : Addr} {v : Value} (h : w.cell? a = some v) : a.block < w.heap.size := World.block_lt_of_cell? _ _ h
theorem Lies.below {w w' : World} {g : Nat} {l : List Int} (h : Lies w g l) (hb : Below w.heap.size w w') : Lies w' g l := fun j hj => below_cellf hb (lt_of_cellf (h j hj)) (h j hj)
theorem own_lies {B : Nat} {w : World} {g c n : Nat} {l : List Int} (h : w.ownsRow B 3 1 (.slice (some ⟨g, 0, none⟩) n c) n (i64s l)) (hn : n = l.length) : Lies w g l := fun t ht => by
  rw [h.cellAt t (by omega)]
  exact i64s_get l t ht
theorem Lies.news {w : World} {g : Nat} {l : List Int} (h : Lies w g l) : ∀ t u, (i64s l)[t]? = some u → w.cell? ((⟨g, 0, none⟩ : Addr).add t) = some u := by
  intro t u hu
  obtain ⟨ht, rfl⟩ := i64s_at hu
  rw [add_lit0]
  exact h t ht

set_option maxHeartbeats 1000000 in
theorem hasInt_nil (c : Nat) (x : Int) (w : World) : Calls Tryz.prog 69 #[.slice none 0 c, .int .i64 x] w fun e w' => e = .returned (.bool false) ∧ w = w' := by
  go_enter Tryz.func69, Tryz.ntmps69
  go_wp2
  go_loop [5] (fun i => i = .int .i64 0) (fun i => 0)
  case atStart => exact rfl
  case round =>
    subst hrel
    go_wp2
    go_ret
    exact ⟨rfl, rfl⟩
theorem hasInt_own {B : Nat} (v : Value) (l : List Int) (x : Int) (w : World) (hl : l.length ≤ 4000) (h : w.ownsRow B 3 1 v l.length (i64s l)) : Calls Tryz.prog 69 #[v, .int .i64 x] w fun e w' => e = .returned (.bool (l.contains x)) ∧ w = w' := by
  rcases h.2 with ⟨rfl, h0⟩ | ⟨g, cap, cur, rfl, h3⟩
  · obtain rfl : l = [] := List.eq_nil_of_length_eq_zero h0
    exact hasInt_nil 0 x w
  · exact hasInt_any l ⟨g, 0, none⟩ cap x hl w (fun j hj => by rw [add_lit0, own_lies h rfl j hj]; simp [List.getD, hj])

/-- what is carried through a round: points of the orbit; nothing new, or something. -/
structure St (p : Int) (I0 I : List Int) (ch : Bool) : Prop where
  part : Part p I
  ext : ∃ T, I = I0 ++ T
  same : ch = false → I = I0
  more : ch = true → I0.length < I.length
theorem St.add {p : Int} {I0 I : List Int} {ch : Bool} (h : St p I0 I ch) {q : Int} (hq : q ∈ orb p) (hn : I.contains q = false) : St p I0 (I ++ [q]) true := by
  obtain ⟨T, hT⟩ := h.ext
  exact ⟨h.part.more hq hn, ⟨T ++ [q], by rw [hT, List.append_assoc]⟩, fun h => (by cases h), fun _ => by rw [hT]; simp⟩
def lenV : Value → Nat
  | .slice _ n _ => n
  | _ => 0

end Go.Proofs.YtljankfhnmcbaaaGreatDoor.Fo
