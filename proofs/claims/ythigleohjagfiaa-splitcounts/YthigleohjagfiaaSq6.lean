/- Roads: what eachBlock does with the two ranges that splitBegun tries. -/
import Derived.Test.YthigleohjagfiaaSq5
namespace Go.Proofs.Ythigleohjagfiaa
open Go.RowKit Go.PlainAid
set_option linter.unusedVariables false

set_option maxRecDepth 100000 in
set_option maxHeartbeats 2000000 in
theorem eb_0_0 (B bR bS : Nat) (LL : List RL) (pa : Option Addr) (pl pc : Nat) (w : World) (hB : B ≤ w.heap.size)
    (hD : ∀ W, Below w.heap.size w W → Calls Try.prog 49 #[shpV ⟨0, 127, 0, pa, pl, pc⟩, .int .i64 65, .int .i64 66, takeF bR bS] W fun e w' => TakeE B bR LL W e w') :
    Calls Try.prog 25 #[shpV ⟨0, 127, 0, pa, pl, pc⟩, .agg #[.int .i64 65, .int .i64 66], takeF bR bS] w fun e w' => TakeE B bR LL w e w' := by
  obtain ⟨w2, hw2⟩ : ∃ w2, w2 = (w.alloc (shpO ⟨0, 127, 0, pa, pl, pc⟩)).alloc (rgOS 65 66) := ⟨_, rfl⟩
  have hB1 : Below w.heap.size w (w.alloc (shpO ⟨0, 127, 0, pa, pl, pc⟩)) := (Below.refl _ w).alloc (Nat.le_refl _) _
  have hB2 : Below w.heap.size w w2.drew := by rw [hw2]; exact (hB1.alloc hB1.size _).trans ⟨rfl, rfl, rfl, Nat.le_refl _, fun _ _ => rfl⟩
  have hXs : w2.heap[w.heap.size]? = some (shpO ⟨0, 127, 0, pa, pl, pc⟩) := by
    rw [hw2]
    exact rdO_keep (at_newS _ _) ((Below.refl _ _).alloc (Nat.le_refl _) _)
  have hXr : w2.heap[w.heap.size + 1]? = some (rgOS 65 66) := by
    have := at_newS (w.alloc (shpO ⟨0, 127, 0, pa, pl, pc⟩)) (rgOS 65 66)
    rw [hw2]
    simpa using this
  obtain ⟨d0, d1, d2, d3⟩ := shp_cells hXs
  obtain ⟨f0, f1⟩ := rg_cellsS hXr
  have HB2 := hide hB2
  simp only [shpO, rgOS] at hw2
  simp only at d0 d1 d2 d3
  clear hXs hXr hB1 hB2
  have HD : Hid (∀ W, Below w.heap.size w W → Calls Try.prog 49 #[shpV ⟨0, 127, 0, pa, pl, pc⟩, .int .i64 65, .int .i64 66, takeF bR bS] W fun e w' => TakeE B bR LL W e w') := hD
  simp only [shpV, takeF] at HD ⊢
  have HBs := hide hB
  clear hD hB
  go_enter Try.func25, Try.ntmps25
  go_upto_region 1 with fail
  rw [← hw2]
  clear hw2
  go_region
  all_goals go_wp2_with fail
  all_goals refine (HD.out _ HB2.out).mono ?_
  all_goals rintro e w5 hT5
  all_goals have he := hT5.1
  all_goals subst he
  all_goals have HF := hide (hT5.front HB2.out HBs.out)
  all_goals clear hT5
  all_goals go_wp2
  all_goals go_end0
  all_goals exact HF.out
set_option maxRecDepth 100000 in
set_option maxHeartbeats 2000000 in
theorem eb_0_1 (bR bS : Nat) (pa : Option Addr) (pl pc : Nat) (w : World) :
    Calls Try.prog 25 #[shpV ⟨0, 127, 0, pa, pl, pc⟩, .agg #[.int .i64 233, .int .i64 233], takeF bR bS] w fun e w' => e = .returned (.tuple #[]) ∧ Below w.heap.size w w' := by
  obtain ⟨w2, hw2⟩ : ∃ w2, w2 = (w.alloc (shpO ⟨0, 127, 0, pa, pl, pc⟩)).alloc (rgOS 233 233) := ⟨_, rfl⟩
  have hB1 : Below w.heap.size w (w.alloc (shpO ⟨0, 127, 0, pa, pl, pc⟩)) := (Below.refl _ w).alloc (Nat.le_refl _) _
  have hB2 : Below w.heap.size w w2.drew := by rw [hw2]; exact (hB1.alloc hB1.size _).trans ⟨rfl, rfl, rfl, Nat.le_refl _, fun _ _ => rfl⟩
  have hXs : w2.heap[w.heap.size]? = some (shpO ⟨0, 127, 0, pa, pl, pc⟩) := by
    rw [hw2]
    exact rdO_keep (at_newS _ _) ((Below.refl _ _).alloc (Nat.le_refl _) _)
  have hXr : w2.heap[w.heap.size + 1]? = some (rgOS 233 233) := by
    have := at_newS (w.alloc (shpO ⟨0, 127, 0, pa, pl, pc⟩)) (rgOS 233 233)
    rw [hw2]
    simpa using this
  obtain ⟨d0, d1, d2, d3⟩ := shp_cells hXs
  obtain ⟨f0, f1⟩ := rg_cellsS hXr
  have HB2 := hide hB2
  simp only [shpO, rgOS] at hw2
  simp only at d0 d1 d2 d3
  clear hXs hXr hB1 hB2
  simp only [shpV, takeF]
  go_enter Try.func25, Try.ntmps25
  go_upto_region 1 with fail
  rw [← hw2]
  clear hw2
  go_region
  all_goals go_wp2
  all_goals go_end0
  all_goals exact ⟨rfl, HB2.out⟩
set_option maxRecDepth 100000 in
set_option maxHeartbeats 2000000 in
theorem eb_1_0 (bR bS : Nat) (pa : Option Addr) (pl pc : Nat) (w : World) :
    Calls Try.prog 25 #[shpV ⟨128, 2047, 0, pa, pl, pc⟩, .agg #[.int .i64 65, .int .i64 66], takeF bR bS] w fun e w' => e = .returned (.tuple #[]) ∧ Below w.heap.size w w' := by
  obtain ⟨w2, hw2⟩ : ∃ w2, w2 = (w.alloc (shpO ⟨128, 2047, 0, pa, pl, pc⟩)).alloc (rgOS 65 66) := ⟨_, rfl⟩
  have hB1 : Below w.heap.size w (w.alloc (shpO ⟨128, 2047, 0, pa, pl, pc⟩)) := (Below.refl _ w).alloc (Nat.le_refl _) _
  have hB2 : Below w.heap.size w w2.drew := by rw [hw2]; exact (hB1.alloc hB1.size _).trans ⟨rfl, rfl, rfl, Nat.le_refl _, fun _ _ => rfl⟩
  have hXs : w2.heap[w.heap.size]? = some (shpO ⟨128, 2047, 0, pa, pl, pc⟩) := by
    rw [hw2]
    exact rdO_keep (at_newS _ _) ((Below.refl _ _).alloc (Nat.le_refl _) _)
  have hXr : w2.heap[w.heap.size + 1]? = some (rgOS 65 66) := by
    have := at_newS (w.alloc (shpO ⟨128, 2047, 0, pa, pl, pc⟩)) (rgOS 65 66)
    rw [hw2]
    simpa using this
  obtain ⟨d0, d1, d2, d3⟩ := shp_cells hXs
  obtain ⟨f0, f1⟩ := rg_cellsS hXr
  have HB2 := hide hB2
  simp only [shpO, rgOS] at hw2
  simp only at d0 d1 d2 d3
  clear hXs hXr hB1 hB2
  simp only [shpV, takeF]
  go_enter Try.func25, Try.ntmps25
  go_upto_region 1 with fail
  rw [← hw2]
  clear hw2
  go_region
  all_goals go_wp2
  all_goals go_end0
  all_goals exact ⟨rfl, HB2.out⟩
set_option maxRecDepth 100000 in
set_option maxHeartbeats 2000000 in
theorem eb_1_1 (B bR bS : Nat) (LL : List RL) (pa : Option Addr) (pl pc : Nat) (w : World) (hB : B ≤ w.heap.size)
    (hD : ∀ W, Below w.heap.size w W → Calls Try.prog 49 #[shpV ⟨128, 2047, 0, pa, pl, pc⟩, .int .i64 233, .int .i64 233, takeF bR bS] W fun e w' => TakeE B bR LL W e w') :
    Calls Try.prog 25 #[shpV ⟨128, 2047, 0, pa, pl, pc⟩, .agg #[.int .i64 233, .int .i64 233], takeF bR bS] w fun e w' => TakeE B bR LL w e w' := by
  obtain ⟨w2, hw2⟩ : ∃ w2, w2 = (w.alloc (shpO ⟨128, 2047, 0, pa, pl, pc⟩)).alloc (rgOS 233 233) := ⟨_, rfl⟩
  have hB1 : Below w.heap.size w (w.alloc (shpO ⟨128, 2047, 0, pa, pl, pc⟩)) := (Below.refl _ w).alloc (Nat.le_refl _) _
  have hB2 : Below w.heap.size w w2.drew := by rw [hw2]; exact (hB1.alloc hB1.size _).trans ⟨rfl, rfl, rfl, Nat.le_refl _, fun _ _ => rfl⟩
  have hXs : w2.heap[w.heap.size]? = some (shpO ⟨128, 2047, 0, pa, pl, pc⟩) := by
    rw [hw2]
    exact rdO_keep (at_newS _ _) ((Below.refl _ _).alloc (Nat.le_refl _) _)
  have hXr : w2.heap[w.heap.size + 1]? = some (rgOS 233 233) := by
    have := at_newS (w.alloc (shpO ⟨128, 2047, 0, pa, pl, pc⟩)) (rgOS 233 233)
    rw [hw2]
    simpa using this
  obtain ⟨d0, d1, d2, d3⟩ := shp_cells hXs
  obtain ⟨f0, f1⟩ := rg_cellsS hXr
  have HB2 := hide hB2
  simp only [shpO, rgOS] at hw2
  simp only at d0 d1 d2 d3
  clear hXs hXr hB1 hB2
  have HD : Hid (∀ W, Below w.heap.size w W → Calls Try.prog 49 #[shpV ⟨128, 2047, 0, pa, pl, pc⟩, .int .i64 233, .int .i64 233, takeF bR bS] W fun e w' => TakeE B bR LL W e w') := hD
  simp only [shpV, takeF] at HD ⊢
  have HBs := hide hB
  clear hD hB
  go_enter Try.func25, Try.ntmps25
  go_upto_region 1 with fail
  rw [← hw2]
  clear hw2
  go_region
  all_goals go_wp2_with fail
  all_goals refine (HD.out _ HB2.out).mono ?_
  all_goals rintro e w5 hT5
  all_goals have he := hT5.1
  all_goals subst he
  all_goals have HF := hide (hT5.front HB2.out HBs.out)
  all_goals clear hT5
  all_goals go_wp2
  all_goals go_end0
  all_goals exact HF.out
set_option maxRecDepth 100000 in
set_option maxHeartbeats 2000000 in
theorem eb_2_0 (bR bS : Nat) (pa : Option Addr) (pl pc : Nat) (w : World) :
    Calls Try.prog 25 #[shpV ⟨2048, 55295, 0, pa, pl, pc⟩, .agg #[.int .i64 65, .int .i64 66], takeF bR bS] w fun e w' => e = .returned (.tuple #[]) ∧ Below w.heap.size w w' := by
  obtain ⟨w2, hw2⟩ : ∃ w2, w2 = (w.alloc (shpO ⟨2048, 55295, 0, pa, pl, pc⟩)).alloc (rgOS 65 66) := ⟨_, rfl⟩
  have hB1 : Below w.heap.size w (w.alloc (shpO ⟨2048, 55295, 0, pa, pl, pc⟩)) := (Below.refl _ w).alloc (Nat.le_refl _) _
  have hB2 : Below w.heap.size w w2.drew := by rw [hw2]; exact (hB1.alloc hB1.size _).trans ⟨rfl, rfl, rfl, Nat.le_refl _, fun _ _ => rfl⟩
  have hXs : w2.heap[w.heap.size]? = some (shpO ⟨2048, 55295, 0, pa, pl, pc⟩) := by
    rw [hw2]
    exact rdO_keep (at_newS _ _) ((Below.refl _ _).alloc (Nat.le_refl _) _)
  have hXr : w2.heap[w.heap.size + 1]? = some (rgOS 65 66) := by
    have := at_newS (w.alloc (shpO ⟨2048, 55295, 0, pa, pl, pc⟩)) (rgOS 65 66)
    rw [hw2]
    simpa using this
  obtain ⟨d0, d1, d2, d3⟩ := shp_cells hXs
  obtain ⟨f0, f1⟩ := rg_cellsS hXr
  have HB2 := hide hB2
  simp only [shpO, rgOS] at hw2
  simp only at d0 d1 d2 d3
  clear hXs hXr hB1 hB2
  simp only [shpV, takeF]
  go_enter Try.func25, Try.ntmps25
  go_upto_region 1 with fail
  rw [← hw2]
  clear hw2
  go_region
  all_goals go_wp2
  all_goals go_end0
  all_goals exact ⟨rfl, HB2.out⟩
set_option maxRecDepth 100000 in
set_option maxHeartbeats 2000000 in
theorem eb_2_1 (bR bS : Nat) (pa : Option Addr) (pl pc : Nat) (w : World) :
    Calls Try.prog 25 #[shpV ⟨2048, 55295, 0, pa, pl, pc⟩, .agg #[.int .i64 233, .int .i64 233], takeF bR bS] w fun e w' => e = .returned (.tuple #[]) ∧ Below w.heap.size w w' := by
  obtain ⟨w2, hw2⟩ : ∃ w2, w2 = (w.alloc (shpO ⟨2048, 55295, 0, pa, pl, pc⟩)).alloc (rgOS 233 233) := ⟨_, rfl⟩
  have hB1 : Below w.heap.size w (w.alloc (shpO ⟨2048, 55295, 0, pa, pl, pc⟩)) := (Below.refl _ w).alloc (Nat.le_refl _) _
  have hB2 : Below w.heap.size w w2.drew := by rw [hw2]; exact (hB1.alloc hB1.size _).trans ⟨rfl, rfl, rfl, Nat.le_refl _, fun _ _ => rfl⟩
  have hXs : w2.heap[w.heap.size]? = some (shpO ⟨2048, 55295, 0, pa, pl, pc⟩) := by
    rw [hw2]
    exact rdO_keep (at_newS _ _) ((Below.refl _ _).alloc (Nat.le_refl _) _)
  have hXr : w2.heap[w.heap.size + 1]? = some (rgOS 233 233) := by
    have := at_newS (w.alloc (shpO ⟨2048, 55295, 0, pa, pl, pc⟩)) (rgOS 233 233)
    rw [hw2]
    simpa using this
  obtain ⟨d0, d1, d2, d3⟩ := shp_cells hXs
  obtain ⟨f0, f1⟩ := rg_cellsS hXr
  have HB2 := hide hB2
  simp only [shpO, rgOS] at hw2
  simp only at d0 d1 d2 d3
  clear hXs hXr hB1 hB2
  simp only [shpV, takeF]
  go_enter Try.func25, Try.ntmps25
  go_upto_region 1 with fail
  rw [← hw2]
  clear hw2
  go_region
  all_goals go_wp2
  all_goals go_end0
  all_goals exact ⟨rfl, HB2.out⟩
set_option maxRecDepth 100000 in
set_option maxHeartbeats 2000000 in
theorem eb_3_0 (bR bS : Nat) (pa : Option Addr) (pl pc : Nat) (w : World) :
    Calls Try.prog 25 #[shpV ⟨57344, 65535, 0, pa, pl, pc⟩, .agg #[.int .i64 65, .int .i64 66], takeF bR bS] w fun e w' => e = .returned (.tuple #[]) ∧ Below w.heap.size w w' := by
  obtain ⟨w2, hw2⟩ : ∃ w2, w2 = (w.alloc (shpO ⟨57344, 65535, 0, pa, pl, pc⟩)).alloc (rgOS 65 66) := ⟨_, rfl⟩
  have hB1 : Below w.heap.size w (w.alloc (shpO ⟨57344, 65535, 0, pa, pl, pc⟩)) := (Below.refl _ w).alloc (Nat.le_refl _) _
  have hB2 : Below w.heap.size w w2.drew := by rw [hw2]; exact (hB1.alloc hB1.size _).trans ⟨rfl, rfl, rfl, Nat.le_refl _, fun _ _ => rfl⟩
  have hXs : w2.heap[w.heap.size]? = some (shpO ⟨57344, 65535, 0, pa, pl, pc⟩) := by
    rw [hw2]
    exact rdO_keep (at_newS _ _) ((Below.refl _ _).alloc (Nat.le_refl _) _)
  have hXr : w2.heap[w.heap.size + 1]? = some (rgOS 65 66) := by
    have := at_newS (w.alloc (shpO ⟨57344, 65535, 0, pa, pl, pc⟩)) (rgOS 65 66)
    rw [hw2]
    simpa using this
  obtain ⟨d0, d1, d2, d3⟩ := shp_cells hXs
  obtain ⟨f0, f1⟩ := rg_cellsS hXr
  have HB2 := hide hB2
  simp only [shpO, rgOS] at hw2
  simp only at d0 d1 d2 d3
  clear hXs hXr hB1 hB2
  simp only [shpV, takeF]
  go_enter Try.func25, Try.ntmps25
  go_upto_region 1 with fail
  rw [← hw2]
  clear hw2
  go_region
  all_goals go_wp2
  all_goals go_end0
  all_goals exact ⟨rfl, HB2.out⟩
set_option maxRecDepth 100000 in
set_option maxHeartbeats 2000000 in
theorem eb_3_1 (bR bS : Nat) (pa : Option Addr) (pl pc : Nat) (w : World) :
    Calls Try.prog 25 #[shpV ⟨57344, 65535, 0, pa, pl, pc⟩, .agg #[.int .i64 233, .int .i64 233], takeF bR bS] w fun e w' => e = .returned (.tuple #[]) ∧ Below w.heap.size w w' := by
  obtain ⟨w2, hw2⟩ : ∃ w2, w2 = (w.alloc (shpO ⟨57344, 65535, 0, pa, pl, pc⟩)).alloc (rgOS 233 233) := ⟨_, rfl⟩
  have hB1 : Below w.heap.size w (w.alloc (shpO ⟨57344, 65535, 0, pa, pl, pc⟩)) := (Below.refl _ w).alloc (Nat.le_refl _) _
  have hB2 : Below w.heap.size w w2.drew := by rw [hw2]; exact (hB1.alloc hB1.size _).trans ⟨rfl, rfl, rfl, Nat.le_refl _, fun _ _ => rfl⟩
  have hXs : w2.heap[w.heap.size]? = some (shpO ⟨57344, 65535, 0, pa, pl, pc⟩) := by
    rw [hw2]
    exact rdO_keep (at_newS _ _) ((Below.refl _ _).alloc (Nat.le_refl _) _)
  have hXr : w2.heap[w.heap.size + 1]? = some (rgOS 233 233) := by
    have := at_newS (w.alloc (shpO ⟨57344, 65535, 0, pa, pl, pc⟩)) (rgOS 233 233)
    rw [hw2]
    simpa using this
  obtain ⟨d0, d1, d2, d3⟩ := shp_cells hXs
  obtain ⟨f0, f1⟩ := rg_cellsS hXr
  have HB2 := hide hB2
  simp only [shpO, rgOS] at hw2
  simp only at d0 d1 d2 d3
  clear hXs hXr hB1 hB2
  simp only [shpV, takeF]
  go_enter Try.func25, Try.ntmps25
  go_upto_region 1 with fail
  rw [← hw2]
  clear hw2
  go_region
  all_goals go_wp2
  all_goals go_end0
  all_goals exact ⟨rfl, HB2.out⟩
set_option maxRecDepth 100000 in
set_option maxHeartbeats 2000000 in
theorem eb_4_0 (bR bS : Nat) (pa : Option Addr) (pl pc : Nat) (w : World) :
    Calls Try.prog 25 #[shpV ⟨65536, 1114111, 0, pa, pl, pc⟩, .agg #[.int .i64 65, .int .i64 66], takeF bR bS] w fun e w' => e = .returned (.tuple #[]) ∧ Below w.heap.size w w' := by
  obtain ⟨w2, hw2⟩ : ∃ w2, w2 = (w.alloc (shpO ⟨65536, 1114111, 0, pa, pl, pc⟩)).alloc (rgOS 65 66) := ⟨_, rfl⟩
  have hB1 : Below w.heap.size w (w.alloc (shpO ⟨65536, 1114111, 0, pa, pl, pc⟩)) := (Below.refl _ w).alloc (Nat.le_refl _) _
  have hB2 : Below w.heap.size w w2.drew := by rw [hw2]; exact (hB1.alloc hB1.size _).trans ⟨rfl, rfl, rfl, Nat.le_refl _, fun _ _ => rfl⟩
  have hXs : w2.heap[w.heap.size]? = some (shpO ⟨65536, 1114111, 0, pa, pl, pc⟩) := by
    rw [hw2]
    exact rdO_keep (at_newS _ _) ((Below.refl _ _).alloc (Nat.le_refl _) _)
  have hXr : w2.heap[w.heap.size + 1]? = some (rgOS 65 66) := by
    have := at_newS (w.alloc (shpO ⟨65536, 1114111, 0, pa, pl, pc⟩)) (rgOS 65 66)
    rw [hw2]
    simpa using this
  obtain ⟨d0, d1, d2, d3⟩ := shp_cells hXs
  obtain ⟨f0, f1⟩ := rg_cellsS hXr
  have HB2 := hide hB2
  simp only [shpO, rgOS] at hw2
  simp only at d0 d1 d2 d3
  clear hXs hXr hB1 hB2
  simp only [shpV, takeF]
  go_enter Try.func25, Try.ntmps25
  go_upto_region 1 with fail
  rw [← hw2]
  clear hw2
  go_region
  all_goals go_wp2
  all_goals go_end0
  all_goals exact ⟨rfl, HB2.out⟩
set_option maxRecDepth 100000 in
set_option maxHeartbeats 2000000 in
theorem eb_4_1 (bR bS : Nat) (pa : Option Addr) (pl pc : Nat) (w : World) :
    Calls Try.prog 25 #[shpV ⟨65536, 1114111, 0, pa, pl, pc⟩, .agg #[.int .i64 233, .int .i64 233], takeF bR bS] w fun e w' => e = .returned (.tuple #[]) ∧ Below w.heap.size w w' := by
  obtain ⟨w2, hw2⟩ : ∃ w2, w2 = (w.alloc (shpO ⟨65536, 1114111, 0, pa, pl, pc⟩)).alloc (rgOS 233 233) := ⟨_, rfl⟩
  have hB1 : Below w.heap.size w (w.alloc (shpO ⟨65536, 1114111, 0, pa, pl, pc⟩)) := (Below.refl _ w).alloc (Nat.le_refl _) _
  have hB2 : Below w.heap.size w w2.drew := by rw [hw2]; exact (hB1.alloc hB1.size _).trans ⟨rfl, rfl, rfl, Nat.le_refl _, fun _ _ => rfl⟩
  have hXs : w2.heap[w.heap.size]? = some (shpO ⟨65536, 1114111, 0, pa, pl, pc⟩) := by
    rw [hw2]
    exact rdO_keep (at_newS _ _) ((Below.refl _ _).alloc (Nat.le_refl _) _)
  have hXr : w2.heap[w.heap.size + 1]? = some (rgOS 233 233) := by
    have := at_newS (w.alloc (shpO ⟨65536, 1114111, 0, pa, pl, pc⟩)) (rgOS 233 233)
    rw [hw2]
    simpa using this
  obtain ⟨d0, d1, d2, d3⟩ := shp_cells hXs
  obtain ⟨f0, f1⟩ := rg_cellsS hXr
  have HB2 := hide hB2
  simp only [shpO, rgOS] at hw2
  simp only at d0 d1 d2 d3
  clear hXs hXr hB1 hB2
  simp only [shpV, takeF]
  go_enter Try.func25, Try.ntmps25
  go_upto_region 1 with fail
  rw [← hw2]
  clear hw2
  go_region
  all_goals go_wp2
  all_goals go_end0
  all_goals exact ⟨rfl, HB2.out⟩

end Go.Proofs.Ythigleohjagfiaa
