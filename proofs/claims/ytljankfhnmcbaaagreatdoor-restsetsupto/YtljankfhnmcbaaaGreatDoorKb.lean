/- Roads: what divide does with the two ranges that splitBegun tries. -/
import Derived.Test.YtljankfhnmcbaaaGreatDoorPSq4
namespace Go.Proofs.YtljankfhnmcbaaaGreatDoor.SP
open Go.RowKit Go.PlainAid
set_option linter.unusedVariables false

theorem TakeE.front {B bR : Nat} {LL : List RL} {w w1 w' : World} {e : Ending} (hb : Below w.heap.size w w1) (hB : B ≤ w.heap.size) (h : TakeE B bR LL w1 e w') : TakeE B bR LL w e w' :=
  ⟨h.1, h.2.1, (hb.mono hB).trans h.2.2.1, (Kr.below hb).trans h.2.2.2⟩
theorem addr0 (x : Addr) : x.add 0 = x := by cases x; rename_i a b c; cases c <;> rfl
abbrev takeF (bR bS : Nat) : Value := .func (.func 34) #[] #[.pointer (some ⟨bR, 0, none⟩), .pointer (some ⟨bS, 0, none⟩)]
set_option maxRecDepth 100000 in
set_option maxHeartbeats 4000000 in
theorem divide_1 (B bR bS : Nat) (LL : List RL) (s : Shp) (x : Addr) (w : World) (hB : B ≤ w.heap.size) (hpa : s.pa = some x) (hpl : s.pl = 1) (hp : PtC w x [⟨0, 0, 7⟩])
    (hT : ∀ W, Below w.heap.size w W → Calls Tryz.prog 34 #[.int .i64 65, .int .i64 66, .pointer (some ⟨bR, 0, none⟩), .pointer (some ⟨bS, 0, none⟩)] W fun e w' => TakeE B bR LL W e w') :
    Calls Tryz.prog 63 #[shpV s, .int .i64 65, .int .i64 66, takeF bR bS] w fun e w' => TakeE B bR LL w e w' := by
  obtain ⟨w1, hw1⟩ : ∃ w1, w1 = w.alloc (shpO s) := ⟨_, rfl⟩
  have hX1 : w1.heap[w.heap.size]? = some (shpO s) := by rw [hw1]; exact at_newS _ _
  have hB1 : Below w.heap.size w w1 := by rw [hw1]; exact (Below.refl _ w).alloc (Nat.le_refl _) _
  obtain ⟨d0, d1, d2, d3⟩ := shp_cells hX1
  rw [hpa, hpl] at d3
  have HB1 := hide hB1
  have HP := hide hp
  have HT := hide hT
  have HBs := hide hB
  simp only [shpO] at hw1
  simp only [takeF]
  clear hX1 hB1 hp hT hpa hpl hB
  go_enter Tryz.func63, Tryz.ntmps63
  go_upto_region 1 with fail
  rw [← hw1]
  clear hw1
  go_wp2
  go_loopw [14] (fun q wr => ∃ (j : Nat), j ≤ 1 ∧ q = .int .i64 j ∧ Below w.heap.size w wr) (fun q _ => 1 - (intOf q).toNat)
  case atStart => exact ⟨0, Nat.zero_le _, rfl, HB1.out⟩
  case round =>
    obtain ⟨j, hj, rfl, hbw⟩ := hrel
    obtain ⟨w3, hw3⟩ : ∃ w3, w3 = wr := ⟨_, rfl⟩
    subst hw3
    have HBw := hide hbw
    clear hbw HB1 d0 d1 d2 d3
    by_cases hlt : j < 1
    · have hpj := HP.out.below HBw.out j (by simpa using hlt)
      rcases (by omega : j = 0) with rfl
      · obtain ⟨m0, m1, m2⟩ := hpj
        simp only [Nat.zero_mul, addr0, List.getElem_cons_zero] at m0 m1 m2
        skip
        obtain ⟨w4, hw4⟩ : ∃ w4, w4 = w3.alloc (ptO ⟨0, 0, 7⟩) := ⟨_, rfl⟩
        have hX4 : w4.heap[w3.heap.size]? = some (ptO ⟨0, 0, 7⟩) := by rw [hw4]; exact at_newS _ _
        have HB4 : Hid (Below w.heap.size w w4.drew) := by show Below _ _ _; rw [hw4]; exact (HBw.out.alloc HBw.out.size _).trans ⟨rfl, rfl, rfl, Nat.le_refl _, fun _ _ => rfl⟩
        obtain ⟨bx, hbx⟩ : ∃ bx, bx = w3.heap.size := ⟨_, rfl⟩
        rw [← hbx] at hX4
        obtain ⟨f0, f1, f2⟩ := pt_cells hX4
        have a1 : bits BinOp.and IntKind.i64 65 0 = 0 := by decide
        have a2 : bits BinOp.and IntKind.i64 66 0 = 0 := by decide
        simp only [ptO] at hw4
        simp only at f0 f1 f2
        clear hX4 HBw hlt
        go_upto_region 4 with fail
        rw [← hw4, ← hbx]
        clear hw4 hbx m0 m1 m2
        go_wp2
        go_region
        all_goals go_wp2
        all_goals go_roundw
        all_goals first | exact ⟨0 + 1, by omega, by go_num, HB4.out⟩ | (simp [intOf]; omega) | (simp [intOf])
    · have e5 : ¬ (j : Int) < 1 := by omega
      have hjn : j = 1 := by omega
      subst hjn
      have HC := hide (HT.out w3 HBw.out)
      have HFr : Hid (∀ e w', TakeE B bR LL w3 e w' → TakeE B bR LL w e w') := fun e w' hh => hh.front HBw.out HBs.out
      go_wp2_with fail
      refine HC.out.mono ?_
      rintro e w5 hT5
      have he := hT5.1
      subst he
      have HF := hide (HFr.out _ _ hT5)
      clear hT5 HC HFr
      go_wp2
      go_end0
      exact HF.out
set_option maxRecDepth 100000 in
set_option maxHeartbeats 4000000 in
theorem divide_2 (B bR bS : Nat) (LL : List RL) (s : Shp) (x : Addr) (w : World) (hB : B ≤ w.heap.size) (hpa : s.pa = some x) (hpl : s.pl = 2) (hp : PtC w x [⟨192, 6, 5⟩, ⟨128, 0, 6⟩])
    (hT : ∀ W, Below w.heap.size w W → Calls Tryz.prog 34 #[.int .i64 233, .int .i64 233, .pointer (some ⟨bR, 0, none⟩), .pointer (some ⟨bS, 0, none⟩)] W fun e w' => TakeE B bR LL W e w') :
    Calls Tryz.prog 63 #[shpV s, .int .i64 233, .int .i64 233, takeF bR bS] w fun e w' => TakeE B bR LL w e w' := by
  obtain ⟨w1, hw1⟩ : ∃ w1, w1 = w.alloc (shpO s) := ⟨_, rfl⟩
  have hX1 : w1.heap[w.heap.size]? = some (shpO s) := by rw [hw1]; exact at_newS _ _
  have hB1 : Below w.heap.size w w1 := by rw [hw1]; exact (Below.refl _ w).alloc (Nat.le_refl _) _
  obtain ⟨d0, d1, d2, d3⟩ := shp_cells hX1
  rw [hpa, hpl] at d3
  have HB1 := hide hB1
  have HP := hide hp
  have HT := hide hT
  have HBs := hide hB
  simp only [shpO] at hw1
  simp only [takeF]
  clear hX1 hB1 hp hT hpa hpl hB
  go_enter Tryz.func63, Tryz.ntmps63
  go_upto_region 1 with fail
  rw [← hw1]
  clear hw1
  go_wp2
  go_loopw [14] (fun q wr => ∃ (j : Nat), j ≤ 2 ∧ q = .int .i64 j ∧ Below w.heap.size w wr) (fun q _ => 2 - (intOf q).toNat)
  case atStart => exact ⟨0, Nat.zero_le _, rfl, HB1.out⟩
  case round =>
    obtain ⟨j, hj, rfl, hbw⟩ := hrel
    obtain ⟨w3, hw3⟩ : ∃ w3, w3 = wr := ⟨_, rfl⟩
    subst hw3
    have HBw := hide hbw
    clear hbw HB1 d0 d1 d2 d3
    by_cases hlt : j < 2
    · have hpj := HP.out.below HBw.out j (by simpa using hlt)
      rcases (by omega : j = 0 ∨ j = 1) with rfl | rfl
      · obtain ⟨m0, m1, m2⟩ := hpj
        simp only [Nat.zero_mul, addr0, List.getElem_cons_zero] at m0 m1 m2
        skip
        obtain ⟨w4, hw4⟩ : ∃ w4, w4 = w3.alloc (ptO ⟨192, 6, 5⟩) := ⟨_, rfl⟩
        have hX4 : w4.heap[w3.heap.size]? = some (ptO ⟨192, 6, 5⟩) := by rw [hw4]; exact at_newS _ _
        have HB4 : Hid (Below w.heap.size w w4.drew) := by show Below _ _ _; rw [hw4]; exact (HBw.out.alloc HBw.out.size _).trans ⟨rfl, rfl, rfl, Nat.le_refl _, fun _ _ => rfl⟩
        obtain ⟨bx, hbx⟩ : ∃ bx, bx = w3.heap.size := ⟨_, rfl⟩
        rw [← hbx] at hX4
        obtain ⟨f0, f1, f2⟩ := pt_cells hX4
        have a1 : bits BinOp.and IntKind.i64 233 63 = 41 := by decide
        have a2 : bits BinOp.and IntKind.i64 233 63 = 41 := by decide
        simp only [ptO] at hw4
        simp only at f0 f1 f2
        clear hX4 HBw hlt
        go_upto_region 4 with fail
        rw [← hw4, ← hbx]
        clear hw4 hbx m0 m1 m2
        go_wp2
        go_region
        all_goals go_wp2
        all_goals go_roundw
        all_goals first | exact ⟨0 + 1, by omega, by go_num, HB4.out⟩ | (simp [intOf]; omega) | (simp [intOf])
      · obtain ⟨m0, m1, m2⟩ := hpj
        simp only [Nat.one_mul, List.getElem_cons_zero, List.getElem_cons_succ] at m0 m1 m2
        simp [Addr.add] at m0 m1 m2
        obtain ⟨w4, hw4⟩ : ∃ w4, w4 = w3.alloc (ptO ⟨128, 0, 6⟩) := ⟨_, rfl⟩
        have hX4 : w4.heap[w3.heap.size]? = some (ptO ⟨128, 0, 6⟩) := by rw [hw4]; exact at_newS _ _
        have HB4 : Hid (Below w.heap.size w w4.drew) := by show Below _ _ _; rw [hw4]; exact (HBw.out.alloc HBw.out.size _).trans ⟨rfl, rfl, rfl, Nat.le_refl _, fun _ _ => rfl⟩
        obtain ⟨bx, hbx⟩ : ∃ bx, bx = w3.heap.size := ⟨_, rfl⟩
        rw [← hbx] at hX4
        obtain ⟨f0, f1, f2⟩ := pt_cells hX4
        have a1 : bits BinOp.and IntKind.i64 233 0 = 0 := by decide
        have a2 : bits BinOp.and IntKind.i64 233 0 = 0 := by decide
        simp only [ptO] at hw4
        simp only at f0 f1 f2
        clear hX4 HBw hlt
        go_upto_region 4 with fail
        rw [← hw4, ← hbx]
        clear hw4 hbx m0 m1 m2
        go_wp2
        go_region
        all_goals go_wp2
        all_goals go_roundw
        all_goals first | exact ⟨1 + 1, by omega, by go_num, HB4.out⟩ | (simp [intOf]; omega) | (simp [intOf])
    · have e5 : ¬ (j : Int) < 2 := by omega
      have hjn : j = 2 := by omega
      subst hjn
      have HC := hide (HT.out w3 HBw.out)
      have HFr : Hid (∀ e w', TakeE B bR LL w3 e w' → TakeE B bR LL w e w') := fun e w' hh => hh.front HBw.out HBs.out
      go_wp2_with fail
      refine HC.out.mono ?_
      rintro e w5 hT5
      have he := hT5.1
      subst he
      have HF := hide (HFr.out _ _ hT5)
      clear hT5 HC HFr
      go_wp2
      go_end0
      exact HF.out

end Go.Proofs.YtljankfhnmcbaaaGreatDoor.SP

namespace Go.Proofs.YtljankfhnmcbaaaGreatDoor.SP
open Go.RowKit Go.PlainAid
set_option linter.unusedVariables false

set_option maxRecDepth 100000 in
set_option maxHeartbeats 2000000 in
theorem eb_0_0 (B bR bS : Nat) (LL : List RL) (pa : Option Addr) (pl pc : Nat) (w : World) (hB : B ≤ w.heap.size)
    (hD : ∀ W, Below w.heap.size w W → Calls Tryz.prog 63 #[shpV ⟨0, 127, 0, pa, pl, pc⟩, .int .i64 65, .int .i64 66, takeF bR bS] W fun e w' => TakeE B bR LL W e w') :
    Calls Tryz.prog 33 #[shpV ⟨0, 127, 0, pa, pl, pc⟩, .agg #[.int .i64 65, .int .i64 66], takeF bR bS] w fun e w' => TakeE B bR LL w e w' := by
  obtain ⟨w2, hw2⟩ : ∃ w2, w2 = (w.alloc (shpO ⟨0, 127, 0, pa, pl, pc⟩)).alloc (rgOS 65 66) := ⟨_, rfl⟩
  have hB1 : Below w.heap.size w (w.alloc (shpO ⟨0, 127, 0, pa, pl, pc⟩)) := (Below.refl _ w).alloc (Nat.le_refl _) _
  have hB2 : Below w.heap.size w w2.drew := by rw [hw2]; exact (hB1.alloc hB1.size _).trans ⟨rfl, rfl, rfl, Nat.le_refl _, fun _ _ => rfl⟩
  have hXs : w2.heap[w.heap.size]? = some (shpO ⟨0, 127, 0, pa, pl, pc⟩) := by
    rw [hw2]
    exact rdO_keep (at_newS _ _) ((Below.refl _ _).alloc (Nat.le_refl _) _)
  have hXr : w2.heap[w.heap.size + 1]? = some (rgOS 65 66) := by
    have := at_newS (w.alloc (shpO ⟨0, 127, 0, pa, pl, pc⟩)) (rgOS 65 66)
    rw [hw2]
    simpa using this
  obtain ⟨d0, d1, d2, d3⟩ := shp_cells hXs
  obtain ⟨f0, f1⟩ := rg_cellsS hXr
  have HB2 := hide hB2
  simp only [shpO, rgOS] at hw2
  simp only at d0 d1 d2 d3
  clear hXs hXr hB1 hB2
  have HD : Hid (∀ W, Below w.heap.size w W → Calls Tryz.prog 63 #[shpV ⟨0, 127, 0, pa, pl, pc⟩, .int .i64 65, .int .i64 66, takeF bR bS] W fun e w' => TakeE B bR LL W e w') := hD
  simp only [shpV, takeF] at HD ⊢
  have HBs := hide hB
  clear hD hB
  go_enter Tryz.func33, Tryz.ntmps33
  go_upto_region 1 with fail
  rw [← hw2]
  clear hw2
  go_region
  all_goals go_wp2_with fail
  all_goals refine (HD.out _ HB2.out).mono ?_
  all_goals rintro e w5 hT5
  all_goals have he := hT5.1
  all_goals subst he
  all_goals have HF := hide (hT5.front HB2.out HBs.out)
  all_goals clear hT5
  all_goals go_wp2
  all_goals go_end0
  all_goals exact HF.out
set_option maxRecDepth 100000 in
set_option maxHeartbeats 2000000 in
theorem eb_0_1 (bR bS : Nat) (pa : Option Addr) (pl pc : Nat) (w : World) :
    Calls Tryz.prog 33 #[shpV ⟨0, 127, 0, pa, pl, pc⟩, .agg #[.int .i64 233, .int .i64 233], takeF bR bS] w fun e w' => e = .returned (.tuple #[]) ∧ Below w.heap.size w w' := by
  obtain ⟨w2, hw2⟩ : ∃ w2, w2 = (w.alloc (shpO ⟨0, 127, 0, pa, pl, pc⟩)).alloc (rgOS 233 233) := ⟨_, rfl⟩
  have hB1 : Below w.heap.size w (w.alloc (shpO ⟨0, 127, 0, pa, pl, pc⟩)) := (Below.refl _ w).alloc (Nat.le_refl _) _
  have hB2 : Below w.heap.size w w2.drew := by rw [hw2]; exact (hB1.alloc hB1.size _).trans ⟨rfl, rfl, rfl, Nat.le_refl _, fun _ _ => rfl⟩
  have hXs : w2.heap[w.heap.size]? = some (shpO ⟨0, 127, 0, pa, pl, pc⟩) := by
    rw [hw2]
    exact rdO_keep (at_newS _ _) ((Below.refl _ _).alloc (Nat.le_refl _) _)
  have hXr : w2.heap[w.heap.size + 1]? = some (rgOS 233 233) := by
    have := at_newS (w.alloc (shpO ⟨0, 127, 0, pa, pl, pc⟩)) (rgOS 233 233)
    rw [hw2]
    simpa using this
  obtain ⟨d0, d1, d2, d3⟩ := shp_cells hXs
  obtain ⟨f0, f1⟩ := rg_cellsS hXr
  have HB2 := hide hB2
  simp only [shpO, rgOS] at hw2
  simp only at d0 d1 d2 d3
  clear hXs hXr hB1 hB2
  simp only [shpV, takeF]
  go_enter Tryz.func33, Tryz.ntmps33
  go_upto_region 1 with fail
  rw [← hw2]
  clear hw2
  go_region
  all_goals go_wp2
  all_goals go_end0
  all_goals exact ⟨rfl, HB2.out⟩
set_option maxRecDepth 100000 in
set_option maxHeartbeats 2000000 in
theorem eb_1_0 (bR bS : Nat) (pa : Option Addr) (pl pc : Nat) (w : World) :
    Calls Tryz.prog 33 #[shpV ⟨128, 2047, 0, pa, pl, pc⟩, .agg #[.int .i64 65, .int .i64 66], takeF bR bS] w fun e w' => e = .returned (.tuple #[]) ∧ Below w.heap.size w w' := by
  obtain ⟨w2, hw2⟩ : ∃ w2, w2 = (w.alloc (shpO ⟨128, 2047, 0, pa, pl, pc⟩)).alloc (rgOS 65 66) := ⟨_, rfl⟩
  have hB1 : Below w.heap.size w (w.alloc (shpO ⟨128, 2047, 0, pa, pl, pc⟩)) := (Below.refl _ w).alloc (Nat.le_refl _) _
  have hB2 : Below w.heap.size w w2.drew := by rw [hw2]; exact (hB1.alloc hB1.size _).trans ⟨rfl, rfl, rfl, Nat.le_refl _, fun _ _ => rfl⟩
  have hXs : w2.heap[w.heap.size]? = some (shpO ⟨128, 2047, 0, pa, pl, pc⟩) := by
    rw [hw2]
    exact rdO_keep (at_newS _ _) ((Below.refl _ _).alloc (Nat.le_refl _) _)
  have hXr : w2.heap[w.heap.size + 1]? = some (rgOS 65 66) := by
    have := at_newS (w.alloc (shpO ⟨128, 2047, 0, pa, pl, pc⟩)) (rgOS 65 66)
    rw [hw2]
    simpa using this
  obtain ⟨d0, d1, d2, d3⟩ := shp_cells hXs
  obtain ⟨f0, f1⟩ := rg_cellsS hXr
  have HB2 := hide hB2
  simp only [shpO, rgOS] at hw2
  simp only at d0 d1 d2 d3
  clear hXs hXr hB1 hB2
  simp only [shpV, takeF]
  go_enter Tryz.func33, Tryz.ntmps33
  go_upto_region 1 with fail
  rw [← hw2]
  clear hw2
  go_region
  all_goals go_wp2
  all_goals go_end0
  all_goals exact ⟨rfl, HB2.out⟩
set_option maxRecDepth 100000 in
set_option maxHeartbeats 2000000 in
theorem eb_1_1 (B bR bS : Nat) (LL : List RL) (pa : Option Addr) (pl pc : Nat) (w : World) (hB : B ≤ w.heap.size)
    (hD : ∀ W, Below w.heap.size w W → Calls Tryz.prog 63 #[shpV ⟨128, 2047, 0, pa, pl, pc⟩, .int .i64 233, .int .i64 233, takeF bR bS] W fun e w' => TakeE B bR LL W e w') :
    Calls Tryz.prog 33 #[shpV ⟨128, 2047, 0, pa, pl, pc⟩, .agg #[.int .i64 233, .int .i64 233], takeF bR bS] w fun e w' => TakeE B bR LL w e w' := by
  obtain ⟨w2, hw2⟩ : ∃ w2, w2 = (w.alloc (shpO ⟨128, 2047, 0, pa, pl, pc⟩)).alloc (rgOS 233 233) := ⟨_, rfl⟩
  have hB1 : Below w.heap.size w (w.alloc (shpO ⟨128, 2047, 0, pa, pl, pc⟩)) := (Below.refl _ w).alloc (Nat.le_refl _) _
  have hB2 : Below w.heap.size w w2.drew := by rw [hw2]; exact (hB1.alloc hB1.size _).trans ⟨rfl, rfl, rfl, Nat.le_refl _, fun _ _ => rfl⟩
  have hXs : w2.heap[w.heap.size]? = some (shpO ⟨128, 2047, 0, pa, pl, pc⟩) := by
    rw [hw2]
    exact rdO_keep (at_newS _ _) ((Below.refl _ _).alloc (Nat.le_refl _) _)
  have hXr : w2.heap[w.heap.size + 1]? = some (rgOS 233 233) := by
    have := at_newS (w.alloc (shpO ⟨128, 2047, 0, pa, pl, pc⟩)) (rgOS 233 233)
    rw [hw2]
    simpa using this
  obtain ⟨d0, d1, d2, d3⟩ := shp_cells hXs
  obtain ⟨f0, f1⟩ := rg_cellsS hXr
  have HB2 := hide hB2
  simp only [shpO, rgOS] at hw2
  simp only at d0 d1 d2 d3
  clear hXs hXr hB1 hB2
  have HD : Hid (∀ W, Below w.heap.size w W → Calls Tryz.prog 63 #[shpV ⟨128, 2047, 0, pa, pl, pc⟩, .int .i64 233, .int .i64 233, takeF bR bS] W fun e w' => TakeE B bR LL W e w') := hD
  simp only [shpV, takeF] at HD ⊢
  have HBs := hide hB
  clear hD hB
  go_enter Tryz.func33, Tryz.ntmps33
  go_upto_region 1 with fail
  rw [← hw2]
  clear hw2
  go_region
  all_goals go_wp2_with fail
  all_goals refine (HD.out _ HB2.out).mono ?_
  all_goals rintro e w5 hT5
  all_goals have he := hT5.1
  all_goals subst he
  all_goals have HF := hide (hT5.front HB2.out HBs.out)
  all_goals clear hT5
  all_goals go_wp2
  all_goals go_end0
  all_goals exact HF.out
set_option maxRecDepth 100000 in
set_option maxHeartbeats 2000000 in
theorem eb_2_0 (bR bS : Nat) (pa : Option Addr) (pl pc : Nat) (w : World) :
    Calls Tryz.prog 33 #[shpV ⟨2048, 55295, 0, pa, pl, pc⟩, .agg #[.int .i64 65, .int .i64 66], takeF bR bS] w fun e w' => e = .returned (.tuple #[]) ∧ Below w.heap.size w w' := by
  obtain ⟨w2, hw2⟩ : ∃ w2, w2 = (w.alloc (shpO ⟨2048, 55295, 0, pa, pl, pc⟩)).alloc (rgOS 65 66) := ⟨_, rfl⟩
  have hB1 : Below w.heap.size w (w.alloc (shpO ⟨2048, 55295, 0, pa, pl, pc⟩)) := (Below.refl _ w).alloc (Nat.le_refl _) _
  have hB2 : Below w.heap.size w w2.drew := by rw [hw2]; exact (hB1.alloc hB1.size _).trans ⟨rfl, rfl, rfl, Nat.le_refl _, fun _ _ => rfl⟩
  have hXs : w2.heap[w.heap.size]? = some (shpO ⟨2048, 55295, 0, pa, pl, pc⟩) := by
    rw [hw2]
    exact rdO_keep (at_newS _ _) ((Below.refl _ _).alloc (Nat.le_refl _) _)
  have hXr : w2.heap[w.heap.size + 1]? = some (rgOS 65 66) := by
    have := at_newS (w.alloc (shpO ⟨2048, 55295, 0, pa, pl, pc⟩)) (rgOS 65 66)
    rw [hw2]
    simpa using this
  obtain ⟨d0, d1, d2, d3⟩ := shp_cells hXs
  obtain ⟨f0, f1⟩ := rg_cellsS hXr
  have HB2 := hide hB2
  simp only [shpO, rgOS] at hw2
  simp only at d0 d1 d2 d3
  clear hXs hXr hB1 hB2
  simp only [shpV, takeF]
  go_enter Tryz.func33, Tryz.ntmps33
  go_upto_region 1 with fail
  rw [← hw2]
  clear hw2
  go_region
  all_goals go_wp2
  all_goals go_end0
  all_goals exact ⟨rfl, HB2.out⟩
set_option maxRecDepth 100000 in
set_option maxHeartbeats 2000000 in
theorem eb_2_1 (bR bS : Nat) (pa : Option Addr) (pl pc : Nat) (w : World) :
    Calls Tryz.prog 33 #[shpV ⟨2048, 55295, 0, pa, pl, pc⟩, .agg #[.int .i64 233, .int .i64 233], takeF bR bS] w fun e w' => e = .returned (.tuple #[]) ∧ Below w.heap.size w w' := by
  obtain ⟨w2, hw2⟩ : ∃ w2, w2 = (w.alloc (shpO ⟨2048, 55295, 0, pa, pl, pc⟩)).alloc (rgOS 233 233) := ⟨_, rfl⟩
  have hB1 : Below w.heap.size w (w.alloc (shpO ⟨2048, 55295, 0, pa, pl, pc⟩)) := (Below.refl _ w).alloc (Nat.le_refl _) _
  have hB2 : Below w.heap.size w w2.drew := by rw [hw2]; exact (hB1.alloc hB1.size _).trans ⟨rfl, rfl, rfl, Nat.le_refl _, fun _ _ => rfl⟩
  have hXs : w2.heap[w.heap.size]? = some (shpO ⟨2048, 55295, 0, pa, pl, pc⟩) := by
    rw [hw2]
    exact rdO_keep (at_newS _ _) ((Below.refl _ _).alloc (Nat.le_refl _) _)
  have hXr : w2.heap[w.heap.size + 1]? = some (rgOS 233 233) := by
    have := at_newS (w.alloc (shpO ⟨2048, 55295, 0, pa, pl, pc⟩)) (rgOS 233 233)
    rw [hw2]
    simpa using this
  obtain ⟨d0, d1, d2, d3⟩ := shp_cells hXs
  obtain ⟨f0, f1⟩ := rg_cellsS hXr
  have HB2 := hide hB2
  simp only [shpO, rgOS] at hw2
  simp only at d0 d1 d2 d3
  clear hXs hXr hB1 hB2
  simp only [shpV, takeF]
  go_enter Tryz.func33, Tryz.ntmps33
  go_upto_region 1 with fail
  rw [← hw2]
  clear hw2
  go_region
  all_goals go_wp2
  all_goals go_end0
  all_goals exact ⟨rfl, HB2.out⟩
set_option maxRecDepth 100000 in
set_option maxHeartbeats 2000000 in
theorem eb_3_0 (bR bS : Nat) (pa : Option Addr) (pl pc : Nat) (w : World) :
    Calls Tryz.prog 33 #[shpV ⟨57344, 65535, 0, pa, pl, pc⟩, .agg #[.int .i64 65, .int .i64 66], takeF bR bS] w fun e w' => e = .returned (.tuple #[]) ∧ Below w.heap.size w w' := by
  obtain ⟨w2, hw2⟩ : ∃ w2, w2 = (w.alloc (shpO ⟨57344, 65535, 0, pa, pl, pc⟩)).alloc (rgOS 65 66) := ⟨_, rfl⟩
  have hB1 : Below w.heap.size w (w.alloc (shpO ⟨57344, 65535, 0, pa, pl, pc⟩)) := (Below.refl _ w).alloc (Nat.le_refl _) _
  have hB2 : Below w.heap.size w w2.drew := by rw [hw2]; exact (hB1.alloc hB1.size _).trans ⟨rfl, rfl, rfl, Nat.le_refl _, fun _ _ => rfl⟩
  have hXs : w2.heap[w.heap.size]? = some (shpO ⟨57344, 65535, 0, pa, pl, pc⟩) := by
    rw [hw2]
    exact rdO_keep (at_newS _ _) ((Below.refl _ _).alloc (Nat.le_refl _) _)
  have hXr : w2.heap[w.heap.size + 1]? = some (rgOS 65 66) := by
    have := at_newS (w.alloc (shpO ⟨57344, 65535, 0, pa, pl, pc⟩)) (rgOS 65 66)
    rw [hw2]
    simpa using this
  obtain ⟨d0, d1, d2, d3⟩ := shp_cells hXs
  obtain ⟨f0, f1⟩ := rg_cellsS hXr
  have HB2 := hide hB2
  simp only [shpO, rgOS] at hw2
  simp only at d0 d1 d2 d3
  clear hXs hXr hB1 hB2
  simp only [shpV, takeF]
  go_enter Tryz.func33, Tryz.ntmps33
  go_upto_region 1 with fail
  rw [← hw2]
  clear hw2
  go_region
  all_goals go_wp2
  all_goals go_end0
  all_goals exact ⟨rfl, HB2.out⟩
set_option maxRecDepth 100000 in
set_option maxHeartbeats 2000000 in
theorem eb_3_1 (bR bS : Nat) (pa : Option Addr) (pl pc : Nat) (w : World) :
    Calls Tryz.prog 33 #[shpV ⟨57344, 65535, 0, pa, pl, pc⟩, .agg #[.int .i64 233, .int .i64 233], takeF bR bS] w fun e w' => e = .returned (.tuple #[]) ∧ Below w.heap.size w w' := by
  obtain ⟨w2, hw2⟩ : ∃ w2, w2 = (w.alloc (shpO ⟨57344, 65535, 0, pa, pl, pc⟩)).alloc (rgOS 233 233) := ⟨_, rfl⟩
  have hB1 : Below w.heap.size w (w.alloc (shpO ⟨57344, 65535, 0, pa, pl, pc⟩)) := (Below.refl _ w).alloc (Nat.le_refl _) _
  have hB2 : Below w.heap.size w w2.drew := by rw [hw2]; exact (hB1.alloc hB1.size _).trans ⟨rfl, rfl, rfl, Nat.le_refl _, fun _ _ => rfl⟩
  have hXs : w2.heap[w.heap.size]? = some (shpO ⟨57344, 65535, 0, pa, pl, pc⟩) := by
    rw [hw2]
    exact rdO_keep (at_newS _ _) ((Below.refl _ _).alloc (Nat.le_refl _) _)
  have hXr : w2.heap[w.heap.size + 1]? = some (rgOS 233 233) := by
    have := at_newS (w.alloc (shpO ⟨57344, 65535, 0, pa, pl, pc⟩)) (rgOS 233 233)
    rw [hw2]
    simpa using this
  obtain ⟨d0, d1, d2, d3⟩ := shp_cells hXs
  obtain ⟨f0, f1⟩ := rg_cellsS hXr
  have HB2 := hide hB2
  simp only [shpO, rgOS] at hw2
  simp only at d0 d1 d2 d3
  clear hXs hXr hB1 hB2
  simp only [shpV, takeF]
  go_enter Tryz.func33, Tryz.ntmps33
  go_upto_region 1 with fail
  rw [← hw2]
  clear hw2
  go_region
  all_goals go_wp2
  all_goals go_end0
  all_goals exact ⟨rfl, HB2.out⟩
set_option maxRecDepth 100000 in
set_option maxHeartbeats 2000000 in
theorem eb_4_0 (bR bS : Nat) (pa : Option Addr) (pl pc : Nat) (w : World) :
    Calls Tryz.prog 33 #[shpV ⟨65536, 1114111, 0, pa, pl, pc⟩, .agg #[.int .i64 65, .int .i64 66], takeF bR bS] w fun e w' => e = .returned (.tuple #[]) ∧ Below w.heap.size w w' := by
  obtain ⟨w2, hw2⟩ : ∃ w2, w2 = (w.alloc (shpO ⟨65536, 1114111, 0, pa, pl, pc⟩)).alloc (rgOS 65 66) := ⟨_, rfl⟩
  have hB1 : Below w.heap.size w (w.alloc (shpO ⟨65536, 1114111, 0, pa, pl, pc⟩)) := (Below.refl _ w).alloc (Nat.le_refl _) _
  have hB2 : Below w.heap.size w w2.drew := by rw [hw2]; exact (hB1.alloc hB1.size _).trans ⟨rfl, rfl, rfl, Nat.le_refl _, fun _ _ => rfl⟩
  have hXs : w2.heap[w.heap.size]? = some (shpO ⟨65536, 1114111, 0, pa, pl, pc⟩) := by
    rw [hw2]
    exact rdO_keep (at_newS _ _) ((Below.refl _ _).alloc (Nat.le_refl _) _)
  have hXr : w2.heap[w.heap.size + 1]? = some (rgOS 65 66) := by
    have := at_newS (w.alloc (shpO ⟨65536, 1114111, 0, pa, pl, pc⟩)) (rgOS 65 66)
    rw [hw2]
    simpa using this
  obtain ⟨d0, d1, d2, d3⟩ := shp_cells hXs
  obtain ⟨f0, f1⟩ := rg_cellsS hXr
  have HB2 := hide hB2
  simp only [shpO, rgOS] at hw2
  simp only at d0 d1 d2 d3
  clear hXs hXr hB1 hB2
  simp only [shpV, takeF]
  go_enter Tryz.func33, Tryz.ntmps33
  go_upto_region 1 with fail
  rw [← hw2]
  clear hw2
  go_region
  all_goals go_wp2
  all_goals go_end0
  all_goals exact ⟨rfl, HB2.out⟩
set_option maxRecDepth 100000 in
set_option maxHeartbeats 2000000 in
theorem eb_4_1 (bR bS : Nat) (pa : Option Addr) (pl pc : Nat) (w : World) :
    Calls Tryz.prog 33 #[shpV ⟨65536, 1114111, 0, pa, pl, pc⟩, .agg #[.int .i64 233, .int .i64 233], takeF bR bS] w fun e w' => e = .returned (.tuple #[]) ∧ Below w.heap.size w w' := by
  obtain ⟨w2, hw2⟩ : ∃ w2, w2 = (w.alloc (shpO ⟨65536, 1114111, 0, pa, pl, pc⟩)).alloc (rgOS 233 233) := ⟨_, rfl⟩
  have hB1 : Below w.heap.size w (w.alloc (shpO ⟨65536, 1114111, 0, pa, pl, pc⟩)) := (Below.refl _ w).alloc (Nat.le_refl _) _
  have hB2 : Below w.heap.size w w2.drew := by rw [hw2]; exact (hB1.alloc hB1.size _).trans ⟨rfl, rfl, rfl, Nat.le_refl _, fun _ _ => rfl⟩
  have hXs : w2.heap[w.heap.size]? = some (shpO ⟨65536, 1114111, 0, pa, pl, pc⟩) := by
    rw [hw2]
    exact rdO_keep (at_newS _ _) ((Below.refl _ _).alloc (Nat.le_refl _) _)
  have hXr : w2.heap[w.heap.size + 1]? = some (rgOS 233 233) := by
    have := at_newS (w.alloc (shpO ⟨65536, 1114111, 0, pa, pl, pc⟩)) (rgOS 233 233)
    rw [hw2]
    simpa using this
  obtain ⟨d0, d1, d2, d3⟩ := shp_cells hXs
  obtain ⟨f0, f1⟩ := rg_cellsS hXr
  have HB2 := hide hB2
  simp only [shpO, rgOS] at hw2
  simp only at d0 d1 d2 d3
  clear hXs hXr hB1 hB2
  simp only [shpV, takeF]
  go_enter Tryz.func33, Tryz.ntmps33
  go_upto_region 1 with fail
  rw [← hw2]
  clear hw2
  go_region
  all_goals go_wp2
  all_goals go_end0
  all_goals exact ⟨rfl, HB2.out⟩

end Go.Proofs.YtljankfhnmcbaaaGreatDoor.SP
