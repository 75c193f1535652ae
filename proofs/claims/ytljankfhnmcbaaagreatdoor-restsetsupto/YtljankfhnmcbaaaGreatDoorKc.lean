/- Roads: the two roads that splitBegun tries are sorted. -/
import Derived.Test.YtljankfhnmcbaaaGreatDoorKb
namespace Go.Proofs.YtljankfhnmcbaaaGreatDoor.SP
open Go.RowKit Go.PlainAid
set_option linter.unusedVariables false

set_option maxRecDepth 100000 in
set_option maxHeartbeats 2000000 in
theorem less_any (a b c d : Int) (w : World) (h1 : 0 ≤ a ∧ a ≤ 255) (h2 : 0 ≤ c ∧ c ≤ 255) : Calls Tryz.prog 39 #[.agg #[.int .i64 a, .int .i64 b], .agg #[.int .i64 c, .int .i64 d]] w fun e w' => e = .returned (.int .i64 (a - c)) ∧ Below w.heap.size w w' := by
  obtain ⟨w2, hw2⟩ : ∃ w2, w2 = (w.alloc (rgOS a b)).alloc (rgOS c d) := ⟨_, rfl⟩
  have hB1 : Below w.heap.size w (w.alloc (rgOS a b)) := (Below.refl _ w).alloc (Nat.le_refl _) _
  have hB2 : Below w.heap.size w w2 := by rw [hw2]; exact hB1.alloc hB1.size _
  have hXs : w2.heap[w.heap.size]? = some (rgOS a b) := by
    rw [hw2]
    exact rdO_keep (at_newS _ _) ((Below.refl _ _).alloc (Nat.le_refl _) _)
  have hXr : w2.heap[w.heap.size + 1]? = some (rgOS c d) := by
    have := at_newS (w.alloc (rgOS a b)) (rgOS c d)
    rw [hw2]
    simpa using this
  obtain ⟨d0, d1⟩ := rg_cellsS hXs
  obtain ⟨f0, f1⟩ := rg_cellsS hXr
  have HB2 := hide hB2
  have hw : IntKind.i64.wrap (a - c) = a - c := by rw [IntKind.wrap_i64]; omega
  simp only [rgOS] at hw2
  clear hXs hXr hB1 hB2
  go_enter Tryz.func39, Tryz.ntmps39
  go_upto_region 1 with fail
  rw [← hw2]
  clear hw2
  go_wp2
  go_ret
  exact ⟨by first | rfl | (simp; omega) | (have := hw; go_num), HB2.out⟩
/-- two roads, as slices of their own. -/
structure Two (w : World) (g0 g1 : Nat) : Prop where
  r0 : w.heap[g0]? = some (rdO [(65, 66)] 0)
  r1 : w.heap[g1]? = some (rdO [(195, 195), (169, 169)] 0)
theorem Two.keep {w w' : World} {g0 g1 : Nat} (h : Two w g0 g1) (hb : Below w.heap.size w w') : Two w' g0 g1 := ⟨rdO_keep h.r0 hb, rdO_keep h.r1 hb⟩
theorem rd_cell {w : World} {g : Nat} {a b : Int} {L : RL} (h : w.heap[g]? = some (rdO ((a, b) :: L) 0)) : w.cell? ⟨g, 0, none⟩ = some (.int .i64 a) ∧ w.cell? ⟨g, 1, none⟩ = some (.int .i64 b) := by
  constructor <;> simp [World.cell?, h, rdO, rowR]
set_option maxRecDepth 100000 in
set_option maxHeartbeats 4000000 in
theorem compare_any (g0 g1 : Nat) (w : World) (h : Two w g0 g1) : Calls Tryz.prog 38 #[.slice (some ⟨g1, 0, none⟩) 2 2, .slice (some ⟨g0, 0, none⟩) 1 1, .func (.func 39) #[] #[]] w fun e w' => e = .returned (.int .i64 130) ∧ Below w.heap.size w w' := by
  obtain ⟨m0, m1⟩ := rd_cell h.r1
  obtain ⟨w1, hw1⟩ : ∃ w1, w1 = w.alloc (rgOS 195 195) := ⟨_, rfl⟩
  have hX1 : w1.heap[w.heap.size]? = some (rgOS 195 195) := by rw [hw1]; exact at_newS _ _
  have hB1 : Below w.heap.size w w1 := by rw [hw1]; exact (Below.refl _ w).alloc (Nat.le_refl _) _
  obtain ⟨q0, q1⟩ := rd_cell (h.keep hB1).r0
  obtain ⟨w2, hw2⟩ : ∃ w2, w2 = w1.alloc (rgOS 65 66) := ⟨_, rfl⟩
  have hX2 : w2.heap[w1.heap.size]? = some (rgOS 65 66) := by rw [hw2]; exact at_newS _ _
  have hB2 : Below w1.heap.size w1 w2 := by rw [hw2]; exact (Below.refl _ w1).alloc (Nat.le_refl _) _
  have hX12 := rdO_keep hX1 hB2
  obtain ⟨d0, d1⟩ := rg_cellsS hX12
  obtain ⟨f0, f1⟩ := rg_cellsS hX2
  have HB2 := hide (hB1.trans (hB2.mono hB1.size))
  have HL := hide (less_any 195 195 65 66 w2 (by omega) (by omega))
  obtain ⟨b1, hb1⟩ : ∃ b1, b1 = w.heap.size := ⟨_, rfl⟩
  obtain ⟨b2, hb2⟩ : ∃ b2, b2 = w1.heap.size := ⟨_, rfl⟩
  rw [← hb1] at d0 d1
  rw [← hb2] at f0 f1
  simp only [rgOS] at hw1 hw2
  clear h hX1 hX2 hX12 hB1 hB2
  go_enter Tryz.func38, Tryz.ntmps38
  go_wp2
  go_loopw [13] (fun q wr => q = .int .i64 0 ∧ wr = w) (fun _ _ => 0)
  case atStart => exact ⟨rfl, rfl⟩
  case round =>
    obtain ⟨rfl, hwr⟩ := hrel
    have hwr2 := hwr.symm
    subst hwr2
    go_upto_region 4 with fail
    rw [← hw1, ← hb1]
    clear hw1 hb1 m0 m1
    go_upto_region 7 with fail
    rw [← hw2, ← hb2]
    clear hw2 hb2 q0 q1
    go_wp2_with fail
    refine HL.out.mono ?_
    rintro e w3 ⟨rfl, hb3⟩
    have HB3 := hide (HB2.out.trans (hb3.mono HB2.out.size))
    clear hb3 HL d0 d1 f0 f1
    go_wp2
    go_ret
    exact ⟨rfl, HB3.out⟩
set_option maxRecDepth 100000 in
theorem cmp_any (g0 g1 : Nat) (w : World) (h : Two w g0 g1) : Calls Tryz.prog 37 #[.slice (some ⟨g1, 0, none⟩) 2 2, .slice (some ⟨g0, 0, none⟩) 1 1] w fun e w' => e = .returned (.int .i64 130) ∧ Below w.heap.size w w' := by
  have HC := hide (compare_any g0 g1 w h)
  clear h
  go_enter Tryz.func37, Tryz.ntmps37
  go_wp2_with fail
  refine HC.out.mono ?_
  rintro e w3 ⟨rfl, hb3⟩
  have HB3 := hide hb3
  clear hb3 HC
  go_wp2
  go_ret
  exact ⟨rfl, HB3.out⟩
/-- the row of the two roads. -/
structure Row2 (w : World) (gr g0 g1 : Nat) : Prop where
  c0 : w.cell? ⟨gr, 0, none⟩ = some (.slice (some ⟨g0, 0, none⟩) 1 1)
  c1 : w.cell? ⟨gr, 1, none⟩ = some (.slice (some ⟨g1, 0, none⟩) 2 2)
  two : Two w g0 g1
theorem Row2.keep {w w' : World} {gr g0 g1 : Nat} (h : Row2 w gr g0 g1) (hb : Below w.heap.size w w') : Row2 w' gr g0 g1 := ⟨below_cell hb (lt_of_cell h.c0) h.c0, below_cell hb (lt_of_cell h.c1) h.c1, h.two.keep hb⟩
set_option maxRecDepth 100000 in
set_option maxHeartbeats 8000000 in
theorem isort_any (gr g0 g1 c : Nat) (w : World) (h : Row2 w gr g0 g1) : Calls Tryz.prog 81 #[.slice (some ⟨gr, 0, none⟩) 2 c, .int .i64 0, .int .i64 2, .func (.func 37) #[] #[]] w fun e w' => e = .returned (.tuple #[]) ∧ Below w.heap.size w w' := by
  have HR := hide h
  clear h
  go_enter Tryz.func81, Tryz.ntmps81
  go_wp2
  go_loopw [8] (fun q wr => ∃ i : Nat, (i = 1 ∨ i = 2) ∧ q = .int .i64 i ∧ Below w.heap.size w wr) (fun q _ => 2 - (intOf q).toNat)
  case atStart => exact ⟨1, .inl rfl, rfl, Below.refl _ _⟩
  case round =>
    obtain ⟨i, hi, rfl, hb⟩ := hrel
    obtain ⟨w3, hw3⟩ : ∃ w3, w3 = wr := ⟨_, rfl⟩
    subst hw3
    have HB := hide hb
    clear hb
    rcases hi with rfl | rfl
    · go_wp2
      go_loopw [9] (fun q wr => q = .int .i64 1 ∧ wr = w3) (fun _ _ => 0)
      case atStart => exact ⟨rfl, rfl⟩
      case round =>
        obtain ⟨rfl, hwr⟩ := hrel
        have hwr2 := hwr.symm
        subst hwr2
        have hR3 := (HR.out.keep HB.out)
        have HBc : Hid (Below w3.heap.size w3 w3.drew) := ⟨rfl, rfl, rfl, Nat.le_refl _, fun _ _ => rfl⟩
        have hRd := hR3.keep HBc.out
        have c0 := hRd.c0
        have c1 := hRd.c1
        have HC := hide (cmp_any g0 g1 w3.drew hRd.two)
        clear hR3 hRd
        go_upto_region 4 with fail
        refine wp_region_any (by kernel_rfl) ?_
        change wpAny _ _ _ _ _ _ _ (World.drew _)
        refine wpAny_take (i := 0) (v := .int .i64 1) rfl (by kernel_rfl) (by kernel_rfl) (by kernel_rfl) (fun _ _ _ h => h) (Or.inl ⟨by kernel_rfl, fun w => ?_⟩) ?_
        · (go_simp <;> decide)
        refine wpAny_take (i := 1) (v := .int .i64 0) rfl (by kernel_rfl) (by kernel_rfl) (by kernel_rfl) (fun _ _ _ h => h) (Or.inl ⟨by kernel_rfl, fun w => ?_⟩) ?_
        · (go_simp <;> decide)
        refine wpAny_take (i := 2) (v := .bool true) rfl (by kernel_rfl) (by kernel_rfl) (by kernel_rfl) (fun _ _ _ h => h) (Or.inl ⟨by kernel_rfl, fun w => ?_⟩) ?_
        · (go_simp <;> decide)
        refine wpAny_take (i := 3) (v := .bool true) rfl (by kernel_rfl) (by kernel_rfl) (by kernel_rfl) (fun _ _ _ h => h) (Or.inl ⟨by kernel_rfl, fun w => ?_⟩) ?_
        · (go_simp <;> decide)
        refine wpAny_take (i := 4) (v := .func (.func 37) #[] #[]) rfl (by kernel_rfl) (by kernel_rfl) (by kernel_rfl) (fun _ _ _ h => h) (Or.inl ⟨by kernel_rfl, fun w => ?_⟩) ?_
        · (go_simp <;> decide)
        refine wpAny_take (i := 5) (v := .slice (some ⟨gr, 0, none⟩) 2 c) rfl (by kernel_rfl) (by kernel_rfl) (by kernel_rfl) (fun _ _ _ h => h) (Or.inl ⟨by kernel_rfl, fun w => ?_⟩) ?_
        · (go_simp <;> decide)
        refine wpAny_take (i := 6) (v := .int .i64 1) rfl (by kernel_rfl) (by kernel_rfl) (by kernel_rfl) (fun _ _ _ h => h) (Or.inl ⟨by kernel_rfl, fun w => ?_⟩) ?_
        · (go_simp <;> decide)
        refine wpAny_take (i := 7) (v := .pointer (some ⟨gr, 1, none⟩)) rfl (by kernel_rfl) (by kernel_rfl) (by kernel_rfl) (fun _ _ _ h => h) (Or.inl ⟨by kernel_rfl, fun w => ?_⟩) ?_
        · (go_simp <;> decide)
        refine wpAny_take (i := 9) (v := .slice (some ⟨gr, 0, none⟩) 2 c) rfl (by kernel_rfl) (by kernel_rfl) (by kernel_rfl) (fun _ _ _ h => h) (Or.inl ⟨by kernel_rfl, fun w => ?_⟩) ?_
        · (go_simp <;> decide)
        refine wpAny_take (i := 10) (v := .int .i64 1) rfl (by kernel_rfl) (by kernel_rfl) (by kernel_rfl) (fun _ _ _ h => h) (Or.inl ⟨by kernel_rfl, fun w => ?_⟩) ?_
        · (go_simp <;> decide)
        refine wpAny_take (i := 11) (v := .int .i64 0) rfl (by kernel_rfl) (by kernel_rfl) (by kernel_rfl) (fun _ _ _ h => h) (Or.inl ⟨by kernel_rfl, fun w => ?_⟩) ?_
        · (go_simp <;> decide)
        refine wpAny_take (i := 12) (v := .pointer (some ⟨gr, 0, none⟩)) rfl (by kernel_rfl) (by kernel_rfl) (by kernel_rfl) (fun _ _ _ h => h) (Or.inl ⟨by kernel_rfl, fun w => ?_⟩) ?_
        · (go_simp <;> decide)
        refine wpAny_ready (rs := [8, 13]) (by kernel_rfl) (by simp) ?_
        refine AllReady.cons rfl (fun K hK => ?_) (AllReady.cons rfl (fun K hK => ?_) AllReady.nil)
        · go_simp
          try (refine hK _ _ ?_; clear hK K)
          refine wpAny_ready (rs := [13]) (by kernel_rfl) (by simp) ?_
          refine AllReady.cons rfl (fun K hK => ?_) AllReady.nil
          go_simp
          try (refine hK _ _ ?_; clear hK K)
          refine wpAny_ready (rs := [14]) (by kernel_rfl) (by simp) ?_
          refine AllReady.cons rfl (fun K hK => ?_) AllReady.nil
          go_simp
          go_wp2_with (go_at_call 37; refine HC.out.mono ?_; rintro e w5 ⟨rfl, hb5⟩; have HB5 := hide (HB.out.trans ((HBc.out.trans hb5).mono HB.out.size)); clear hb5 c0 c1)
          try (refine hK _ _ ?_; clear hK K)
          refine wpAny_take (i := 15) (v := .bool false) rfl (by kernel_rfl) (by kernel_rfl) (by kernel_rfl) (fun _ _ _ h => h) (Or.inl ⟨by kernel_rfl, fun w => ?_⟩) ?_
          · go_simp
          refine wpAny_take (i := 16) (v := .bool false) rfl (by kernel_rfl) (by kernel_rfl) (by kernel_rfl) (fun _ _ _ h => h) (Or.inl ⟨by kernel_rfl, fun w => ?_⟩) ?_
          · go_simp
          refine wpAny_done (by kernel_rfl) ?_ _
          go_wp2
          go_roundw
          case rel => exact ⟨2, .inr rfl, by go_num, HB5.out⟩
          case measure => simp [intOf]
        · go_simp
          try (refine hK _ _ ?_; clear hK K)
          refine wpAny_ready (rs := [8]) (by kernel_rfl) (by simp) ?_
          refine AllReady.cons rfl (fun K hK => ?_) AllReady.nil
          go_simp
          try (refine hK _ _ ?_; clear hK K)
          refine wpAny_ready (rs := [14]) (by kernel_rfl) (by simp) ?_
          refine AllReady.cons rfl (fun K hK => ?_) AllReady.nil
          go_simp
          go_wp2_with (go_at_call 37; refine HC.out.mono ?_; rintro e w5 ⟨rfl, hb5⟩; have HB5 := hide (HB.out.trans ((HBc.out.trans hb5).mono HB.out.size)); clear hb5 c0 c1)
          try (refine hK _ _ ?_; clear hK K)
          refine wpAny_take (i := 15) (v := .bool false) rfl (by kernel_rfl) (by kernel_rfl) (by kernel_rfl) (fun _ _ _ h => h) (Or.inl ⟨by kernel_rfl, fun w => ?_⟩) ?_
          · go_simp
          refine wpAny_take (i := 16) (v := .bool false) rfl (by kernel_rfl) (by kernel_rfl) (by kernel_rfl) (fun _ _ _ h => h) (Or.inl ⟨by kernel_rfl, fun w => ?_⟩) ?_
          · go_simp
          refine wpAny_done (by kernel_rfl) ?_ _
          go_wp2
          go_roundw
          case rel => exact ⟨2, .inr rfl, by go_num, HB5.out⟩
          case measure => simp [intOf]
    · go_wp2
      go_end0
      exact ⟨rfl, HB.out⟩

end Go.Proofs.YtljankfhnmcbaaaGreatDoor.SP

namespace Go.Proofs.YtljankfhnmcbaaaGreatDoor.SP
open Go.RowKit Go.PlainAid
set_option linter.unusedVariables false

set_option maxRecDepth 100000 in
set_option maxHeartbeats 4000000 in
theorem pdq_any (gr g0 g1 c : Nat) (lim : Int) (w : World) (h : Row2 w gr g0 g1) : Calls Tryz.prog 65 #[.slice (some ⟨gr, 0, none⟩) 2 c, .int .i64 0, .int .i64 2, .int .i64 lim, .func (.func 37) #[] #[]] w fun e w' => e = .returned (.tuple #[]) ∧ Below w.heap.size w w' := by
  have HI := hide (isort_any gr g0 g1 c w h)
  clear h
  go_enter Tryz.func65, Tryz.ntmps65
  go_wp2
  go_loopw [1, 2] (fun a b wr => a = .int .i64 0 ∧ b = .int .i64 2 ∧ wr = w) (fun _ _ _ => 0)
  case atStart => exact ⟨rfl, rfl, rfl⟩
  case round =>
    obtain ⟨rfl, rfl, hwr⟩ := hrel
    have hwr2 := hwr.symm
    subst hwr2
    go_wp2_with fail
    refine HI.out.mono ?_
    rintro e w3 ⟨rfl, hb3⟩
    have HB3 := hide hb3
    clear hb3 HI
    go_wp2
    try simp only [Exit.inBlock, Exit.then]
    refine bodyPost_ret (results_none rfl _ _ _) rfl ?_
    exact ⟨rfl, HB3.out⟩
set_option maxRecDepth 100000 in
set_option maxHeartbeats 4000000 in
theorem sort_any (gr g0 g1 c : Nat) (w : World) (h : Row2 w gr g0 g1) : Calls Tryz.prog 36 #[.slice (some ⟨gr, 0, none⟩) 2 c, .func (.func 37) #[] #[]] w fun e w' => e = .returned (.tuple #[]) ∧ Below w.heap.size w w' := by
  have HI := hide (fun lim => pdq_any gr g0 g1 c lim w h)
  clear h
  go_enter Tryz.func36, Tryz.ntmps36
  go_wp2_with (first | (go_at_call 65; refine (HI.out _).mono ?_; rintro e w3 ⟨rfl, hb3⟩; have HB3 := hide hb3; clear hb3) | go_in)
  go_end0
  exact ⟨rfl, HB3.out⟩

end Go.Proofs.YtljankfhnmcbaaaGreatDoor.SP
