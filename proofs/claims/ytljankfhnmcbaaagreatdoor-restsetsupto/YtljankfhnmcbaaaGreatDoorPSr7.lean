/- Roads: what eachBlock does, in general. -/
import Derived.Test.YtljankfhnmcbaaaGreatDoorPSr6
import Derived.Test.YtljankfhnmcbaaaGreatDoorKb
namespace Go.Proofs.YtljankfhnmcbaaaGreatDoor.SP
open Go.RowKit Go.PlainAid
set_option linter.unusedVariables false

def EbE (B bR : Nat) (S : ShP) (LL : List RL) (r : Int × Int) (w : World) (e : Ending) (w' : World) : Prop := e = .returned (.tuple #[]) ∧ ∃ M, EB S r M ∧ (∃ v us, RBx B w' bR (LL ++ M) v us) ∧ Below B w w' ∧ Kr bR w w'
set_option maxRecDepth 100000 in
set_option maxHeartbeats 4000000 in
theorem eachBlock_any (B bR bS g : Nat) (S : ShP) (hPt : ∀ p ∈ S.ps, okPt p) (hLen : 1 ≤ S.ps.length ∧ S.ps.length ≤ 4) (hLo : 0 ≤ S.first - S.less) (hHi : S.last - S.less < 2097152) (hS : 0 ≤ S.first ∧ S.last ≤ 1114111 ∧ 0 ≤ S.less ∧ S.less ≤ 65536) (r1 r2 : Int) (hr : 0 ≤ r1 ∧ r1 ≤ r2 ∧ r2 ≤ 1114111) (LL : List RL) (w : World) (hD : DSt B w bR bS g S LL) (hl : LL.length ≤ 9990000000) :
    Calls Tryz.prog 33 #[shpV (shpOf S g), .agg #[.int .i64 r1, .int .i64 r2], takeF bR bS] w fun e w' => EbE B bR S LL (r1, r2) w e w' := by
  have HD : Hid (∀ lo hi : Int, lo = max r1 S.first → hi = min r2 S.last → lo ≤ hi → ∀ W, Below w.heap.size w W → Calls Tryz.prog 63 #[shpV (shpOf S g), .int .i64 (lo - S.less), .int .i64 (hi - S.less), takeF bR bS] W fun e w' => EbE B bR S LL (r1, r2) w e w') := fun lo hi e1 e2 hle W hW => by
    refine (divide_any B bR bS g S hPt hLen hLo hHi _ (lo - S.less) (hi - S.less) rfl (by omega) (by omega) (by omega) LL W (hD.keep hW) (by omega)).mono ?_
    rintro e w' ⟨t1, L, t2, t3, t4, t5⟩
    exact ⟨t1, _, .inl ⟨by simp only; omega, L, by simp only; rw [← e1, ← e2]; exact t2, rfl⟩, t3, (hW.mono hD.lo).trans t4, (Kr.below hW).trans t5⟩
  have HNo : Hid (∀ lo hi : Int, lo = max r1 S.first → hi = min r2 S.last → ¬ lo ≤ hi → ∀ W, Below w.heap.size w W → EbE B bR S LL (r1, r2) w (.returned (.tuple #[])) W) := fun lo hi e1 e2 hle W hW => by
    obtain ⟨v, us, h1⟩ := hD.rbx
    exact ⟨rfl, [], .inr ⟨by simp only; omega, rfl⟩, ⟨v, us, by rw [List.append_nil]; exact h1.keep hW⟩, hW.mono hD.lo, Kr.below hW⟩
  obtain ⟨s, hs⟩ : ∃ s : Shp, s = shpOf S g := ⟨_, rfl⟩
  rw [← hs] at HD ⊢
  obtain ⟨first, last, less, pa, pl, pc⟩ := s
  have g1 : S.first = first := by have := congrArg Shp.first hs; exact this.symm
  have g2 : S.last = last := by have := congrArg Shp.last hs; exact this.symm
  have g3 : S.less = less := by have := congrArg Shp.less hs; exact this.symm
  rw [g1, g2, g3] at HD
  rw [g1, g2] at HNo
  rw [g1, g2, g3] at hS
  clear hs g1 g2 g3 hD hPt hLen hLo hHi hl
  obtain ⟨w2, hw2⟩ : ∃ w2, w2 = (w.alloc (shpO ⟨first, last, less, pa, pl, pc⟩)).alloc (rgOS r1 r2) := ⟨_, rfl⟩
  have hB1 : Below w.heap.size w (w.alloc (shpO ⟨first, last, less, pa, pl, pc⟩)) := (Below.refl _ w).alloc (Nat.le_refl _) _
  have hB2 : Below w.heap.size w w2.drew := by rw [hw2]; exact (hB1.alloc hB1.size _).trans ⟨rfl, rfl, rfl, Nat.le_refl _, fun _ _ => rfl⟩
  have hXs : w2.heap[w.heap.size]? = some (shpO ⟨first, last, less, pa, pl, pc⟩) := by
    rw [hw2]
    exact rdO_keep (at_newS _ _) ((Below.refl _ _).alloc (Nat.le_refl _) _)
  have hXr : w2.heap[w.heap.size + 1]? = some (rgOS r1 r2) := by
    have := at_newS (w.alloc (shpO ⟨first, last, less, pa, pl, pc⟩)) (rgOS r1 r2)
    rw [hw2]
    simpa using this
  obtain ⟨d0, d1, d2, d3⟩ := shp_cells hXs
  obtain ⟨f0, f1⟩ := rg_cellsS hXr
  have HB2 := hide hB2
  simp only [shpO, rgOS] at hw2
  simp only at d0 d1 d2 d3
  clear hXs hXr hB1 hB2
  simp only [shpV, takeF] at HD ⊢
  go_enter Tryz.func33, Tryz.ntmps33
  go_upto_region 1 with fail
  rw [← hw2]
  clear hw2
  by_cases c1 : r1 < first
  · by_cases c2 : last < r2
    · by_cases c3 : first ≤ last
      · have v1 : IntKind.i64.wrap (first - less) = first - less := by rw [IntKind.wrap_i64]; omega
        have v2 : IntKind.i64.wrap (last - less) = last - less := by rw [IntKind.wrap_i64]; omega
        have HC := hide (HD.out first last (by omega) (by omega) c3)
        clear HD HNo
        go_region
        all_goals go_wp2_with fail
        all_goals refine (HC.out _ HB2.out).mono ?_
        all_goals rintro e w5 hT5
        all_goals have he := hT5.1
        all_goals subst he
        all_goals have HF := hide hT5
        all_goals clear hT5
        all_goals go_wp2
        all_goals go_end0
        all_goals exact HF.out
      · have HC := hide (HNo.out first last (by omega) (by omega) c3)
        clear HD HNo
        go_region
        all_goals go_wp2
        all_goals go_end0
        all_goals exact HC.out _ HB2.out
    · by_cases c3 : first ≤ r2
      · have v1 : IntKind.i64.wrap (first - less) = first - less := by rw [IntKind.wrap_i64]; omega
        have v2 : IntKind.i64.wrap (r2 - less) = r2 - less := by rw [IntKind.wrap_i64]; omega
        have HC := hide (HD.out first r2 (by omega) (by omega) c3)
        clear HD HNo
        go_region
        all_goals go_wp2_with fail
        all_goals refine (HC.out _ HB2.out).mono ?_
        all_goals rintro e w5 hT5
        all_goals have he := hT5.1
        all_goals subst he
        all_goals have HF := hide hT5
        all_goals clear hT5
        all_goals go_wp2
        all_goals go_end0
        all_goals exact HF.out
      · have HC := hide (HNo.out first r2 (by omega) (by omega) c3)
        clear HD HNo
        go_region
        all_goals go_wp2
        all_goals go_end0
        all_goals exact HC.out _ HB2.out
  · by_cases c2 : last < r2
    · by_cases c3 : r1 ≤ last
      · have v1 : IntKind.i64.wrap (r1 - less) = r1 - less := by rw [IntKind.wrap_i64]; omega
        have v2 : IntKind.i64.wrap (last - less) = last - less := by rw [IntKind.wrap_i64]; omega
        have HC := hide (HD.out r1 last (by omega) (by omega) c3)
        clear HD HNo
        go_region
        all_goals go_wp2_with fail
        all_goals refine (HC.out _ HB2.out).mono ?_
        all_goals rintro e w5 hT5
        all_goals have he := hT5.1
        all_goals subst he
        all_goals have HF := hide hT5
        all_goals clear hT5
        all_goals go_wp2
        all_goals go_end0
        all_goals exact HF.out
      · have HC := hide (HNo.out r1 last (by omega) (by omega) c3)
        clear HD HNo
        go_region
        all_goals go_wp2
        all_goals go_end0
        all_goals exact HC.out _ HB2.out
    · obtain ⟨hr0, c3, hr2⟩ := hr
      have v1 : IntKind.i64.wrap (r1 - less) = r1 - less := by rw [IntKind.wrap_i64]; omega
      have v2 : IntKind.i64.wrap (r2 - less) = r2 - less := by rw [IntKind.wrap_i64]; omega
      have HC := hide (HD.out r1 r2 (by omega) (by omega) c3)
      clear HD HNo
      go_region
      all_goals go_wp2_with fail
      all_goals refine (HC.out _ HB2.out).mono ?_
      all_goals rintro e w5 hT5
      all_goals have he := hT5.1
      all_goals subst he
      all_goals have HF := hide hT5
      all_goals clear hT5
      all_goals go_wp2
      all_goals go_end0
      all_goals exact HF.out

end Go.Proofs.YtljankfhnmcbaaaGreatDoor.SP
