/- What checkRepeat, counts and number answer. -/
import Derived.Test.YtpcohmbipbiglaaDoorNfld
namespace Go.Proofs.YtpcohmbipbiglaaDoor
open Go.RowKit
set_option linter.unusedVariables false

theorem must_yes (k : Int) (w : World) : Calls Tryd.prog 42 #[.bool true, .int .i64 k] w fun e w' => e = .returned (.tuple #[]) ∧ w = w' := must_any true k w
theorem must_no (k : Int) (w : World) : Calls Tryd.prog 42 #[.bool false, .int .i64 k] w fun e w' => e = gives k ∧ w = w' := must_any false k w

set_option maxRecDepth 100000 in
set_option maxHeartbeats 4000000 in
theorem checkRepeat_any (n : NV) (t : Tr) (w : World) (h : NodeC w n t) : Calls Tryd.prog 46 #[nvV n] w fun e w' => e = mustE (repE t) ∧ Below w.heap.size w w' := by
  obtain ⟨-, -, k2, k3, k4, -⟩ := h.open
  have hb : Below w.heap.size w (w.alloc (nvO n)) := (Below.refl _ _).alloc (Nat.le_refl _) _
  obtain ⟨w1, hw1⟩ : ∃ w1, w1 = w.alloc (nvO n) := ⟨_, rfl⟩
  have hbox : w1.heap[w.heap.size]? = some (nvO n) := by rw [hw1]; exact at_new _ _
  rw [← hw1] at hb
  have HB := hide hb
  obtain ⟨d0, d1, d2, d3, d4, d5, d6, d7⟩ := nv_cells hbox
  simp only [nvO] at hw1
  have HE : Hid (repE t = if ¬ (0 ≤ n.least ∧ n.least ≤ 100) then 3 else if ¬ (n.most = -1 ∨ (n.least ≤ n.most ∧ n.most ≤ 100)) then 3 else if ¬ (1 ≤ n.way ∧ n.way ≤ 3) then 7 else 0) := by show _ = _; unfold repE; rw [k2, k3, k4]
  have HY := hide (fun k => must_yes k w1)
  have HN : Hid (∀ k, Calls Tryd.prog 42 #[.bool false, .int .i64 k] w1 fun e w' => e = .panicked [{ v := .iface 26 (.int .i64 k), recovered := false }] ∧ w1 = w') := fun k => must_no k w1
  obtain ⟨A, hA⟩ : ∃ A, A = repE t := ⟨_, rfl⟩
  rw [← hA] at HE ⊢
  clear h k2 k3 k4 hA hbox hb
  by_cases h1 : 0 ≤ n.least ∧ n.least ≤ 100
  · obtain ⟨a1, a2⟩ := h1
    by_cases h2 : n.most = -1 ∨ (n.least ≤ n.most ∧ n.most ≤ 100)
    · by_cases h3 : 1 ≤ n.way ∧ n.way ≤ 3
      · have hF : Hid (A = 0) := by show _ = _; rw [HE.out, if_neg (by omega), if_neg (by omega), if_neg (by omega)]
        obtain ⟨c1, c2⟩ := h3
        rw [hF.out]
        simp only [mustE, if_true]
        by_cases h4 : n.most = -1
        · have b4 : (n.most == -1) = true := by simpa using h4
          clear h2 h4
          go_enter Tryd.func46, Tryd.ntmps46
          go_wp2_with fail
          rw [← hw1]
          clear hw1
          refine (HY.out 3).mono ?_
          rintro e w' ⟨rfl, rfl⟩
          go_wp2_with fail
          refine (HY.out 3).mono ?_
          rintro e w' ⟨rfl, rfl⟩
          go_wp2_with fail
          refine (HY.out 7).mono ?_
          rintro e w' ⟨rfl, rfl⟩
          go_wp2
          go_end0
          exact ⟨rfl, HB.out⟩
        · have b4 : (n.most == -1) = false := by simpa using h4
          have c3 : n.least ≤ n.most := by omega
          have c4 : n.most ≤ 100 := by omega
          clear h2 h4
          go_enter Tryd.func46, Tryd.ntmps46
          go_wp2_with fail
          rw [← hw1]
          clear hw1
          refine (HY.out 3).mono ?_
          rintro e w' ⟨rfl, rfl⟩
          go_wp2_with fail
          refine (HY.out 3).mono ?_
          rintro e w' ⟨rfl, rfl⟩
          go_wp2_with fail
          refine (HY.out 7).mono ?_
          rintro e w' ⟨rfl, rfl⟩
          go_wp2
          go_end0
          exact ⟨rfl, HB.out⟩
      · have hF : Hid (A = 7) := by show _ = _; rw [HE.out, if_neg (by omega), if_neg (by omega), if_pos h3]
        rw [hF.out]
        simp only [mustE, gives]
        rw [if_neg (by decide)]
        by_cases h4 : n.most = -1
        · have b4 : (n.most == -1) = true := by simpa using h4
          clear h2 h4
          by_cases g1 : 1 ≤ n.way
          · have g2 : decide (n.way ≤ 3) = false := decide_eq_false (by omega)
            clear h3
            go_enter Tryd.func46, Tryd.ntmps46
            go_wp2_with fail
            rw [← hw1]
            clear hw1
            refine (HY.out 3).mono ?_
            rintro e w' ⟨rfl, rfl⟩
            go_wp2_with fail
            refine (HY.out 3).mono ?_
            rintro e w' ⟨rfl, rfl⟩
            go_wp2_with fail
            refine (HN.out 7).mono ?_
            rintro e w' ⟨rfl, rfl⟩
            go_wp2
            exact ⟨rfl, rfl, HB.out⟩
          · clear h3
            go_enter Tryd.func46, Tryd.ntmps46
            go_wp2_with fail
            rw [← hw1]
            clear hw1
            refine (HY.out 3).mono ?_
            rintro e w' ⟨rfl, rfl⟩
            go_wp2_with fail
            refine (HY.out 3).mono ?_
            rintro e w' ⟨rfl, rfl⟩
            go_wp2_with fail
            refine (HN.out 7).mono ?_
            rintro e w' ⟨rfl, rfl⟩
            go_wp2
            exact ⟨rfl, rfl, HB.out⟩
        · have b4 : (n.most == -1) = false := by simpa using h4
          have c3 : n.least ≤ n.most := by omega
          have c4 : n.most ≤ 100 := by omega
          clear h2 h4
          by_cases g1 : 1 ≤ n.way
          · have g2 : decide (n.way ≤ 3) = false := decide_eq_false (by omega)
            clear h3
            go_enter Tryd.func46, Tryd.ntmps46
            go_wp2_with fail
            rw [← hw1]
            clear hw1
            refine (HY.out 3).mono ?_
            rintro e w' ⟨rfl, rfl⟩
            go_wp2_with fail
            refine (HY.out 3).mono ?_
            rintro e w' ⟨rfl, rfl⟩
            go_wp2_with fail
            refine (HN.out 7).mono ?_
            rintro e w' ⟨rfl, rfl⟩
            go_wp2
            exact ⟨rfl, rfl, HB.out⟩
          · clear h3
            go_enter Tryd.func46, Tryd.ntmps46
            go_wp2_with fail
            rw [← hw1]
            clear hw1
            refine (HY.out 3).mono ?_
            rintro e w' ⟨rfl, rfl⟩
            go_wp2_with fail
            refine (HY.out 3).mono ?_
            rintro e w' ⟨rfl, rfl⟩
            go_wp2_with fail
            refine (HN.out 7).mono ?_
            rintro e w' ⟨rfl, rfl⟩
            go_wp2
            exact ⟨rfl, rfl, HB.out⟩
    · have hF : Hid (A = 3) := by show _ = _; rw [HE.out, if_neg (by omega), if_pos h2]
      rw [hF.out]
      simp only [mustE, gives]
      rw [if_neg (by decide)]
      have b4 : (n.most == -1) = false := by simp only [beq_eq_false_iff_ne, ne_eq]; omega
      by_cases g1 : n.least ≤ n.most
      · have g2 : decide (n.most ≤ 100) = false := decide_eq_false (by omega)
        clear h2
        go_enter Tryd.func46, Tryd.ntmps46
        go_wp2_with fail
        rw [← hw1]
        clear hw1
        refine (HY.out 3).mono ?_
        rintro e w' ⟨rfl, rfl⟩
        go_wp2_with fail
        refine (HN.out 3).mono ?_
        rintro e w' ⟨rfl, rfl⟩
        go_wp2
        exact ⟨rfl, rfl, HB.out⟩
      · clear h2
        go_enter Tryd.func46, Tryd.ntmps46
        go_wp2_with fail
        rw [← hw1]
        clear hw1
        refine (HY.out 3).mono ?_
        rintro e w' ⟨rfl, rfl⟩
        go_wp2_with fail
        refine (HN.out 3).mono ?_
        rintro e w' ⟨rfl, rfl⟩
        go_wp2
        exact ⟨rfl, rfl, HB.out⟩
  · have hF : Hid (A = 3) := by show _ = _; rw [HE.out, if_pos h1]
    rw [hF.out]
    simp only [mustE, gives]
    rw [if_neg (by decide)]
    by_cases g1 : 0 ≤ n.least
    · have g2 : decide (n.least ≤ 100) = false := decide_eq_false (by omega)
      clear h1
      go_enter Tryd.func46, Tryd.ntmps46
      go_wp2_with fail
      rw [← hw1]
      clear hw1
      refine (HN.out 3).mono ?_
      rintro e w' ⟨rfl, rfl⟩
      go_wp2
      exact ⟨rfl, rfl, HB.out⟩
    · clear h1
      go_enter Tryd.func46, Tryd.ntmps46
      go_wp2_with fail
      rw [← hw1]
      clear hw1
      refine (HN.out 3).mono ?_
      rintro e w' ⟨rfl, rfl⟩
      go_wp2
      exact ⟨rfl, rfl, HB.out⟩

end Go.Proofs.YtpcohmbipbiglaaDoor
