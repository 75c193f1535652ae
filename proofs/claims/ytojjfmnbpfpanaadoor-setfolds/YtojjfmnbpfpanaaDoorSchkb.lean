/- What Check, and the reference's checks answer. -/
import Derived.Test.YtojjfmnbpfpanaaDoorSchk
namespace Go.Proofs.YtojjfmnbpfpanaaDoor
open Go.RowKit
set_option linter.unusedVariables false


set_option maxRecDepth 100000 in
theorem isR_yes (p : Int) (w : World) (h0 : 0 ≤ p) (h1 : p ≤ 1114111) : Calls Tryd.prog 40 #[.int .i64 p] w fun e w' => e = .returned (.bool true) ∧ w' = w :=
  (isR_any p w).mono fun e w' ⟨h, k⟩ => ⟨by rw [h]; simp [h0, h1], k.symm⟩
set_option maxRecDepth 100000 in
theorem isR_no (p : Int) (w : World) (h : ¬ (0 ≤ p ∧ p ≤ 1114111)) : Calls Tryd.prog 40 #[.int .i64 p] w fun e w' => e = .returned (.bool false) ∧ w' = w :=
  (isR_any p w).mono fun e w' ⟨he, k⟩ => ⟨by rw [he, show decide (0 ≤ p ∧ p ≤ 1114111) = false from by simpa using h], k.symm⟩

set_option maxRecDepth 100000 in
set_option maxHeartbeats 4000000 in
theorem rightRanges_any (v : Value) (L : RL) (w : World) (hv : Reads w v L) : Calls Tryd.prog 19 #[v] w fun e w' => e = .returned (.int .i64 (rightE L)) ∧ Below w.heap.size w w' := by
  by_cases hl : 400 < L.length
  · have hE : Hid (rightE L = 2) := by show _ = _; simp [rightE, hl]
    obtain ⟨ao, c, rfl⟩ := hv.shape
    clear hv
    obtain ⟨n, hn⟩ : ∃ n, n = L.length := ⟨_, rfl⟩
    rw [← hn] at hl ⊢
    go_enter Tryd.func19, Tryd.ntmps19
    go_wp2
    go_ret
    exact ⟨ret_int hE.out.symm, by go_grown⟩
  · rcases hv with ⟨rfl, rfl⟩ | ⟨x, c, rfl, hc⟩
    · go_enter Tryd.func19, Tryd.ntmps19
      go_wp2
      go_loop [3] (fun i => i = .int .i64 0) (fun i => 0)
      case atStart => exact rfl
      case round =>
        subst hrel
        go_wp2
        go_ret
        exact ⟨rfl, by go_grown⟩
    · obtain ⟨n, hn⟩ : ∃ n, n = L.length := ⟨_, rfl⟩
      have HC := hide hc
      have HN := hide hn
      rw [← hn] at hl ⊢
      clear hc hn
      go_enter Tryd.func19, Tryd.ntmps19
      go_wp2
      go_loopw [3] (fun i wr => ∃ k : Nat, k ≤ n ∧ i = .int .i64 k ∧ (∀ r ∈ L.take k, okR r) ∧ Below w.heap.size w wr) (fun i _ => n - (intOf i).toNat)
      case atStart => exact ⟨0, Nat.zero_le _, rfl, by simp, Below.refl _ _⟩
      case round =>
        obtain ⟨k, hk, rfl, hok, hb⟩ := hrel
        have hok := hide hok
        by_cases hlt : k < n
        · have hkL : k < L.length := by have := HN.out; omega
          obtain ⟨c1, c2⟩ := (HC.out.below hb) k hkL
          obtain ⟨r, hr⟩ : ∃ r, r = L[k] := ⟨_, rfl⟩
          rw [← hr] at c1 c2
          have HR := hide hr
          obtain ⟨a, b⟩ := r
          simp only at c1 c2
          clear hr
          have e1 : (k : Int) < (n : Int) := by omega
          have e0 : (0 : Int) ≤ (k : Int) := by omega
          by_cases hab : okR (a, b)
          · have hab' := hab
            unfold okR at hab'
            simp only at hab'
            obtain ⟨h0, h1, h2⟩ := hab'
            have HAB := hide hab
            have HA := hide (fun w => isR_yes a w h0 (by omega))
            have HB := hide (fun w => isR_yes b w (by omega) h2)
            clear hab
            go_wp2
            go_quiet (first | (go_at_call 40; first | refine Calls.quiet_of_same (HA.out _) | refine Calls.quiet_of_same (HB.out _)))
            go_wp2
            go_roundw
            case rel => exact ⟨k + 1, by omega, by go_num, all_take_succ hkL hok.out (by rw [← HR.out]; exact HAB.out), below_drewN hb _⟩
            case measure => simp [intOf]; omega
          · have hE : Hid (rightE L = 3) := rightE_no (by have := HN.out; omega) (r := (a, b)) (by rw [HR.out]; exact List.getElem_mem _) hab
            unfold okR at hab
            simp only at hab
            by_cases h1 : 0 ≤ a ∧ a ≤ 1114111
            · have HA := hide (fun w => isR_yes a w h1.1 h1.2)
              by_cases h2 : 0 ≤ b ∧ b ≤ 1114111
              · have h3 : b < a := by omega
                have HB := hide (fun w => isR_yes b w h2.1 h2.2)
                clear hab
                go_wp2
                go_quiet (first | (go_at_call 40; first | refine Calls.quiet_of_same (HA.out _) | refine Calls.quiet_of_same (HB.out _)))
                go_wp2
                go_ret
                exact ⟨ret_int hE.out.symm, below_drewN hb _⟩
              · have HB := hide (fun w => isR_no b w h2)
                clear hab h2
                go_wp2
                go_quiet (first | (go_at_call 40; first | refine Calls.quiet_of_same (HA.out _) | refine Calls.quiet_of_same (HB.out _)))
                go_wp2
                go_ret
                exact ⟨ret_int hE.out.symm, below_drewN hb _⟩
            · have HA := hide (fun w => isR_no a w h1)
              clear hab h1
              go_wp2
              go_quiet (first | (go_at_call 40; first | refine Calls.quiet_of_same (HA.out _)))
              go_wp2
              go_ret
              exact ⟨ret_int hE.out.symm, below_drewN hb _⟩
        · have hkn : k = n := by omega
          have hE : Hid (rightE L = 0) := by
            have h := hok.out
            rw [hkn, HN.out, List.take_length] at h
            exact rightE_ok.2 ⟨by have := HN.out; omega, h⟩
          go_wp2
          go_ret
          exact ⟨ret_int hE.out.symm, hb⟩

end Go.Proofs.YtojjfmnbpfpanaaDoor
