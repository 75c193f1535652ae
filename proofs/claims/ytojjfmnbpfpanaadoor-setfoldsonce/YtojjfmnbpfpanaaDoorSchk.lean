/- What checkRanges, Check, and the reference's checks answer. -/
import Derived.Test.YtojjfmnbpfpanaaDoorSbase
namespace Go.Proofs.YtojjfmnbpfpanaaDoor
open Go.RowKit
set_option linter.unusedVariables false

theorem all_take_succ {L : RL} {k : Nat} (hk : k < L.length) (h : ∀ r ∈ L.take k, okR r) (hr : okR L[k]) : ∀ r ∈ L.take (k + 1), okR r := by
  intro r h1
  rw [List.take_add_one, List.getElem?_eq_getElem hk] at h1
  rcases List.mem_append.1 h1 with h1 | h1
  · exact h r h1
  · simp at h1; rw [h1]; exact hr
theorem rightE_no {L : RL} {r : Int × Int} (hl : L.length ≤ 400) (hr : r ∈ L) (hn : ¬ okR r) : rightE L = 3 := by
  unfold rightE
  rw [if_neg (by omega), if_neg]
  rw [List.all_eq_true]
  intro h
  exact hn ((okB_iff r).1 (h r hr))

set_option maxRecDepth 100000 in
set_option maxHeartbeats 1000000 in
theorem checkRanges_any (v : Value) (L : RL) (w : World) (hv : Reads w v L) : Calls Tryd.prog 46 #[v] w fun e w' => e = .returned (.int .i64 (rightE L)) ∧ Below w.heap.size w w' := by
  by_cases hl : 400 < L.length
  · have hE : Hid (rightE L = 2) := by show _ = _; simp [rightE, hl]
    obtain ⟨ao, c, rfl⟩ := hv.shape
    clear hv
    obtain ⟨n, hn⟩ : ∃ n, n = L.length := ⟨_, rfl⟩
    rw [← hn] at hl ⊢
    go_enter Tryd.func46, Tryd.ntmps46
    go_wp2
    go_ret
    exact ⟨ret_int hE.out.symm, by go_grown⟩
  · rcases hv with ⟨rfl, rfl⟩ | ⟨x, c, rfl, hc⟩
    · go_enter Tryd.func46, Tryd.ntmps46
      go_wp2
      go_loop [10] (fun i => i = .int .i64 0) (fun i => 0)
      case atStart => exact rfl
      case round =>
        subst hrel
        go_wp2
        go_ret
        exact ⟨rfl, by go_grown⟩
    · obtain ⟨n, hn⟩ : ∃ n, n = L.length := ⟨_, rfl⟩
      have HC := hide hc
      have HN := hide hn
      rw [← hn] at hl ⊢
      clear hc hn
      go_enter Tryd.func46, Tryd.ntmps46
      go_wp2
      go_loopw [10] (fun i wr => ∃ k : Nat, k ≤ n ∧ i = .int .i64 k ∧ (∀ r ∈ L.take k, okR r) ∧ Below w.heap.size w wr) (fun i _ => n - (intOf i).toNat)
      case atStart => exact ⟨0, Nat.zero_le _, rfl, by simp, Below.refl _ _⟩
      case round =>
        obtain ⟨k, hk, rfl, hok, hb⟩ := hrel
        have hok := hide hok
        by_cases hlt : k < n
        · have hkL : k < L.length := by have := HN.out; omega
          obtain ⟨c1, c2⟩ := (HC.out.below hb) k hkL
          obtain ⟨r, hr⟩ : ∃ r, r = L[k] := ⟨_, rfl⟩
          rw [← hr] at c1 c2
          have HR := hide hr
          obtain ⟨a, b⟩ := r
          simp only at c1 c2
          clear hr
          by_cases hab : okR (a, b)
          · have hab' := hab
            unfold okR at hab'
            simp only at hab'
            obtain ⟨h0, h1, h2⟩ := hab'
            have HAB := hide hab
            clear hab
            go_wp2_with (first | (go_at_call 32; refine (is_any _ _).mono ?_; rintro e w' ⟨rfl, rfl⟩))
            go_roundw
            case rel => exact ⟨k + 1, by omega, by go_num, all_take_succ hkL hok.out (by rw [← HR.out]; exact HAB.out), hb.alloc (by exact hb.size) _⟩
            case measure => simp [intOf]; omega
          · have hE : Hid (rightE L = 3) := rightE_no (by have := HN.out; omega) (r := (a, b)) (by rw [HR.out]; exact List.getElem_mem _) hab
            unfold okR at hab
            simp only at hab
            by_cases h1 : 0 ≤ a ∧ a ≤ 1114111
            · by_cases h2 : 0 ≤ b ∧ b ≤ 1114111
              · have h3 : b < a := by omega
                clear hab
                go_wp2_with (first | (go_at_call 32; refine (is_any _ _).mono ?_; rintro e w' ⟨rfl, rfl⟩))
                go_ret
                exact ⟨ret_int hE.out.symm, hb.alloc (by exact hb.size) _⟩
              · have hd : decide (0 ≤ b ∧ b ≤ 1114111) = false := by simpa using h2
                have HI := hide (fun w => is_any b w)
                rw [hd] at HI
                clear hab h2 hd
                go_wp2_with (first | (go_at_call 32; first | (refine (HI.out _).mono ?_; rintro e w' ⟨rfl, rfl⟩) | (refine (is_any _ _).mono ?_; rintro e w' ⟨rfl, rfl⟩)))
                go_ret
                exact ⟨ret_int hE.out.symm, hb.alloc (by exact hb.size) _⟩
            · have hd : decide (0 ≤ a ∧ a ≤ 1114111) = false := by simpa using h1
              have HI := hide (fun w => is_any a w)
              rw [hd] at HI
              clear hab h1 hd
              go_wp2_with (first | (go_at_call 32; refine (HI.out _).mono ?_; rintro e w' ⟨rfl, rfl⟩))
              go_ret
              exact ⟨ret_int hE.out.symm, hb.alloc (by exact hb.size) _⟩
        · have hkn : k = n := by omega
          have hE : Hid (rightE L = 0) := by
            have h := hok.out
            rw [hkn, HN.out, List.take_length] at h
            exact rightE_ok.2 ⟨by have := HN.out; omega, h⟩
          go_wp2
          go_ret
          exact ⟨ret_int hE.out.symm, hb⟩

end Go.Proofs.YtojjfmnbpfpanaaDoor
