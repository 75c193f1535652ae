/- What Check, and the reference's checks answer. -/
import Derived.Test.YtojjfmnbpfpanaaDoorSchk
namespace Go.Proofs.YtojjfmnbpfpanaaDoor
open Go.RowKit
set_option linter.unusedVariables false

theorem checkE_bad {L : RL} (h : rightE L ≠ 0) : checkE L = rightE L := by unfold checkE; rw [if_neg h]
theorem checkE_no {L : RL} {j : Nat} (h : rightE L = 0) (hj : j + 1 < L.length) (hn : ¬ L[j].2 + 1 < L[j + 1].1) : checkE L = 4 := by
  unfold checkE
  rw [if_pos h, if_neg]
  rw [chainB_iff]
  exact fun hc => hn (hc j hj)
theorem checkE_yes {L : RL} (h : rightE L = 0) (hc : ∀ j (h : j + 1 < L.length), L[j].2 + 1 < L[j + 1].1) : checkE L = 0 := by
  unfold checkE
  rw [if_pos h, if_pos ((chainB_iff L).2 hc)]
theorem rightE_rng (L : RL) : rightE L = 0 ∨ rightE L = 2 ∨ rightE L = 3 := by
  unfold rightE; split
  · simp
  · split <;> simp

set_option maxHeartbeats 4000000 in
theorem check_any (v : Value) (L : RL) (w : World) (hv : Reads w v L) : Calls Tryd.prog 29 #[v] w fun e w' => e = .returned (.int .i64 (checkE L)) ∧ Below w.heap.size w w' := by
  have H := hide (checkRanges_any v L w hv)
  by_cases hr : rightE L = 0
  · rw [hr] at H
    obtain ⟨hlen, hok⟩ := rightE_ok.1 hr
    have HR := hide hr
    have HO := hide hok
    clear hr hok
    rcases hv with ⟨rfl, rfl⟩ | ⟨x, c, rfl, hc⟩
    · go_enter Tryd.func29, Tryd.ntmps29
      go_wp2_with fail
      refine H.out.mono ?_
      rintro e w1 ⟨rfl, hb1⟩
      clear H
      go_wp2
      go_loopw [4] (fun i wr => i = .int .i64 1 ∧ w1 = wr) (fun i _ => 0)
      case atStart => exact ⟨rfl, rfl⟩
      case round =>
        obtain ⟨rfl, rfl⟩ := hrel
        go_wp2
        go_ret
        exact ⟨ret_int rfl, hb1⟩
    · obtain ⟨n, hn⟩ : ∃ n, n = L.length := ⟨_, rfl⟩
      have HC := hide hc
      have HN := hide hn
      rw [← hn] at hlen H ⊢
      clear hc hn
      go_enter Tryd.func29, Tryd.ntmps29
      go_wp2_with fail
      refine H.out.mono ?_
      rintro e w1 ⟨rfl, hb1⟩
      clear H
      go_wp2
      go_loopw [4] (fun i wr => ∃ k : Nat, k ≤ n ∧ i = .int .i64 (k + 1) ∧ (∀ j (h : j + 1 < L.length), j < k → L[j].2 + 1 < L[j + 1].1) ∧ Below w.heap.size w wr) (fun i _ => n + 1 - (intOf i).toNat)
      case atStart => exact ⟨0, Nat.zero_le _, rfl, fun j h hj => by omega, hb1⟩
      case round =>
        obtain ⟨k, hk, rfl, hch, hb⟩ := hrel
        have HCh := hide hch
        clear hch
        by_cases hlt : k + 1 < n
        · have hkL : k + 1 < L.length := by have := HN.out; omega
          have hkL' : k < L.length := by omega
          obtain ⟨c1, c2⟩ := (HC.out.below hb) (k + 1) hkL
          obtain ⟨c3, c4⟩ := (HC.out.below hb) k hkL'
          have hr1 := HO.out L[k] (List.getElem_mem _)
          unfold okR at hr1
          obtain ⟨b, hb'⟩ : ∃ b, b = L[k].2 := ⟨_, rfl⟩
          obtain ⟨a, ha'⟩ : ∃ a, a = L[k + 1].1 := ⟨_, rfl⟩
          rw [← ha'] at c1
          rw [← hb'] at c4 hr1
          have HA := hide ha'
          have HB := hide hb'
          obtain ⟨_, hr2, hr3⟩ := hr1
          have hr4 : 0 ≤ b := by omega
          clear c2 c3 ha' hb' hr2
          have e1 : (k : Int) + 1 < (n : Int) := by omega
          have e2 : (k : Int) < (n : Int) := by omega
          have e0 : (0 : Int) ≤ (k : Int) := by omega
          have c1' : wr.cell? (x.add ((k + 1) * 2)) = some (.int .i64 a) := c1
          have wb : IntKind.i64.wrap (b + 1) = b + 1 := by rw [IntKind.wrap_i64]; omega
          by_cases hab : a ≤ b + 1
          · have hE : Hid (checkE L = 4) := checkE_no HR.out hkL (by rw [← HA.out, ← HB.out]; omega)
            go_wp2
            go_quiet (fail)
            go_wp2
            go_ret
            exact ⟨ret_int hE.out.symm, below_drewN hb _⟩
          · have HNab := hide hab
            have hd : decide (a ≤ b + 1) = false := by simpa using hab
            clear hab
            go_wp2
            go_quiet (fail)
            go_wp2
            go_roundw
            case rel => exact ⟨k + 1, by omega, by go_num, fun j h hj => by
              by_cases hjk : j = k
              · subst hjk; rw [← HA.out, ← HB.out]; have := HNab.out; omega
              · exact HCh.out j h (by omega), below_drewN hb _⟩
            case measure => simp [intOf]; omega
        · have hE : Hid (checkE L = 0) := checkE_yes HR.out fun j h => HCh.out j h (by have := HN.out; omega)
          go_wp2
          go_ret
          exact ⟨ret_int hE.out.symm, hb⟩
  · have hE : Hid (checkE L = rightE L) := checkE_bad hr
    clear hv
    obtain ⟨z, hz⟩ : ∃ z, z = rightE L := ⟨_, rfl⟩
    rw [← hz] at hr H hE
    clear hz
    go_enter Tryd.func29, Tryd.ntmps29
    go_wp2_with fail
    refine H.out.mono ?_
    rintro e w1 ⟨rfl, hb1⟩
    go_wp2
    go_ret
    exact ⟨ret_int hE.out.symm, hb1⟩

end Go.Proofs.YtojjfmnbpfpanaaDoor
