/- What the reference's Within and SameSet, and setIs answer. -/
import Derived.Test.YtojjfmnbpfpanaaDoorSmade
namespace Go.Proofs.YtojjfmnbpfpanaaDoor
open Go.RowKit
set_option linter.unusedVariables false

theorem drewN_more {w wr : World} {q : Nat} (h : wr = w.drewN q) (n : Nat) : ∃ m, wr.drewN n = w.drewN m := ⟨q + n, by subst h; simp [World.drewN, Nat.add_assoc]⟩
theorem Cells2.drew {w : World} {x : Addr} {L : RL} (h : Cells2 w x L) (q : Nat) : Cells2 (w.drewN q) x L := h
theorem between_q (p a b : Int) (w : World) : Calls Tryd.prog 41 #[.int .i64 p, .int .i64 a, .int .i64 b] w fun e w' => e = .returned (.bool (decide (a ≤ p) && decide (p ≤ b))) ∧ w' = w :=
  (between_any p a b w).mono fun _ _ ⟨h, k⟩ => ⟨h, k.symm⟩
theorem ins_take {L : RL} {k : Nat} (h : k < L.length) (p : Int) : ins (L.take (k + 1)) p = (ins (L.take k) p || (decide (L[k].1 ≤ p) && decide (p ≤ L[k].2))) := by
  rw [List.take_add_one, List.getElem?_eq_getElem h, ins_append]
  simp [ins]
theorem ins_of {L : RL} {k : Nat} (h : k < L.length) (p : Int) (hp : L[k].1 ≤ p ∧ p ≤ L[k].2) : ins L p = true := (ins_iff _ _).2 ⟨L[k], List.getElem_mem _, hp⟩

set_option maxHeartbeats 2000000 in
theorem within_any (v : Value) (L : RL) (p : Int) (w : World) (hv : Reads w v L) (hl : L.length ≤ 1000000) :
    Calls Tryd.prog 22 #[v, .int .i64 p] w fun e w' => e = .returned (.bool (ins L p)) ∧ ∃ q, w' = w.drewN q := by
  rcases hv with ⟨rfl, rfl⟩ | ⟨x, c, rfl, hc⟩
  · go_enter Tryd.func22, Tryd.ntmps22
    go_wp2
    go_loop [5] (fun i => i = .int .i64 0) (fun i => 0)
    case atStart => exact rfl
    case round =>
      subst hrel
      go_wp2
      go_ret
      exact ⟨rfl, 0, rfl⟩
  · obtain ⟨n, hn⟩ : ∃ n, n = L.length := ⟨_, rfl⟩
    have HC := hide hc
    have HN := hide hn
    rw [← hn] at hl ⊢
    clear hc hn
    go_enter Tryd.func22, Tryd.ntmps22
    go_wp2
    go_loopw [5] (fun i wr => ∃ k q : Nat, k ≤ n ∧ i = .int .i64 k ∧ wr = w.drewN q ∧ ins (L.take k) p = false) (fun i _ => n - (intOf i).toNat)
    case atStart => exact ⟨0, 0, Nat.zero_le _, rfl, rfl, by simp [ins]⟩
    case round =>
      obtain ⟨k, q, hk, rfl, hw, hf⟩ := hrel
      have HW := hide hw
      have HF := hide hf
      by_cases hlt : k < n
      · have hkL : k < L.length := by have := HN.out; omega
        have hcw : Cells2 wr x L := by rw [hw]; exact HC.out.drew q
        obtain ⟨c1, c2⟩ := hcw k hkL
        have hf1 := hide (ins_take hkL p)
        have hf2 := hide (ins_of hkL p)
        obtain ⟨r, hr⟩ : ∃ r, r = L[k] := ⟨_, rfl⟩
        rw [← hr] at c1 c2 hf1 hf2
        obtain ⟨a, b⟩ := r
        simp only at c1 c2 hf1 hf2
        have HBx := hide (fun w => between_q p a b w)
        have e1 : (k : Int) < (n : Int) := by omega
        have e0 : (0 : Int) ≤ (k : Int) := by omega
        clear hr hcw hw hf
        by_cases hin : a ≤ p ∧ p ≤ b
        · rw [show (decide (a ≤ p) && decide (p ≤ b)) = true from by simpa using hin] at HBx
          have HIN := hide hin
          clear hin
          go_wp2
          go_quiet (first | (go_at_call 41; refine Calls.quiet_of_same (HBx.out _)))
          go_wp2
          go_ret
          exact ⟨ret_bool (hf2.out HIN.out).symm, drewN_more HW.out _⟩
        · have hd : (decide (a ≤ p) && decide (p ≤ b)) = false := by simpa using hin
          rw [hd] at HBx hf1
          have HIN := hide hin
          clear hin hd
          go_wp2
          go_quiet (first | (go_at_call 41; refine Calls.quiet_of_same (HBx.out _)))
          go_wp2
          go_roundw
          case rel => obtain ⟨q2, hq2⟩ := drewN_more HW.out nq; exact ⟨k + 1, q2, by omega, by go_num, hq2, by rw [hf1.out, HF.out]; rfl⟩
          case measure => simp [intOf]; omega
      · have hkl : k = n := by omega
        subst hkl
        clear hw hf
        go_wp2
        go_ret
        exact ⟨ret_bool (by have := HF.out; rw [HN.out, List.take_length] at this; exact this.symm), _, HW.out⟩

theorem list_ext_take {A B : RL} (hl : A.length = B.length) (k : Nat) (h : A.take k = B.take k) (hk : A.length ≤ k) : A = B := by
  rw [List.take_of_length_le hk, List.take_of_length_le (by omega)] at h
  exact h
theorem take_succ_eq {A B : RL} {k : Nat} (hA : k < A.length) (hB : k < B.length) (h : A.take k = B.take k) (e : A[k] = B[k]) : A.take (k + 1) = B.take (k + 1) := by
  rw [List.take_add_one, List.take_add_one, h, List.getElem?_eq_getElem hA, List.getElem?_eq_getElem hB, e]

set_option maxHeartbeats 2000000 in
theorem sameSet_any (va vb : Value) (A B : RL) (w : World) (hA : Reads w va A) (hB : Reads w vb B) (lA : A.length ≤ 1000000) :
    Calls Tryd.prog 11 #[va, vb] w fun e w' => e = .returned (.bool (decide (A = B))) ∧ ∃ q, w' = w.drewN q := by
  by_cases hlen : A.length = B.length
  · rcases hA with ⟨rfl, rfl⟩ | ⟨x, c, rfl, hc⟩
    · obtain rfl : B = [] := List.eq_nil_of_length_eq_zero (by simpa using hlen.symm)
      obtain ⟨bo, cb, rfl⟩ := hB.shape
      clear hB hlen
      go_enter Tryd.func11, Tryd.ntmps11
      go_wp2
      go_loop [5] (fun i => i = .int .i64 0) (fun i => 0)
      case atStart => exact rfl
      case round =>
        subst hrel
        go_wp2
        go_ret
        exact ⟨rfl, 0, rfl⟩
    · obtain ⟨bo, cb, rfl⟩ := hB.shape
      have HB := hide hB
      have HC := hide hc
      obtain ⟨n, hn⟩ : ∃ n, n = A.length := ⟨_, rfl⟩
      have HN := hide hn
      have HL := hide hlen
      rw [← hlen, ← hn] at HB ⊢
      rw [← hn] at lA
      clear hc hB hn hlen
      go_enter Tryd.func11, Tryd.ntmps11
      go_wp2
      go_loopw [5] (fun i wr => ∃ k q : Nat, k ≤ n ∧ i = .int .i64 k ∧ wr = w.drewN q ∧ A.take k = B.take k) (fun i _ => n - (intOf i).toNat)
      case atStart => exact ⟨0, 0, Nat.zero_le _, rfl, rfl, by simp⟩
      case round =>
        obtain ⟨k, q, hk, rfl, hw, hf⟩ := hrel
        have HW := hide hw
        have HF := hide hf
        by_cases hlt : k < n
        · have hkA : k < A.length := by have := HN.out; omega
          have hkB : k < B.length := by have := HN.out; have := HL.out; omega
          obtain ⟨y, cy, hy, hcB⟩ := HB.out.some (by omega)
          obtain ⟨rfl, _⟩ : bo = some y ∧ True := by cases hy; exact ⟨rfl, trivial⟩
          have hcw : Cells2 wr x A := by rw [hw]; exact HC.out.drew q
          have hcy : Cells2 wr y B := by rw [hw]; exact hcB.drew q
          obtain ⟨c1, c2⟩ := hcw k hkA
          obtain ⟨d1, d2⟩ := hcy k hkB
          obtain ⟨r, hr⟩ : ∃ r, r = A[k] := ⟨_, rfl⟩
          obtain ⟨s, hs⟩ : ∃ s, s = B[k] := ⟨_, rfl⟩
          rw [← hr] at c1 c2
          rw [← hs] at d1 d2
          obtain ⟨a, b⟩ := r
          obtain ⟨a', b'⟩ := s
          simp only at c1 c2 d1 d2
          have HR := hide hr
          have HS := hide hs
          have e1 : (k : Int) < (n : Int) := by omega
          have e0 : (0 : Int) ≤ (k : Int) := by omega
          clear hcw hcy hcB hw hf hy hr hs
          by_cases heq : a = a' ∧ b = b'
          · obtain ⟨rfl, rfl⟩ := heq
            have ht : Hid (A.take (k + 1) = B.take (k + 1)) := take_succ_eq hkA hkB HF.out (by rw [← HR.out, ← HS.out])
            go_wp2
            go_quiet (fail)
            go_wp2
            go_roundw
            case rel => obtain ⟨q2, hq2⟩ := drewN_more HW.out nq; exact ⟨k + 1, q2, by omega, by go_num, hq2, ht.out⟩
            case measure => simp [intOf]; omega
          · have hne : Hid (A ≠ B) := by
              intro h
              subst h
              have := HR.out.trans HS.out.symm
              exact heq (by simpa using this)
            by_cases ha : a = a'
            · subst ha
              have hd : (b == b') = false := by rw [Bool.eq_false_iff]; intro h; exact heq ⟨rfl, by simpa using h⟩
              clear heq
              go_wp2
              go_quiet (fail)
              go_wp2
              go_ret
              exact ⟨ret_bool (by have := hne.out; simp [this]), drewN_more HW.out _⟩
            · have hd : (a == a') = false := by simpa using ha
              clear heq ha
              go_wp2
              go_quiet (fail)
              go_wp2
              go_ret
              exact ⟨ret_bool (by have := hne.out; simp [this]), drewN_more HW.out _⟩
        · clear hw hf
          have he : Hid (A = B) := list_ext_take HL.out k HF.out (by have := HN.out; omega)
          go_wp2
          go_ret
          exact ⟨ret_bool (by have := he.out; simp [this]), _, HW.out⟩
  · have hne : Hid (A ≠ B) := fun h => hlen (by rw [h])
    obtain ⟨ao, ca, rfl⟩ := hA.shape
    obtain ⟨bo, cb, rfl⟩ := hB.shape
    obtain ⟨n, hn⟩ : ∃ n, n = A.length := ⟨_, rfl⟩
    obtain ⟨m, hm⟩ : ∃ m, m = B.length := ⟨_, rfl⟩
    rw [← hn, ← hm] at hlen ⊢
    have hd : ((n : Int) == (m : Int)) = false := by simp; omega
    clear hA hB hn hm hlen
    go_enter Tryd.func11, Tryd.ntmps11
    go_wp2
    go_ret
    exact ⟨ret_bool (by have := hne.out; simp [this]), 0, rfl⟩

end Go.Proofs.YtojjfmnbpfpanaaDoor
