/- The reference's Says of two, Digits and NameAt. -/
import Derived.Test.YtlapnhjkhpgklaaRb2
namespace Go.Proofs.Ytlapnhjkhpgklaa
open Go.RowKit
set_option linter.unusedVariables false

theorem byte_at0 (u v : UInt8) : wrap64 (((⟨#[u, v]⟩ : ByteArray)[0]'(by show 0 < 2; omega)).toNat : Int) = (u.toNat : Int) := by
  have h := u.toNat_lt
  show wrap64 (u.toNat : Int) = _
  unfold wrap64
  omega
theorem byte_at1 (u v : UInt8) : wrap64 (((⟨#[u, v]⟩ : ByteArray)[1]'(by show 1 < 2; omega)).toNat : Int) = (v.toNat : Int) := by
  have h := v.toNat_lt
  show wrap64 (v.toNat : Int) = _
  unfold wrap64
  omega
set_option maxHeartbeats 1000000 in
theorem says2_any (x : Addr) (c : Nat) (l : List Int) (i : Nat) (u v : UInt8) (w : World) (h : ReadsI w x l) (hi : i ≤ 1000) (hl : l.length ≤ 1000) : Calls Try.prog 18 #[.slice (some x) l.length c, .int .i64 i, .string ⟨#[u, v]⟩] w fun e w' => e = .returned (.bool (says l i [(u.toNat : Int), (v.toNat : Int)])) ∧ ∃ q, w' = w.drewN q := by
  rw [says_two, says_pt l i _ (by omega), says_pt l (i + 1) _ (by omega)]
  have HP := hide (fun q => pointAt_any x c l i (w.drewN q) h)
  have HP1 : Hid (∀ q, Calls Try.prog 29 #[.slice (some x) l.length c, .int .i64 ((i : Int) + 1)] (w.drewN q) fun e w' => e = .returned (.int .i64 (ptA l (i + 1))) ∧ w' = w.drewN q) := fun q => by
    have := pointAt_any x c l (i + 1) (w.drewN q) h
    rw [show (((i + 1 : Nat) : Int)) = (i : Int) + 1 from by omega] at this
    exact this
  obtain ⟨p, hp⟩ : ∃ p, p = ptA l i := ⟨_, rfl⟩
  obtain ⟨r, hr⟩ : ∃ r, r = ptA l (i + 1) := ⟨_, rfl⟩
  obtain ⟨n, hn⟩ : ∃ n, n = l.length := ⟨_, rfl⟩
  rw [← hp] at HP ⊢
  rw [← hr] at HP1 ⊢
  rw [← hn] at HP HP1
  rw [← hn]
  clear h hp hn hl hr
  have wi2 : IntKind.i64.wrap (i : Int) = (i : Int) := by rw [IntKind.wrap_i64]; omega
  have wi : IntKind.i64.wrap ((i : Int) + 1) = (i : Int) + 1 := by rw [IntKind.wrap_i64]; omega
  go_enter Try.func18, Try.ntmps18
  go_wp2
  go_loopw [7] (fun a wr => (a = .int .i64 0 ∧ wr = w.drewN 0) ∨ (a = .int .i64 1 ∧ p = (u.toNat : Int) ∧ ∃ q, wr = w.drewN q) ∨ (a = .int .i64 2 ∧ p = (u.toNat : Int) ∧ r = (v.toNat : Int) ∧ ∃ q, wr = w.drewN q)) (fun a _ => 2 - (intOf a).toNat)
  case atStart => exact .inl ⟨rfl, rfl⟩
  case round =>
    rcases hrel with ⟨rfl, rfl⟩ | ⟨rfl, he, q, hq⟩ | ⟨rfl, he, he2, q, rfl⟩
    · by_cases hpu : p = (u.toNat : Int)
      · have hb : (p != wrap64 (((⟨#[u, v]⟩ : ByteArray)[0]'(by show 0 < 2; omega)).toNat : Int)) = false := by rw [byte_at0]; simpa using hpu
        have HE := hide hpu
        clear hpu
        go_wp2
        go_quiet (first | (go_at_call 29; refine Calls.quiet_of_same (HP.out _)))
        go_wp2
        go_roundw
        case rel => exact .inr (.inl ⟨by go_num, HE.out, _, rfl⟩)
        case measure => simp [intOf]
      · have hb : (p != wrap64 (((⟨#[u, v]⟩ : ByteArray)[0]'(by show 0 < 2; omega)).toNat : Int)) = true := by rw [byte_at0]; simpa using hpu
        have HE := hide hpu
        clear hpu
        go_wp2
        go_quiet (first | (go_at_call 29; refine Calls.quiet_of_same (HP.out _)))
        go_wp2
        go_ret
        exact ⟨ret_bool (by have := HE.out; simp [this]), _, rfl⟩
    · have HP2 : Hid (∀ m, Calls Try.prog 29 #[.slice (some x) n c, .int .i64 ((i : Int) + 1)] (wr.drewN m) fun e w' => e = .returned (.int .i64 r) ∧ w' = wr.drewN m) := fun m => by rw [hq, drewN_two]; exact HP1.out _
      have HQ := hide hq
      clear hq
      by_cases hpu : r = (v.toNat : Int)
      · have hb : (r != wrap64 (((⟨#[u, v]⟩ : ByteArray)[1]'(by show 1 < 2; omega)).toNat : Int)) = false := by rw [byte_at1]; simpa using hpu
        have HE := hide hpu
        have HE2 := hide he
        clear hpu he
        go_wp2
        go_quiet (first | (go_at_call 29; refine Calls.quiet_of_same (HP2.out _)))
        go_wp2
        go_roundw
        case rel => exact .inr (.inr ⟨by go_num, HE2.out, HE.out, _, by rw [HQ.out, drewN_two]⟩)
        case measure => simp [intOf]
      · have hb : (r != wrap64 (((⟨#[u, v]⟩ : ByteArray)[1]'(by show 1 < 2; omega)).toNat : Int)) = true := by rw [byte_at1]; simpa using hpu
        have HE := hide hpu
        clear hpu he
        go_wp2
        go_quiet (first | (go_at_call 29; refine Calls.quiet_of_same (HP2.out _)))
        go_wp2
        go_ret
        exact ⟨ret_bool (by have := HE.out; simp [this]), _, by rw [HQ.out, drewN_two]⟩
    · have HE := hide he
      have HE2 := hide he2
      clear he he2
      go_wp2
      go_ret
      exact ⟨ret_bool (by rw [HE.out, HE2.out]; simp), q, rfl⟩

theorem dig_yes {l : List Int} {j : Nat} (h : (decide (48 ≤ ptA l j) && decide (ptA l j ≤ 57)) = true) : ∃ hj : j < l.length, digV l[j] < 10 ∧ digV l[j] = l[j] - 48 ∧ 48 ≤ l[j] ∧ l[j] ≤ 57 := by
  by_cases hj : j < l.length
  · rw [ptA_in hj] at h
    simp at h
    have hd : digV l[j] = l[j] - 48 := by unfold digV; rw [if_pos h]
    exact ⟨hj, by omega, hd, h.1, h.2⟩
  · rw [ptA_out hj] at h
    simp at h
theorem dig_no {l : List Int} {j : Nat} (h : (decide (48 ≤ ptA l j) && decide (ptA l j ≤ 57)) = false) : ¬ ∃ h2 : j < l.length, digV l[j] < 10 := by
  rintro ⟨h2, h3⟩
  rw [ptA_in h2] at h
  have := dig_ten l[j]
  rw [decide_eq_true h3, h] at this
  cases this
set_option maxHeartbeats 2000000 in
theorem digitsR_any (x : Addr) (c : Nat) (l : List Int) (i most : Nat) (w : World) (h : ReadsI w x l) (hi : i ≤ l.length) (hl : l.length ≤ 1000) (hm : most ≤ 6) : Calls Try.prog 33 #[.slice (some x) l.length c, .int .i64 i, .int .i64 most] w fun e w' => e = .returned (.tuple #[.int .i64 (digs 10 most l i).1, .int .i64 ((i + (digs 10 most l i).2 : Nat) : Int)]) ∧ w' = w := by
  have HR := hide h
  have HI := hide hi
  obtain ⟨n, hn⟩ : ∃ n, n = l.length := ⟨_, rfl⟩
  have HN := hide hn
  rw [← hn] at hl hi ⊢
  clear h hn
  go_enter Try.func33, Try.ntmps33
  go_wp2
  go_loop [1, 8, 9] (fun a u v => ∃ (k : Nat) (m : Int), a = .int .i64 ((i + k : Nat) : Int) ∧ u = .int .i64 m ∧ v = .int .i64 k ∧ DigR 10 most l i k m) (fun _ _ v => most - (intOf v).toNat)
  case atStart => exact ⟨0, 0, rfl, rfl, rfl, digR_start 10 most l i HI.out⟩
  case round =>
    obtain ⟨k, m, rfl, rfl, rfl, hd⟩ := hrel
    have HD := hide hd
    have hnb := digR_bound hd hm
    have hn0 := hd.n0
    have hk1 := hd.k1
    have hk2 := hd.k2
    obtain ⟨j, hj⟩ : ∃ j, j = i + k := ⟨_, rfl⟩
    have HJ := hide hj
    rw [← hj] at hk2 ⊢
    have hjn : j ≤ n := by have := HN.out; omega
    clear hd hj hk2
    by_cases hlt : k < most
    · have HP := hide (pointAt_any x c l j w HR.out)
      have e1 : (k : Int) < (most : Int) := by omega
      obtain ⟨z, hz⟩ : ∃ z, z = (decide (48 ≤ ptA l j) && decide (ptA l j ≤ 57)) := ⟨_, rfl⟩
      have HG := hide (isDigit_any (ptA l j) w)
      rw [← hz] at HG
      have HZ := hide hz
      rw [← HN.out] at HP
      cases z with
      | true =>
        obtain ⟨hjl, d1, d2, d3, d4⟩ := dig_yes hz.symm
        have cj := HR.out j hjl
        have hnx2 : Hid (DigR 10 most l i (k + 1) (10 * m + l[j] - 48)) := by
          have hJ := HJ.out
          subst hJ
          have h1 := digR_next HD.out (.inl rfl) hlt hjl d1
          rw [show m * 10 + digV l[i + k] = 10 * m + l[i + k] - 48 from by rw [d2]; omega] at h1
          exact h1
        rw [ptA_in hjl] at HP HG
        obtain ⟨p, hp⟩ : ∃ p, p = l[j] := ⟨_, rfl⟩
        rw [← hp] at HP HG cj hnx2 d3 d4
        have e2 : (j : Int) < (n : Int) := by have := HN.out; omega
        have e0 : (0 : Int) ≤ (j : Int) := by omega
        clear hz d1 d2 hp hjl
        go_wp2_with fail
        refine HP.out.mono ?_
        rintro e w' ⟨rfl, rfl⟩
        go_wp2_with fail
        refine HG.out.mono ?_
        rintro e w' ⟨rfl, rfl⟩
        go_wp2
        go_round
        case rel => exact ⟨k + 1, _, by have := HJ.out; go_num, rfl, by go_num, hnx2.out⟩
        case measure => simp [intOf]; omega
      | false =>
        have hE : Hid (digs 10 most l i = (m, k)) := digR_end HD.out (fun hh => dig_no hz.symm (by have := HJ.out; subst this; exact hh.2))
        clear hz
        obtain ⟨p, hp⟩ : ∃ p, p = ptA l j := ⟨_, rfl⟩
        rw [← hp] at HP HG
        clear hp
        go_wp2_with fail
        refine HP.out.mono ?_
        rintro e w' ⟨rfl, rfl⟩
        go_wp2_with fail
        refine HG.out.mono ?_
        rintro e w' ⟨rfl, rfl⟩
        go_wp2
        go_ret2
        exact ⟨by rw [hE.out, HJ.out]; rfl, rfl⟩
    · have hE : Hid (digs 10 most l i = (m, k)) := digR_end HD.out (fun hh => hlt hh.1)
      have e1 : ¬ (k : Int) < (most : Int) := by omega
      go_wp2
      go_ret2
      exact ⟨by rw [hE.out, HJ.out]; rfl, rfl⟩

end Go.Proofs.Ytlapnhjkhpgklaa
