/- What Has, Count and CountOf answer. -/
import Derived.Test.YtjlnmlelmjmneabSref
import Derived.Test.YtjlnmlelmjmneabSstr
import Derived.Test.YtjlnmlelmjmneabSchkc
import Derived.Test.YtjlnmlelmjmneabScnt
namespace Go.Proofs.Ytjlnmlelmjmneab
open Go.RowKit
set_option linter.unusedVariables false

set_option maxHeartbeats 1000000 in
theorem has_bad (v : Value) (L : RL) (p : Int) (w : World) (hv : Reads w v L) (h : checkE L ≠ 0) : Calls Try.prog 8 #[v, .int .i64 p] w fun e w' => e = .returned (.tuple #[.bool false, .int .i64 (checkE L)]) ∧ Below w.heap.size w w' := by
  have HC := hide (check_any v L w hv)
  obtain ⟨z, hz⟩ : ∃ z, z = checkE L := ⟨_, rfl⟩
  rw [← hz] at h HC ⊢
  clear hz hv
  go_enter Try.func8, Try.ntmps8
  go_wp2_with fail
  refine HC.out.mono ?_
  rintro e w1 ⟨rfl, hb1⟩
  go_wp2
  go_ret2
  exact ⟨rfl, hb1⟩
set_option maxHeartbeats 1000000 in
theorem has_out (v : Value) (L : RL) (p : Int) (w : World) (hv : Reads w v L) (h : checkE L = 0) (hp : ¬ (0 ≤ p ∧ p ≤ 1114111)) : Calls Try.prog 8 #[v, .int .i64 p] w fun e w' => e = .returned (.tuple #[.bool false, .int .i64 3]) ∧ Below w.heap.size w w' := by
  have HC := hide (check_any v L w hv)
  have HI := hide (fun w => is_any p w)
  rw [show decide (0 ≤ p ∧ p ≤ 1114111) = false from by simpa using hp] at HI
  rw [h] at HC
  clear hv hp h
  go_enter Try.func8, Try.ntmps8
  go_wp2_with fail
  refine HC.out.mono ?_
  rintro e w1 ⟨rfl, hb1⟩
  go_wp2_with fail
  refine (HI.out w1).mono ?_
  rintro e w2 ⟨rfl, rfl⟩
  go_wp2
  go_ret2
  exact ⟨rfl, hb1⟩
set_option maxHeartbeats 1000000 in
theorem has_in (v : Value) (L : RL) (p : Int) (w : World) (hv : Reads w v L) (h : checkE L = 0) (h0 : 0 ≤ p) (h1 : p ≤ 1114111) : Calls Try.prog 8 #[v, .int .i64 p] w fun e w' => e = .returned (.tuple #[.bool (ins L p), .int .i64 0]) ∧ Below w.heap.size w w' := by
  have HC := hide (check_any v L w hv)
  have HI := hide (fun w => is_any p w)
  rw [show decide (0 ≤ p ∧ p ≤ 1114111) = true from by simp [h0, h1]] at HI
  rw [h] at HC
  obtain ⟨hl, hcan⟩ := checkE_ok.1 h
  have HS := hide (fun w1 (hb : Below w.heap.size w w1) => stretch_any v L p w1 (hv.below hb) hcan (by omega))
  rw [stretch_ins hcan h0 h1] at HS
  obtain ⟨z, hz⟩ : ∃ z, z = ins L p := ⟨_, rfl⟩
  obtain ⟨y, hy⟩ : ∃ y, y = (stretchL L p).2 := ⟨_, rfl⟩
  rw [← hz] at HS ⊢
  rw [← hy] at HS
  clear hv hcan h hz hy
  go_enter Try.func8, Try.ntmps8
  go_wp2_with fail
  refine HC.out.mono ?_
  rintro e w1 ⟨rfl, hb1⟩
  go_wp2_with fail
  refine (HI.out w1).mono ?_
  rintro e w2 ⟨rfl, rfl⟩
  go_wp2_with fail
  refine (HS.out w1 hb1).mono ?_
  rintro e w3 ⟨rfl, hb3⟩
  go_wp2
  go_ret2
  exact ⟨rfl, hb1.trans (hb3.mono hb1.size)⟩

set_option maxHeartbeats 1000000 in
theorem count_bad (v : Value) (L : RL) (w : World) (hv : Reads w v L) (h : checkE L ≠ 0) : Calls Try.prog 9 #[v] w fun e w' => e = .returned (.tuple #[.int .i64 0, .int .i64 (checkE L)]) ∧ Below w.heap.size w w' := by
  have HC := hide (check_any v L w hv)
  obtain ⟨z, hz⟩ : ∃ z, z = checkE L := ⟨_, rfl⟩
  rw [← hz] at h HC ⊢
  clear hz hv
  go_enter Try.func9, Try.ntmps9
  go_wp2_with fail
  refine HC.out.mono ?_
  rintro e w1 ⟨rfl, hb1⟩
  go_wp2
  go_ret2
  exact ⟨rfl, hb1⟩
set_option maxHeartbeats 2000000 in
theorem count_ok (v : Value) (L : RL) (w : World) (hv : Reads w v L) (h : checkE L = 0) : Calls Try.prog 9 #[v] w fun e w' => e = .returned (.tuple #[.int .i64 (cntL L), .int .i64 0]) ∧ Below w.heap.size w w' := by
  have HC := hide (check_any v L w hv)
  rw [h] at HC
  obtain ⟨hl, hcan⟩ := checkE_ok.1 h
  have HV := hide hv
  have HCan := hide hcan
  obtain ⟨ao, c, hvs⟩ := hv.shape
  obtain ⟨n, hn⟩ : ∃ n, n = L.length := ⟨_, rfl⟩
  have HN := hide hn
  rw [← hn] at hvs hl
  rw [hvs] at HC HV ⊢
  clear hv hcan h hvs hn
  go_enter Try.func9, Try.ntmps9
  go_wp2_with fail
  refine HC.out.mono ?_
  rintro e w1 ⟨rfl, hb1⟩
  clear HC
  go_wp2
  go_loopw [5, 15] (fun s i wr => ∃ k : Nat, k ≤ n ∧ i = .int .i64 k ∧ s = .int .i64 (cntL (L.take k)) ∧ Below w.heap.size w wr) (fun _ i _ => n - (intOf i).toNat)
  case atStart => exact ⟨0, Nat.zero_le _, rfl, rfl, hb1⟩
  case round =>
    obtain ⟨k, hk, rfl, rfl, hb⟩ := hrel
    by_cases hlt : k < n
    · have hkL : k < L.length := by have := HN.out; omega
      obtain ⟨x, cx, hx, hcx⟩ := (HV.out.below hb).some (by omega)
      obtain ⟨rfl⟩ : ao = some x := by cases hx; rfl
      obtain ⟨c1, c2⟩ := hcx k hkL
      have hr := HCan.out.1 L[k] (List.getElem_mem _)
      unfold okR at hr
      have ht := hide (cnt_take hkL)
      obtain ⟨m0, m1⟩ := cnt_rng (canon_take HCan.out k)
      obtain ⟨s, hs⟩ : ∃ s, s = cntL (L.take k) := ⟨_, rfl⟩
      rw [← hs] at ht m0 m1 ⊢
      obtain ⟨r, hr'⟩ : ∃ r, r = L[k] := ⟨_, rfl⟩
      rw [← hr'] at c1 c2 hr ht
      obtain ⟨a, b⟩ := r
      simp only at c1 c2 hr ht
      obtain ⟨r0, r1, r2⟩ := hr
      clear hx hcx hr' hs
      have w1' : IntKind.i64.wrap (b - a) = b - a := by rw [IntKind.wrap_i64]; omega
      have w2' : IntKind.i64.wrap (b - a + 1) = b - a + 1 := by rw [IntKind.wrap_i64]; omega
      have w3' : IntKind.i64.wrap (s + (b - a + 1)) = s + (b - a + 1) := by rw [IntKind.wrap_i64]; omega
      go_wp2
      go_roundw
      case rel => exact ⟨k + 1, by omega, by go_num, by rw [ht.out], hb.alloc hb.size _⟩
      case measure => simp [intOf]; omega
    · have hkn : k = n := by omega
      have hfull : Hid (cntL (L.take k) = cntL L) := by show _ = _; rw [List.take_of_length_le (by have := HN.out; omega)]
      go_wp2
      go_ret2
      exact ⟨by simp [hfull.out], hb⟩

set_option maxHeartbeats 2000000 in
theorem countOf_any (v : Value) (L : RL) (w : World) (hv : Reads w v L) (h : checkE L = 0) : Calls Try.prog 11 #[v] w fun e w' => e = .returned (.int .i64 (cntL L)) ∧ Below w.heap.size w w' := by
  obtain ⟨hl, hcan⟩ := checkE_ok.1 h
  have HV := hide hv
  have HCan := hide hcan
  obtain ⟨ao, c, hvs⟩ := hv.shape
  obtain ⟨n, hn⟩ : ∃ n, n = L.length := ⟨_, rfl⟩
  have HN := hide hn
  rw [← hn] at hvs hl
  rw [hvs] at HV ⊢
  clear hv hcan h hvs hn
  go_enter Try.func11, Try.ntmps11
  go_wp2
  go_loopw [3, 4] (fun s i wr => ∃ k : Nat, k ≤ n ∧ i = .int .i64 k ∧ s = .int .i64 (cntL (L.take k)) ∧ Below w.heap.size w wr) (fun _ i _ => n - (intOf i).toNat)
  case atStart => exact ⟨0, Nat.zero_le _, rfl, rfl, Below.refl _ _⟩
  case round =>
    obtain ⟨k, hk, rfl, rfl, hb⟩ := hrel
    by_cases hlt : k < n
    · have hkL : k < L.length := by have := HN.out; omega
      obtain ⟨x, cx, hx, hcx⟩ := (HV.out.below hb).some (by omega)
      obtain ⟨rfl⟩ : ao = some x := by cases hx; rfl
      obtain ⟨c1, c2⟩ := hcx k hkL
      have hr := HCan.out.1 L[k] (List.getElem_mem _)
      unfold okR at hr
      have ht := hide (cnt_take hkL)
      obtain ⟨m0, m1⟩ := cnt_rng (canon_take HCan.out k)
      obtain ⟨s, hs⟩ : ∃ s, s = cntL (L.take k) := ⟨_, rfl⟩
      rw [← hs] at ht m0 m1 ⊢
      obtain ⟨r, hr'⟩ : ∃ r, r = L[k] := ⟨_, rfl⟩
      rw [← hr'] at c1 c2 hr ht
      obtain ⟨a, b⟩ := r
      simp only at c1 c2 hr ht
      obtain ⟨r0, r1, r2⟩ := hr
      have e1 : (k : Int) < (n : Int) := by omega
      have e0 : (0 : Int) ≤ (k : Int) := by omega
      clear hx hcx hr' hs
      have w1' : IntKind.i64.wrap (b + 1) = b + 1 := by rw [IntKind.wrap_i64]; omega
      have w2' : IntKind.i64.wrap (b + 1 - a) = b + 1 - a := by rw [IntKind.wrap_i64]; omega
      have w3' : IntKind.i64.wrap (s + (b + 1 - a)) = s + (b + 1 - a) := by rw [IntKind.wrap_i64]; omega
      go_wp2
      go_quiet (fail)
      go_wp2
      go_roundw
      case rel => exact ⟨k + 1, by omega, by go_num, by rw [ht.out]; congr 1; omega, below_drewN hb _⟩
      case measure => simp [intOf]; omega
    · have hkn : k = n := by omega
      have hfull : Hid (cntL (L.take k) = cntL L) := by show _ = _; rw [List.take_of_length_le (by have := HN.out; omega)]
      go_wp2
      go_ret
      exact ⟨ret_int hfull.out, hb⟩

end Go.Proofs.Ytjlnmlelmjmneab
