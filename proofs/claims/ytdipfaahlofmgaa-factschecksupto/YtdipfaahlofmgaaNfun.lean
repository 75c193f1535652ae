/- Widths: the small functions. -/
import Derived.Test.YtdipfaahlofmgaaNbase
namespace Go.Proofs.Ytdipfaahlofmgaa
open Go.RowKit
set_option linter.unusedVariables false

def leastF (n : Int) : Int := if n < 1000000 then n else 1000000
def mostF (n : Int) : Int := if 1000000 < n then -1 else n
def addM (a b : Int) : Int := if a < 0 ∨ b < 0 then -1 else mostF (a + b)
def maxM (a b : Int) : Int := if a < 0 ∨ b < 0 then -1 else if a < b then b else a
def timM (a b : Int) : Int := if a = 0 ∨ b = 0 then 0 else if a < 0 ∨ b < 0 then -1 else mostF (a * b)

set_option maxHeartbeats 400000 in
theorem leastTaken_any (p : Int) (w : World) : Calls Try.prog 45 #[.int .i64 p] w fun e w' => e = .returned (.int .i64 (leastF p)) ∧ w = w' := by
  by_cases h : p < 1000000
  · have hE : Hid (leastF p = p) := by show _ = _; unfold leastF; rw [if_pos h]
    have h2 : ¬ (1000000 : Int) ≤ p := by omega
    go_enter Try.func45, Try.ntmps45
    go_wp2
    go_ret
    exact ⟨ret_int (by rw [hE.out]), rfl⟩
  · have hE : Hid (leastF p = 1000000) := by show _ = _; unfold leastF; rw [if_neg h]
    have h2 : (1000000 : Int) ≤ p := by omega
    go_enter Try.func45, Try.ntmps45
    go_wp2
    all_goals go_ret
    all_goals exact ⟨ret_int (by first | (rw [hE.out]; done) | (rw [hE.out]; omega)), rfl⟩
set_option maxHeartbeats 400000 in
theorem mostTaken_any (p : Int) (w : World) : Calls Try.prog 58 #[.int .i64 p] w fun e w' => e = .returned (.int .i64 (mostF p)) ∧ w = w' := by
  by_cases h : 1000000 < p
  · have hE : Hid (mostF p = -1) := by show _ = _; unfold mostF; rw [if_pos h]
    go_enter Try.func58, Try.ntmps58
    go_wp2
    go_ret
    exact ⟨ret_int (by rw [hE.out]), rfl⟩
  · have hE : Hid (mostF p = p) := by show _ = _; unfold mostF; rw [if_neg h]
    go_enter Try.func58, Try.ntmps58
    go_wp2
    go_ret
    exact ⟨ret_int (by rw [hE.out]), rfl⟩
set_option maxHeartbeats 800000 in
theorem mostAdded_any (a b : Int) (w : World) (ha : a ≤ 1000000) (hb : b ≤ 1000000) : Calls Try.prog 46 #[.int .i64 a, .int .i64 b] w fun e w' => e = .returned (.int .i64 (addM a b)) ∧ w = w' := by
  by_cases h1 : a < 0
  · have hE : Hid (addM a b = -1) := by show _ = _; unfold addM; rw [if_pos (.inl h1)]
    go_enter Try.func46, Try.ntmps46
    go_wp2
    go_ret
    exact ⟨ret_int (by rw [hE.out]), rfl⟩
  · by_cases h2 : b < 0
    · have hE : Hid (addM a b = -1) := by show _ = _; unfold addM; rw [if_pos (.inr h2)]
      go_enter Try.func46, Try.ntmps46
      go_wp2
      go_ret
      exact ⟨ret_int (by rw [hE.out]), rfl⟩
    · have hE : Hid (addM a b = mostF (a + b)) := by show _ = _; unfold addM; rw [if_neg (by omega)]
      have hw : IntKind.i64.wrap (a + b) = a + b := by rw [IntKind.wrap_i64]; omega
      have HM := hide (mostTaken_any (a + b) w)
      go_enter Try.func46, Try.ntmps46
      go_wp2_with fail
      refine HM.out.mono ?_
      rintro e w' ⟨rfl, rfl⟩
      go_wp2
      go_ret
      exact ⟨ret_int (by rw [hE.out]), rfl⟩
set_option maxHeartbeats 800000 in
theorem greaterMost_any (a b : Int) (w : World) : Calls Try.prog 47 #[.int .i64 a, .int .i64 b] w fun e w' => e = .returned (.int .i64 (maxM a b)) ∧ w = w' := by
  by_cases h1 : a < 0
  · have hE : Hid (maxM a b = -1) := by show _ = _; unfold maxM; rw [if_pos (.inl h1)]
    go_enter Try.func47, Try.ntmps47
    go_wp2
    go_ret
    exact ⟨ret_int (by rw [hE.out]), rfl⟩
  · by_cases h2 : b < 0
    · have hE : Hid (maxM a b = -1) := by show _ = _; unfold maxM; rw [if_pos (.inr h2)]
      go_enter Try.func47, Try.ntmps47
      go_wp2
      go_ret
      exact ⟨ret_int (by rw [hE.out]), rfl⟩
    · by_cases h3 : a < b
      · have hE : Hid (maxM a b = b) := by show _ = _; unfold maxM; rw [if_neg (by omega), if_pos h3]
        have h4 : ¬ b ≤ a := by omega
        go_enter Try.func47, Try.ntmps47
        go_wp2
        go_ret
        exact ⟨ret_int (by rw [hE.out]), rfl⟩
      · have hE : Hid (maxM a b = a) := by show _ = _; unfold maxM; rw [if_neg (by omega), if_neg h3]
        have h4 : b ≤ a := by omega
        go_enter Try.func47, Try.ntmps47
        go_wp2
        go_ret
        exact ⟨ret_int (by rw [hE.out]), rfl⟩
theorem mul_small {a b : Int} (h0 : 0 ≤ a) (ha : a ≤ 1000000) (h1 : 0 ≤ b) (hb : b ≤ 100) : 0 ≤ a * b ∧ a * b ≤ 100000000 :=
  ⟨Int.mul_nonneg h0 h1, Int.le_trans (Int.mul_le_mul ha hb h1 (by omega)) (by omega)⟩
set_option maxHeartbeats 800000 in
theorem mostTimes_any (a b : Int) (w : World) (ha : a ≤ 1000000) (hb : b ≤ 100) : Calls Try.prog 48 #[.int .i64 a, .int .i64 b] w fun e w' => e = .returned (.int .i64 (timM a b)) ∧ w = w' := by
  by_cases h0 : a = 0
  · have hE : Hid (timM a b = 0) := by show _ = _; unfold timM; rw [if_pos (.inl h0)]
    have hx : (a == 0) = true := by simpa using h0
    clear h0 ha hb
    go_enter Try.func48, Try.ntmps48
    go_wp2
    go_ret
    exact ⟨ret_int (by rw [hE.out]), rfl⟩
  · have hx : (a == 0) = false := by simpa using h0
    by_cases h9 : b = 0
    · have hE : Hid (timM a b = 0) := by show _ = _; unfold timM; rw [if_pos (.inr h9)]
      have hy : (b == 0) = true := by simpa using h9
      clear h0 ha hb h9
      go_enter Try.func48, Try.ntmps48
      go_wp2
      go_ret
      exact ⟨ret_int (by rw [hE.out]), rfl⟩
    · have hy : (b == 0) = false := by simpa using h9
      by_cases h1 : a < 0
      · have hE : Hid (timM a b = -1) := by show _ = _; unfold timM; rw [if_neg (by omega), if_pos (.inl h1)]
        clear h0 h9 ha hb
        go_enter Try.func48, Try.ntmps48
        go_wp2
        go_ret
        exact ⟨ret_int (by rw [hE.out]), rfl⟩
      · by_cases h2 : b < 0
        · have hE : Hid (timM a b = -1) := by show _ = _; unfold timM; rw [if_neg (by omega), if_pos (.inr h2)]
          clear h0 h9 ha hb
          go_enter Try.func48, Try.ntmps48
          go_wp2
          go_ret
          exact ⟨ret_int (by rw [hE.out]), rfl⟩
        · have hE : Hid (timM a b = mostF (a * b)) := by show _ = _; unfold timM; rw [if_neg (by omega), if_neg (by omega)]
          have hm := mul_small (by omega) ha (by omega) hb
          have hw : IntKind.i64.wrap (a * b) = a * b := by rw [IntKind.wrap_i64]; omega
          have HM := hide (mostTaken_any (a * b) w)
          clear h0 h9 ha hb hm
          go_enter Try.func48, Try.ntmps48
          go_wp2_with fail
          refine HM.out.mono ?_
          rintro e w' ⟨rfl, rfl⟩
          go_wp2
          go_ret
          exact ⟨ret_int (by rw [hE.out]), rfl⟩

end Go.Proofs.Ytdipfaahlofmgaa
