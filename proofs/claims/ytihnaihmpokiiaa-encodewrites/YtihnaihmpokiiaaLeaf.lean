/- What the small functions of the program answer: tests on points and encodings, lengths, the encodings themselves. No condition but those of each theorem. -/
import Derived.Test.YtihnaihmpokiiaaProg
import Derived.WalkKit
import Derived.WalkLawsBesides
import Derived.Handy
import Derived.PlainAid
import Derived.BigQuiet
import Derived.Deep.QuietTactic
namespace Go.Proofs.Ytihnaihmpokiiaa
open Go.RowKit
set_option linter.unusedVariables false

theorem ret_bool {a b : Bool} (h : a = b) : Ending.returned (.bool a) = .returned (.bool b) := by rw [h]
theorem ret_int {k : IntKind} {a b : Int} (h : a = b) : Ending.returned (.int k a) = .returned (.int k b) := by rw [h]

def sclB (p : Int) : Bool := decide (0 ≤ p ∧ p ≤ 1114111 ∧ (p < 55296 ∨ 57343 < p))
def latB (p : Int) : Bool := decide (0 ≤ p ∧ p ≤ 255)
def encB (e : Int) : Bool := decide (1 ≤ e ∧ e ≤ 4)
def holdB (enc p : Int) : Bool := if enc = 4 then latB p else sclB p

set_option maxHeartbeats 400000 in
theorem isScalar_any (p : Int) (w : World) : Calls Try.prog 36 #[.int .i64 p] w fun e w' => e = .returned (.bool (sclB p)) ∧ w' = w := by
  go_enter Try.func36, Try.ntmps36
  go_wp2
  all_goals go_ret
  all_goals exact ⟨ret_bool (by rw [Bool.eq_iff_iff]; simp [sclB] <;> omega), rfl⟩

set_option maxHeartbeats 400000 in
theorem holds8_any (p : Int) (w : World) : Calls Try.prog 32 #[.agg #[], .int .i64 p] w fun e w' => e = .returned (.bool (sclB p)) ∧ Below w.heap.size w w' := by
  go_enter Try.func32, Try.ntmps32
  go_wp2_with (go_at_call 36; refine (isScalar_any _ _).mono ?_; rintro e w' ⟨rfl, rfl⟩)
  go_ret
  exact ⟨rfl, by go_grown⟩

set_option maxHeartbeats 400000 in
theorem holds16_any (a b p : Int) (w : World) : Calls Try.prog 42 #[.agg #[.int .i64 a, .int .i64 b], .int .i64 p] w fun e w' => e = .returned (.bool (sclB p)) ∧ Below w.heap.size w w' := by
  go_enter Try.func42, Try.ntmps42
  go_wp2_with (go_at_call 36; refine (isScalar_any _ _).mono ?_; rintro e w' ⟨rfl, rfl⟩)
  go_ret
  exact ⟨rfl, by go_grown⟩

set_option maxHeartbeats 400000 in
theorem holdsL_any (p : Int) (w : World) : Calls Try.prog 48 #[.agg #[], .int .i64 p] w fun e w' => e = .returned (.bool (latB p)) ∧ Below w.heap.size w w' := by
  go_enter Try.func48, Try.ntmps48
  go_wp2
  all_goals go_ret
  all_goals exact ⟨ret_bool (by rw [Bool.eq_iff_iff]; simp [latB] <;> omega), by go_grown⟩

set_option maxHeartbeats 400000 in
theorem isPoint_any (p : Int) (w : World) : Calls Try.prog 13 #[.int .i64 p] w fun e w' => e = .returned (.bool (decide (0 ≤ p ∧ p ≤ 1114111))) ∧ w' = w := by
  go_enter Try.func13, Try.ntmps13
  go_wp2
  all_goals go_ret
  all_goals exact ⟨ret_bool (by rw [Bool.eq_iff_iff]; simp <;> omega), rfl⟩

set_option maxHeartbeats 400000 in
theorem isEnc_any (p : Int) (w : World) : Calls Try.prog 8 #[.int .i64 p] w fun e w' => e = .returned (.bool (encB p)) ∧ w' = w := by
  go_enter Try.func8, Try.ntmps8
  go_wp2
  all_goals go_ret
  all_goals exact ⟨ret_bool (by rw [Bool.eq_iff_iff]; simp [encB] <;> omega), rfl⟩

set_option maxHeartbeats 400000 in
theorem isScalarR_any (enc p : Int) (w : World) : Calls Try.prog 9 #[.int .i64 enc, .int .i64 p] w fun e w' => e = .returned (.bool (holdB enc p)) ∧ w' = w := by
  by_cases h4 : enc = 4
  · subst h4
    go_enter Try.func9, Try.ntmps9
    go_wp2
    all_goals go_ret
    all_goals exact ⟨ret_bool (by rw [Bool.eq_iff_iff]; simp [holdB, latB] <;> omega), rfl⟩
  · have h4' : (enc == 4) = false := by simpa using h4
    go_enter Try.func9, Try.ntmps9
    go_wp2
    all_goals go_ret
    all_goals exact ⟨ret_bool (by rw [Bool.eq_iff_iff]; simp [holdB, sclB, h4] <;> omega), rfl⟩

/-- how many bytes. -/
def len8 (p : Int) : Int := if p ≤ 127 then 1 else if p ≤ 2047 then 2 else if p ≤ 65535 then 3 else 4
def len16 (p : Int) : Int := if p < 65536 then 2 else 4

set_option maxHeartbeats 400000 in
theorem runeLen_any (p : Int) (w : World) (h : sclB p = true) : Calls Try.prog 38 #[.int .i32 p] w fun e w' => e = .returned (.int .i64 (len8 p)) ∧ w' = w := by
  simp [sclB] at h
  obtain ⟨h0, h1, h2⟩ := h
  go_enter Try.func38, Try.ntmps38
  go_wp2
  all_goals go_ret
  all_goals exact ⟨ret_int (by unfold len8; repeat' split <;> omega), rfl⟩

set_option maxHeartbeats 400000 in
theorem size8_any (p : Int) (w : World) (h : sclB p = true) : Calls Try.prog 34 #[.agg #[], .int .i64 p] w fun e w' => e = .returned (.int .i64 (len8 p)) ∧ Below w.heap.size w w' := by
  have h' := h
  simp [sclB] at h'
  have e32 : IntKind.i32.wrap p = p := by go_arith
  go_enter Try.func34, Try.ntmps34
  go_wp2_with (go_at_call 38; refine (runeLen_any _ _ h).mono ?_; rintro e w' ⟨rfl, rfl⟩)
  go_ret
  exact ⟨rfl, by go_grown⟩

set_option maxHeartbeats 400000 in
theorem size16_any (a b p : Int) (w : World) : Calls Try.prog 44 #[.agg #[.int .i64 a, .int .i64 b], .int .i64 p] w fun e w' => e = .returned (.int .i64 (len16 p)) ∧ Below w.heap.size w w' := by
  go_enter Try.func44, Try.ntmps44
  go_wp2
  all_goals go_ret
  all_goals exact ⟨ret_int (by unfold len16; split <;> omega), by go_grown⟩

set_option maxHeartbeats 400000 in
theorem sizeL_any (p : Int) (w : World) : Calls Try.prog 50 #[.agg #[], .int .i64 p] w fun e w' => e = .returned (.int .i64 1) ∧ Below w.heap.size w w' := by
  go_enter Try.func50, Try.ntmps50
  go_wp2
  go_ret
  exact ⟨rfl, by go_grown⟩

/-- the encodings. -/
def encV (enc : Int) : Value := if enc = 1 then .iface 44 (.agg #[]) else if enc = 2 then .iface 46 (.agg #[.int .i64 0, .int .i64 1]) else if enc = 3 then .iface 46 (.agg #[.int .i64 1, .int .i64 0]) else .iface 47 (.agg #[])

set_option maxHeartbeats 400000 in
theorem encodingOf_yes (enc : Int) (w : World) (h : encB enc = true) : Calls Try.prog 7 #[.int .i64 enc] w fun e w' => e = .returned (.tuple #[encV enc, .bool true]) ∧ w' = w := by
  have h' : enc = 1 ∨ enc = 2 ∨ enc = 3 ∨ enc = 4 := by simp [encB] at h; omega
  rcases h' with rfl | rfl | rfl | rfl
  all_goals
    go_enter Try.func7, Try.ntmps7
    go_wp2
    go_ret2
    exact ⟨rfl, rfl⟩

set_option maxHeartbeats 400000 in
theorem encodingOf_no (enc : Int) (w : World) (h : encB enc = false) : Calls Try.prog 7 #[.int .i64 enc] w fun e w' => e = .returned (.tuple #[.nilIface, .bool false]) ∧ w' = w := by
  have h' : ¬ (1 ≤ enc ∧ enc ≤ 4) := by simpa [encB] using h
  have a1 : (enc == 1) = false := by simp; omega
  have a2 : (enc == 2) = false := by simp; omega
  have a3 : (enc == 3) = false := by simp; omega
  have a4 : (enc == 4) = false := by simp; omega
  go_enter Try.func7, Try.ntmps7
  go_wp2
  go_ret2
  exact ⟨rfl, rfl⟩

end Go.Proofs.Ytihnaihmpokiiaa
