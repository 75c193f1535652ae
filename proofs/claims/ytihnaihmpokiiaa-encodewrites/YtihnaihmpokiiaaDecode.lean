/- What the reader of the encoding by units answers at a byte. -/
import Derived.Test.YtihnaihmpokiiaaText
namespace Go.Proofs.Ytihnaihmpokiiaa
open Go.RowKit Go.PlainAid
set_option linter.unusedVariables false

theorem ret2i {a c : Int} {b d : Bool} (h1 : a = c) (h2 : b = d) : Ending.returned (.tuple #[.int .i64 a, .bool b]) = .returned (.tuple #[.int .i64 c, .bool d]) := by rw [h1, h2]
theorem ret2n {a c : Int} {b d : Int} (h1 : a = c) (h2 : b = d) : Ending.returned (.tuple #[.int .i64 a, .int .i64 b]) = .returned (.tuple #[.int .i64 c, .int .i64 d]) := by rw [h1, h2]
set_option maxHeartbeats 1000000 in
theorem readUnit_le (s : ByteArray) (k : Nat) (h : k + 2 ≤ s.size) (hs : s.size ≤ 4000) (w : World) : Calls Try.prog 46 #[.agg #[.int .i64 0, .int .i64 1], .string s, .int .i64 k] w fun e w' => e = .returned (.tuple #[.int .i64 (bt s k + bt s (k + 1) * 256), .bool true]) ∧ Below w.heap.size w w' := by
  have h1 : k < s.size := by omega
  have h2 : k + 1 < s.size := by omega
  have hg := get_bt s
  have n1 := bt_nonneg s k
  have n2 := bt_le s k
  have n3 := bt_nonneg s (k + 1)
  have n4 := bt_le s (k + 1)
  go_enter Try.func46, Try.ntmps46
  go_wp2
  go_quiet (fail)
  go_wp2
  go_ret2
  exact ⟨rfl, below_drewN (by go_grown) _⟩

set_option maxHeartbeats 1000000 in
theorem read_one (s : ByteArray) (k : Nat) (u : Int) (h : k + 2 ≤ s.size) (hs : s.size ≤ 4000) (hu : bt s k + bt s (k + 1) * 256 = u) (hsc : sclB u = true) (w : World) : Calls Try.prog 43 #[.agg #[.int .i64 0, .int .i64 1], .string s, .int .i64 k] w fun e w' => e = .returned (.tuple #[.int .i64 u, .int .i64 2]) ∧ Below w.heap.size w w' := by
  have H := hide (readUnit_le s k h hs)
  have HS := isScalar_any u
  rw [hsc] at HS
  rw [hu] at H
  have HS' := hide HS
  clear HS hsc hu
  go_enter Try.func43, Try.ntmps43
  go_wp2_with (first | (go_at_call 46; refine (H.out _).mono ?_; rintro e w1 ⟨rfl, hb1⟩) | (go_at_call 36; refine (HS'.out _).mono ?_; rintro e w2 ⟨rfl, rfl⟩))
  go_ret2
  exact ⟨rfl, ((Below.refl _ w).alloc (Nat.le_refl _) _).trans (hb1.mono (by simp))⟩

set_option maxHeartbeats 1000000 in
theorem read_pair (s : ByteArray) (k : Nat) (u v : Int) (h : k + 4 ≤ s.size) (hs : s.size ≤ 4000) (hu : bt s k + bt s (k + 1) * 256 = u) (hv : bt s (k + 2) + bt s (k + 3) * 256 = v) (u0 : 55296 ≤ u) (u1 : u < 56320) (v0 : 56320 ≤ v) (v1 : v ≤ 57343) (w : World) : Calls Try.prog 43 #[.agg #[.int .i64 0, .int .i64 1], .string s, .int .i64 k] w fun e w' => e = .returned (.tuple #[.int .i64 (65536 + (u - 55296) * 1024 + (v - 56320)), .int .i64 4]) ∧ Below w.heap.size w w' := by
  have H := hide (readUnit_le s k (by omega) hs)
  have H2 := hide (readUnit_le s (k + 2) (by omega) hs)
  have HS := isScalar_any u
  rw [show sclB u = false from by simp [sclB]; omega] at HS
  rw [hu] at H
  rw [hv] at H2
  have HS' := hide HS
  clear HS hu hv
  go_enter Try.func43, Try.ntmps43
  go_wp2_with fail
  refine (H.out _).mono ?_
  rintro e w1 ⟨rfl, hb1⟩
  have k0 := hb1.cell (p := ⟨w.heap.size, 0, none⟩) (by simp)
  have k1 := hb1.cell (p := ⟨w.heap.size, 1, none⟩) (by simp)
  rw [World.cell?_alloc_at _ _ _ _ rfl] at k0 k1
  go_wp2_with (go_at_call 36; refine (HS'.out _).mono ?_; rintro e w2 ⟨rfl, hw⟩; have hw2 := hw.symm; clear hw; subst hw2)
  refine (H2.out _).mono ?_
  rintro e w2 ⟨rfl, hb2⟩
  go_wp2
  go_ret2
  exact ⟨rfl, (((Below.refl _ w).alloc (Nat.le_refl _) _).trans (hb1.mono (by simp))).trans (hb2.mono (by have := hb1.size; simp at this; omega))⟩

end Go.Proofs.Ytihnaihmpokiiaa
