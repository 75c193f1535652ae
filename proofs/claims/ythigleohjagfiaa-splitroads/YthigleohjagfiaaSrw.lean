/- What the closures of Standing answer. -/
import Derived.Test.YthigleohjagfiaaSrt
import Derived.Test.YthigleohjagfiaaSru
import Derived.Test.YthigleohjagfiaaSrefw
namespace Go.Proofs.Ythigleohjagfiaa
open Go.RowKit Go.PlainAid
set_option linter.unusedVariables false

def bN (s : ByteArray) (i : Nat) : Int := if i < s.size then bt s i else -1
theorem bt_rng (s : ByteArray) (i : Nat) (h : i < s.size) : 0 ≤ bt s i ∧ bt s i ≤ 255 := by
  unfold bt
  rw [dif_pos h]
  have := (s[i]'h).toNat_lt
  omega
theorem bN_rng (s : ByteArray) (i : Nat) : -1 ≤ bN s i ∧ bN s i ≤ 255 := by
  unfold bN
  split
  · have := bt_rng s i (by assumption); omega
  · omega
theorem bN_tl {s : ByteArray} {l : List Int} (h : tl s = l) (i : Nat) : bN s i = l.getD i (-1) := by
  subst h
  unfold bN
  by_cases hi : i < s.size
  · rw [if_pos hi, List.getD, List.getElem?_eq_getElem (by rw [tl_len]; exact hi), tl_get]
    rfl
  · rw [if_neg hi, List.getD, List.getElem?_eq_none (by rw [tl_len]; omega)]
    rfl
set_option maxRecDepth 100000 in
set_option maxHeartbeats 1000000 in
theorem stB_any (s : ByteArray) (hs : s.size ≤ 4) (i : Nat) (hi : i ≤ 8) (b4 b5 : Nat) (w : World) (h4 : w.cell? ⟨b4, 0, none⟩ = some (.string s)) (h5 : w.cell? ⟨b5, 0, none⟩ = some (.int .i64 0)) :
    Calls Try.prog 36 #[.int .i64 i, .pointer (some ⟨b5, 0, none⟩), .pointer (some ⟨b4, 0, none⟩)] w fun e w' => e = .returned (.int .i64 (bN s i)) ∧ w' = w := by
  have hg := get_bt s
  have e0 : (0 : Int) ≤ (i : Int) := by omega
  have hz : (0 : Int) + (i : Int) = (i : Int) := by omega
  have hw : IntKind.i64.wrap (i : Int) = (i : Int) := by rw [IntKind.wrap_i64]; omega
  by_cases hlt : i < s.size
  · have hE : bN s i = bt s i := by unfold bN; rw [if_pos hlt]
    rw [hE]
    have hr := bt_rng s i hlt
    have e1 : (i : Int) < (s.size : Int) := by omega
    have hwb : IntKind.i64.wrap (bt s i) = bt s i := by rw [IntKind.wrap_i64]; omega
    clear hE
    go_enter Try.func36, Try.ntmps36
    go_wp2
    go_ret
    exact ⟨by first | rfl | (simp [hwb]; done), rfl⟩
  · have hE : bN s i = -1 := by unfold bN; rw [if_neg hlt]
    rw [hE]
    have e1 : ¬ (i : Int) < (s.size : Int) := by omega
    clear hE
    go_enter Try.func36, Try.ntmps36
    go_wp2
    go_ret
    exact ⟨rfl, rfl⟩
/-- two bytes, as a unit. -/
def unN (enc : Int) (a b : Int) : Int := if enc = 2 then a + 256 * b else 256 * a + b
abbrev stF (b4 b5 : Nat) : Value := .func (.func 36) #[] #[.pointer (some ⟨b5, 0, none⟩), .pointer (some ⟨b4, 0, none⟩)]
set_option maxRecDepth 100000 in
set_option maxHeartbeats 2000000 in
theorem stU_any (enc : Int) (he : enc = 2 ∨ enc = 3) (i : Nat) (hi : i ≤ 4) (a b : Int) (ha : -1 ≤ a ∧ a ≤ 255) (hb : -1 ≤ b ∧ b ≤ 255) (b3 b4 b5 b8 : Nat) (w : World) (h3 : w.cell? ⟨b3, 0, none⟩ = some (.int .i64 enc)) (h8 : w.cell? ⟨b8, 0, none⟩ = some (stF b4 b5))
    (hB1 : ∀ W : World, Below w.heap.size w W → Calls Try.prog 36 #[.int .i64 i, .pointer (some ⟨b5, 0, none⟩), .pointer (some ⟨b4, 0, none⟩)] W fun e w' => e = .returned (.int .i64 a) ∧ w' = W)
    (hB2 : ∀ W : World, Below w.heap.size w W → Calls Try.prog 36 #[.int .i64 ((i : Int) + 1), .pointer (some ⟨b5, 0, none⟩), .pointer (some ⟨b4, 0, none⟩)] W fun e w' => e = .returned (.int .i64 b) ∧ w' = W) :
    Calls Try.prog 37 #[.int .i64 i, .pointer (some ⟨b3, 0, none⟩), .pointer (some ⟨b8, 0, none⟩)] w fun e w' => e = .returned (.int .i64 (unN enc a b)) ∧ Below w.heap.size w w' := by
  have hw : IntKind.i64.wrap ((i : Int) + 1) = (i : Int) + 1 := by rw [IntKind.wrap_i64]; omega
  have HB1 : Hid (∀ q, Calls Try.prog 36 #[.int .i64 i, .pointer (some ⟨b5, 0, none⟩), .pointer (some ⟨b4, 0, none⟩)] (w.drewN q) fun e w' => e = .returned (.int .i64 a) ∧ w' = w.drewN q) := fun q => hB1 _ (below_drewN (Below.refl _ _) q)
  have HB2 : Hid (∀ q, Calls Try.prog 36 #[.int .i64 ((i : Int) + 1), .pointer (some ⟨b5, 0, none⟩), .pointer (some ⟨b4, 0, none⟩)] (w.drewN q) fun e w' => e = .returned (.int .i64 b) ∧ w' = w.drewN q) := fun q => hB2 _ (below_drewN (Below.refl _ _) q)
  have eg := enters_of (P := Try.prog) Try.func36 (by kernel_rfl) rfl
  have hw1 : IntKind.i64.wrap (256 * b) = 256 * b := by rw [IntKind.wrap_i64]; omega
  have hw2 : IntKind.i64.wrap (a + 256 * b) = a + 256 * b := by rw [IntKind.wrap_i64]; omega
  have hw3 : IntKind.i64.wrap (256 * a) = 256 * a := by rw [IntKind.wrap_i64]; omega
  have hw4 : IntKind.i64.wrap (256 * a + b) = 256 * a + b := by rw [IntKind.wrap_i64]; omega
  simp only [stF] at h8
  clear hB1 hB2
  rcases he with rfl | rfl
  · have hE : Hid (unN 2 a b = a + 256 * b) := by show _ = _; unfold unN; simp
    rw [hE.out]
    clear hE
    go_enter Try.func37, Try.ntmps37
    go_upto_region 2 with fail
    go_quiet (first | (go_at_call_of 36 (Value.int .i64 (i : Int)); refine Calls.quiet_of_same (HB1.out _)) | (go_at_call 36; refine Calls.quiet_of_same (HB2.out _)))
    go_wp2
    go_ret
    exact ⟨rfl, below_drewN (Below.refl _ _) _⟩
  · have hE : Hid (unN 3 a b = 256 * a + b) := by show _ = _; unfold unN; simp
    rw [hE.out]
    clear hE
    go_enter Try.func37, Try.ntmps37
    go_upto_region 3 with fail
    go_quiet (first | (go_at_call_of 36 (Value.int .i64 (i : Int)); refine Calls.quiet_of_same (HB1.out _)) | (go_at_call 36; refine Calls.quiet_of_same (HB2.out _)))
    go_wp2
    go_ret
    exact ⟨rfl, below_drewN (Below.refl _ _) _⟩

end Go.Proofs.Ythigleohjagfiaa
