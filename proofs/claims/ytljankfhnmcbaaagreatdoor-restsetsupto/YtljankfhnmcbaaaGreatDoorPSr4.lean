/- Roads: bytes of points in general, and bits. -/
import Derived.Test.YtljankfhnmcbaaaGreatDoorPSr1
import Derived.Laws.BitsAllLaws
namespace Go.Proofs.YtljankfhnmcbaaaGreatDoor.SP
open Go.RowKit Go.PlainAid
set_option linter.unusedVariables false

theorem wraps_i64_63 (n : Int) (h0 : 0 ≤ n) (h1 : n < 2 ^ 63) : IntKind.i64.wrap n = n := by rw [IntKind.wrap_i64]; omega
theorem and_low (s : Nat) (hs : s ≤ 63) (x : Int) (h0 : 0 ≤ x) (h1 : x < 9223372036854775808) : bits .and .i64 x (2 ^ s - 1) = x % 2 ^ s := bits_mask .i64 63 (by decide) wraps_i64_63 s hs x h0 (by omega)
theorem nat_or_low (s x : Nat) : x ||| (2 ^ s - 1) = 2 ^ s * (x / 2 ^ s) + (2 ^ s - 1) := by
  have hp : 0 < 2 ^ s := Nat.two_pow_pos s
  have hx : x = 2 ^ s * (x / 2 ^ s) ||| x % 2 ^ s := by
    rw [← Nat.two_pow_add_eq_or_of_lt (Nat.mod_lt _ hp)]
    exact (Nat.div_add_mod x (2 ^ s)).symm
  have hr : x % 2 ^ s ||| (2 ^ s - 1) = 2 ^ s - 1 := by
    have h1 : x % 2 ^ s ||| (2 ^ s - 1) < 2 ^ s := Nat.or_lt_two_pow (Nat.mod_lt _ hp) (by omega)
    have h2 : 2 ^ s - 1 ≤ x % 2 ^ s ||| (2 ^ s - 1) := Nat.right_le_or
    omega
  calc x ||| (2 ^ s - 1) = (2 ^ s * (x / 2 ^ s) ||| x % 2 ^ s) ||| (2 ^ s - 1) := by rw [← hx]
    _ = 2 ^ s * (x / 2 ^ s) ||| (x % 2 ^ s ||| (2 ^ s - 1)) := Nat.or_assoc _ _ _
    _ = 2 ^ s * (x / 2 ^ s) ||| (2 ^ s - 1) := by rw [hr]
    _ = 2 ^ s * (x / 2 ^ s) + (2 ^ s - 1) := by rw [← Nat.two_pow_add_eq_or_of_lt (by omega)]
theorem nat_not_low (s x : Nat) (hs : s ≤ 64) (hx : x < 2 ^ 64) : x &&& (2 ^ 64 - 1 - (2 ^ s - 1)) = 2 ^ s * (x / 2 ^ s) := by
  apply Nat.eq_of_testBit_eq
  intro i
  have hp : 0 < 2 ^ s := Nat.two_pow_pos s
  have h64 : 2 ^ s ≤ 2 ^ 64 := Nat.pow_le_pow_right (by decide) hs
  have e : 2 ^ 64 - 1 - (2 ^ s - 1) = 2 ^ 64 - ((2 ^ s - 1) + 1) := by omega
  rw [e, Nat.testBit_and, Nat.testBit_two_pow_sub_succ (by omega), Nat.testBit_two_pow_sub_one, Nat.testBit_two_pow_mul, Nat.testBit_div_two_pow]
  by_cases h1 : s ≤ i
  · have e2 : s + (i - s) = i := by omega
    have e3 : i - s + s = i := by omega
    by_cases h2 : i < 64
    · simp [h1, h2, e3]
    · have : x.testBit i = false := Nat.testBit_lt_two_pow (Nat.lt_of_lt_of_le hx (Nat.pow_le_pow_right (by decide) (by omega)))
      simp [h1, h2, e3, this]
  · simp [h1, show i < s by omega]
theorem or_low (s : Nat) (hs : s ≤ 20) (x : Int) (h0 : 0 ≤ x) (h1 : x < 16777216) : bits .or .i64 x (2 ^ s - 1) = 2 ^ s * (x / 2 ^ s) + (2 ^ s - 1) := by
  obtain ⟨a, rfl⟩ := Int.eq_ofNat_of_zero_le h0
  have hp : 0 < 2 ^ s := Nat.two_pow_pos s
  have hps : 2 ^ s ≤ 2 ^ 20 := Nat.pow_le_pow_right (by decide) hs
  have hc : ((2 : Int) ^ s - 1) = ((2 ^ s - 1 : Nat) : Int) := by rw [Int.natCast_sub hp]; simp
  rw [hc]
  have := (bits_nat .i64 63 (by decide) wraps_i64_63 a (2 ^ s - 1) (by omega) (by omega)).2
  rw [this, nat_or_low]
  simp
theorem andNot_low (s : Nat) (hs : s ≤ 20) (x : Int) (h0 : 0 ≤ x) (h1 : x < 16777216) : bits .andNot .i64 x (2 ^ s - 1) = 2 ^ s * (x / 2 ^ s) := by
  obtain ⟨a, rfl⟩ := Int.eq_ofNat_of_zero_le h0
  have hp : 0 < 2 ^ s := Nat.two_pow_pos s
  have hps : 2 ^ s ≤ 2 ^ 20 := Nat.pow_le_pow_right (by decide) hs
  have hc : ((2 : Int) ^ s - 1) = ((2 ^ s - 1 : Nat) : Int) := by rw [Int.natCast_sub hp]; simp
  rw [hc]
  show IntKind.i64.wrap ((BitVec.ofInt 64 (a : Int) &&& ~~~BitVec.ofInt 64 ((2 ^ s - 1 : Nat) : Int)).toNat : Int) = _
  rw [BitVec.toNat_and, BitVec.toNat_not, BitVec.ofInt_natCast, BitVec.ofInt_natCast, BitVec.toNat_ofNat, BitVec.toNat_ofNat, Nat.mod_eq_of_lt (by omega), Nat.mod_eq_of_lt (by omega), nat_not_low s a (by omega) (by omega)]
  have hle : 2 ^ s * (a / 2 ^ s) ≤ a := Nat.mul_div_le a (2 ^ s)
  rw [wraps_i64_63 _ (Int.natCast_nonneg _) (by omega)]
  simp
/-- parts as they are. -/
def okPt (p : Pt) : Prop := (0 ≤ p.lead ∧ p.lead ≤ 255) ∧ ((p.shift = 0 ∧ p.bits = 7) ∨ (p.shift = 6 ∧ p.bits = 5) ∨ (p.shift = 0 ∧ p.bits = 6) ∨ (p.shift = 12 ∧ p.bits = 4) ∨ (p.shift = 6 ∧ p.bits = 6) ∨ (p.shift = 18 ∧ p.bits = 3) ∨ (p.shift = 12 ∧ p.bits = 6) ∨ (p.shift = 0 ∧ p.bits = 8) ∨ (p.shift = 8 ∧ p.bits = 8) ∨ (p.shift = 10 ∧ p.bits = 8) ∨ (p.shift = 18 ∧ p.bits = 2) ∨ (p.shift = 8 ∧ p.bits = 2))
set_option maxRecDepth 100000 in
set_option maxHeartbeats 1000000 in
theorem byteOf_0_7 (lead n : Int) (hl : 0 ≤ lead ∧ lead ≤ 255) (h0 : 0 ≤ n) (h1 : n < 2097152) : ByteOf ⟨lead, 0, 7⟩ n (lead + n / 1 % 128) := fun w => by
  obtain ⟨w1, hw1⟩ : ∃ w1, w1 = w.alloc (ptO ⟨lead, 0, 7⟩) := ⟨_, rfl⟩
  have hX1 : w1.heap[w.heap.size]? = some (ptO ⟨lead, 0, 7⟩) := by rw [hw1]; exact at_newS _ _
  have HB1 : Hid (Below w.heap.size w w1.drew) := by show Below _ _ _; rw [hw1]; exact ((Below.refl _ w).alloc (Nat.le_refl _) _).trans ⟨rfl, rfl, rfl, Nat.le_refl _, fun _ _ => rfl⟩
  obtain ⟨d0, d1, d2⟩ := pt_cells hX1
  have hbb : bits BinOp.and IntKind.i64 n 127 = n % 128 := and_low 7 (by decide) _ (by omega) (by omega)
  have hm0 : 0 ≤ n % 128 ∧ n % 128 < 128 := by omega
  have hE : lead + n / 1 % 128 = lead + n % 128 := by omega
  rw [hE]
  obtain ⟨m, hm⟩ : ∃ m, m = n % 128 := ⟨_, rfl⟩
  rw [← hm] at hbb hm0 ⊢
  have hwl : IntKind.i64.wrap (lead + m) = lead + m := by rw [IntKind.wrap_i64]; omega
  simp only [ptO] at hw1
  simp only at d0 d1 d2
  clear hX1 hm hE
  go_enter Tryz.func64, Tryz.ntmps64
  go_upto_region 1 with fail
  rw [← hw1]
  clear hw1
  go_region
  all_goals go_wp2
  all_goals go_ret
  all_goals exact ⟨rfl, HB1.out⟩
set_option maxRecDepth 100000 in
set_option maxHeartbeats 1000000 in
theorem byteOf_6_5 (lead n : Int) (hl : 0 ≤ lead ∧ lead ≤ 255) (h0 : 0 ≤ n) (h1 : n < 2097152) : ByteOf ⟨lead, 6, 5⟩ n (lead + n / 64 % 32) := fun w => by
  obtain ⟨w1, hw1⟩ : ∃ w1, w1 = w.alloc (ptO ⟨lead, 6, 5⟩) := ⟨_, rfl⟩
  have hX1 : w1.heap[w.heap.size]? = some (ptO ⟨lead, 6, 5⟩) := by rw [hw1]; exact at_newS _ _
  have HB1 : Hid (Below w.heap.size w w1.drew) := by show Below _ _ _; rw [hw1]; exact ((Below.refl _ w).alloc (Nat.le_refl _) _).trans ⟨rfl, rfl, rfl, Nat.le_refl _, fun _ _ => rfl⟩
  obtain ⟨d0, d1, d2⟩ := pt_cells hX1
  have hbb : bits BinOp.and IntKind.i64 (n / 64) 31 = (n / 64) % 32 := and_low 5 (by decide) _ (by omega) (by omega)
  have hm0 : 0 ≤ (n / 64) % 32 ∧ (n / 64) % 32 < 32 := by omega
  have hE : lead + n / 64 % 32 = lead + (n / 64) % 32 := by omega
  rw [hE]
  obtain ⟨m, hm⟩ : ∃ m, m = (n / 64) % 32 := ⟨_, rfl⟩
  rw [← hm] at hbb hm0 ⊢
  have hwl : IntKind.i64.wrap (lead + m) = lead + m := by rw [IntKind.wrap_i64]; omega
  simp only [ptO] at hw1
  simp only at d0 d1 d2
  clear hX1 hm hE
  go_enter Tryz.func64, Tryz.ntmps64
  go_upto_region 1 with fail
  rw [← hw1]
  clear hw1
  go_region
  all_goals go_wp2
  all_goals go_ret
  all_goals exact ⟨rfl, HB1.out⟩
set_option maxRecDepth 100000 in
set_option maxHeartbeats 1000000 in
theorem byteOf_0_6 (lead n : Int) (hl : 0 ≤ lead ∧ lead ≤ 255) (h0 : 0 ≤ n) (h1 : n < 2097152) : ByteOf ⟨lead, 0, 6⟩ n (lead + n / 1 % 64) := fun w => by
  obtain ⟨w1, hw1⟩ : ∃ w1, w1 = w.alloc (ptO ⟨lead, 0, 6⟩) := ⟨_, rfl⟩
  have hX1 : w1.heap[w.heap.size]? = some (ptO ⟨lead, 0, 6⟩) := by rw [hw1]; exact at_newS _ _
  have HB1 : Hid (Below w.heap.size w w1.drew) := by show Below _ _ _; rw [hw1]; exact ((Below.refl _ w).alloc (Nat.le_refl _) _).trans ⟨rfl, rfl, rfl, Nat.le_refl _, fun _ _ => rfl⟩
  obtain ⟨d0, d1, d2⟩ := pt_cells hX1
  have hbb : bits BinOp.and IntKind.i64 n 63 = n % 64 := and_low 6 (by decide) _ (by omega) (by omega)
  have hm0 : 0 ≤ n % 64 ∧ n % 64 < 64 := by omega
  have hE : lead + n / 1 % 64 = lead + n % 64 := by omega
  rw [hE]
  obtain ⟨m, hm⟩ : ∃ m, m = n % 64 := ⟨_, rfl⟩
  rw [← hm] at hbb hm0 ⊢
  have hwl : IntKind.i64.wrap (lead + m) = lead + m := by rw [IntKind.wrap_i64]; omega
  simp only [ptO] at hw1
  simp only at d0 d1 d2
  clear hX1 hm hE
  go_enter Tryz.func64, Tryz.ntmps64
  go_upto_region 1 with fail
  rw [← hw1]
  clear hw1
  go_region
  all_goals go_wp2
  all_goals go_ret
  all_goals exact ⟨rfl, HB1.out⟩
set_option maxRecDepth 100000 in
set_option maxHeartbeats 1000000 in
theorem byteOf_12_4 (lead n : Int) (hl : 0 ≤ lead ∧ lead ≤ 255) (h0 : 0 ≤ n) (h1 : n < 2097152) : ByteOf ⟨lead, 12, 4⟩ n (lead + n / 4096 % 16) := fun w => by
  obtain ⟨w1, hw1⟩ : ∃ w1, w1 = w.alloc (ptO ⟨lead, 12, 4⟩) := ⟨_, rfl⟩
  have hX1 : w1.heap[w.heap.size]? = some (ptO ⟨lead, 12, 4⟩) := by rw [hw1]; exact at_newS _ _
  have HB1 : Hid (Below w.heap.size w w1.drew) := by show Below _ _ _; rw [hw1]; exact ((Below.refl _ w).alloc (Nat.le_refl _) _).trans ⟨rfl, rfl, rfl, Nat.le_refl _, fun _ _ => rfl⟩
  obtain ⟨d0, d1, d2⟩ := pt_cells hX1
  have hbb : bits BinOp.and IntKind.i64 (n / 4096) 15 = (n / 4096) % 16 := and_low 4 (by decide) _ (by omega) (by omega)
  have hm0 : 0 ≤ (n / 4096) % 16 ∧ (n / 4096) % 16 < 16 := by omega
  have hE : lead + n / 4096 % 16 = lead + (n / 4096) % 16 := by omega
  rw [hE]
  obtain ⟨m, hm⟩ : ∃ m, m = (n / 4096) % 16 := ⟨_, rfl⟩
  rw [← hm] at hbb hm0 ⊢
  have hwl : IntKind.i64.wrap (lead + m) = lead + m := by rw [IntKind.wrap_i64]; omega
  simp only [ptO] at hw1
  simp only at d0 d1 d2
  clear hX1 hm hE
  go_enter Tryz.func64, Tryz.ntmps64
  go_upto_region 1 with fail
  rw [← hw1]
  clear hw1
  go_region
  all_goals go_wp2
  all_goals go_ret
  all_goals exact ⟨rfl, HB1.out⟩
set_option maxRecDepth 100000 in
set_option maxHeartbeats 1000000 in
theorem byteOf_6_6 (lead n : Int) (hl : 0 ≤ lead ∧ lead ≤ 255) (h0 : 0 ≤ n) (h1 : n < 2097152) : ByteOf ⟨lead, 6, 6⟩ n (lead + n / 64 % 64) := fun w => by
  obtain ⟨w1, hw1⟩ : ∃ w1, w1 = w.alloc (ptO ⟨lead, 6, 6⟩) := ⟨_, rfl⟩
  have hX1 : w1.heap[w.heap.size]? = some (ptO ⟨lead, 6, 6⟩) := by rw [hw1]; exact at_newS _ _
  have HB1 : Hid (Below w.heap.size w w1.drew) := by show Below _ _ _; rw [hw1]; exact ((Below.refl _ w).alloc (Nat.le_refl _) _).trans ⟨rfl, rfl, rfl, Nat.le_refl _, fun _ _ => rfl⟩
  obtain ⟨d0, d1, d2⟩ := pt_cells hX1
  have hbb : bits BinOp.and IntKind.i64 (n / 64) 63 = (n / 64) % 64 := and_low 6 (by decide) _ (by omega) (by omega)
  have hm0 : 0 ≤ (n / 64) % 64 ∧ (n / 64) % 64 < 64 := by omega
  have hE : lead + n / 64 % 64 = lead + (n / 64) % 64 := by omega
  rw [hE]
  obtain ⟨m, hm⟩ : ∃ m, m = (n / 64) % 64 := ⟨_, rfl⟩
  rw [← hm] at hbb hm0 ⊢
  have hwl : IntKind.i64.wrap (lead + m) = lead + m := by rw [IntKind.wrap_i64]; omega
  simp only [ptO] at hw1
  simp only at d0 d1 d2
  clear hX1 hm hE
  go_enter Tryz.func64, Tryz.ntmps64
  go_upto_region 1 with fail
  rw [← hw1]
  clear hw1
  go_region
  all_goals go_wp2
  all_goals go_ret
  all_goals exact ⟨rfl, HB1.out⟩
set_option maxRecDepth 100000 in
set_option maxHeartbeats 1000000 in
theorem byteOf_18_3 (lead n : Int) (hl : 0 ≤ lead ∧ lead ≤ 255) (h0 : 0 ≤ n) (h1 : n < 2097152) : ByteOf ⟨lead, 18, 3⟩ n (lead + n / 262144 % 8) := fun w => by
  obtain ⟨w1, hw1⟩ : ∃ w1, w1 = w.alloc (ptO ⟨lead, 18, 3⟩) := ⟨_, rfl⟩
  have hX1 : w1.heap[w.heap.size]? = some (ptO ⟨lead, 18, 3⟩) := by rw [hw1]; exact at_newS _ _
  have HB1 : Hid (Below w.heap.size w w1.drew) := by show Below _ _ _; rw [hw1]; exact ((Below.refl _ w).alloc (Nat.le_refl _) _).trans ⟨rfl, rfl, rfl, Nat.le_refl _, fun _ _ => rfl⟩
  obtain ⟨d0, d1, d2⟩ := pt_cells hX1
  have hbb : bits BinOp.and IntKind.i64 (n / 262144) 7 = (n / 262144) % 8 := and_low 3 (by decide) _ (by omega) (by omega)
  have hm0 : 0 ≤ (n / 262144) % 8 ∧ (n / 262144) % 8 < 8 := by omega
  have hE : lead + n / 262144 % 8 = lead + (n / 262144) % 8 := by omega
  rw [hE]
  obtain ⟨m, hm⟩ : ∃ m, m = (n / 262144) % 8 := ⟨_, rfl⟩
  rw [← hm] at hbb hm0 ⊢
  have hwl : IntKind.i64.wrap (lead + m) = lead + m := by rw [IntKind.wrap_i64]; omega
  simp only [ptO] at hw1
  simp only at d0 d1 d2
  clear hX1 hm hE
  go_enter Tryz.func64, Tryz.ntmps64
  go_upto_region 1 with fail
  rw [← hw1]
  clear hw1
  go_region
  all_goals go_wp2
  all_goals go_ret
  all_goals exact ⟨rfl, HB1.out⟩
set_option maxRecDepth 100000 in
set_option maxHeartbeats 1000000 in
theorem byteOf_12_6 (lead n : Int) (hl : 0 ≤ lead ∧ lead ≤ 255) (h0 : 0 ≤ n) (h1 : n < 2097152) : ByteOf ⟨lead, 12, 6⟩ n (lead + n / 4096 % 64) := fun w => by
  obtain ⟨w1, hw1⟩ : ∃ w1, w1 = w.alloc (ptO ⟨lead, 12, 6⟩) := ⟨_, rfl⟩
  have hX1 : w1.heap[w.heap.size]? = some (ptO ⟨lead, 12, 6⟩) := by rw [hw1]; exact at_newS _ _
  have HB1 : Hid (Below w.heap.size w w1.drew) := by show Below _ _ _; rw [hw1]; exact ((Below.refl _ w).alloc (Nat.le_refl _) _).trans ⟨rfl, rfl, rfl, Nat.le_refl _, fun _ _ => rfl⟩
  obtain ⟨d0, d1, d2⟩ := pt_cells hX1
  have hbb : bits BinOp.and IntKind.i64 (n / 4096) 63 = (n / 4096) % 64 := and_low 6 (by decide) _ (by omega) (by omega)
  have hm0 : 0 ≤ (n / 4096) % 64 ∧ (n / 4096) % 64 < 64 := by omega
  have hE : lead + n / 4096 % 64 = lead + (n / 4096) % 64 := by omega
  rw [hE]
  obtain ⟨m, hm⟩ : ∃ m, m = (n / 4096) % 64 := ⟨_, rfl⟩
  rw [← hm] at hbb hm0 ⊢
  have hwl : IntKind.i64.wrap (lead + m) = lead + m := by rw [IntKind.wrap_i64]; omega
  simp only [ptO] at hw1
  simp only at d0 d1 d2
  clear hX1 hm hE
  go_enter Tryz.func64, Tryz.ntmps64
  go_upto_region 1 with fail
  rw [← hw1]
  clear hw1
  go_region
  all_goals go_wp2
  all_goals go_ret
  all_goals exact ⟨rfl, HB1.out⟩
set_option maxRecDepth 100000 in
set_option maxHeartbeats 1000000 in
theorem byteOf_0_8 (lead n : Int) (hl : 0 ≤ lead ∧ lead ≤ 255) (h0 : 0 ≤ n) (h1 : n < 2097152) : ByteOf ⟨lead, 0, 8⟩ n (lead + n / 1 % 256) := fun w => by
  obtain ⟨w1, hw1⟩ : ∃ w1, w1 = w.alloc (ptO ⟨lead, 0, 8⟩) := ⟨_, rfl⟩
  have hX1 : w1.heap[w.heap.size]? = some (ptO ⟨lead, 0, 8⟩) := by rw [hw1]; exact at_newS _ _
  have HB1 : Hid (Below w.heap.size w w1.drew) := by show Below _ _ _; rw [hw1]; exact ((Below.refl _ w).alloc (Nat.le_refl _) _).trans ⟨rfl, rfl, rfl, Nat.le_refl _, fun _ _ => rfl⟩
  obtain ⟨d0, d1, d2⟩ := pt_cells hX1
  have hbb : bits BinOp.and IntKind.i64 n 255 = n % 256 := and_low 8 (by decide) _ (by omega) (by omega)
  have hm0 : 0 ≤ n % 256 ∧ n % 256 < 256 := by omega
  have hE : lead + n / 1 % 256 = lead + n % 256 := by omega
  rw [hE]
  obtain ⟨m, hm⟩ : ∃ m, m = n % 256 := ⟨_, rfl⟩
  rw [← hm] at hbb hm0 ⊢
  have hwl : IntKind.i64.wrap (lead + m) = lead + m := by rw [IntKind.wrap_i64]; omega
  simp only [ptO] at hw1
  simp only at d0 d1 d2
  clear hX1 hm hE
  go_enter Tryz.func64, Tryz.ntmps64
  go_upto_region 1 with fail
  rw [← hw1]
  clear hw1
  go_region
  all_goals go_wp2
  all_goals go_ret
  all_goals exact ⟨rfl, HB1.out⟩
set_option maxRecDepth 100000 in
set_option maxHeartbeats 1000000 in
theorem byteOf_8_8 (lead n : Int) (hl : 0 ≤ lead ∧ lead ≤ 255) (h0 : 0 ≤ n) (h1 : n < 2097152) : ByteOf ⟨lead, 8, 8⟩ n (lead + n / 256 % 256) := fun w => by
  obtain ⟨w1, hw1⟩ : ∃ w1, w1 = w.alloc (ptO ⟨lead, 8, 8⟩) := ⟨_, rfl⟩
  have hX1 : w1.heap[w.heap.size]? = some (ptO ⟨lead, 8, 8⟩) := by rw [hw1]; exact at_newS _ _
  have HB1 : Hid (Below w.heap.size w w1.drew) := by show Below _ _ _; rw [hw1]; exact ((Below.refl _ w).alloc (Nat.le_refl _) _).trans ⟨rfl, rfl, rfl, Nat.le_refl _, fun _ _ => rfl⟩
  obtain ⟨d0, d1, d2⟩ := pt_cells hX1
  have hbb : bits BinOp.and IntKind.i64 (n / 256) 255 = (n / 256) % 256 := and_low 8 (by decide) _ (by omega) (by omega)
  have hm0 : 0 ≤ (n / 256) % 256 ∧ (n / 256) % 256 < 256 := by omega
  have hE : lead + n / 256 % 256 = lead + (n / 256) % 256 := by omega
  rw [hE]
  obtain ⟨m, hm⟩ : ∃ m, m = (n / 256) % 256 := ⟨_, rfl⟩
  rw [← hm] at hbb hm0 ⊢
  have hwl : IntKind.i64.wrap (lead + m) = lead + m := by rw [IntKind.wrap_i64]; omega
  simp only [ptO] at hw1
  simp only at d0 d1 d2
  clear hX1 hm hE
  go_enter Tryz.func64, Tryz.ntmps64
  go_upto_region 1 with fail
  rw [← hw1]
  clear hw1
  go_region
  all_goals go_wp2
  all_goals go_ret
  all_goals exact ⟨rfl, HB1.out⟩
set_option maxRecDepth 100000 in
set_option maxHeartbeats 1000000 in
theorem byteOf_10_8 (lead n : Int) (hl : 0 ≤ lead ∧ lead ≤ 255) (h0 : 0 ≤ n) (h1 : n < 2097152) : ByteOf ⟨lead, 10, 8⟩ n (lead + n / 1024 % 256) := fun w => by
  obtain ⟨w1, hw1⟩ : ∃ w1, w1 = w.alloc (ptO ⟨lead, 10, 8⟩) := ⟨_, rfl⟩
  have hX1 : w1.heap[w.heap.size]? = some (ptO ⟨lead, 10, 8⟩) := by rw [hw1]; exact at_newS _ _
  have HB1 : Hid (Below w.heap.size w w1.drew) := by show Below _ _ _; rw [hw1]; exact ((Below.refl _ w).alloc (Nat.le_refl _) _).trans ⟨rfl, rfl, rfl, Nat.le_refl _, fun _ _ => rfl⟩
  obtain ⟨d0, d1, d2⟩ := pt_cells hX1
  have hbb : bits BinOp.and IntKind.i64 (n / 1024) 255 = (n / 1024) % 256 := and_low 8 (by decide) _ (by omega) (by omega)
  have hm0 : 0 ≤ (n / 1024) % 256 ∧ (n / 1024) % 256 < 256 := by omega
  have hE : lead + n / 1024 % 256 = lead + (n / 1024) % 256 := by omega
  rw [hE]
  obtain ⟨m, hm⟩ : ∃ m, m = (n / 1024) % 256 := ⟨_, rfl⟩
  rw [← hm] at hbb hm0 ⊢
  have hwl : IntKind.i64.wrap (lead + m) = lead + m := by rw [IntKind.wrap_i64]; omega
  simp only [ptO] at hw1
  simp only at d0 d1 d2
  clear hX1 hm hE
  go_enter Tryz.func64, Tryz.ntmps64
  go_upto_region 1 with fail
  rw [← hw1]
  clear hw1
  go_region
  all_goals go_wp2
  all_goals go_ret
  all_goals exact ⟨rfl, HB1.out⟩
set_option maxRecDepth 100000 in
set_option maxHeartbeats 1000000 in
theorem byteOf_18_2 (lead n : Int) (hl : 0 ≤ lead ∧ lead ≤ 255) (h0 : 0 ≤ n) (h1 : n < 2097152) : ByteOf ⟨lead, 18, 2⟩ n (lead + n / 262144 % 4) := fun w => by
  obtain ⟨w1, hw1⟩ : ∃ w1, w1 = w.alloc (ptO ⟨lead, 18, 2⟩) := ⟨_, rfl⟩
  have hX1 : w1.heap[w.heap.size]? = some (ptO ⟨lead, 18, 2⟩) := by rw [hw1]; exact at_newS _ _
  have HB1 : Hid (Below w.heap.size w w1.drew) := by show Below _ _ _; rw [hw1]; exact ((Below.refl _ w).alloc (Nat.le_refl _) _).trans ⟨rfl, rfl, rfl, Nat.le_refl _, fun _ _ => rfl⟩
  obtain ⟨d0, d1, d2⟩ := pt_cells hX1
  have hbb : bits BinOp.and IntKind.i64 (n / 262144) 3 = (n / 262144) % 4 := and_low 2 (by decide) _ (by omega) (by omega)
  have hm0 : 0 ≤ (n / 262144) % 4 ∧ (n / 262144) % 4 < 4 := by omega
  have hE : lead + n / 262144 % 4 = lead + (n / 262144) % 4 := by omega
  rw [hE]
  obtain ⟨m, hm⟩ : ∃ m, m = (n / 262144) % 4 := ⟨_, rfl⟩
  rw [← hm] at hbb hm0 ⊢
  have hwl : IntKind.i64.wrap (lead + m) = lead + m := by rw [IntKind.wrap_i64]; omega
  simp only [ptO] at hw1
  simp only at d0 d1 d2
  clear hX1 hm hE
  go_enter Tryz.func64, Tryz.ntmps64
  go_upto_region 1 with fail
  rw [← hw1]
  clear hw1
  go_region
  all_goals go_wp2
  all_goals go_ret
  all_goals exact ⟨rfl, HB1.out⟩
set_option maxRecDepth 100000 in
set_option maxHeartbeats 1000000 in
theorem byteOf_8_2 (lead n : Int) (hl : 0 ≤ lead ∧ lead ≤ 255) (h0 : 0 ≤ n) (h1 : n < 2097152) : ByteOf ⟨lead, 8, 2⟩ n (lead + n / 256 % 4) := fun w => by
  obtain ⟨w1, hw1⟩ : ∃ w1, w1 = w.alloc (ptO ⟨lead, 8, 2⟩) := ⟨_, rfl⟩
  have hX1 : w1.heap[w.heap.size]? = some (ptO ⟨lead, 8, 2⟩) := by rw [hw1]; exact at_newS _ _
  have HB1 : Hid (Below w.heap.size w w1.drew) := by show Below _ _ _; rw [hw1]; exact ((Below.refl _ w).alloc (Nat.le_refl _) _).trans ⟨rfl, rfl, rfl, Nat.le_refl _, fun _ _ => rfl⟩
  obtain ⟨d0, d1, d2⟩ := pt_cells hX1
  have hbb : bits BinOp.and IntKind.i64 (n / 256) 3 = (n / 256) % 4 := and_low 2 (by decide) _ (by omega) (by omega)
  have hm0 : 0 ≤ (n / 256) % 4 ∧ (n / 256) % 4 < 4 := by omega
  have hE : lead + n / 256 % 4 = lead + (n / 256) % 4 := by omega
  rw [hE]
  obtain ⟨m, hm⟩ : ∃ m, m = (n / 256) % 4 := ⟨_, rfl⟩
  rw [← hm] at hbb hm0 ⊢
  have hwl : IntKind.i64.wrap (lead + m) = lead + m := by rw [IntKind.wrap_i64]; omega
  simp only [ptO] at hw1
  simp only at d0 d1 d2
  clear hX1 hm hE
  go_enter Tryz.func64, Tryz.ntmps64
  go_upto_region 1 with fail
  rw [← hw1]
  clear hw1
  go_region
  all_goals go_wp2
  all_goals go_ret
  all_goals exact ⟨rfl, HB1.out⟩
theorem byteOf_any (p : Pt) (hp : okPt p) (n : Int) (h0 : 0 ≤ n) (h1 : n < 2097152) : ByteOf p n (byteN p n) := by
  obtain ⟨lead, shift, bts⟩ := p
  obtain ⟨hl, hs⟩ := hp
  simp only at hl hs
  rcases hs with ⟨rfl, rfl⟩ | ⟨rfl, rfl⟩ | ⟨rfl, rfl⟩ | ⟨rfl, rfl⟩ | ⟨rfl, rfl⟩ | ⟨rfl, rfl⟩ | ⟨rfl, rfl⟩ | ⟨rfl, rfl⟩ | ⟨rfl, rfl⟩ | ⟨rfl, rfl⟩ | ⟨rfl, rfl⟩ | ⟨rfl, rfl⟩
  · exact byteOf_0_7 lead n hl h0 h1
  · exact byteOf_6_5 lead n hl h0 h1
  · exact byteOf_0_6 lead n hl h0 h1
  · exact byteOf_12_4 lead n hl h0 h1
  · exact byteOf_6_6 lead n hl h0 h1
  · exact byteOf_18_3 lead n hl h0 h1
  · exact byteOf_12_6 lead n hl h0 h1
  · exact byteOf_0_8 lead n hl h0 h1
  · exact byteOf_8_8 lead n hl h0 h1
  · exact byteOf_10_8 lead n hl h0 h1
  · exact byteOf_18_2 lead n hl h0 h1
  · exact byteOf_8_2 lead n hl h0 h1

end Go.Proofs.YtljankfhnmcbaaaGreatDoor.SP
