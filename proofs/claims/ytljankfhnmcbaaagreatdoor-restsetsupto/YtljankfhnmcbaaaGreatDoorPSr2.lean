/- Roads: the shapes are good. -/
import Derived.Test.YtljankfhnmcbaaaGreatDoorPSr1
namespace Go.Proofs.YtljankfhnmcbaaaGreatDoor.SP
set_option linter.unusedVariables false

--BEGIN
set_option maxHeartbeats 4000000 in
theorem good_u2 : GoodS 1 ⟨128, 2047, 0, [⟨192, 6, 5⟩, ⟨128, 0, 6⟩]⟩ where
  fits p h3 h4 := by
    simp only at h3 h4
    refine ⟨.inr ⟨by decide, by omega, by omega, by omega⟩, ?_⟩
    show [192 + (p - 0) / 64 % 32, 128 + (p - 0) / 1 % 64] = _
    simp only [bytesR, show ¬ (1 : Int) = 4 by decide, if_false, if_true]
    rw [if_neg (show ¬ p < 128 by omega), if_pos (show p < 2048 by omega)]
    simp only [List.cons.injEq, and_true]
    omega
  box a b t h3 h4 h5 hB := by
    simp only at h3 h5 hB
    have e0 : ∀ n, byteN ⟨192, 6, 5⟩ n = 192 + n / 64 % 32 := fun n => rfl
    have e1 : ∀ n, byteN ⟨128, 0, 6⟩ n = 128 + n / 1 % 64 := fun n => rfl
    have b0 : a / 64 = b / 64 ∨ (a % 64 = 0 ∧ b % 64 = 63) := hB ⟨192, 6, 5⟩ (by simp)
    simp only [roadP, rowP, List.map_cons, List.map_nil, e0, e1]
    rw [goesB_2]
    constructor
    · rintro ⟨x, y, rfl, ⟨p1, p2⟩, ⟨q1, q2⟩⟩
      simp only at p1 p2 q1 q2
      refine ⟨((x - 192) * 64 + (y - 128) * 1), ?_, ?_, ?_⟩
      · omega
      · omega
      · simp only [List.cons.injEq, and_true]
        refine ⟨?_, ?_⟩
        all_goals omega
    · rintro ⟨n, g1, g2, rfl⟩
      refine ⟨_, _, rfl, ⟨?_, ?_⟩, ⟨?_, ?_⟩⟩
      all_goals simp only
      all_goals omega
  len := by simp
  byte n h3 h4 p hp := by
    simp only [List.mem_cons, List.not_mem_nil, or_false] at hp h3 h4
    have e0 : ∀ n, byteN ⟨192, 6, 5⟩ n = 192 + n / 64 % 32 := fun n => rfl
    have e1 : ∀ n, byteN ⟨128, 0, 6⟩ n = 128 + n / 1 % 64 := fun n => rfl
    rcases hp with rfl | rfl
    all_goals simp only [e0, e1]
    all_goals omega
  prod a b h3 h4 h5 hB := by
    simp only at h3 h5 hB
    have e0 : ∀ n, byteN ⟨192, 6, 5⟩ n = 192 + n / 64 % 32 := fun n => rfl
    have e1 : ∀ n, byteN ⟨128, 0, 6⟩ n = 128 + n / 1 % 64 := fun n => rfl
    have b0 : a / 64 = b / 64 ∨ (a % 64 = 0 ∧ b % 64 = 63) := hB ⟨192, 6, 5⟩ (by simp)
    simp only [roadP, List.map_cons, List.map_nil, e0, e1]
    rw [prodR_2]
    simp only
    rcases b0 with b0 | b0
    · have f0 : (192 + b / 64 % 32 - (192 + a / 64 % 32) + 1) = 1 := by omega
      rw [f0]
      omega
    · have f1 : (128 + b / 1 % 64 - (128 + a / 1 % 64) + 1) = 64 := by omega
      rw [f1]
      omega
set_option maxHeartbeats 4000000 in
theorem good_u3a : GoodS 1 ⟨2048, 55295, 0, [⟨224, 12, 4⟩, ⟨128, 6, 6⟩, ⟨128, 0, 6⟩]⟩ where
  fits p h3 h4 := by
    simp only at h3 h4
    refine ⟨.inr ⟨by decide, by omega, by omega, by omega⟩, ?_⟩
    show [224 + (p - 0) / 4096 % 16, 128 + (p - 0) / 64 % 64, 128 + (p - 0) / 1 % 64] = _
    simp only [bytesR, show ¬ (1 : Int) = 4 by decide, if_false, if_true]
    rw [if_neg (show ¬ p < 128 by omega), if_neg (show ¬ p < 2048 by omega), if_pos (show p < 65536 by omega)]
    simp only [List.cons.injEq, and_true]
    omega
  box a b t h3 h4 h5 hB := by
    simp only at h3 h5 hB
    have e0 : ∀ n, byteN ⟨224, 12, 4⟩ n = 224 + n / 4096 % 16 := fun n => rfl
    have e1 : ∀ n, byteN ⟨128, 6, 6⟩ n = 128 + n / 64 % 64 := fun n => rfl
    have e2 : ∀ n, byteN ⟨128, 0, 6⟩ n = 128 + n / 1 % 64 := fun n => rfl
    have b0 : a / 4096 = b / 4096 ∨ (a % 4096 = 0 ∧ b % 4096 = 4095) := hB ⟨224, 12, 4⟩ (by simp)
    have b1 : a / 64 = b / 64 ∨ (a % 64 = 0 ∧ b % 64 = 63) := hB ⟨128, 6, 6⟩ (by simp)
    simp only [roadP, rowP, List.map_cons, List.map_nil, e0, e1, e2]
    rw [goesB_3]
    constructor
    · rintro ⟨x, y, z, rfl, ⟨p1, p2⟩, ⟨q1, q2⟩, ⟨r1, r2⟩⟩
      simp only at p1 p2 q1 q2 r1 r2
      refine ⟨((x - 224) * 4096 + (y - 128) * 64 + (z - 128) * 1), ?_, ?_, ?_⟩
      · omega
      · omega
      · simp only [List.cons.injEq, and_true]
        refine ⟨?_, ?_, ?_⟩
        all_goals omega
    · rintro ⟨n, g1, g2, rfl⟩
      refine ⟨_, _, _, rfl, ⟨?_, ?_⟩, ⟨?_, ?_⟩, ⟨?_, ?_⟩⟩
      all_goals simp only
      all_goals omega
  len := by simp
  byte n h3 h4 p hp := by
    simp only [List.mem_cons, List.not_mem_nil, or_false] at hp h3 h4
    have e0 : ∀ n, byteN ⟨224, 12, 4⟩ n = 224 + n / 4096 % 16 := fun n => rfl
    have e1 : ∀ n, byteN ⟨128, 6, 6⟩ n = 128 + n / 64 % 64 := fun n => rfl
    have e2 : ∀ n, byteN ⟨128, 0, 6⟩ n = 128 + n / 1 % 64 := fun n => rfl
    rcases hp with rfl | rfl | rfl
    all_goals simp only [e0, e1, e2]
    all_goals omega
  prod a b h3 h4 h5 hB := by
    simp only at h3 h5 hB
    have e0 : ∀ n, byteN ⟨224, 12, 4⟩ n = 224 + n / 4096 % 16 := fun n => rfl
    have e1 : ∀ n, byteN ⟨128, 6, 6⟩ n = 128 + n / 64 % 64 := fun n => rfl
    have e2 : ∀ n, byteN ⟨128, 0, 6⟩ n = 128 + n / 1 % 64 := fun n => rfl
    have b0 : a / 4096 = b / 4096 ∨ (a % 4096 = 0 ∧ b % 4096 = 4095) := hB ⟨224, 12, 4⟩ (by simp)
    have b1 : a / 64 = b / 64 ∨ (a % 64 = 0 ∧ b % 64 = 63) := hB ⟨128, 6, 6⟩ (by simp)
    simp only [roadP, List.map_cons, List.map_nil, e0, e1, e2]
    rw [prodR_3]
    simp only
    rcases b0 with b0 | b0
    · rcases b1 with b1 | b1
      · have f0 : (224 + b / 4096 % 16 - (224 + a / 4096 % 16) + 1) = 1 := by omega
        have f1 : (128 + b / 64 % 64 - (128 + a / 64 % 64) + 1) = 1 := by omega
        rw [f0, f1]
        omega
      · have f0 : (224 + b / 4096 % 16 - (224 + a / 4096 % 16) + 1) = 1 := by omega
        have f2 : (128 + b / 1 % 64 - (128 + a / 1 % 64) + 1) = 64 := by omega
        rw [f0, f2]
        omega
    · have f1 : (128 + b / 64 % 64 - (128 + a / 64 % 64) + 1) = 64 := by omega
      have f2 : (128 + b / 1 % 64 - (128 + a / 1 % 64) + 1) = 64 := by omega
      rw [f1, f2]
      omega
set_option maxHeartbeats 4000000 in
theorem good_u3b : GoodS 1 ⟨57344, 65535, 0, [⟨224, 12, 4⟩, ⟨128, 6, 6⟩, ⟨128, 0, 6⟩]⟩ where
  fits p h3 h4 := by
    simp only at h3 h4
    refine ⟨.inr ⟨by decide, by omega, by omega, by omega⟩, ?_⟩
    show [224 + (p - 0) / 4096 % 16, 128 + (p - 0) / 64 % 64, 128 + (p - 0) / 1 % 64] = _
    simp only [bytesR, show ¬ (1 : Int) = 4 by decide, if_false, if_true]
    rw [if_neg (show ¬ p < 128 by omega), if_neg (show ¬ p < 2048 by omega), if_pos (show p < 65536 by omega)]
    simp only [List.cons.injEq, and_true]
    omega
  box a b t h3 h4 h5 hB := by
    simp only at h3 h5 hB
    have e0 : ∀ n, byteN ⟨224, 12, 4⟩ n = 224 + n / 4096 % 16 := fun n => rfl
    have e1 : ∀ n, byteN ⟨128, 6, 6⟩ n = 128 + n / 64 % 64 := fun n => rfl
    have e2 : ∀ n, byteN ⟨128, 0, 6⟩ n = 128 + n / 1 % 64 := fun n => rfl
    have b0 : a / 4096 = b / 4096 ∨ (a % 4096 = 0 ∧ b % 4096 = 4095) := hB ⟨224, 12, 4⟩ (by simp)
    have b1 : a / 64 = b / 64 ∨ (a % 64 = 0 ∧ b % 64 = 63) := hB ⟨128, 6, 6⟩ (by simp)
    simp only [roadP, rowP, List.map_cons, List.map_nil, e0, e1, e2]
    rw [goesB_3]
    constructor
    · rintro ⟨x, y, z, rfl, ⟨p1, p2⟩, ⟨q1, q2⟩, ⟨r1, r2⟩⟩
      simp only at p1 p2 q1 q2 r1 r2
      refine ⟨((x - 224) * 4096 + (y - 128) * 64 + (z - 128) * 1), ?_, ?_, ?_⟩
      · omega
      · omega
      · simp only [List.cons.injEq, and_true]
        refine ⟨?_, ?_, ?_⟩
        all_goals omega
    · rintro ⟨n, g1, g2, rfl⟩
      refine ⟨_, _, _, rfl, ⟨?_, ?_⟩, ⟨?_, ?_⟩, ⟨?_, ?_⟩⟩
      all_goals simp only
      all_goals omega
  len := by simp
  byte n h3 h4 p hp := by
    simp only [List.mem_cons, List.not_mem_nil, or_false] at hp h3 h4
    have e0 : ∀ n, byteN ⟨224, 12, 4⟩ n = 224 + n / 4096 % 16 := fun n => rfl
    have e1 : ∀ n, byteN ⟨128, 6, 6⟩ n = 128 + n / 64 % 64 := fun n => rfl
    have e2 : ∀ n, byteN ⟨128, 0, 6⟩ n = 128 + n / 1 % 64 := fun n => rfl
    rcases hp with rfl | rfl | rfl
    all_goals simp only [e0, e1, e2]
    all_goals omega
  prod a b h3 h4 h5 hB := by
    simp only at h3 h5 hB
    have e0 : ∀ n, byteN ⟨224, 12, 4⟩ n = 224 + n / 4096 % 16 := fun n => rfl
    have e1 : ∀ n, byteN ⟨128, 6, 6⟩ n = 128 + n / 64 % 64 := fun n => rfl
    have e2 : ∀ n, byteN ⟨128, 0, 6⟩ n = 128 + n / 1 % 64 := fun n => rfl
    have b0 : a / 4096 = b / 4096 ∨ (a % 4096 = 0 ∧ b % 4096 = 4095) := hB ⟨224, 12, 4⟩ (by simp)
    have b1 : a / 64 = b / 64 ∨ (a % 64 = 0 ∧ b % 64 = 63) := hB ⟨128, 6, 6⟩ (by simp)
    simp only [roadP, List.map_cons, List.map_nil, e0, e1, e2]
    rw [prodR_3]
    simp only
    rcases b0 with b0 | b0
    · rcases b1 with b1 | b1
      · have f0 : (224 + b / 4096 % 16 - (224 + a / 4096 % 16) + 1) = 1 := by omega
        have f1 : (128 + b / 64 % 64 - (128 + a / 64 % 64) + 1) = 1 := by omega
        rw [f0, f1]
        omega
      · have f0 : (224 + b / 4096 % 16 - (224 + a / 4096 % 16) + 1) = 1 := by omega
        have f2 : (128 + b / 1 % 64 - (128 + a / 1 % 64) + 1) = 64 := by omega
        rw [f0, f2]
        omega
    · have f1 : (128 + b / 64 % 64 - (128 + a / 64 % 64) + 1) = 64 := by omega
      have f2 : (128 + b / 1 % 64 - (128 + a / 1 % 64) + 1) = 64 := by omega
      rw [f1, f2]
      omega
set_option maxHeartbeats 4000000 in
theorem good_u4 : GoodS 1 ⟨65536, 1114111, 0, [⟨240, 18, 3⟩, ⟨128, 12, 6⟩, ⟨128, 6, 6⟩, ⟨128, 0, 6⟩]⟩ where
  fits p h3 h4 := by
    simp only at h3 h4
    refine ⟨.inr ⟨by decide, by omega, by omega, by omega⟩, ?_⟩
    show [240 + (p - 0) / 262144 % 8, 128 + (p - 0) / 4096 % 64, 128 + (p - 0) / 64 % 64, 128 + (p - 0) / 1 % 64] = _
    simp only [bytesR, show ¬ (1 : Int) = 4 by decide, if_false, if_true]
    rw [if_neg (show ¬ p < 128 by omega), if_neg (show ¬ p < 2048 by omega), if_neg (show ¬ p < 65536 by omega)]
    simp only [List.cons.injEq, and_true]
    omega
  box a b t h3 h4 h5 hB := by
    simp only at h3 h5 hB
    have e0 : ∀ n, byteN ⟨240, 18, 3⟩ n = 240 + n / 262144 % 8 := fun n => rfl
    have e1 : ∀ n, byteN ⟨128, 12, 6⟩ n = 128 + n / 4096 % 64 := fun n => rfl
    have e2 : ∀ n, byteN ⟨128, 6, 6⟩ n = 128 + n / 64 % 64 := fun n => rfl
    have e3 : ∀ n, byteN ⟨128, 0, 6⟩ n = 128 + n / 1 % 64 := fun n => rfl
    have b0 : a / 262144 = b / 262144 ∨ (a % 262144 = 0 ∧ b % 262144 = 262143) := hB ⟨240, 18, 3⟩ (by simp)
    have b1 : a / 4096 = b / 4096 ∨ (a % 4096 = 0 ∧ b % 4096 = 4095) := hB ⟨128, 12, 6⟩ (by simp)
    have b2 : a / 64 = b / 64 ∨ (a % 64 = 0 ∧ b % 64 = 63) := hB ⟨128, 6, 6⟩ (by simp)
    simp only [roadP, rowP, List.map_cons, List.map_nil, e0, e1, e2, e3]
    rw [goesB_4]
    constructor
    · rintro ⟨x, y, z, v, rfl, ⟨p1, p2⟩, ⟨q1, q2⟩, ⟨r1, r2⟩, ⟨s1, s2⟩⟩
      simp only at p1 p2 q1 q2 r1 r2 s1 s2
      refine ⟨((x - 240) * 262144 + (y - 128) * 4096 + (z - 128) * 64 + (v - 128) * 1), ?_, ?_, ?_⟩
      · omega
      · omega
      · simp only [List.cons.injEq, and_true]
        refine ⟨?_, ?_, ?_, ?_⟩
        all_goals omega
    · rintro ⟨n, g1, g2, rfl⟩
      refine ⟨_, _, _, _, rfl, ⟨?_, ?_⟩, ⟨?_, ?_⟩, ⟨?_, ?_⟩, ⟨?_, ?_⟩⟩
      all_goals simp only
      all_goals omega
  len := by simp
  byte n h3 h4 p hp := by
    simp only [List.mem_cons, List.not_mem_nil, or_false] at hp h3 h4
    have e0 : ∀ n, byteN ⟨240, 18, 3⟩ n = 240 + n / 262144 % 8 := fun n => rfl
    have e1 : ∀ n, byteN ⟨128, 12, 6⟩ n = 128 + n / 4096 % 64 := fun n => rfl
    have e2 : ∀ n, byteN ⟨128, 6, 6⟩ n = 128 + n / 64 % 64 := fun n => rfl
    have e3 : ∀ n, byteN ⟨128, 0, 6⟩ n = 128 + n / 1 % 64 := fun n => rfl
    rcases hp with rfl | rfl | rfl | rfl
    all_goals simp only [e0, e1, e2, e3]
    all_goals omega
  prod a b h3 h4 h5 hB := by
    simp only at h3 h5 hB
    have e0 : ∀ n, byteN ⟨240, 18, 3⟩ n = 240 + n / 262144 % 8 := fun n => rfl
    have e1 : ∀ n, byteN ⟨128, 12, 6⟩ n = 128 + n / 4096 % 64 := fun n => rfl
    have e2 : ∀ n, byteN ⟨128, 6, 6⟩ n = 128 + n / 64 % 64 := fun n => rfl
    have e3 : ∀ n, byteN ⟨128, 0, 6⟩ n = 128 + n / 1 % 64 := fun n => rfl
    have b0 : a / 262144 = b / 262144 ∨ (a % 262144 = 0 ∧ b % 262144 = 262143) := hB ⟨240, 18, 3⟩ (by simp)
    have b1 : a / 4096 = b / 4096 ∨ (a % 4096 = 0 ∧ b % 4096 = 4095) := hB ⟨128, 12, 6⟩ (by simp)
    have b2 : a / 64 = b / 64 ∨ (a % 64 = 0 ∧ b % 64 = 63) := hB ⟨128, 6, 6⟩ (by simp)
    simp only [roadP, List.map_cons, List.map_nil, e0, e1, e2, e3]
    rw [prodR_4]
    simp only
    rcases b0 with b0 | b0
    · rcases b1 with b1 | b1
      · rcases b2 with b2 | b2
        · have f0 : (240 + b / 262144 % 8 - (240 + a / 262144 % 8) + 1) = 1 := by omega
          have f1 : (128 + b / 4096 % 64 - (128 + a / 4096 % 64) + 1) = 1 := by omega
          have f2 : (128 + b / 64 % 64 - (128 + a / 64 % 64) + 1) = 1 := by omega
          rw [f0, f1, f2]
          omega
        · have f0 : (240 + b / 262144 % 8 - (240 + a / 262144 % 8) + 1) = 1 := by omega
          have f1 : (128 + b / 4096 % 64 - (128 + a / 4096 % 64) + 1) = 1 := by omega
          have f3 : (128 + b / 1 % 64 - (128 + a / 1 % 64) + 1) = 64 := by omega
          rw [f0, f1, f3]
          omega
      · have f0 : (240 + b / 262144 % 8 - (240 + a / 262144 % 8) + 1) = 1 := by omega
        have f2 : (128 + b / 64 % 64 - (128 + a / 64 % 64) + 1) = 64 := by omega
        have f3 : (128 + b / 1 % 64 - (128 + a / 1 % 64) + 1) = 64 := by omega
        rw [f0, f2, f3]
        omega
    · have f1 : (128 + b / 4096 % 64 - (128 + a / 4096 % 64) + 1) = 64 := by omega
      have f2 : (128 + b / 64 % 64 - (128 + a / 64 % 64) + 1) = 64 := by omega
      have f3 : (128 + b / 1 % 64 - (128 + a / 1 % 64) + 1) = 64 := by omega
      rw [f1, f2, f3]
      omega
set_option maxHeartbeats 4000000 in
theorem good_w2a : GoodS 2 ⟨0, 55295, 0, [⟨0, 0, 8⟩, ⟨0, 8, 8⟩]⟩ where
  fits p h3 h4 := by
    simp only at h3 h4
    refine ⟨.inr ⟨by decide, by omega, by omega, by omega⟩, ?_⟩
    show [0 + (p - 0) / 1 % 256, 0 + (p - 0) / 256 % 256] = _
    simp only [bytesR, show ¬ (2 : Int) = 4 by decide, show ¬ (2 : Int) = 1 by decide, if_false, if_true]
    rw [if_pos (show p < 65536 by omega)]
    simp only [List.cons.injEq, and_true]
    omega
  box a b t h3 h4 h5 hB := by
    simp only at h3 h5 hB
    have e0 : ∀ n, byteN ⟨0, 0, 8⟩ n = 0 + n / 1 % 256 := fun n => rfl
    have e1 : ∀ n, byteN ⟨0, 8, 8⟩ n = 0 + n / 256 % 256 := fun n => rfl
    have b1 : a / 256 = b / 256 ∨ (a % 256 = 0 ∧ b % 256 = 255) := hB ⟨0, 8, 8⟩ (by simp)
    simp only [roadP, rowP, List.map_cons, List.map_nil, e0, e1]
    rw [goesB_2]
    constructor
    · rintro ⟨x, y, rfl, ⟨p1, p2⟩, ⟨q1, q2⟩⟩
      simp only at p1 p2 q1 q2
      refine ⟨((x - 0) * 1 + (y - 0) * 256), ?_, ?_, ?_⟩
      · omega
      · omega
      · simp only [List.cons.injEq, and_true]
        refine ⟨?_, ?_⟩
        all_goals omega
    · rintro ⟨n, g1, g2, rfl⟩
      refine ⟨_, _, rfl, ⟨?_, ?_⟩, ⟨?_, ?_⟩⟩
      all_goals simp only
      all_goals omega
  len := by simp
  byte n h3 h4 p hp := by
    simp only [List.mem_cons, List.not_mem_nil, or_false] at hp h3 h4
    have e0 : ∀ n, byteN ⟨0, 0, 8⟩ n = 0 + n / 1 % 256 := fun n => rfl
    have e1 : ∀ n, byteN ⟨0, 8, 8⟩ n = 0 + n / 256 % 256 := fun n => rfl
    rcases hp with rfl | rfl
    all_goals simp only [e0, e1]
    all_goals omega
  prod a b h3 h4 h5 hB := by
    simp only at h3 h5 hB
    have e0 : ∀ n, byteN ⟨0, 0, 8⟩ n = 0 + n / 1 % 256 := fun n => rfl
    have e1 : ∀ n, byteN ⟨0, 8, 8⟩ n = 0 + n / 256 % 256 := fun n => rfl
    have b1 : a / 256 = b / 256 ∨ (a % 256 = 0 ∧ b % 256 = 255) := hB ⟨0, 8, 8⟩ (by simp)
    simp only [roadP, List.map_cons, List.map_nil, e0, e1]
    rw [prodR_2]
    simp only
    rcases b1 with b1 | b1
    · have f1 : (0 + b / 256 % 256 - (0 + a / 256 % 256) + 1) = 1 := by omega
      rw [f1]
      omega
    · have f0 : (0 + b / 1 % 256 - (0 + a / 1 % 256) + 1) = 256 := by omega
      rw [f0]
      omega
set_option maxHeartbeats 4000000 in
theorem good_w2b : GoodS 2 ⟨57344, 65535, 0, [⟨0, 0, 8⟩, ⟨0, 8, 8⟩]⟩ where
  fits p h3 h4 := by
    simp only at h3 h4
    refine ⟨.inr ⟨by decide, by omega, by omega, by omega⟩, ?_⟩
    show [0 + (p - 0) / 1 % 256, 0 + (p - 0) / 256 % 256] = _
    simp only [bytesR, show ¬ (2 : Int) = 4 by decide, show ¬ (2 : Int) = 1 by decide, if_false, if_true]
    rw [if_pos (show p < 65536 by omega)]
    simp only [List.cons.injEq, and_true]
    omega
  box a b t h3 h4 h5 hB := by
    simp only at h3 h5 hB
    have e0 : ∀ n, byteN ⟨0, 0, 8⟩ n = 0 + n / 1 % 256 := fun n => rfl
    have e1 : ∀ n, byteN ⟨0, 8, 8⟩ n = 0 + n / 256 % 256 := fun n => rfl
    have b1 : a / 256 = b / 256 ∨ (a % 256 = 0 ∧ b % 256 = 255) := hB ⟨0, 8, 8⟩ (by simp)
    simp only [roadP, rowP, List.map_cons, List.map_nil, e0, e1]
    rw [goesB_2]
    constructor
    · rintro ⟨x, y, rfl, ⟨p1, p2⟩, ⟨q1, q2⟩⟩
      simp only at p1 p2 q1 q2
      refine ⟨((x - 0) * 1 + (y - 0) * 256), ?_, ?_, ?_⟩
      · omega
      · omega
      · simp only [List.cons.injEq, and_true]
        refine ⟨?_, ?_⟩
        all_goals omega
    · rintro ⟨n, g1, g2, rfl⟩
      refine ⟨_, _, rfl, ⟨?_, ?_⟩, ⟨?_, ?_⟩⟩
      all_goals simp only
      all_goals omega
  len := by simp
  byte n h3 h4 p hp := by
    simp only [List.mem_cons, List.not_mem_nil, or_false] at hp h3 h4
    have e0 : ∀ n, byteN ⟨0, 0, 8⟩ n = 0 + n / 1 % 256 := fun n => rfl
    have e1 : ∀ n, byteN ⟨0, 8, 8⟩ n = 0 + n / 256 % 256 := fun n => rfl
    rcases hp with rfl | rfl
    all_goals simp only [e0, e1]
    all_goals omega
  prod a b h3 h4 h5 hB := by
    simp only at h3 h5 hB
    have e0 : ∀ n, byteN ⟨0, 0, 8⟩ n = 0 + n / 1 % 256 := fun n => rfl
    have e1 : ∀ n, byteN ⟨0, 8, 8⟩ n = 0 + n / 256 % 256 := fun n => rfl
    have b1 : a / 256 = b / 256 ∨ (a % 256 = 0 ∧ b % 256 = 255) := hB ⟨0, 8, 8⟩ (by simp)
    simp only [roadP, List.map_cons, List.map_nil, e0, e1]
    rw [prodR_2]
    simp only
    rcases b1 with b1 | b1
    · have f1 : (0 + b / 256 % 256 - (0 + a / 256 % 256) + 1) = 1 := by omega
      rw [f1]
      omega
    · have f0 : (0 + b / 1 % 256 - (0 + a / 1 % 256) + 1) = 256 := by omega
      rw [f0]
      omega
set_option maxHeartbeats 4000000 in
theorem good_w2c : GoodS 2 ⟨65536, 1114111, 65536, [⟨0, 10, 8⟩, ⟨216, 18, 2⟩, ⟨0, 0, 8⟩, ⟨220, 8, 2⟩]⟩ where
  fits p h3 h4 := by
    simp only at h3 h4
    refine ⟨.inr ⟨by decide, by omega, by omega, by omega⟩, ?_⟩
    show [0 + (p - 65536) / 1024 % 256, 216 + (p - 65536) / 262144 % 4, 0 + (p - 65536) / 1 % 256, 220 + (p - 65536) / 256 % 4] = _
    simp only [bytesR, show ¬ (2 : Int) = 4 by decide, show ¬ (2 : Int) = 1 by decide, if_false, if_true]
    rw [if_neg (show ¬ p < 65536 by omega)]
    simp only [List.cons.injEq, and_true]
    omega
  box a b t h3 h4 h5 hB := by
    simp only at h3 h5 hB
    have e0 : ∀ n, byteN ⟨0, 10, 8⟩ n = 0 + n / 1024 % 256 := fun n => rfl
    have e1 : ∀ n, byteN ⟨216, 18, 2⟩ n = 216 + n / 262144 % 4 := fun n => rfl
    have e2 : ∀ n, byteN ⟨0, 0, 8⟩ n = 0 + n / 1 % 256 := fun n => rfl
    have e3 : ∀ n, byteN ⟨220, 8, 2⟩ n = 220 + n / 256 % 4 := fun n => rfl
    have b0 : a / 1024 = b / 1024 ∨ (a % 1024 = 0 ∧ b % 1024 = 1023) := hB ⟨0, 10, 8⟩ (by simp)
    have b1 : a / 262144 = b / 262144 ∨ (a % 262144 = 0 ∧ b % 262144 = 262143) := hB ⟨216, 18, 2⟩ (by simp)
    have b3 : a / 256 = b / 256 ∨ (a % 256 = 0 ∧ b % 256 = 255) := hB ⟨220, 8, 2⟩ (by simp)
    simp only [roadP, rowP, List.map_cons, List.map_nil, e0, e1, e2, e3]
    rw [goesB_4]
    constructor
    · rintro ⟨x, y, z, v, rfl, ⟨p1, p2⟩, ⟨q1, q2⟩, ⟨r1, r2⟩, ⟨s1, s2⟩⟩
      simp only at p1 p2 q1 q2 r1 r2 s1 s2
      refine ⟨((x - 0) * 1024 + (y - 216) * 262144 + (z - 0) * 1 + (v - 220) * 256), ?_, ?_, ?_⟩
      · omega
      · omega
      · simp only [List.cons.injEq, and_true]
        refine ⟨?_, ?_, ?_, ?_⟩
        all_goals omega
    · rintro ⟨n, g1, g2, rfl⟩
      refine ⟨_, _, _, _, rfl, ⟨?_, ?_⟩, ⟨?_, ?_⟩, ⟨?_, ?_⟩, ⟨?_, ?_⟩⟩
      all_goals simp only
      all_goals omega
  len := by simp
  byte n h3 h4 p hp := by
    simp only [List.mem_cons, List.not_mem_nil, or_false] at hp h3 h4
    have e0 : ∀ n, byteN ⟨0, 10, 8⟩ n = 0 + n / 1024 % 256 := fun n => rfl
    have e1 : ∀ n, byteN ⟨216, 18, 2⟩ n = 216 + n / 262144 % 4 := fun n => rfl
    have e2 : ∀ n, byteN ⟨0, 0, 8⟩ n = 0 + n / 1 % 256 := fun n => rfl
    have e3 : ∀ n, byteN ⟨220, 8, 2⟩ n = 220 + n / 256 % 4 := fun n => rfl
    rcases hp with rfl | rfl | rfl | rfl
    all_goals simp only [e0, e1, e2, e3]
    all_goals omega
  prod a b h3 h4 h5 hB := by
    simp only at h3 h5 hB
    have e0 : ∀ n, byteN ⟨0, 10, 8⟩ n = 0 + n / 1024 % 256 := fun n => rfl
    have e1 : ∀ n, byteN ⟨216, 18, 2⟩ n = 216 + n / 262144 % 4 := fun n => rfl
    have e2 : ∀ n, byteN ⟨0, 0, 8⟩ n = 0 + n / 1 % 256 := fun n => rfl
    have e3 : ∀ n, byteN ⟨220, 8, 2⟩ n = 220 + n / 256 % 4 := fun n => rfl
    have b0 : a / 1024 = b / 1024 ∨ (a % 1024 = 0 ∧ b % 1024 = 1023) := hB ⟨0, 10, 8⟩ (by simp)
    have b1 : a / 262144 = b / 262144 ∨ (a % 262144 = 0 ∧ b % 262144 = 262143) := hB ⟨216, 18, 2⟩ (by simp)
    have b3 : a / 256 = b / 256 ∨ (a % 256 = 0 ∧ b % 256 = 255) := hB ⟨220, 8, 2⟩ (by simp)
    simp only [roadP, List.map_cons, List.map_nil, e0, e1, e2, e3]
    rw [prodR_4]
    simp only
    rcases b1 with b1 | b1
    · rcases b0 with b0 | b0
      · rcases b3 with b3 | b3
        · have f1 : (216 + b / 262144 % 4 - (216 + a / 262144 % 4) + 1) = 1 := by omega
          have f0 : (0 + b / 1024 % 256 - (0 + a / 1024 % 256) + 1) = 1 := by omega
          have f3 : (220 + b / 256 % 4 - (220 + a / 256 % 4) + 1) = 1 := by omega
          rw [f1, f0, f3]
          omega
        · have f1 : (216 + b / 262144 % 4 - (216 + a / 262144 % 4) + 1) = 1 := by omega
          have f0 : (0 + b / 1024 % 256 - (0 + a / 1024 % 256) + 1) = 1 := by omega
          have f2 : (0 + b / 1 % 256 - (0 + a / 1 % 256) + 1) = 256 := by omega
          rw [f1, f0, f2]
          omega
      · have f1 : (216 + b / 262144 % 4 - (216 + a / 262144 % 4) + 1) = 1 := by omega
        have f3 : (220 + b / 256 % 4 - (220 + a / 256 % 4) + 1) = 4 := by omega
        have f2 : (0 + b / 1 % 256 - (0 + a / 1 % 256) + 1) = 256 := by omega
        rw [f1, f3, f2]
        omega
    · have f0 : (0 + b / 1024 % 256 - (0 + a / 1024 % 256) + 1) = 256 := by omega
      have f3 : (220 + b / 256 % 4 - (220 + a / 256 % 4) + 1) = 4 := by omega
      have f2 : (0 + b / 1 % 256 - (0 + a / 1 % 256) + 1) = 256 := by omega
      rw [f0, f3, f2]
      omega
set_option maxHeartbeats 4000000 in
theorem good_w3a : GoodS 3 ⟨0, 55295, 0, [⟨0, 8, 8⟩, ⟨0, 0, 8⟩]⟩ where
  fits p h3 h4 := by
    simp only at h3 h4
    refine ⟨.inr ⟨by decide, by omega, by omega, by omega⟩, ?_⟩
    show [0 + (p - 0) / 256 % 256, 0 + (p - 0) / 1 % 256] = _
    simp only [bytesR, show ¬ (3 : Int) = 4 by decide, show ¬ (3 : Int) = 1 by decide, show ¬ (3 : Int) = 2 by decide, if_false]
    rw [if_pos (show p < 65536 by omega)]
    simp only [List.cons.injEq, and_true]
    omega
  box a b t h3 h4 h5 hB := by
    simp only at h3 h5 hB
    have e0 : ∀ n, byteN ⟨0, 8, 8⟩ n = 0 + n / 256 % 256 := fun n => rfl
    have e1 : ∀ n, byteN ⟨0, 0, 8⟩ n = 0 + n / 1 % 256 := fun n => rfl
    have b0 : a / 256 = b / 256 ∨ (a % 256 = 0 ∧ b % 256 = 255) := hB ⟨0, 8, 8⟩ (by simp)
    simp only [roadP, rowP, List.map_cons, List.map_nil, e0, e1]
    rw [goesB_2]
    constructor
    · rintro ⟨x, y, rfl, ⟨p1, p2⟩, ⟨q1, q2⟩⟩
      simp only at p1 p2 q1 q2
      refine ⟨((x - 0) * 256 + (y - 0) * 1), ?_, ?_, ?_⟩
      · omega
      · omega
      · simp only [List.cons.injEq, and_true]
        refine ⟨?_, ?_⟩
        all_goals omega
    · rintro ⟨n, g1, g2, rfl⟩
      refine ⟨_, _, rfl, ⟨?_, ?_⟩, ⟨?_, ?_⟩⟩
      all_goals simp only
      all_goals omega
  len := by simp
  byte n h3 h4 p hp := by
    simp only [List.mem_cons, List.not_mem_nil, or_false] at hp h3 h4
    have e0 : ∀ n, byteN ⟨0, 8, 8⟩ n = 0 + n / 256 % 256 := fun n => rfl
    have e1 : ∀ n, byteN ⟨0, 0, 8⟩ n = 0 + n / 1 % 256 := fun n => rfl
    rcases hp with rfl | rfl
    all_goals simp only [e0, e1]
    all_goals omega
  prod a b h3 h4 h5 hB := by
    simp only at h3 h5 hB
    have e0 : ∀ n, byteN ⟨0, 8, 8⟩ n = 0 + n / 256 % 256 := fun n => rfl
    have e1 : ∀ n, byteN ⟨0, 0, 8⟩ n = 0 + n / 1 % 256 := fun n => rfl
    have b0 : a / 256 = b / 256 ∨ (a % 256 = 0 ∧ b % 256 = 255) := hB ⟨0, 8, 8⟩ (by simp)
    simp only [roadP, List.map_cons, List.map_nil, e0, e1]
    rw [prodR_2]
    simp only
    rcases b0 with b0 | b0
    · have f0 : (0 + b / 256 % 256 - (0 + a / 256 % 256) + 1) = 1 := by omega
      rw [f0]
      omega
    · have f1 : (0 + b / 1 % 256 - (0 + a / 1 % 256) + 1) = 256 := by omega
      rw [f1]
      omega
set_option maxHeartbeats 4000000 in
theorem good_w3b : GoodS 3 ⟨57344, 65535, 0, [⟨0, 8, 8⟩, ⟨0, 0, 8⟩]⟩ where
  fits p h3 h4 := by
    simp only at h3 h4
    refine ⟨.inr ⟨by decide, by omega, by omega, by omega⟩, ?_⟩
    show [0 + (p - 0) / 256 % 256, 0 + (p - 0) / 1 % 256] = _
    simp only [bytesR, show ¬ (3 : Int) = 4 by decide, show ¬ (3 : Int) = 1 by decide, show ¬ (3 : Int) = 2 by decide, if_false]
    rw [if_pos (show p < 65536 by omega)]
    simp only [List.cons.injEq, and_true]
    omega
  box a b t h3 h4 h5 hB := by
    simp only at h3 h5 hB
    have e0 : ∀ n, byteN ⟨0, 8, 8⟩ n = 0 + n / 256 % 256 := fun n => rfl
    have e1 : ∀ n, byteN ⟨0, 0, 8⟩ n = 0 + n / 1 % 256 := fun n => rfl
    have b0 : a / 256 = b / 256 ∨ (a % 256 = 0 ∧ b % 256 = 255) := hB ⟨0, 8, 8⟩ (by simp)
    simp only [roadP, rowP, List.map_cons, List.map_nil, e0, e1]
    rw [goesB_2]
    constructor
    · rintro ⟨x, y, rfl, ⟨p1, p2⟩, ⟨q1, q2⟩⟩
      simp only at p1 p2 q1 q2
      refine ⟨((x - 0) * 256 + (y - 0) * 1), ?_, ?_, ?_⟩
      · omega
      · omega
      · simp only [List.cons.injEq, and_true]
        refine ⟨?_, ?_⟩
        all_goals omega
    · rintro ⟨n, g1, g2, rfl⟩
      refine ⟨_, _, rfl, ⟨?_, ?_⟩, ⟨?_, ?_⟩⟩
      all_goals simp only
      all_goals omega
  len := by simp
  byte n h3 h4 p hp := by
    simp only [List.mem_cons, List.not_mem_nil, or_false] at hp h3 h4
    have e0 : ∀ n, byteN ⟨0, 8, 8⟩ n = 0 + n / 256 % 256 := fun n => rfl
    have e1 : ∀ n, byteN ⟨0, 0, 8⟩ n = 0 + n / 1 % 256 := fun n => rfl
    rcases hp with rfl | rfl
    all_goals simp only [e0, e1]
    all_goals omega
  prod a b h3 h4 h5 hB := by
    simp only at h3 h5 hB
    have e0 : ∀ n, byteN ⟨0, 8, 8⟩ n = 0 + n / 256 % 256 := fun n => rfl
    have e1 : ∀ n, byteN ⟨0, 0, 8⟩ n = 0 + n / 1 % 256 := fun n => rfl
    have b0 : a / 256 = b / 256 ∨ (a % 256 = 0 ∧ b % 256 = 255) := hB ⟨0, 8, 8⟩ (by simp)
    simp only [roadP, List.map_cons, List.map_nil, e0, e1]
    rw [prodR_2]
    simp only
    rcases b0 with b0 | b0
    · have f0 : (0 + b / 256 % 256 - (0 + a / 256 % 256) + 1) = 1 := by omega
      rw [f0]
      omega
    · have f1 : (0 + b / 1 % 256 - (0 + a / 1 % 256) + 1) = 256 := by omega
      rw [f1]
      omega
set_option maxHeartbeats 4000000 in
theorem good_w3c : GoodS 3 ⟨65536, 1114111, 65536, [⟨216, 18, 2⟩, ⟨0, 10, 8⟩, ⟨220, 8, 2⟩, ⟨0, 0, 8⟩]⟩ where
  fits p h3 h4 := by
    simp only at h3 h4
    refine ⟨.inr ⟨by decide, by omega, by omega, by omega⟩, ?_⟩
    show [216 + (p - 65536) / 262144 % 4, 0 + (p - 65536) / 1024 % 256, 220 + (p - 65536) / 256 % 4, 0 + (p - 65536) / 1 % 256] = _
    simp only [bytesR, show ¬ (3 : Int) = 4 by decide, show ¬ (3 : Int) = 1 by decide, show ¬ (3 : Int) = 2 by decide, if_false]
    rw [if_neg (show ¬ p < 65536 by omega)]
    simp only [List.cons.injEq, and_true]
    omega
  box a b t h3 h4 h5 hB := by
    simp only at h3 h5 hB
    have e0 : ∀ n, byteN ⟨216, 18, 2⟩ n = 216 + n / 262144 % 4 := fun n => rfl
    have e1 : ∀ n, byteN ⟨0, 10, 8⟩ n = 0 + n / 1024 % 256 := fun n => rfl
    have e2 : ∀ n, byteN ⟨220, 8, 2⟩ n = 220 + n / 256 % 4 := fun n => rfl
    have e3 : ∀ n, byteN ⟨0, 0, 8⟩ n = 0 + n / 1 % 256 := fun n => rfl
    have b0 : a / 262144 = b / 262144 ∨ (a % 262144 = 0 ∧ b % 262144 = 262143) := hB ⟨216, 18, 2⟩ (by simp)
    have b1 : a / 1024 = b / 1024 ∨ (a % 1024 = 0 ∧ b % 1024 = 1023) := hB ⟨0, 10, 8⟩ (by simp)
    have b2 : a / 256 = b / 256 ∨ (a % 256 = 0 ∧ b % 256 = 255) := hB ⟨220, 8, 2⟩ (by simp)
    simp only [roadP, rowP, List.map_cons, List.map_nil, e0, e1, e2, e3]
    rw [goesB_4]
    constructor
    · rintro ⟨x, y, z, v, rfl, ⟨p1, p2⟩, ⟨q1, q2⟩, ⟨r1, r2⟩, ⟨s1, s2⟩⟩
      simp only at p1 p2 q1 q2 r1 r2 s1 s2
      refine ⟨((x - 216) * 262144 + (y - 0) * 1024 + (z - 220) * 256 + (v - 0) * 1), ?_, ?_, ?_⟩
      · omega
      · omega
      · simp only [List.cons.injEq, and_true]
        refine ⟨?_, ?_, ?_, ?_⟩
        all_goals omega
    · rintro ⟨n, g1, g2, rfl⟩
      refine ⟨_, _, _, _, rfl, ⟨?_, ?_⟩, ⟨?_, ?_⟩, ⟨?_, ?_⟩, ⟨?_, ?_⟩⟩
      all_goals simp only
      all_goals omega
  len := by simp
  byte n h3 h4 p hp := by
    simp only [List.mem_cons, List.not_mem_nil, or_false] at hp h3 h4
    have e0 : ∀ n, byteN ⟨216, 18, 2⟩ n = 216 + n / 262144 % 4 := fun n => rfl
    have e1 : ∀ n, byteN ⟨0, 10, 8⟩ n = 0 + n / 1024 % 256 := fun n => rfl
    have e2 : ∀ n, byteN ⟨220, 8, 2⟩ n = 220 + n / 256 % 4 := fun n => rfl
    have e3 : ∀ n, byteN ⟨0, 0, 8⟩ n = 0 + n / 1 % 256 := fun n => rfl
    rcases hp with rfl | rfl | rfl | rfl
    all_goals simp only [e0, e1, e2, e3]
    all_goals omega
  prod a b h3 h4 h5 hB := by
    simp only at h3 h5 hB
    have e0 : ∀ n, byteN ⟨216, 18, 2⟩ n = 216 + n / 262144 % 4 := fun n => rfl
    have e1 : ∀ n, byteN ⟨0, 10, 8⟩ n = 0 + n / 1024 % 256 := fun n => rfl
    have e2 : ∀ n, byteN ⟨220, 8, 2⟩ n = 220 + n / 256 % 4 := fun n => rfl
    have e3 : ∀ n, byteN ⟨0, 0, 8⟩ n = 0 + n / 1 % 256 := fun n => rfl
    have b0 : a / 262144 = b / 262144 ∨ (a % 262144 = 0 ∧ b % 262144 = 262143) := hB ⟨216, 18, 2⟩ (by simp)
    have b1 : a / 1024 = b / 1024 ∨ (a % 1024 = 0 ∧ b % 1024 = 1023) := hB ⟨0, 10, 8⟩ (by simp)
    have b2 : a / 256 = b / 256 ∨ (a % 256 = 0 ∧ b % 256 = 255) := hB ⟨220, 8, 2⟩ (by simp)
    simp only [roadP, List.map_cons, List.map_nil, e0, e1, e2, e3]
    rw [prodR_4]
    simp only
    rcases b0 with b0 | b0
    · rcases b1 with b1 | b1
      · rcases b2 with b2 | b2
        · have f0 : (216 + b / 262144 % 4 - (216 + a / 262144 % 4) + 1) = 1 := by omega
          have f1 : (0 + b / 1024 % 256 - (0 + a / 1024 % 256) + 1) = 1 := by omega
          have f2 : (220 + b / 256 % 4 - (220 + a / 256 % 4) + 1) = 1 := by omega
          rw [f0, f1, f2]
          omega
        · have f0 : (216 + b / 262144 % 4 - (216 + a / 262144 % 4) + 1) = 1 := by omega
          have f1 : (0 + b / 1024 % 256 - (0 + a / 1024 % 256) + 1) = 1 := by omega
          have f3 : (0 + b / 1 % 256 - (0 + a / 1 % 256) + 1) = 256 := by omega
          rw [f0, f1, f3]
          omega
      · have f0 : (216 + b / 262144 % 4 - (216 + a / 262144 % 4) + 1) = 1 := by omega
        have f2 : (220 + b / 256 % 4 - (220 + a / 256 % 4) + 1) = 4 := by omega
        have f3 : (0 + b / 1 % 256 - (0 + a / 1 % 256) + 1) = 256 := by omega
        rw [f0, f2, f3]
        omega
    · have f1 : (0 + b / 1024 % 256 - (0 + a / 1024 % 256) + 1) = 256 := by omega
      have f2 : (220 + b / 256 % 4 - (220 + a / 256 % 4) + 1) = 4 := by omega
      have f3 : (0 + b / 1 % 256 - (0 + a / 1 % 256) + 1) = 256 := by omega
      rw [f1, f2, f3]
      omega

theorem good_l : GoodS 4 ⟨0, 255, 0, [⟨0, 0, 8⟩]⟩ := good_1 4 0 255 0 8 256 rfl (by decide) (by decide) (by decide) (by decide) fun p h1 h2 => ⟨.inl ⟨rfl, h1, h2⟩, by simp [bytesR]⟩
theorem good_u1 : GoodS 1 ⟨0, 127, 0, [⟨0, 0, 7⟩]⟩ := good_1 1 0 127 0 7 128 rfl (by decide) (by decide) (by decide) (by decide) fun p h1 h2 => ⟨.inr ⟨by decide, h1, by omega, by omega⟩, by simp [bytesR]; omega⟩
theorem good_all {enc : Int} (he : isEnc enc) : ∀ S ∈ shapesP enc, GoodS enc S := by
  rcases he with rfl | rfl | rfl | rfl
  · intro S hS
    simp [shapesP] at hS
    rcases hS with rfl | rfl | rfl | rfl | rfl
    · exact good_u1
    · exact good_u2
    · exact good_u3a
    · exact good_u3b
    · exact good_u4
  · intro S hS
    simp [shapesP, paired] at hS
    rcases hS with rfl | rfl | rfl
    · exact good_w2a
    · exact good_w2b
    · exact good_w2c
  · intro S hS
    simp [shapesP, paired] at hS
    rcases hS with rfl | rfl | rfl
    · exact good_w3a
    · exact good_w3b
    · exact good_w3c
  · intro S hS
    simp [shapesP] at hS
    subst hS
    exact good_l
theorem shapes_part {enc : Int} (he : isEnc enc) : (shapesP enc).Pairwise (fun S T => S.last < T.first) ∧ ∀ p, Scal enc p → ∃ S ∈ shapesP enc, S.first ≤ p ∧ p ≤ S.last := by
  rcases he with rfl | rfl | rfl | rfl
  · refine ⟨by simp [shapesP], fun p hp => ?_⟩
    simp [Scal] at hp
    simp [shapesP]
    omega
  · refine ⟨by simp [shapesP, paired], fun p hp => ?_⟩
    simp [Scal] at hp
    simp [shapesP, paired]
    omega
  · refine ⟨by simp [shapesP, paired], fun p hp => ?_⟩
    simp [Scal] at hp
    simp [shapesP, paired]
    omega
  · refine ⟨by simp [shapesP], fun p hp => ?_⟩
    simp [Scal] at hp
    simp [shapesP]
    omega
--END
end Go.Proofs.YtljankfhnmcbaaaGreatDoor.SP
