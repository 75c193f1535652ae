/- What Standing answers, of the bytes of a point. -/
import Derived.Test.YthigleohjagfiaaSrw
import Derived.Laws.EntriesVeiled
namespace Go.Proofs.Ythigleohjagfiaa
open Go.RowKit Go.PlainAid
set_option linter.unusedVariables false

def StE (enc : Int) (s : ByteArray) (e : Ending) : Prop := ∃ q n : Int, e = .returned (.tuple #[.int .i64 q, .int .i64 n]) ∧ ∀ p, Scal enc p → tl s = bytesR enc p → q = p ∧ n = s.size
theorem tmod_rng (y m : Int) (hy : -1 ≤ y ∧ y ≤ 255) (hm : 0 < m) : -1 ≤ y.tmod m ∧ y.tmod m < m ∧ (0 ≤ y → y.tmod m = y % m) := by
  by_cases h : 0 ≤ y
  · have e := Int.tmod_eq_emod_of_nonneg (b := m) h
    rw [e]
    have h1 := Int.emod_nonneg y (show m ≠ 0 by omega)
    have h2 := Int.emod_lt_of_pos y hm
    exact ⟨by omega, h2, fun _ => rfl⟩
  · have : y = -1 := by omega
    subst this
    rw [Int.neg_tmod]
    by_cases h1 : m = 1
    · subst h1; simp
    · rw [Int.tmod_eq_emod_of_nonneg (by omega), Int.emod_eq_of_lt (by omega) (by omega)]
      exact ⟨by omega, by omega, fun h => absurd h (by omega)⟩
theorem stE_no {enc : Int} {s : ByteArray} (h : ∀ p, Scal enc p → ¬ tl s = bytesR enc p) : StE enc s (.returned (.tuple #[.int .i64 (-1), .int .i64 0])) := ⟨-1, 0, rfl, fun p hp ht => absurd ht (h p hp)⟩
theorem bytesR_ne {enc p : Int} (he : isEnc enc) : bytesR enc p ≠ [] := by
  unfold bytesR
  repeat' split
  all_goals simp
theorem bytesR_byte {enc p : Int} (he : isEnc enc) (hp : Scal enc p) : ∀ x ∈ bytesR enc p, 0 ≤ x ∧ x < 256 := by
  intro x hx
  rw [← EE.bytesOf_R he] at hx
  exact EE.bytesOf_byte (EE.encB_iff.2 he) (EE.holdB_iff.2 hp) x hx
set_option maxRecDepth 100000 in
set_option maxHeartbeats 8000000 in
theorem stand_1_0 (s : ByteArray) (hs : s.size ≤ 4) (h0 : bN s 0 < 0) (w : World) : Calls Try.prog 16 #[.int .i64 1, .string s, .int .i64 0] w fun e w' => StE 1 s e ∧ Below w.heap.size w w' := by
  have hmf : ∀ (fn : Fn) (first cap : Array Value) (w : World), (Instr.makeFunc fn first cap).run Try.prog w = .ok (.func fn first cap) w := fun _ _ _ _ => rfl
  have eg := enters_of (P := Try.prog) Try.func36 (by kernel_rfl) rfl
  have eg2 := enters_of (P := Try.prog) Try.func37 (by kernel_rfl) rfl
  obtain ⟨b3, hb3⟩ : ∃ b3, b3 = w.heap.size := ⟨_, rfl⟩
  obtain ⟨b4, hb4⟩ : ∃ b4, b4 = w.heap.size + 1 := ⟨_, rfl⟩
  obtain ⟨b5, hb5⟩ : ∃ b5, b5 = w.heap.size + 1 + 1 := ⟨_, rfl⟩
  obtain ⟨w3, hw3⟩ : ∃ w3, w3 = ((w.alloc (.cells #[.int .i64 1] 3)).alloc (.cells #[.string s] 9)).alloc (.cells #[.int .i64 0] 3) := ⟨_, rfl⟩
  obtain ⟨b8, hb8⟩ : ∃ b8, b8 = w3.heap.size := ⟨_, rfl⟩
  obtain ⟨w4, hw4⟩ : ∃ w4, w4 = w3.alloc (.cells #[stF b4 b5] 68) := ⟨_, rfl⟩
  have k3 : w3.heap[b3]? = some (.cells #[.int .i64 1] 3) := by rw [hw3, hb3]; exact keepA (keepA (at_k rfl))
  have k4 : w3.heap[b4]? = some (.cells #[.string s] 9) := by rw [hw3, hb4]; exact keepA (at_k (by simp))
  have k5 : w3.heap[b5]? = some (.cells #[.int .i64 0] 3) := by rw [hw3, hb5]; exact at_k (by simp)
  have q3 : w4.heap[b3]? = some (.cells #[.int .i64 1] 3) := by rw [hw4]; exact keepA k3
  have q4 : w4.heap[b4]? = some (.cells #[.string s] 9) := by rw [hw4]; exact keepA k4
  have q5 : w4.heap[b5]? = some (.cells #[.int .i64 0] 3) := by rw [hw4]; exact keepA k5
  have q8 : w4.heap[b8]? = some (.cells #[stF b4 b5] 68) := by rw [hw4, hb8]; exact at_newS _ _
  have HB4 : Hid (Below w.heap.size w w4) := by
    have h1 : Below w.heap.size w w3 := by rw [hw3]; exact (((Below.refl _ w).alloc (by simp) _).alloc (by simp) _).alloc (by simp <;> omega) _
    show Below _ _ _
    rw [hw4]
    exact h1.alloc h1.size _
  have HC : Hid (∀ W, Below w4.heap.size w4 W → W.cell? ⟨b3, 0, none⟩ = some (.int .i64 1) ∧ W.cell? ⟨b8, 0, none⟩ = some (stF b4 b5)) := fun W hW => ⟨by simpa using cells_at (rdO_keep q3 hW) 0, by simpa using cells_at (rdO_keep q8 hW) 0⟩
  have HBi : Hid (∀ (i : Nat), i ≤ 8 → ∀ W, Below w4.heap.size w4 W → Calls Try.prog 36 #[.int .i64 i, .pointer (some ⟨b5, 0, none⟩), .pointer (some ⟨b4, 0, none⟩)] W fun e w' => e = .returned (.int .i64 (bN s i)) ∧ w' = W) := fun i hi W hW => stB_any s hs i hi b4 b5 W (by simpa using cells_at (rdO_keep q4 hW) 0) (by simpa using cells_at (rdO_keep q5 hW) 0)
  have HD : Hid (∀ q, Below w4.heap.size w4 (w4.drewN q)) := fun q => below_drewN (Below.refl _ _) q
  obtain ⟨f3, f8⟩ := HC.out w4 (Below.refl _ _)
  have y0r := bN_rng s 0
  have y1r := bN_rng s 1
  have y2r := bN_rng s 2
  have y3r := bN_rng s 3
  obtain ⟨y0, hy0⟩ : ∃ y0, y0 = bN s 0 := ⟨_, rfl⟩
  obtain ⟨y1, hy1⟩ : ∃ y1, y1 = bN s 1 := ⟨_, rfl⟩
  obtain ⟨y2, hy2⟩ : ∃ y2, y2 = bN s 2 := ⟨_, rfl⟩
  obtain ⟨y3, hy3⟩ : ∃ y3, y3 = bN s 3 := ⟨_, rfl⟩
  have H0 : Hid (∀ W, Below w4.heap.size w4 W → Calls Try.prog 36 #[.int .i64 0, .pointer (some ⟨b5, 0, none⟩), .pointer (some ⟨b4, 0, none⟩)] W fun e w' => e = .returned (.int .i64 y0) ∧ w' = W) := by rw [hy0]; exact HBi.out 0 (by decide)
  have H1 : Hid (∀ W, Below w4.heap.size w4 W → Calls Try.prog 36 #[.int .i64 1, .pointer (some ⟨b5, 0, none⟩), .pointer (some ⟨b4, 0, none⟩)] W fun e w' => e = .returned (.int .i64 y1) ∧ w' = W) := by rw [hy1]; exact HBi.out 1 (by decide)
  have H2 : Hid (∀ W, Below w4.heap.size w4 W → Calls Try.prog 36 #[.int .i64 2, .pointer (some ⟨b5, 0, none⟩), .pointer (some ⟨b4, 0, none⟩)] W fun e w' => e = .returned (.int .i64 y2) ∧ w' = W) := by rw [hy2]; exact HBi.out 2 (by decide)
  have H3 : Hid (∀ W, Below w4.heap.size w4 W → Calls Try.prog 36 #[.int .i64 3, .pointer (some ⟨b5, 0, none⟩), .pointer (some ⟨b4, 0, none⟩)] W fun e w' => e = .returned (.int .i64 y3) ∧ w' = W) := by rw [hy3]; exact HBi.out 3 (by decide)
  rw [← hy0] at y0r
  rw [← hy1] at y1r
  rw [← hy2] at y2r
  rw [← hy3] at y3r
  have HY : Hid (∀ p, tl s = bytesR 1 p → y0 = (bytesR 1 p).getD 0 (-1) ∧ y1 = (bytesR 1 p).getD 1 (-1) ∧ y2 = (bytesR 1 p).getD 2 (-1) ∧ y3 = (bytesR 1 p).getD 3 (-1)) := fun p h => ⟨by rw [hy0]; exact bN_tl h 0, by rw [hy1]; exact bN_tl h 1, by rw [hy2]; exact bN_tl h 2, by rw [hy3]; exact bN_tl h 3⟩
  rw [← hy0] at h0
  have HF : Hid (StE 1 s (.returned (.tuple #[.int .i64 (-1), .int .i64 0]))) := stE_no fun p hp ht => by
    have := (HY.out p ht).1
    have hb := bytesR_byte (by unfold isEnc; omega) hp
    cases hl : bytesR 1 p with
    | nil => exact bytesR_ne (by unfold isEnc; omega) hl
    | cons x l =>
      rw [hl] at this hb
      have := hb x (by simp)
      simp at *
      omega
  simp only [stF] at hw4 f8 HC
  clear k3 k4 k5 q3 q4 q5 q8 hy0 hy1 hy2 hy3
  go_enter Try.func16, Try.ntmps16
  go_upto_region 1 with fail
  rw [← hw3, ← hb5, ← hb4, ← hb3]
  clear hw3 hb5 hb4 hb3
  go_upto_region 2 with fail
  rw [← hw4, ← hb8]
  clear hw4 hb8
  have HBc : Hid (Below w4.heap.size w4 w4) := Below.refl _ _
  have HBw : Hid (∀ W, Below w4.heap.size w4 W → Below w.heap.size w W) := fun W hW => below_tr HB4.out hW
  go_wp2_with (go_at_call_of 36 (Value.int .i64 0); refine (H0.out _ HBc.out).mono ?_; rintro e w5 ⟨rfl, hw5⟩; have hw6 := hw5.symm; subst hw6; clear hw5)
  go_ret2
  exact ⟨HF.out, HBw.out _ HBc.out⟩
set_option maxRecDepth 100000 in
set_option maxHeartbeats 8000000 in
theorem stand_2_0 (s : ByteArray) (hs : s.size ≤ 4) (h0 : bN s 0 < 0) (w : World) : Calls Try.prog 16 #[.int .i64 2, .string s, .int .i64 0] w fun e w' => StE 2 s e ∧ Below w.heap.size w w' := by
  have hmf : ∀ (fn : Fn) (first cap : Array Value) (w : World), (Instr.makeFunc fn first cap).run Try.prog w = .ok (.func fn first cap) w := fun _ _ _ _ => rfl
  have eg := enters_of (P := Try.prog) Try.func36 (by kernel_rfl) rfl
  have eg2 := enters_of (P := Try.prog) Try.func37 (by kernel_rfl) rfl
  obtain ⟨b3, hb3⟩ : ∃ b3, b3 = w.heap.size := ⟨_, rfl⟩
  obtain ⟨b4, hb4⟩ : ∃ b4, b4 = w.heap.size + 1 := ⟨_, rfl⟩
  obtain ⟨b5, hb5⟩ : ∃ b5, b5 = w.heap.size + 1 + 1 := ⟨_, rfl⟩
  obtain ⟨w3, hw3⟩ : ∃ w3, w3 = ((w.alloc (.cells #[.int .i64 2] 3)).alloc (.cells #[.string s] 9)).alloc (.cells #[.int .i64 0] 3) := ⟨_, rfl⟩
  obtain ⟨b8, hb8⟩ : ∃ b8, b8 = w3.heap.size := ⟨_, rfl⟩
  obtain ⟨w4, hw4⟩ : ∃ w4, w4 = w3.alloc (.cells #[stF b4 b5] 68) := ⟨_, rfl⟩
  have k3 : w3.heap[b3]? = some (.cells #[.int .i64 2] 3) := by rw [hw3, hb3]; exact keepA (keepA (at_k rfl))
  have k4 : w3.heap[b4]? = some (.cells #[.string s] 9) := by rw [hw3, hb4]; exact keepA (at_k (by simp))
  have k5 : w3.heap[b5]? = some (.cells #[.int .i64 0] 3) := by rw [hw3, hb5]; exact at_k (by simp)
  have q3 : w4.heap[b3]? = some (.cells #[.int .i64 2] 3) := by rw [hw4]; exact keepA k3
  have q4 : w4.heap[b4]? = some (.cells #[.string s] 9) := by rw [hw4]; exact keepA k4
  have q5 : w4.heap[b5]? = some (.cells #[.int .i64 0] 3) := by rw [hw4]; exact keepA k5
  have q8 : w4.heap[b8]? = some (.cells #[stF b4 b5] 68) := by rw [hw4, hb8]; exact at_newS _ _
  have HB4 : Hid (Below w.heap.size w w4) := by
    have h1 : Below w.heap.size w w3 := by rw [hw3]; exact (((Below.refl _ w).alloc (by simp) _).alloc (by simp) _).alloc (by simp <;> omega) _
    show Below _ _ _
    rw [hw4]
    exact h1.alloc h1.size _
  have HC : Hid (∀ W, Below w4.heap.size w4 W → W.cell? ⟨b3, 0, none⟩ = some (.int .i64 2) ∧ W.cell? ⟨b8, 0, none⟩ = some (stF b4 b5)) := fun W hW => ⟨by simpa using cells_at (rdO_keep q3 hW) 0, by simpa using cells_at (rdO_keep q8 hW) 0⟩
  have HBi : Hid (∀ (i : Nat), i ≤ 8 → ∀ W, Below w4.heap.size w4 W → Calls Try.prog 36 #[.int .i64 i, .pointer (some ⟨b5, 0, none⟩), .pointer (some ⟨b4, 0, none⟩)] W fun e w' => e = .returned (.int .i64 (bN s i)) ∧ w' = W) := fun i hi W hW => stB_any s hs i hi b4 b5 W (by simpa using cells_at (rdO_keep q4 hW) 0) (by simpa using cells_at (rdO_keep q5 hW) 0)
  have HD : Hid (∀ q, Below w4.heap.size w4 (w4.drewN q)) := fun q => below_drewN (Below.refl _ _) q
  obtain ⟨f3, f8⟩ := HC.out w4 (Below.refl _ _)
  have y0r := bN_rng s 0
  have y1r := bN_rng s 1
  have y2r := bN_rng s 2
  have y3r := bN_rng s 3
  obtain ⟨y0, hy0⟩ : ∃ y0, y0 = bN s 0 := ⟨_, rfl⟩
  obtain ⟨y1, hy1⟩ : ∃ y1, y1 = bN s 1 := ⟨_, rfl⟩
  obtain ⟨y2, hy2⟩ : ∃ y2, y2 = bN s 2 := ⟨_, rfl⟩
  obtain ⟨y3, hy3⟩ : ∃ y3, y3 = bN s 3 := ⟨_, rfl⟩
  have H0 : Hid (∀ W, Below w4.heap.size w4 W → Calls Try.prog 36 #[.int .i64 0, .pointer (some ⟨b5, 0, none⟩), .pointer (some ⟨b4, 0, none⟩)] W fun e w' => e = .returned (.int .i64 y0) ∧ w' = W) := by rw [hy0]; exact HBi.out 0 (by decide)
  have H1 : Hid (∀ W, Below w4.heap.size w4 W → Calls Try.prog 36 #[.int .i64 1, .pointer (some ⟨b5, 0, none⟩), .pointer (some ⟨b4, 0, none⟩)] W fun e w' => e = .returned (.int .i64 y1) ∧ w' = W) := by rw [hy1]; exact HBi.out 1 (by decide)
  have H2 : Hid (∀ W, Below w4.heap.size w4 W → Calls Try.prog 36 #[.int .i64 2, .pointer (some ⟨b5, 0, none⟩), .pointer (some ⟨b4, 0, none⟩)] W fun e w' => e = .returned (.int .i64 y2) ∧ w' = W) := by rw [hy2]; exact HBi.out 2 (by decide)
  have H3 : Hid (∀ W, Below w4.heap.size w4 W → Calls Try.prog 36 #[.int .i64 3, .pointer (some ⟨b5, 0, none⟩), .pointer (some ⟨b4, 0, none⟩)] W fun e w' => e = .returned (.int .i64 y3) ∧ w' = W) := by rw [hy3]; exact HBi.out 3 (by decide)
  rw [← hy0] at y0r
  rw [← hy1] at y1r
  rw [← hy2] at y2r
  rw [← hy3] at y3r
  have HY : Hid (∀ p, tl s = bytesR 2 p → y0 = (bytesR 2 p).getD 0 (-1) ∧ y1 = (bytesR 2 p).getD 1 (-1) ∧ y2 = (bytesR 2 p).getD 2 (-1) ∧ y3 = (bytesR 2 p).getD 3 (-1)) := fun p h => ⟨by rw [hy0]; exact bN_tl h 0, by rw [hy1]; exact bN_tl h 1, by rw [hy2]; exact bN_tl h 2, by rw [hy3]; exact bN_tl h 3⟩
  rw [← hy0] at h0
  have HF : Hid (StE 2 s (.returned (.tuple #[.int .i64 (-1), .int .i64 0]))) := stE_no fun p hp ht => by
    have := (HY.out p ht).1
    have hb := bytesR_byte (by unfold isEnc; omega) hp
    cases hl : bytesR 2 p with
    | nil => exact bytesR_ne (by unfold isEnc; omega) hl
    | cons x l =>
      rw [hl] at this hb
      have := hb x (by simp)
      simp at *
      omega
  simp only [stF] at hw4 f8 HC
  clear k3 k4 k5 q3 q4 q5 q8 hy0 hy1 hy2 hy3
  go_enter Try.func16, Try.ntmps16
  go_upto_region 1 with fail
  rw [← hw3, ← hb5, ← hb4, ← hb3]
  clear hw3 hb5 hb4 hb3
  go_upto_region 2 with fail
  rw [← hw4, ← hb8]
  clear hw4 hb8
  have HBc : Hid (Below w4.heap.size w4 w4) := Below.refl _ _
  have HBw : Hid (∀ W, Below w4.heap.size w4 W → Below w.heap.size w W) := fun W hW => below_tr HB4.out hW
  go_wp2_with (go_at_call_of 36 (Value.int .i64 0); refine (H0.out _ HBc.out).mono ?_; rintro e w5 ⟨rfl, hw5⟩; have hw6 := hw5.symm; subst hw6; clear hw5)
  go_ret2
  exact ⟨HF.out, HBw.out _ HBc.out⟩
set_option maxRecDepth 100000 in
set_option maxHeartbeats 8000000 in
theorem stand_3_0 (s : ByteArray) (hs : s.size ≤ 4) (h0 : bN s 0 < 0) (w : World) : Calls Try.prog 16 #[.int .i64 3, .string s, .int .i64 0] w fun e w' => StE 3 s e ∧ Below w.heap.size w w' := by
  have hmf : ∀ (fn : Fn) (first cap : Array Value) (w : World), (Instr.makeFunc fn first cap).run Try.prog w = .ok (.func fn first cap) w := fun _ _ _ _ => rfl
  have eg := enters_of (P := Try.prog) Try.func36 (by kernel_rfl) rfl
  have eg2 := enters_of (P := Try.prog) Try.func37 (by kernel_rfl) rfl
  obtain ⟨b3, hb3⟩ : ∃ b3, b3 = w.heap.size := ⟨_, rfl⟩
  obtain ⟨b4, hb4⟩ : ∃ b4, b4 = w.heap.size + 1 := ⟨_, rfl⟩
  obtain ⟨b5, hb5⟩ : ∃ b5, b5 = w.heap.size + 1 + 1 := ⟨_, rfl⟩
  obtain ⟨w3, hw3⟩ : ∃ w3, w3 = ((w.alloc (.cells #[.int .i64 3] 3)).alloc (.cells #[.string s] 9)).alloc (.cells #[.int .i64 0] 3) := ⟨_, rfl⟩
  obtain ⟨b8, hb8⟩ : ∃ b8, b8 = w3.heap.size := ⟨_, rfl⟩
  obtain ⟨w4, hw4⟩ : ∃ w4, w4 = w3.alloc (.cells #[stF b4 b5] 68) := ⟨_, rfl⟩
  have k3 : w3.heap[b3]? = some (.cells #[.int .i64 3] 3) := by rw [hw3, hb3]; exact keepA (keepA (at_k rfl))
  have k4 : w3.heap[b4]? = some (.cells #[.string s] 9) := by rw [hw3, hb4]; exact keepA (at_k (by simp))
  have k5 : w3.heap[b5]? = some (.cells #[.int .i64 0] 3) := by rw [hw3, hb5]; exact at_k (by simp)
  have q3 : w4.heap[b3]? = some (.cells #[.int .i64 3] 3) := by rw [hw4]; exact keepA k3
  have q4 : w4.heap[b4]? = some (.cells #[.string s] 9) := by rw [hw4]; exact keepA k4
  have q5 : w4.heap[b5]? = some (.cells #[.int .i64 0] 3) := by rw [hw4]; exact keepA k5
  have q8 : w4.heap[b8]? = some (.cells #[stF b4 b5] 68) := by rw [hw4, hb8]; exact at_newS _ _
  have HB4 : Hid (Below w.heap.size w w4) := by
    have h1 : Below w.heap.size w w3 := by rw [hw3]; exact (((Below.refl _ w).alloc (by simp) _).alloc (by simp) _).alloc (by simp <;> omega) _
    show Below _ _ _
    rw [hw4]
    exact h1.alloc h1.size _
  have HC : Hid (∀ W, Below w4.heap.size w4 W → W.cell? ⟨b3, 0, none⟩ = some (.int .i64 3) ∧ W.cell? ⟨b8, 0, none⟩ = some (stF b4 b5)) := fun W hW => ⟨by simpa using cells_at (rdO_keep q3 hW) 0, by simpa using cells_at (rdO_keep q8 hW) 0⟩
  have HBi : Hid (∀ (i : Nat), i ≤ 8 → ∀ W, Below w4.heap.size w4 W → Calls Try.prog 36 #[.int .i64 i, .pointer (some ⟨b5, 0, none⟩), .pointer (some ⟨b4, 0, none⟩)] W fun e w' => e = .returned (.int .i64 (bN s i)) ∧ w' = W) := fun i hi W hW => stB_any s hs i hi b4 b5 W (by simpa using cells_at (rdO_keep q4 hW) 0) (by simpa using cells_at (rdO_keep q5 hW) 0)
  have HD : Hid (∀ q, Below w4.heap.size w4 (w4.drewN q)) := fun q => below_drewN (Below.refl _ _) q
  obtain ⟨f3, f8⟩ := HC.out w4 (Below.refl _ _)
  have y0r := bN_rng s 0
  have y1r := bN_rng s 1
  have y2r := bN_rng s 2
  have y3r := bN_rng s 3
  obtain ⟨y0, hy0⟩ : ∃ y0, y0 = bN s 0 := ⟨_, rfl⟩
  obtain ⟨y1, hy1⟩ : ∃ y1, y1 = bN s 1 := ⟨_, rfl⟩
  obtain ⟨y2, hy2⟩ : ∃ y2, y2 = bN s 2 := ⟨_, rfl⟩
  obtain ⟨y3, hy3⟩ : ∃ y3, y3 = bN s 3 := ⟨_, rfl⟩
  have H0 : Hid (∀ W, Below w4.heap.size w4 W → Calls Try.prog 36 #[.int .i64 0, .pointer (some ⟨b5, 0, none⟩), .pointer (some ⟨b4, 0, none⟩)] W fun e w' => e = .returned (.int .i64 y0) ∧ w' = W) := by rw [hy0]; exact HBi.out 0 (by decide)
  have H1 : Hid (∀ W, Below w4.heap.size w4 W → Calls Try.prog 36 #[.int .i64 1, .pointer (some ⟨b5, 0, none⟩), .pointer (some ⟨b4, 0, none⟩)] W fun e w' => e = .returned (.int .i64 y1) ∧ w' = W) := by rw [hy1]; exact HBi.out 1 (by decide)
  have H2 : Hid (∀ W, Below w4.heap.size w4 W → Calls Try.prog 36 #[.int .i64 2, .pointer (some ⟨b5, 0, none⟩), .pointer (some ⟨b4, 0, none⟩)] W fun e w' => e = .returned (.int .i64 y2) ∧ w' = W) := by rw [hy2]; exact HBi.out 2 (by decide)
  have H3 : Hid (∀ W, Below w4.heap.size w4 W → Calls Try.prog 36 #[.int .i64 3, .pointer (some ⟨b5, 0, none⟩), .pointer (some ⟨b4, 0, none⟩)] W fun e w' => e = .returned (.int .i64 y3) ∧ w' = W) := by rw [hy3]; exact HBi.out 3 (by decide)
  rw [← hy0] at y0r
  rw [← hy1] at y1r
  rw [← hy2] at y2r
  rw [← hy3] at y3r
  have HY : Hid (∀ p, tl s = bytesR 3 p → y0 = (bytesR 3 p).getD 0 (-1) ∧ y1 = (bytesR 3 p).getD 1 (-1) ∧ y2 = (bytesR 3 p).getD 2 (-1) ∧ y3 = (bytesR 3 p).getD 3 (-1)) := fun p h => ⟨by rw [hy0]; exact bN_tl h 0, by rw [hy1]; exact bN_tl h 1, by rw [hy2]; exact bN_tl h 2, by rw [hy3]; exact bN_tl h 3⟩
  rw [← hy0] at h0
  have HF : Hid (StE 3 s (.returned (.tuple #[.int .i64 (-1), .int .i64 0]))) := stE_no fun p hp ht => by
    have := (HY.out p ht).1
    have hb := bytesR_byte (by unfold isEnc; omega) hp
    cases hl : bytesR 3 p with
    | nil => exact bytesR_ne (by unfold isEnc; omega) hl
    | cons x l =>
      rw [hl] at this hb
      have := hb x (by simp)
      simp at *
      omega
  simp only [stF] at hw4 f8 HC
  clear k3 k4 k5 q3 q4 q5 q8 hy0 hy1 hy2 hy3
  go_enter Try.func16, Try.ntmps16
  go_upto_region 1 with fail
  rw [← hw3, ← hb5, ← hb4, ← hb3]
  clear hw3 hb5 hb4 hb3
  go_upto_region 2 with fail
  rw [← hw4, ← hb8]
  clear hw4 hb8
  have HBc : Hid (Below w4.heap.size w4 w4) := Below.refl _ _
  have HBw : Hid (∀ W, Below w4.heap.size w4 W → Below w.heap.size w W) := fun W hW => below_tr HB4.out hW
  go_wp2_with (go_at_call_of 36 (Value.int .i64 0); refine (H0.out _ HBc.out).mono ?_; rintro e w5 ⟨rfl, hw5⟩; have hw6 := hw5.symm; subst hw6; clear hw5)
  go_ret2
  exact ⟨HF.out, HBw.out _ HBc.out⟩
set_option maxRecDepth 100000 in
set_option maxHeartbeats 8000000 in
theorem stand_4_0 (s : ByteArray) (hs : s.size ≤ 4) (h0 : bN s 0 < 0) (w : World) : Calls Try.prog 16 #[.int .i64 4, .string s, .int .i64 0] w fun e w' => StE 4 s e ∧ Below w.heap.size w w' := by
  have hmf : ∀ (fn : Fn) (first cap : Array Value) (w : World), (Instr.makeFunc fn first cap).run Try.prog w = .ok (.func fn first cap) w := fun _ _ _ _ => rfl
  have eg := enters_of (P := Try.prog) Try.func36 (by kernel_rfl) rfl
  have eg2 := enters_of (P := Try.prog) Try.func37 (by kernel_rfl) rfl
  obtain ⟨b3, hb3⟩ : ∃ b3, b3 = w.heap.size := ⟨_, rfl⟩
  obtain ⟨b4, hb4⟩ : ∃ b4, b4 = w.heap.size + 1 := ⟨_, rfl⟩
  obtain ⟨b5, hb5⟩ : ∃ b5, b5 = w.heap.size + 1 + 1 := ⟨_, rfl⟩
  obtain ⟨w3, hw3⟩ : ∃ w3, w3 = ((w.alloc (.cells #[.int .i64 4] 3)).alloc (.cells #[.string s] 9)).alloc (.cells #[.int .i64 0] 3) := ⟨_, rfl⟩
  obtain ⟨b8, hb8⟩ : ∃ b8, b8 = w3.heap.size := ⟨_, rfl⟩
  obtain ⟨w4, hw4⟩ : ∃ w4, w4 = w3.alloc (.cells #[stF b4 b5] 68) := ⟨_, rfl⟩
  have k3 : w3.heap[b3]? = some (.cells #[.int .i64 4] 3) := by rw [hw3, hb3]; exact keepA (keepA (at_k rfl))
  have k4 : w3.heap[b4]? = some (.cells #[.string s] 9) := by rw [hw3, hb4]; exact keepA (at_k (by simp))
  have k5 : w3.heap[b5]? = some (.cells #[.int .i64 0] 3) := by rw [hw3, hb5]; exact at_k (by simp)
  have q3 : w4.heap[b3]? = some (.cells #[.int .i64 4] 3) := by rw [hw4]; exact keepA k3
  have q4 : w4.heap[b4]? = some (.cells #[.string s] 9) := by rw [hw4]; exact keepA k4
  have q5 : w4.heap[b5]? = some (.cells #[.int .i64 0] 3) := by rw [hw4]; exact keepA k5
  have q8 : w4.heap[b8]? = some (.cells #[stF b4 b5] 68) := by rw [hw4, hb8]; exact at_newS _ _
  have HB4 : Hid (Below w.heap.size w w4) := by
    have h1 : Below w.heap.size w w3 := by rw [hw3]; exact (((Below.refl _ w).alloc (by simp) _).alloc (by simp) _).alloc (by simp <;> omega) _
    show Below _ _ _
    rw [hw4]
    exact h1.alloc h1.size _
  have HC : Hid (∀ W, Below w4.heap.size w4 W → W.cell? ⟨b3, 0, none⟩ = some (.int .i64 4) ∧ W.cell? ⟨b8, 0, none⟩ = some (stF b4 b5)) := fun W hW => ⟨by simpa using cells_at (rdO_keep q3 hW) 0, by simpa using cells_at (rdO_keep q8 hW) 0⟩
  have HBi : Hid (∀ (i : Nat), i ≤ 8 → ∀ W, Below w4.heap.size w4 W → Calls Try.prog 36 #[.int .i64 i, .pointer (some ⟨b5, 0, none⟩), .pointer (some ⟨b4, 0, none⟩)] W fun e w' => e = .returned (.int .i64 (bN s i)) ∧ w' = W) := fun i hi W hW => stB_any s hs i hi b4 b5 W (by simpa using cells_at (rdO_keep q4 hW) 0) (by simpa using cells_at (rdO_keep q5 hW) 0)
  have HD : Hid (∀ q, Below w4.heap.size w4 (w4.drewN q)) := fun q => below_drewN (Below.refl _ _) q
  obtain ⟨f3, f8⟩ := HC.out w4 (Below.refl _ _)
  have y0r := bN_rng s 0
  have y1r := bN_rng s 1
  have y2r := bN_rng s 2
  have y3r := bN_rng s 3
  obtain ⟨y0, hy0⟩ : ∃ y0, y0 = bN s 0 := ⟨_, rfl⟩
  obtain ⟨y1, hy1⟩ : ∃ y1, y1 = bN s 1 := ⟨_, rfl⟩
  obtain ⟨y2, hy2⟩ : ∃ y2, y2 = bN s 2 := ⟨_, rfl⟩
  obtain ⟨y3, hy3⟩ : ∃ y3, y3 = bN s 3 := ⟨_, rfl⟩
  have H0 : Hid (∀ W, Below w4.heap.size w4 W → Calls Try.prog 36 #[.int .i64 0, .pointer (some ⟨b5, 0, none⟩), .pointer (some ⟨b4, 0, none⟩)] W fun e w' => e = .returned (.int .i64 y0) ∧ w' = W) := by rw [hy0]; exact HBi.out 0 (by decide)
  have H1 : Hid (∀ W, Below w4.heap.size w4 W → Calls Try.prog 36 #[.int .i64 1, .pointer (some ⟨b5, 0, none⟩), .pointer (some ⟨b4, 0, none⟩)] W fun e w' => e = .returned (.int .i64 y1) ∧ w' = W) := by rw [hy1]; exact HBi.out 1 (by decide)
  have H2 : Hid (∀ W, Below w4.heap.size w4 W → Calls Try.prog 36 #[.int .i64 2, .pointer (some ⟨b5, 0, none⟩), .pointer (some ⟨b4, 0, none⟩)] W fun e w' => e = .returned (.int .i64 y2) ∧ w' = W) := by rw [hy2]; exact HBi.out 2 (by decide)
  have H3 : Hid (∀ W, Below w4.heap.size w4 W → Calls Try.prog 36 #[.int .i64 3, .pointer (some ⟨b5, 0, none⟩), .pointer (some ⟨b4, 0, none⟩)] W fun e w' => e = .returned (.int .i64 y3) ∧ w' = W) := by rw [hy3]; exact HBi.out 3 (by decide)
  rw [← hy0] at y0r
  rw [← hy1] at y1r
  rw [← hy2] at y2r
  rw [← hy3] at y3r
  have HY : Hid (∀ p, tl s = bytesR 4 p → y0 = (bytesR 4 p).getD 0 (-1) ∧ y1 = (bytesR 4 p).getD 1 (-1) ∧ y2 = (bytesR 4 p).getD 2 (-1) ∧ y3 = (bytesR 4 p).getD 3 (-1)) := fun p h => ⟨by rw [hy0]; exact bN_tl h 0, by rw [hy1]; exact bN_tl h 1, by rw [hy2]; exact bN_tl h 2, by rw [hy3]; exact bN_tl h 3⟩
  rw [← hy0] at h0
  have HF : Hid (StE 4 s (.returned (.tuple #[.int .i64 (-1), .int .i64 0]))) := stE_no fun p hp ht => by
    have := (HY.out p ht).1
    have hb := bytesR_byte (by unfold isEnc; omega) hp
    cases hl : bytesR 4 p with
    | nil => exact bytesR_ne (by unfold isEnc; omega) hl
    | cons x l =>
      rw [hl] at this hb
      have := hb x (by simp)
      simp at *
      omega
  simp only [stF] at hw4 f8 HC
  clear k3 k4 k5 q3 q4 q5 q8 hy0 hy1 hy2 hy3
  go_enter Try.func16, Try.ntmps16
  go_upto_region 1 with fail
  rw [← hw3, ← hb5, ← hb4, ← hb3]
  clear hw3 hb5 hb4 hb3
  go_upto_region 2 with fail
  rw [← hw4, ← hb8]
  clear hw4 hb8
  have HBc : Hid (Below w4.heap.size w4 w4) := Below.refl _ _
  have HBw : Hid (∀ W, Below w4.heap.size w4 W → Below w.heap.size w W) := fun W hW => below_tr HB4.out hW
  go_wp2_with (go_at_call_of 36 (Value.int .i64 0); refine (H0.out _ HBc.out).mono ?_; rintro e w5 ⟨rfl, hw5⟩; have hw6 := hw5.symm; subst hw6; clear hw5)
  go_ret2
  exact ⟨HF.out, HBw.out _ HBc.out⟩
set_option maxRecDepth 100000 in
set_option maxHeartbeats 8000000 in
theorem stand_4_1 (s : ByteArray) (hs : s.size ≤ 4) (h0 : ¬ bN s 0 < 0) (w : World) : Calls Try.prog 16 #[.int .i64 4, .string s, .int .i64 0] w fun e w' => StE 4 s e ∧ Below w.heap.size w w' := by
  have hmf : ∀ (fn : Fn) (first cap : Array Value) (w : World), (Instr.makeFunc fn first cap).run Try.prog w = .ok (.func fn first cap) w := fun _ _ _ _ => rfl
  have eg := enters_of (P := Try.prog) Try.func36 (by kernel_rfl) rfl
  have eg2 := enters_of (P := Try.prog) Try.func37 (by kernel_rfl) rfl
  obtain ⟨b3, hb3⟩ : ∃ b3, b3 = w.heap.size := ⟨_, rfl⟩
  obtain ⟨b4, hb4⟩ : ∃ b4, b4 = w.heap.size + 1 := ⟨_, rfl⟩
  obtain ⟨b5, hb5⟩ : ∃ b5, b5 = w.heap.size + 1 + 1 := ⟨_, rfl⟩
  obtain ⟨w3, hw3⟩ : ∃ w3, w3 = ((w.alloc (.cells #[.int .i64 4] 3)).alloc (.cells #[.string s] 9)).alloc (.cells #[.int .i64 0] 3) := ⟨_, rfl⟩
  obtain ⟨b8, hb8⟩ : ∃ b8, b8 = w3.heap.size := ⟨_, rfl⟩
  obtain ⟨w4, hw4⟩ : ∃ w4, w4 = w3.alloc (.cells #[stF b4 b5] 68) := ⟨_, rfl⟩
  have k3 : w3.heap[b3]? = some (.cells #[.int .i64 4] 3) := by rw [hw3, hb3]; exact keepA (keepA (at_k rfl))
  have k4 : w3.heap[b4]? = some (.cells #[.string s] 9) := by rw [hw3, hb4]; exact keepA (at_k (by simp))
  have k5 : w3.heap[b5]? = some (.cells #[.int .i64 0] 3) := by rw [hw3, hb5]; exact at_k (by simp)
  have q3 : w4.heap[b3]? = some (.cells #[.int .i64 4] 3) := by rw [hw4]; exact keepA k3
  have q4 : w4.heap[b4]? = some (.cells #[.string s] 9) := by rw [hw4]; exact keepA k4
  have q5 : w4.heap[b5]? = some (.cells #[.int .i64 0] 3) := by rw [hw4]; exact keepA k5
  have q8 : w4.heap[b8]? = some (.cells #[stF b4 b5] 68) := by rw [hw4, hb8]; exact at_newS _ _
  have HB4 : Hid (Below w.heap.size w w4) := by
    have h1 : Below w.heap.size w w3 := by rw [hw3]; exact (((Below.refl _ w).alloc (by simp) _).alloc (by simp) _).alloc (by simp <;> omega) _
    show Below _ _ _
    rw [hw4]
    exact h1.alloc h1.size _
  have HC : Hid (∀ W, Below w4.heap.size w4 W → W.cell? ⟨b3, 0, none⟩ = some (.int .i64 4) ∧ W.cell? ⟨b8, 0, none⟩ = some (stF b4 b5)) := fun W hW => ⟨by simpa using cells_at (rdO_keep q3 hW) 0, by simpa using cells_at (rdO_keep q8 hW) 0⟩
  have HBi : Hid (∀ (i : Nat), i ≤ 8 → ∀ W, Below w4.heap.size w4 W → Calls Try.prog 36 #[.int .i64 i, .pointer (some ⟨b5, 0, none⟩), .pointer (some ⟨b4, 0, none⟩)] W fun e w' => e = .returned (.int .i64 (bN s i)) ∧ w' = W) := fun i hi W hW => stB_any s hs i hi b4 b5 W (by simpa using cells_at (rdO_keep q4 hW) 0) (by simpa using cells_at (rdO_keep q5 hW) 0)
  have HD : Hid (∀ q, Below w4.heap.size w4 (w4.drewN q)) := fun q => below_drewN (Below.refl _ _) q
  obtain ⟨f3, f8⟩ := HC.out w4 (Below.refl _ _)
  have y0r := bN_rng s 0
  have y1r := bN_rng s 1
  have y2r := bN_rng s 2
  have y3r := bN_rng s 3
  obtain ⟨y0, hy0⟩ : ∃ y0, y0 = bN s 0 := ⟨_, rfl⟩
  obtain ⟨y1, hy1⟩ : ∃ y1, y1 = bN s 1 := ⟨_, rfl⟩
  obtain ⟨y2, hy2⟩ : ∃ y2, y2 = bN s 2 := ⟨_, rfl⟩
  obtain ⟨y3, hy3⟩ : ∃ y3, y3 = bN s 3 := ⟨_, rfl⟩
  have H0 : Hid (∀ W, Below w4.heap.size w4 W → Calls Try.prog 36 #[.int .i64 0, .pointer (some ⟨b5, 0, none⟩), .pointer (some ⟨b4, 0, none⟩)] W fun e w' => e = .returned (.int .i64 y0) ∧ w' = W) := by rw [hy0]; exact HBi.out 0 (by decide)
  have H1 : Hid (∀ W, Below w4.heap.size w4 W → Calls Try.prog 36 #[.int .i64 1, .pointer (some ⟨b5, 0, none⟩), .pointer (some ⟨b4, 0, none⟩)] W fun e w' => e = .returned (.int .i64 y1) ∧ w' = W) := by rw [hy1]; exact HBi.out 1 (by decide)
  have H2 : Hid (∀ W, Below w4.heap.size w4 W → Calls Try.prog 36 #[.int .i64 2, .pointer (some ⟨b5, 0, none⟩), .pointer (some ⟨b4, 0, none⟩)] W fun e w' => e = .returned (.int .i64 y2) ∧ w' = W) := by rw [hy2]; exact HBi.out 2 (by decide)
  have H3 : Hid (∀ W, Below w4.heap.size w4 W → Calls Try.prog 36 #[.int .i64 3, .pointer (some ⟨b5, 0, none⟩), .pointer (some ⟨b4, 0, none⟩)] W fun e w' => e = .returned (.int .i64 y3) ∧ w' = W) := by rw [hy3]; exact HBi.out 3 (by decide)
  rw [← hy0] at y0r
  rw [← hy1] at y1r
  rw [← hy2] at y2r
  rw [← hy3] at y3r
  have HY : Hid (∀ p, tl s = bytesR 4 p → y0 = (bytesR 4 p).getD 0 (-1) ∧ y1 = (bytesR 4 p).getD 1 (-1) ∧ y2 = (bytesR 4 p).getD 2 (-1) ∧ y3 = (bytesR 4 p).getD 3 (-1)) := fun p h => ⟨by rw [hy0]; exact bN_tl h 0, by rw [hy1]; exact bN_tl h 1, by rw [hy2]; exact bN_tl h 2, by rw [hy3]; exact bN_tl h 3⟩
  rw [← hy0] at h0
  have HF : Hid (StE 4 s (.returned (.tuple #[.int .i64 y0, .int .i64 1]))) := ⟨y0, 1, rfl, fun p hp ht => by
    have h1 := (HY.out p ht).1
    have h2 : bytesR 4 p = [p] := by simp [bytesR]
    rw [h2] at h1 ht
    have h3 := congrArg List.length ht
    rw [tl_len] at h3
    simp at h1 h3
    exact ⟨h1, by omega⟩⟩
  simp only [stF] at hw4 f8 HC
  clear k3 k4 k5 q3 q4 q5 q8 hy0 hy1 hy2 hy3
  go_enter Try.func16, Try.ntmps16
  go_upto_region 1 with fail
  rw [← hw3, ← hb5, ← hb4, ← hb3]
  clear hw3 hb5 hb4 hb3
  go_upto_region 2 with fail
  rw [← hw4, ← hb8]
  clear hw4 hb8
  have HBc : Hid (Below w4.heap.size w4 w4) := Below.refl _ _
  have HBw : Hid (∀ W, Below w4.heap.size w4 W → Below w.heap.size w W) := fun W hW => below_tr HB4.out hW
  go_wp2_with (go_at_call_of 36 (Value.int .i64 0); refine (H0.out _ HBc.out).mono ?_; rintro e w5 ⟨rfl, hw5⟩; have hw6 := hw5.symm; subst hw6; clear hw5)
  go_ret2
  exact ⟨HF.out, HBw.out _ HBc.out⟩

end Go.Proofs.Ythigleohjagfiaa
