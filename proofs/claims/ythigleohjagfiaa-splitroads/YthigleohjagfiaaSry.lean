/- What Standing answers: EncUTF8. -/
import Derived.Test.YthigleohjagfiaaSrx
namespace Go.Proofs.Ythigleohjagfiaa
open Go.RowKit Go.PlainAid
set_option linter.unusedVariables false

set_option maxRecDepth 100000 in
set_option maxHeartbeats 8000000 in
theorem stand_1_a (s : ByteArray) (hs : s.size ≤ 4) (h0 : ¬ bN s 0 < 0) (h1 : bN s 0 < 128) (w : World) : Calls Try.prog 16 #[.int .i64 1, .string s, .int .i64 0] w fun e w' => StE 1 s e ∧ Below w.heap.size w w' := by
  have hmf : ∀ (fn : Fn) (first cap : Array Value) (w : World), (Instr.makeFunc fn first cap).run Try.prog w = .ok (.func fn first cap) w := fun _ _ _ _ => rfl
  have eg := enters_of (P := Try.prog) Try.func36 (by kernel_rfl) rfl
  have eg2 := enters_of (P := Try.prog) Try.func37 (by kernel_rfl) rfl
  obtain ⟨b3, hb3⟩ : ∃ b3, b3 = w.heap.size := ⟨_, rfl⟩
  obtain ⟨b4, hb4⟩ : ∃ b4, b4 = w.heap.size + 1 := ⟨_, rfl⟩
  obtain ⟨b5, hb5⟩ : ∃ b5, b5 = w.heap.size + 1 + 1 := ⟨_, rfl⟩
  obtain ⟨w3, hw3⟩ : ∃ w3, w3 = ((w.alloc (.cells #[.int .i64 1] 3)).alloc (.cells #[.string s] 9)).alloc (.cells #[.int .i64 0] 3) := ⟨_, rfl⟩
  obtain ⟨b8, hb8⟩ : ∃ b8, b8 = w3.heap.size := ⟨_, rfl⟩
  obtain ⟨w4, hw4⟩ : ∃ w4, w4 = w3.alloc (.cells #[stF b4 b5] 68) := ⟨_, rfl⟩
  have k3 : w3.heap[b3]? = some (.cells #[.int .i64 1] 3) := by rw [hw3, hb3]; exact keepA (keepA (at_k rfl))
  have k4 : w3.heap[b4]? = some (.cells #[.string s] 9) := by rw [hw3, hb4]; exact keepA (at_k (by simp))
  have k5 : w3.heap[b5]? = some (.cells #[.int .i64 0] 3) := by rw [hw3, hb5]; exact at_k (by simp)
  have q3 : w4.heap[b3]? = some (.cells #[.int .i64 1] 3) := by rw [hw4]; exact keepA k3
  have q4 : w4.heap[b4]? = some (.cells #[.string s] 9) := by rw [hw4]; exact keepA k4
  have q5 : w4.heap[b5]? = some (.cells #[.int .i64 0] 3) := by rw [hw4]; exact keepA k5
  have q8 : w4.heap[b8]? = some (.cells #[stF b4 b5] 68) := by rw [hw4, hb8]; exact at_newS _ _
  have HB4 : Hid (Below w.heap.size w w4) := by
    have h1 : Below w.heap.size w w3 := by rw [hw3]; exact (((Below.refl _ w).alloc (by simp) _).alloc (by simp) _).alloc (by simp <;> omega) _
    show Below _ _ _
    rw [hw4]
    exact h1.alloc h1.size _
  have HC : Hid (∀ W, Below w4.heap.size w4 W → W.cell? ⟨b3, 0, none⟩ = some (.int .i64 1) ∧ W.cell? ⟨b8, 0, none⟩ = some (stF b4 b5)) := fun W hW => ⟨by simpa using cells_at (rdO_keep q3 hW) 0, by simpa using cells_at (rdO_keep q8 hW) 0⟩
  have HBi : Hid (∀ (i : Nat), i ≤ 8 → ∀ W, Below w4.heap.size w4 W → Calls Try.prog 36 #[.int .i64 i, .pointer (some ⟨b5, 0, none⟩), .pointer (some ⟨b4, 0, none⟩)] W fun e w' => e = .returned (.int .i64 (bN s i)) ∧ w' = W) := fun i hi W hW => stB_any s hs i hi b4 b5 W (by simpa using cells_at (rdO_keep q4 hW) 0) (by simpa using cells_at (rdO_keep q5 hW) 0)
  have HD : Hid (∀ q, Below w4.heap.size w4 (w4.drewN q)) := fun q => below_drewN (Below.refl _ _) q
  obtain ⟨f3, f8⟩ := HC.out w4 (Below.refl _ _)
  have y0r := bN_rng s 0
  have y1r := bN_rng s 1
  have y2r := bN_rng s 2
  have y3r := bN_rng s 3
  obtain ⟨y0, hy0⟩ : ∃ y0, y0 = bN s 0 := ⟨_, rfl⟩
  obtain ⟨y1, hy1⟩ : ∃ y1, y1 = bN s 1 := ⟨_, rfl⟩
  obtain ⟨y2, hy2⟩ : ∃ y2, y2 = bN s 2 := ⟨_, rfl⟩
  obtain ⟨y3, hy3⟩ : ∃ y3, y3 = bN s 3 := ⟨_, rfl⟩
  have H0 : Hid (∀ W, Below w4.heap.size w4 W → Calls Try.prog 36 #[.int .i64 0, .pointer (some ⟨b5, 0, none⟩), .pointer (some ⟨b4, 0, none⟩)] W fun e w' => e = .returned (.int .i64 y0) ∧ w' = W) := by rw [hy0]; exact HBi.out 0 (by decide)
  have H1 : Hid (∀ W, Below w4.heap.size w4 W → Calls Try.prog 36 #[.int .i64 1, .pointer (some ⟨b5, 0, none⟩), .pointer (some ⟨b4, 0, none⟩)] W fun e w' => e = .returned (.int .i64 y1) ∧ w' = W) := by rw [hy1]; exact HBi.out 1 (by decide)
  have H2 : Hid (∀ W, Below w4.heap.size w4 W → Calls Try.prog 36 #[.int .i64 2, .pointer (some ⟨b5, 0, none⟩), .pointer (some ⟨b4, 0, none⟩)] W fun e w' => e = .returned (.int .i64 y2) ∧ w' = W) := by rw [hy2]; exact HBi.out 2 (by decide)
  have H3 : Hid (∀ W, Below w4.heap.size w4 W → Calls Try.prog 36 #[.int .i64 3, .pointer (some ⟨b5, 0, none⟩), .pointer (some ⟨b4, 0, none⟩)] W fun e w' => e = .returned (.int .i64 y3) ∧ w' = W) := by rw [hy3]; exact HBi.out 3 (by decide)
  rw [← hy0] at y0r
  rw [← hy1] at y1r
  rw [← hy2] at y2r
  rw [← hy3] at y3r
  have HY : Hid (∀ p, tl s = bytesR 1 p → y0 = (bytesR 1 p).getD 0 (-1) ∧ y1 = (bytesR 1 p).getD 1 (-1) ∧ y2 = (bytesR 1 p).getD 2 (-1) ∧ y3 = (bytesR 1 p).getD 3 (-1)) := fun p h => ⟨by rw [hy0]; exact bN_tl h 0, by rw [hy1]; exact bN_tl h 1, by rw [hy2]; exact bN_tl h 2, by rw [hy3]; exact bN_tl h 3⟩
  rw [← hy0] at h0 h1
  have HP : Hid (∀ p, Scal 1 p → tl s = bytesR 1 p → y0 = p) := fun p hp ht => by
    obtain ⟨v0, v1, v2, v3⟩ := HY.out p ht
    have hp' : 0 ≤ p ∧ p ≤ 1114111 := by unfold Scal at hp; omega
    by_cases g1 : p < 128
    · have e : bytesR 1 p = [p] := by simp [bytesR, g1]
      rw [e] at v0 v1 v2 v3
      simp at v0 v1 v2 v3
      omega
    by_cases g2 : p < 2048
    · have e : bytesR 1 p = [192 + p / 64, 128 + p % 64] := by simp [bytesR, g1, g2]
      rw [e] at v0 v1 v2 v3
      simp at v0 v1 v2 v3
      omega
    by_cases g3 : p < 65536
    · have e : bytesR 1 p = [224 + p / 4096, 128 + p / 64 % 64, 128 + p % 64] := by simp [bytesR, g1, g2, g3]
      rw [e] at v0 v1 v2 v3
      simp at v0 v1 v2 v3
      omega
    · have e : bytesR 1 p = [240 + p / 262144, 128 + p / 4096 % 64, 128 + p / 64 % 64, 128 + p % 64] := by simp [bytesR, g1, g2, g3]
      rw [e] at v0 v1 v2 v3
      simp at v0 v1 v2 v3
      omega
  simp only [stF] at hw4 f8 HC
  clear k3 k4 k5 q3 q4 q5 q8 hy0 hy1 hy2 hy3
  go_enter Try.func16, Try.ntmps16
  go_upto_region 1 with fail
  rw [← hw3, ← hb5, ← hb4, ← hb3]
  clear hw3 hb5 hb4 hb3
  go_upto_region 2 with fail
  rw [← hw4, ← hb8]
  clear hw4 hb8
  have HBc : Hid (Below w4.heap.size w4 w4) := Below.refl _ _
  have HBw : Hid (∀ W, Below w4.heap.size w4 W → Below w.heap.size w W) := fun W hW => below_tr HB4.out hW
  obtain ⟨P, hP⟩ : ∃ P, P = y0 := ⟨_, rfl⟩
  rw [← hP] at HP
  go_upto_region 19 with (go_at_call_of 36 (Value.int .i64 0); refine (H0.out _ HBc.out).mono ?_; rintro e w5 ⟨rfl, hw5⟩; have hw6 := hw5.symm; subst hw6; clear hw5)
  rw [← hP]
  clear hP
  have HSc := hide (EE.isScalarR_any 1 P)
  cases hh : EE.holdB 1 P with
  | false =>
    rw [hh] at HSc
    have HF : Hid (StE 1 s (.returned (.tuple #[.int .i64 (-1), .int .i64 0]))) := stE_no fun p hp ht => by
      have := HP.out p hp ht
      rw [this, EE.holdB_iff.2 hp] at hh
      exact absurd hh (by decide)
    clear hh
    go_wp2_with (go_at_call 13; refine (HSc.out _).mono ?_; rintro e w7 ⟨rfl, hw7⟩; have hw8 := hw7.symm; subst hw8; clear hw7)
    go_ret2
    exact ⟨HF.out, HBw.out _ HBc.out⟩
  | true =>
    have hsc := EE.holdB_iff.1 hh
    have HB := hide (EE.bytesOf_shape 1 P w4 (EE.encB_iff.2 (by unfold isEnc; omega)) hh)
    have hbl := EE.bytesOf_len 1 P
    obtain ⟨bs, hbs⟩ : ∃ bs, bs = EE.bytesOf 1 P := ⟨_, rfl⟩
    have hbsR : bs = bytesR 1 P := by rw [hbs]; exact EE.bytesOf_R (by unfold isEnc; omega)
    rw [← hbs] at HB hbl
    rw [hh] at HSc
    obtain ⟨bl, hbl2⟩ : ∃ bl, bl = bs.length := ⟨_, rfl⟩
    have HBl := hide hbl2
    rw [← hbl2] at HB hbl
    have HFn : Hid (∀ i (h : i < bs.length), ¬ bN s i = bs[i] → StE 1 s (.returned (.tuple #[.int .i64 (-1), .int .i64 0]))) := fun i h hne => stE_no fun p hp ht => by
      have h1 := HP.out p hp ht
      have h2 := bN_tl ht i
      rw [← h1, ← hbsR, List.getD, List.getElem?_eq_getElem h] at h2
      exact hne h2
    have HFy : Hid (StE 1 s (.returned (.tuple #[.int .i64 P, .int .i64 bl]))) := ⟨P, bl, rfl, fun p hp ht => by
      have h1 := HP.out p hp ht
      refine ⟨h1, ?_⟩
      rw [hbl2, hbsR, h1, ← ht, tl_len]⟩
    clear hh hbs hbsR hbl2 hsc HP
    go_wp2_with (first | (go_at_call 13; refine (HSc.out _).mono ?_; rintro e w7 ⟨rfl, hw7⟩; have hw8 := hw7.symm; subst hw8; clear hw7) | (go_at_call 34; refine HB.out.mono ?_; rintro e w1 ⟨g, cp, rfl, ho9, hb9⟩; have HO := hide ho9; replace HBc := hide (below_tr HBc.out hb9); clear ho9 hb9))
    have HCs : Hid (∀ W, Below w1.heap.size w1 W → ∀ i (h : i < bs.length), W.cell? ⟨g, i, none⟩ = some (.int .i64 bs[i])) := fun W hW i h => by
      have h1 := HO.out.cellAt i (by have := HBl.out; omega)
      have h2 : w1.cell? ⟨g, i, none⟩ = some (.int .i64 bs[i]) := by rw [h1]; simp [i64s, h]
      exact below_cell hW (lt_of_cell h2) h2
    clear HO HB
    go_loopw [12] (fun q wr => ∃ i : Nat, i ≤ bl ∧ q = .int .i64 i ∧ Below w1.heap.size w1 wr) (fun q _ => bl - (intOf q).toNat)
    case atStart => exact ⟨0, Nat.zero_le _, rfl, Below.refl _ _⟩
    case round =>
      obtain ⟨i, hi, rfl, hbi⟩ := hrel
      obtain ⟨w9, hw9⟩ : ∃ w9, w9 = wr := ⟨_, rfl⟩
      subst hw9
      have HBi9 := hide hbi
      clear hbi
      by_cases hlt : i < bl
      · have hib : i < bs.length := by have := HBl.out; omega
        have e5 : (i : Int) < (bl : Int) := by omega
        have e6 : (0 : Int) ≤ (i : Int) := by omega
        have hkw : IntKind.i64.wrap ((i : Int) + 1) = (i : Int) + 1 := by rw [IntKind.wrap_i64]; omega
        have c9 := HCs.out w9 HBi9.out i hib
        have HBq : Hid (∀ q, Calls Try.prog 36 #[.int .i64 i, .pointer (some ⟨b5, 0, none⟩), .pointer (some ⟨b4, 0, none⟩)] (w9.drewN q) fun e w' => e = .returned (.int .i64 (bN s i)) ∧ w' = w9.drewN q) := fun q => HBi.out i (by omega) _ (below_drewN (below_tr HBc.out HBi9.out) q)
        obtain ⟨_, g8⟩ := HC.out w9 (below_tr HBc.out HBi9.out)
        have HFi := hide (HFn.out i hib)
        have HBe := hide (HBw.out _ (below_tr HBc.out HBi9.out))
        obtain ⟨yi, hyi⟩ : ∃ yi, yi = bN s i := ⟨_, rfl⟩
        obtain ⟨li, hli⟩ : ∃ li, li = bs[i] := ⟨_, rfl⟩
        rw [← hyi] at HBq HFi
        rw [← hli] at c9 HFi
        clear hyi hli hib f3 f8
        by_cases hne : yi = li
        · have bne : (yi != li) = false := by simpa using hne
          clear HFi hne
          go_upto_region 25 with fail
          go_quiet (first | (go_at_call 36; refine Calls.quiet_of_same (HBq.out _)))
          go_wp2
          go_roundw
          case rel => exact ⟨i + 1, by omega, by go_num, below_drewN HBi9.out _⟩
          case measure => simp [intOf]; omega
        · have bne : (yi != li) = true := by simpa using hne
          have HF := hide (HFi.out hne)
          clear HFi hne
          go_upto_region 25 with fail
          go_quiet (first | (go_at_call 36; refine Calls.quiet_of_same (HBq.out _)))
          go_wp2
          go_ret2
          exact ⟨HF.out, below_drewN HBe.out _⟩
      · have e5 : ¬ (i : Int) < (bl : Int) := by omega
        clear f3 f8
        go_wp2
        go_ret2
        exact ⟨HFy.out, HBw.out _ (below_tr HBc.out HBi9.out)⟩
set_option maxRecDepth 100000 in
set_option maxHeartbeats 8000000 in
theorem stand_1_b (s : ByteArray) (hs : s.size ≤ 4) (h0 : ¬ bN s 0 < 128) (h1 : bN s 0 < 224) (w : World) : Calls Try.prog 16 #[.int .i64 1, .string s, .int .i64 0] w fun e w' => StE 1 s e ∧ Below w.heap.size w w' := by
  have hmf : ∀ (fn : Fn) (first cap : Array Value) (w : World), (Instr.makeFunc fn first cap).run Try.prog w = .ok (.func fn first cap) w := fun _ _ _ _ => rfl
  have eg := enters_of (P := Try.prog) Try.func36 (by kernel_rfl) rfl
  have eg2 := enters_of (P := Try.prog) Try.func37 (by kernel_rfl) rfl
  obtain ⟨b3, hb3⟩ : ∃ b3, b3 = w.heap.size := ⟨_, rfl⟩
  obtain ⟨b4, hb4⟩ : ∃ b4, b4 = w.heap.size + 1 := ⟨_, rfl⟩
  obtain ⟨b5, hb5⟩ : ∃ b5, b5 = w.heap.size + 1 + 1 := ⟨_, rfl⟩
  obtain ⟨w3, hw3⟩ : ∃ w3, w3 = ((w.alloc (.cells #[.int .i64 1] 3)).alloc (.cells #[.string s] 9)).alloc (.cells #[.int .i64 0] 3) := ⟨_, rfl⟩
  obtain ⟨b8, hb8⟩ : ∃ b8, b8 = w3.heap.size := ⟨_, rfl⟩
  obtain ⟨w4, hw4⟩ : ∃ w4, w4 = w3.alloc (.cells #[stF b4 b5] 68) := ⟨_, rfl⟩
  have k3 : w3.heap[b3]? = some (.cells #[.int .i64 1] 3) := by rw [hw3, hb3]; exact keepA (keepA (at_k rfl))
  have k4 : w3.heap[b4]? = some (.cells #[.string s] 9) := by rw [hw3, hb4]; exact keepA (at_k (by simp))
  have k5 : w3.heap[b5]? = some (.cells #[.int .i64 0] 3) := by rw [hw3, hb5]; exact at_k (by simp)
  have q3 : w4.heap[b3]? = some (.cells #[.int .i64 1] 3) := by rw [hw4]; exact keepA k3
  have q4 : w4.heap[b4]? = some (.cells #[.string s] 9) := by rw [hw4]; exact keepA k4
  have q5 : w4.heap[b5]? = some (.cells #[.int .i64 0] 3) := by rw [hw4]; exact keepA k5
  have q8 : w4.heap[b8]? = some (.cells #[stF b4 b5] 68) := by rw [hw4, hb8]; exact at_newS _ _
  have HB4 : Hid (Below w.heap.size w w4) := by
    have h1 : Below w.heap.size w w3 := by rw [hw3]; exact (((Below.refl _ w).alloc (by simp) _).alloc (by simp) _).alloc (by simp <;> omega) _
    show Below _ _ _
    rw [hw4]
    exact h1.alloc h1.size _
  have HC : Hid (∀ W, Below w4.heap.size w4 W → W.cell? ⟨b3, 0, none⟩ = some (.int .i64 1) ∧ W.cell? ⟨b8, 0, none⟩ = some (stF b4 b5)) := fun W hW => ⟨by simpa using cells_at (rdO_keep q3 hW) 0, by simpa using cells_at (rdO_keep q8 hW) 0⟩
  have HBi : Hid (∀ (i : Nat), i ≤ 8 → ∀ W, Below w4.heap.size w4 W → Calls Try.prog 36 #[.int .i64 i, .pointer (some ⟨b5, 0, none⟩), .pointer (some ⟨b4, 0, none⟩)] W fun e w' => e = .returned (.int .i64 (bN s i)) ∧ w' = W) := fun i hi W hW => stB_any s hs i hi b4 b5 W (by simpa using cells_at (rdO_keep q4 hW) 0) (by simpa using cells_at (rdO_keep q5 hW) 0)
  have HD : Hid (∀ q, Below w4.heap.size w4 (w4.drewN q)) := fun q => below_drewN (Below.refl _ _) q
  obtain ⟨f3, f8⟩ := HC.out w4 (Below.refl _ _)
  have y0r := bN_rng s 0
  have y1r := bN_rng s 1
  have y2r := bN_rng s 2
  have y3r := bN_rng s 3
  obtain ⟨y0, hy0⟩ : ∃ y0, y0 = bN s 0 := ⟨_, rfl⟩
  obtain ⟨y1, hy1⟩ : ∃ y1, y1 = bN s 1 := ⟨_, rfl⟩
  obtain ⟨y2, hy2⟩ : ∃ y2, y2 = bN s 2 := ⟨_, rfl⟩
  obtain ⟨y3, hy3⟩ : ∃ y3, y3 = bN s 3 := ⟨_, rfl⟩
  have H0 : Hid (∀ W, Below w4.heap.size w4 W → Calls Try.prog 36 #[.int .i64 0, .pointer (some ⟨b5, 0, none⟩), .pointer (some ⟨b4, 0, none⟩)] W fun e w' => e = .returned (.int .i64 y0) ∧ w' = W) := by rw [hy0]; exact HBi.out 0 (by decide)
  have H1 : Hid (∀ W, Below w4.heap.size w4 W → Calls Try.prog 36 #[.int .i64 1, .pointer (some ⟨b5, 0, none⟩), .pointer (some ⟨b4, 0, none⟩)] W fun e w' => e = .returned (.int .i64 y1) ∧ w' = W) := by rw [hy1]; exact HBi.out 1 (by decide)
  have H2 : Hid (∀ W, Below w4.heap.size w4 W → Calls Try.prog 36 #[.int .i64 2, .pointer (some ⟨b5, 0, none⟩), .pointer (some ⟨b4, 0, none⟩)] W fun e w' => e = .returned (.int .i64 y2) ∧ w' = W) := by rw [hy2]; exact HBi.out 2 (by decide)
  have H3 : Hid (∀ W, Below w4.heap.size w4 W → Calls Try.prog 36 #[.int .i64 3, .pointer (some ⟨b5, 0, none⟩), .pointer (some ⟨b4, 0, none⟩)] W fun e w' => e = .returned (.int .i64 y3) ∧ w' = W) := by rw [hy3]; exact HBi.out 3 (by decide)
  rw [← hy0] at y0r
  rw [← hy1] at y1r
  rw [← hy2] at y2r
  rw [← hy3] at y3r
  have HY : Hid (∀ p, tl s = bytesR 1 p → y0 = (bytesR 1 p).getD 0 (-1) ∧ y1 = (bytesR 1 p).getD 1 (-1) ∧ y2 = (bytesR 1 p).getD 2 (-1) ∧ y3 = (bytesR 1 p).getD 3 (-1)) := fun p h => ⟨by rw [hy0]; exact bN_tl h 0, by rw [hy1]; exact bN_tl h 1, by rw [hy2]; exact bN_tl h 2, by rw [hy3]; exact bN_tl h 3⟩
  rw [← hy0] at h0 h1
  obtain ⟨r1, hr1⟩ : ∃ r1, r1 = y1.tmod 64 := ⟨_, rfl⟩
  have r1r := tmod_rng y1 64 y1r (by decide)
  rw [← hr1] at r1r
  have HP : Hid (∀ p, Scal 1 p → tl s = bytesR 1 p → y0 % 32 * 64 + r1 = p) := fun p hp ht => by
    obtain ⟨v0, v1, v2, v3⟩ := HY.out p ht
    have hp' : 0 ≤ p ∧ p ≤ 1114111 := by unfold Scal at hp; omega
    by_cases g1 : p < 128
    · have e : bytesR 1 p = [p] := by simp [bytesR, g1]
      rw [e] at v0 v1 v2 v3
      simp at v0 v1 v2 v3
      omega
    by_cases g2 : p < 2048
    · have e : bytesR 1 p = [192 + p / 64, 128 + p % 64] := by simp [bytesR, g1, g2]
      rw [e] at v0 v1 v2 v3
      simp at v0 v1 v2 v3
      omega
    by_cases g3 : p < 65536
    · have e : bytesR 1 p = [224 + p / 4096, 128 + p / 64 % 64, 128 + p % 64] := by simp [bytesR, g1, g2, g3]
      rw [e] at v0 v1 v2 v3
      simp at v0 v1 v2 v3
      omega
    · have e : bytesR 1 p = [240 + p / 262144, 128 + p / 4096 % 64, 128 + p / 64 % 64, 128 + p % 64] := by simp [bytesR, g1, g2, g3]
      rw [e] at v0 v1 v2 v3
      simp at v0 v1 v2 v3
      omega
  simp only [stF] at hw4 f8 HC
  clear k3 k4 k5 q3 q4 q5 q8 hy0 hy1 hy2 hy3
  go_enter Try.func16, Try.ntmps16
  go_upto_region 1 with fail
  rw [← hw3, ← hb5, ← hb4, ← hb3]
  clear hw3 hb5 hb4 hb3
  go_upto_region 2 with fail
  rw [← hw4, ← hb8]
  clear hw4 hb8
  have HBc : Hid (Below w4.heap.size w4 w4) := Below.refl _ _
  have HBw : Hid (∀ W, Below w4.heap.size w4 W → Below w.heap.size w W) := fun W hW => below_tr HB4.out hW
  have tr1 : y1.tmod 64 = r1 := hr1.symm
  have hwr : IntKind.i64.wrap (y0 % 32 * 64 + r1) = y0 % 32 * 64 + r1 := by rw [IntKind.wrap_i64]; omega
  clear hr1
  obtain ⟨P, hP⟩ : ∃ P, P = y0 % 32 * 64 + r1 := ⟨_, rfl⟩
  rw [← hP] at HP
  go_upto_region 16 with (go_at_call_of 36 (Value.int .i64 0); refine (H0.out _ HBc.out).mono ?_; rintro e w5 ⟨rfl, hw5⟩; have hw6 := hw5.symm; subst hw6; clear hw5)
  go_quiet (first | (go_at_call_of 36 (Value.int .i64 0); refine Calls.quiet_of_same (H0.out _ (HD.out _))) | (go_at_call_of 36 (Value.int .i64 1); refine Calls.quiet_of_same (H1.out _ (HD.out _))) | (go_at_call_of 36 (Value.int .i64 2); refine Calls.quiet_of_same (H2.out _ (HD.out _))) | (go_at_call_of 36 (Value.int .i64 3); refine Calls.quiet_of_same (H3.out _ (HD.out _))))
  obtain ⟨w5, hw5⟩ : ∃ w5, w5 = w4.drewN nq := ⟨_, rfl⟩
  replace HBc : Hid (Below w4.heap.size w4 w5) := by rw [hw5]; exact HD.out nq
  rw [← hw5]
  clear hw5 f3 f8
  obtain ⟨f3, f8⟩ := HC.out w5 HBc.out
  go_upto_region 19 with fail
  rw [← hP]
  clear hP
  have HSc := hide (EE.isScalarR_any 1 P)
  cases hh : EE.holdB 1 P with
  | false =>
    rw [hh] at HSc
    have HF : Hid (StE 1 s (.returned (.tuple #[.int .i64 (-1), .int .i64 0]))) := stE_no fun p hp ht => by
      have := HP.out p hp ht
      rw [this, EE.holdB_iff.2 hp] at hh
      exact absurd hh (by decide)
    clear hh
    go_wp2_with (go_at_call 13; refine (HSc.out _).mono ?_; rintro e w7 ⟨rfl, hw7⟩; have hw8 := hw7.symm; subst hw8; clear hw7)
    go_ret2
    exact ⟨HF.out, HBw.out _ HBc.out⟩
  | true =>
    have hsc := EE.holdB_iff.1 hh
    have HB := hide (EE.bytesOf_shape 1 P w5 (EE.encB_iff.2 (by unfold isEnc; omega)) hh)
    have hbl := EE.bytesOf_len 1 P
    obtain ⟨bs, hbs⟩ : ∃ bs, bs = EE.bytesOf 1 P := ⟨_, rfl⟩
    have hbsR : bs = bytesR 1 P := by rw [hbs]; exact EE.bytesOf_R (by unfold isEnc; omega)
    rw [← hbs] at HB hbl
    rw [hh] at HSc
    obtain ⟨bl, hbl2⟩ : ∃ bl, bl = bs.length := ⟨_, rfl⟩
    have HBl := hide hbl2
    rw [← hbl2] at HB hbl
    have HFn : Hid (∀ i (h : i < bs.length), ¬ bN s i = bs[i] → StE 1 s (.returned (.tuple #[.int .i64 (-1), .int .i64 0]))) := fun i h hne => stE_no fun p hp ht => by
      have h1 := HP.out p hp ht
      have h2 := bN_tl ht i
      rw [← h1, ← hbsR, List.getD, List.getElem?_eq_getElem h] at h2
      exact hne h2
    have HFy : Hid (StE 1 s (.returned (.tuple #[.int .i64 P, .int .i64 bl]))) := ⟨P, bl, rfl, fun p hp ht => by
      have h1 := HP.out p hp ht
      refine ⟨h1, ?_⟩
      rw [hbl2, hbsR, h1, ← ht, tl_len]⟩
    clear hh hbs hbsR hbl2 hsc HP
    go_wp2_with (first | (go_at_call 13; refine (HSc.out _).mono ?_; rintro e w7 ⟨rfl, hw7⟩; have hw8 := hw7.symm; subst hw8; clear hw7) | (go_at_call 34; refine HB.out.mono ?_; rintro e w1 ⟨g, cp, rfl, ho9, hb9⟩; have HO := hide ho9; replace HBc := hide (below_tr HBc.out hb9); clear ho9 hb9))
    have HCs : Hid (∀ W, Below w1.heap.size w1 W → ∀ i (h : i < bs.length), W.cell? ⟨g, i, none⟩ = some (.int .i64 bs[i])) := fun W hW i h => by
      have h1 := HO.out.cellAt i (by have := HBl.out; omega)
      have h2 : w1.cell? ⟨g, i, none⟩ = some (.int .i64 bs[i]) := by rw [h1]; simp [i64s, h]
      exact below_cell hW (lt_of_cell h2) h2
    clear HO HB
    go_loopw [12] (fun q wr => ∃ i : Nat, i ≤ bl ∧ q = .int .i64 i ∧ Below w1.heap.size w1 wr) (fun q _ => bl - (intOf q).toNat)
    case atStart => exact ⟨0, Nat.zero_le _, rfl, Below.refl _ _⟩
    case round =>
      obtain ⟨i, hi, rfl, hbi⟩ := hrel
      obtain ⟨w9, hw9⟩ : ∃ w9, w9 = wr := ⟨_, rfl⟩
      subst hw9
      have HBi9 := hide hbi
      clear hbi
      by_cases hlt : i < bl
      · have hib : i < bs.length := by have := HBl.out; omega
        have e5 : (i : Int) < (bl : Int) := by omega
        have e6 : (0 : Int) ≤ (i : Int) := by omega
        have hkw : IntKind.i64.wrap ((i : Int) + 1) = (i : Int) + 1 := by rw [IntKind.wrap_i64]; omega
        have c9 := HCs.out w9 HBi9.out i hib
        have HBq : Hid (∀ q, Calls Try.prog 36 #[.int .i64 i, .pointer (some ⟨b5, 0, none⟩), .pointer (some ⟨b4, 0, none⟩)] (w9.drewN q) fun e w' => e = .returned (.int .i64 (bN s i)) ∧ w' = w9.drewN q) := fun q => HBi.out i (by omega) _ (below_drewN (below_tr HBc.out HBi9.out) q)
        obtain ⟨_, g8⟩ := HC.out w9 (below_tr HBc.out HBi9.out)
        have HFi := hide (HFn.out i hib)
        have HBe := hide (HBw.out _ (below_tr HBc.out HBi9.out))
        obtain ⟨yi, hyi⟩ : ∃ yi, yi = bN s i := ⟨_, rfl⟩
        obtain ⟨li, hli⟩ : ∃ li, li = bs[i] := ⟨_, rfl⟩
        rw [← hyi] at HBq HFi
        rw [← hli] at c9 HFi
        clear hyi hli hib f3 f8
        by_cases hne : yi = li
        · have bne : (yi != li) = false := by simpa using hne
          clear HFi hne
          go_upto_region 25 with fail
          go_quiet (first | (go_at_call 36; refine Calls.quiet_of_same (HBq.out _)))
          go_wp2
          go_roundw
          case rel => exact ⟨i + 1, by omega, by go_num, below_drewN HBi9.out _⟩
          case measure => simp [intOf]; omega
        · have bne : (yi != li) = true := by simpa using hne
          have HF := hide (HFi.out hne)
          clear HFi hne
          go_upto_region 25 with fail
          go_quiet (first | (go_at_call 36; refine Calls.quiet_of_same (HBq.out _)))
          go_wp2
          go_ret2
          exact ⟨HF.out, below_drewN HBe.out _⟩
      · have e5 : ¬ (i : Int) < (bl : Int) := by omega
        clear f3 f8
        go_wp2
        go_ret2
        exact ⟨HFy.out, HBw.out _ (below_tr HBc.out HBi9.out)⟩
set_option maxRecDepth 100000 in
set_option maxHeartbeats 8000000 in
theorem stand_1_c (s : ByteArray) (hs : s.size ≤ 4) (h0 : ¬ bN s 0 < 224) (h1 : bN s 0 < 240) (w : World) : Calls Try.prog 16 #[.int .i64 1, .string s, .int .i64 0] w fun e w' => StE 1 s e ∧ Below w.heap.size w w' := by
  have hmf : ∀ (fn : Fn) (first cap : Array Value) (w : World), (Instr.makeFunc fn first cap).run Try.prog w = .ok (.func fn first cap) w := fun _ _ _ _ => rfl
  have eg := enters_of (P := Try.prog) Try.func36 (by kernel_rfl) rfl
  have eg2 := enters_of (P := Try.prog) Try.func37 (by kernel_rfl) rfl
  obtain ⟨b3, hb3⟩ : ∃ b3, b3 = w.heap.size := ⟨_, rfl⟩
  obtain ⟨b4, hb4⟩ : ∃ b4, b4 = w.heap.size + 1 := ⟨_, rfl⟩
  obtain ⟨b5, hb5⟩ : ∃ b5, b5 = w.heap.size + 1 + 1 := ⟨_, rfl⟩
  obtain ⟨w3, hw3⟩ : ∃ w3, w3 = ((w.alloc (.cells #[.int .i64 1] 3)).alloc (.cells #[.string s] 9)).alloc (.cells #[.int .i64 0] 3) := ⟨_, rfl⟩
  obtain ⟨b8, hb8⟩ : ∃ b8, b8 = w3.heap.size := ⟨_, rfl⟩
  obtain ⟨w4, hw4⟩ : ∃ w4, w4 = w3.alloc (.cells #[stF b4 b5] 68) := ⟨_, rfl⟩
  have k3 : w3.heap[b3]? = some (.cells #[.int .i64 1] 3) := by rw [hw3, hb3]; exact keepA (keepA (at_k rfl))
  have k4 : w3.heap[b4]? = some (.cells #[.string s] 9) := by rw [hw3, hb4]; exact keepA (at_k (by simp))
  have k5 : w3.heap[b5]? = some (.cells #[.int .i64 0] 3) := by rw [hw3, hb5]; exact at_k (by simp)
  have q3 : w4.heap[b3]? = some (.cells #[.int .i64 1] 3) := by rw [hw4]; exact keepA k3
  have q4 : w4.heap[b4]? = some (.cells #[.string s] 9) := by rw [hw4]; exact keepA k4
  have q5 : w4.heap[b5]? = some (.cells #[.int .i64 0] 3) := by rw [hw4]; exact keepA k5
  have q8 : w4.heap[b8]? = some (.cells #[stF b4 b5] 68) := by rw [hw4, hb8]; exact at_newS _ _
  have HB4 : Hid (Below w.heap.size w w4) := by
    have h1 : Below w.heap.size w w3 := by rw [hw3]; exact (((Below.refl _ w).alloc (by simp) _).alloc (by simp) _).alloc (by simp <;> omega) _
    show Below _ _ _
    rw [hw4]
    exact h1.alloc h1.size _
  have HC : Hid (∀ W, Below w4.heap.size w4 W → W.cell? ⟨b3, 0, none⟩ = some (.int .i64 1) ∧ W.cell? ⟨b8, 0, none⟩ = some (stF b4 b5)) := fun W hW => ⟨by simpa using cells_at (rdO_keep q3 hW) 0, by simpa using cells_at (rdO_keep q8 hW) 0⟩
  have HBi : Hid (∀ (i : Nat), i ≤ 8 → ∀ W, Below w4.heap.size w4 W → Calls Try.prog 36 #[.int .i64 i, .pointer (some ⟨b5, 0, none⟩), .pointer (some ⟨b4, 0, none⟩)] W fun e w' => e = .returned (.int .i64 (bN s i)) ∧ w' = W) := fun i hi W hW => stB_any s hs i hi b4 b5 W (by simpa using cells_at (rdO_keep q4 hW) 0) (by simpa using cells_at (rdO_keep q5 hW) 0)
  have HD : Hid (∀ q, Below w4.heap.size w4 (w4.drewN q)) := fun q => below_drewN (Below.refl _ _) q
  obtain ⟨f3, f8⟩ := HC.out w4 (Below.refl _ _)
  have y0r := bN_rng s 0
  have y1r := bN_rng s 1
  have y2r := bN_rng s 2
  have y3r := bN_rng s 3
  obtain ⟨y0, hy0⟩ : ∃ y0, y0 = bN s 0 := ⟨_, rfl⟩
  obtain ⟨y1, hy1⟩ : ∃ y1, y1 = bN s 1 := ⟨_, rfl⟩
  obtain ⟨y2, hy2⟩ : ∃ y2, y2 = bN s 2 := ⟨_, rfl⟩
  obtain ⟨y3, hy3⟩ : ∃ y3, y3 = bN s 3 := ⟨_, rfl⟩
  have H0 : Hid (∀ W, Below w4.heap.size w4 W → Calls Try.prog 36 #[.int .i64 0, .pointer (some ⟨b5, 0, none⟩), .pointer (some ⟨b4, 0, none⟩)] W fun e w' => e = .returned (.int .i64 y0) ∧ w' = W) := by rw [hy0]; exact HBi.out 0 (by decide)
  have H1 : Hid (∀ W, Below w4.heap.size w4 W → Calls Try.prog 36 #[.int .i64 1, .pointer (some ⟨b5, 0, none⟩), .pointer (some ⟨b4, 0, none⟩)] W fun e w' => e = .returned (.int .i64 y1) ∧ w' = W) := by rw [hy1]; exact HBi.out 1 (by decide)
  have H2 : Hid (∀ W, Below w4.heap.size w4 W → Calls Try.prog 36 #[.int .i64 2, .pointer (some ⟨b5, 0, none⟩), .pointer (some ⟨b4, 0, none⟩)] W fun e w' => e = .returned (.int .i64 y2) ∧ w' = W) := by rw [hy2]; exact HBi.out 2 (by decide)
  have H3 : Hid (∀ W, Below w4.heap.size w4 W → Calls Try.prog 36 #[.int .i64 3, .pointer (some ⟨b5, 0, none⟩), .pointer (some ⟨b4, 0, none⟩)] W fun e w' => e = .returned (.int .i64 y3) ∧ w' = W) := by rw [hy3]; exact HBi.out 3 (by decide)
  rw [← hy0] at y0r
  rw [← hy1] at y1r
  rw [← hy2] at y2r
  rw [← hy3] at y3r
  have HY : Hid (∀ p, tl s = bytesR 1 p → y0 = (bytesR 1 p).getD 0 (-1) ∧ y1 = (bytesR 1 p).getD 1 (-1) ∧ y2 = (bytesR 1 p).getD 2 (-1) ∧ y3 = (bytesR 1 p).getD 3 (-1)) := fun p h => ⟨by rw [hy0]; exact bN_tl h 0, by rw [hy1]; exact bN_tl h 1, by rw [hy2]; exact bN_tl h 2, by rw [hy3]; exact bN_tl h 3⟩
  rw [← hy0] at h0 h1
  obtain ⟨r1, hr1⟩ : ∃ r1, r1 = y1.tmod 64 := ⟨_, rfl⟩
  have r1r := tmod_rng y1 64 y1r (by decide)
  rw [← hr1] at r1r
  obtain ⟨r2, hr2⟩ : ∃ r2, r2 = y2.tmod 64 := ⟨_, rfl⟩
  have r2r := tmod_rng y2 64 y2r (by decide)
  rw [← hr2] at r2r
  have HP : Hid (∀ p, Scal 1 p → tl s = bytesR 1 p → y0 % 16 * 4096 + r1 * 64 + r2 = p) := fun p hp ht => by
    obtain ⟨v0, v1, v2, v3⟩ := HY.out p ht
    have hp' : 0 ≤ p ∧ p ≤ 1114111 := by unfold Scal at hp; omega
    by_cases g1 : p < 128
    · have e : bytesR 1 p = [p] := by simp [bytesR, g1]
      rw [e] at v0 v1 v2 v3
      simp at v0 v1 v2 v3
      omega
    by_cases g2 : p < 2048
    · have e : bytesR 1 p = [192 + p / 64, 128 + p % 64] := by simp [bytesR, g1, g2]
      rw [e] at v0 v1 v2 v3
      simp at v0 v1 v2 v3
      omega
    by_cases g3 : p < 65536
    · have e : bytesR 1 p = [224 + p / 4096, 128 + p / 64 % 64, 128 + p % 64] := by simp [bytesR, g1, g2, g3]
      rw [e] at v0 v1 v2 v3
      simp at v0 v1 v2 v3
      omega
    · have e : bytesR 1 p = [240 + p / 262144, 128 + p / 4096 % 64, 128 + p / 64 % 64, 128 + p % 64] := by simp [bytesR, g1, g2, g3]
      rw [e] at v0 v1 v2 v3
      simp at v0 v1 v2 v3
      omega
  simp only [stF] at hw4 f8 HC
  clear k3 k4 k5 q3 q4 q5 q8 hy0 hy1 hy2 hy3
  go_enter Try.func16, Try.ntmps16
  go_upto_region 1 with fail
  rw [← hw3, ← hb5, ← hb4, ← hb3]
  clear hw3 hb5 hb4 hb3
  go_upto_region 2 with fail
  rw [← hw4, ← hb8]
  clear hw4 hb8
  have HBc : Hid (Below w4.heap.size w4 w4) := Below.refl _ _
  have HBw : Hid (∀ W, Below w4.heap.size w4 W → Below w.heap.size w W) := fun W hW => below_tr HB4.out hW
  have tr1 : y1.tmod 64 = r1 := hr1.symm
  have tr2 : y2.tmod 64 = r2 := hr2.symm
  have hwr : IntKind.i64.wrap (y0 % 16 * 4096 + r1 * 64 + r2) = y0 % 16 * 4096 + r1 * 64 + r2 := by rw [IntKind.wrap_i64]; omega
  clear hr1 hr2
  obtain ⟨P, hP⟩ : ∃ P, P = y0 % 16 * 4096 + r1 * 64 + r2 := ⟨_, rfl⟩
  rw [← hP] at HP
  go_upto_region 18 with (go_at_call_of 36 (Value.int .i64 0); refine (H0.out _ HBc.out).mono ?_; rintro e w5 ⟨rfl, hw5⟩; have hw6 := hw5.symm; subst hw6; clear hw5)
  go_quiet (first | (go_at_call_of 36 (Value.int .i64 0); refine Calls.quiet_of_same (H0.out _ (HD.out _))) | (go_at_call_of 36 (Value.int .i64 1); refine Calls.quiet_of_same (H1.out _ (HD.out _))) | (go_at_call_of 36 (Value.int .i64 2); refine Calls.quiet_of_same (H2.out _ (HD.out _))) | (go_at_call_of 36 (Value.int .i64 3); refine Calls.quiet_of_same (H3.out _ (HD.out _))))
  obtain ⟨w5, hw5⟩ : ∃ w5, w5 = w4.drewN nq := ⟨_, rfl⟩
  replace HBc : Hid (Below w4.heap.size w4 w5) := by rw [hw5]; exact HD.out nq
  rw [← hw5]
  clear hw5 f3 f8
  obtain ⟨f3, f8⟩ := HC.out w5 HBc.out
  go_upto_region 19 with fail
  rw [← hP]
  clear hP
  have HSc := hide (EE.isScalarR_any 1 P)
  cases hh : EE.holdB 1 P with
  | false =>
    rw [hh] at HSc
    have HF : Hid (StE 1 s (.returned (.tuple #[.int .i64 (-1), .int .i64 0]))) := stE_no fun p hp ht => by
      have := HP.out p hp ht
      rw [this, EE.holdB_iff.2 hp] at hh
      exact absurd hh (by decide)
    clear hh
    go_wp2_with (go_at_call 13; refine (HSc.out _).mono ?_; rintro e w7 ⟨rfl, hw7⟩; have hw8 := hw7.symm; subst hw8; clear hw7)
    go_ret2
    exact ⟨HF.out, HBw.out _ HBc.out⟩
  | true =>
    have hsc := EE.holdB_iff.1 hh
    have HB := hide (EE.bytesOf_shape 1 P w5 (EE.encB_iff.2 (by unfold isEnc; omega)) hh)
    have hbl := EE.bytesOf_len 1 P
    obtain ⟨bs, hbs⟩ : ∃ bs, bs = EE.bytesOf 1 P := ⟨_, rfl⟩
    have hbsR : bs = bytesR 1 P := by rw [hbs]; exact EE.bytesOf_R (by unfold isEnc; omega)
    rw [← hbs] at HB hbl
    rw [hh] at HSc
    obtain ⟨bl, hbl2⟩ : ∃ bl, bl = bs.length := ⟨_, rfl⟩
    have HBl := hide hbl2
    rw [← hbl2] at HB hbl
    have HFn : Hid (∀ i (h : i < bs.length), ¬ bN s i = bs[i] → StE 1 s (.returned (.tuple #[.int .i64 (-1), .int .i64 0]))) := fun i h hne => stE_no fun p hp ht => by
      have h1 := HP.out p hp ht
      have h2 := bN_tl ht i
      rw [← h1, ← hbsR, List.getD, List.getElem?_eq_getElem h] at h2
      exact hne h2
    have HFy : Hid (StE 1 s (.returned (.tuple #[.int .i64 P, .int .i64 bl]))) := ⟨P, bl, rfl, fun p hp ht => by
      have h1 := HP.out p hp ht
      refine ⟨h1, ?_⟩
      rw [hbl2, hbsR, h1, ← ht, tl_len]⟩
    clear hh hbs hbsR hbl2 hsc HP
    go_wp2_with (first | (go_at_call 13; refine (HSc.out _).mono ?_; rintro e w7 ⟨rfl, hw7⟩; have hw8 := hw7.symm; subst hw8; clear hw7) | (go_at_call 34; refine HB.out.mono ?_; rintro e w1 ⟨g, cp, rfl, ho9, hb9⟩; have HO := hide ho9; replace HBc := hide (below_tr HBc.out hb9); clear ho9 hb9))
    have HCs : Hid (∀ W, Below w1.heap.size w1 W → ∀ i (h : i < bs.length), W.cell? ⟨g, i, none⟩ = some (.int .i64 bs[i])) := fun W hW i h => by
      have h1 := HO.out.cellAt i (by have := HBl.out; omega)
      have h2 : w1.cell? ⟨g, i, none⟩ = some (.int .i64 bs[i]) := by rw [h1]; simp [i64s, h]
      exact below_cell hW (lt_of_cell h2) h2
    clear HO HB
    go_loopw [12] (fun q wr => ∃ i : Nat, i ≤ bl ∧ q = .int .i64 i ∧ Below w1.heap.size w1 wr) (fun q _ => bl - (intOf q).toNat)
    case atStart => exact ⟨0, Nat.zero_le _, rfl, Below.refl _ _⟩
    case round =>
      obtain ⟨i, hi, rfl, hbi⟩ := hrel
      obtain ⟨w9, hw9⟩ : ∃ w9, w9 = wr := ⟨_, rfl⟩
      subst hw9
      have HBi9 := hide hbi
      clear hbi
      by_cases hlt : i < bl
      · have hib : i < bs.length := by have := HBl.out; omega
        have e5 : (i : Int) < (bl : Int) := by omega
        have e6 : (0 : Int) ≤ (i : Int) := by omega
        have hkw : IntKind.i64.wrap ((i : Int) + 1) = (i : Int) + 1 := by rw [IntKind.wrap_i64]; omega
        have c9 := HCs.out w9 HBi9.out i hib
        have HBq : Hid (∀ q, Calls Try.prog 36 #[.int .i64 i, .pointer (some ⟨b5, 0, none⟩), .pointer (some ⟨b4, 0, none⟩)] (w9.drewN q) fun e w' => e = .returned (.int .i64 (bN s i)) ∧ w' = w9.drewN q) := fun q => HBi.out i (by omega) _ (below_drewN (below_tr HBc.out HBi9.out) q)
        obtain ⟨_, g8⟩ := HC.out w9 (below_tr HBc.out HBi9.out)
        have HFi := hide (HFn.out i hib)
        have HBe := hide (HBw.out _ (below_tr HBc.out HBi9.out))
        obtain ⟨yi, hyi⟩ : ∃ yi, yi = bN s i := ⟨_, rfl⟩
        obtain ⟨li, hli⟩ : ∃ li, li = bs[i] := ⟨_, rfl⟩
        rw [← hyi] at HBq HFi
        rw [← hli] at c9 HFi
        clear hyi hli hib f3 f8
        by_cases hne : yi = li
        · have bne : (yi != li) = false := by simpa using hne
          clear HFi hne
          go_upto_region 25 with fail
          go_quiet (first | (go_at_call 36; refine Calls.quiet_of_same (HBq.out _)))
          go_wp2
          go_roundw
          case rel => exact ⟨i + 1, by omega, by go_num, below_drewN HBi9.out _⟩
          case measure => simp [intOf]; omega
        · have bne : (yi != li) = true := by simpa using hne
          have HF := hide (HFi.out hne)
          clear HFi hne
          go_upto_region 25 with fail
          go_quiet (first | (go_at_call 36; refine Calls.quiet_of_same (HBq.out _)))
          go_wp2
          go_ret2
          exact ⟨HF.out, below_drewN HBe.out _⟩
      · have e5 : ¬ (i : Int) < (bl : Int) := by omega
        clear f3 f8
        go_wp2
        go_ret2
        exact ⟨HFy.out, HBw.out _ (below_tr HBc.out HBi9.out)⟩
set_option maxRecDepth 100000 in
set_option maxHeartbeats 8000000 in
theorem stand_1_d (s : ByteArray) (hs : s.size ≤ 4) (h0 : ¬ bN s 0 < 240) (h1 : ¬ bN s 0 < 240) (w : World) : Calls Try.prog 16 #[.int .i64 1, .string s, .int .i64 0] w fun e w' => StE 1 s e ∧ Below w.heap.size w w' := by
  have hmf : ∀ (fn : Fn) (first cap : Array Value) (w : World), (Instr.makeFunc fn first cap).run Try.prog w = .ok (.func fn first cap) w := fun _ _ _ _ => rfl
  have eg := enters_of (P := Try.prog) Try.func36 (by kernel_rfl) rfl
  have eg2 := enters_of (P := Try.prog) Try.func37 (by kernel_rfl) rfl
  obtain ⟨b3, hb3⟩ : ∃ b3, b3 = w.heap.size := ⟨_, rfl⟩
  obtain ⟨b4, hb4⟩ : ∃ b4, b4 = w.heap.size + 1 := ⟨_, rfl⟩
  obtain ⟨b5, hb5⟩ : ∃ b5, b5 = w.heap.size + 1 + 1 := ⟨_, rfl⟩
  obtain ⟨w3, hw3⟩ : ∃ w3, w3 = ((w.alloc (.cells #[.int .i64 1] 3)).alloc (.cells #[.string s] 9)).alloc (.cells #[.int .i64 0] 3) := ⟨_, rfl⟩
  obtain ⟨b8, hb8⟩ : ∃ b8, b8 = w3.heap.size := ⟨_, rfl⟩
  obtain ⟨w4, hw4⟩ : ∃ w4, w4 = w3.alloc (.cells #[stF b4 b5] 68) := ⟨_, rfl⟩
  have k3 : w3.heap[b3]? = some (.cells #[.int .i64 1] 3) := by rw [hw3, hb3]; exact keepA (keepA (at_k rfl))
  have k4 : w3.heap[b4]? = some (.cells #[.string s] 9) := by rw [hw3, hb4]; exact keepA (at_k (by simp))
  have k5 : w3.heap[b5]? = some (.cells #[.int .i64 0] 3) := by rw [hw3, hb5]; exact at_k (by simp)
  have q3 : w4.heap[b3]? = some (.cells #[.int .i64 1] 3) := by rw [hw4]; exact keepA k3
  have q4 : w4.heap[b4]? = some (.cells #[.string s] 9) := by rw [hw4]; exact keepA k4
  have q5 : w4.heap[b5]? = some (.cells #[.int .i64 0] 3) := by rw [hw4]; exact keepA k5
  have q8 : w4.heap[b8]? = some (.cells #[stF b4 b5] 68) := by rw [hw4, hb8]; exact at_newS _ _
  have HB4 : Hid (Below w.heap.size w w4) := by
    have h1 : Below w.heap.size w w3 := by rw [hw3]; exact (((Below.refl _ w).alloc (by simp) _).alloc (by simp) _).alloc (by simp <;> omega) _
    show Below _ _ _
    rw [hw4]
    exact h1.alloc h1.size _
  have HC : Hid (∀ W, Below w4.heap.size w4 W → W.cell? ⟨b3, 0, none⟩ = some (.int .i64 1) ∧ W.cell? ⟨b8, 0, none⟩ = some (stF b4 b5)) := fun W hW => ⟨by simpa using cells_at (rdO_keep q3 hW) 0, by simpa using cells_at (rdO_keep q8 hW) 0⟩
  have HBi : Hid (∀ (i : Nat), i ≤ 8 → ∀ W, Below w4.heap.size w4 W → Calls Try.prog 36 #[.int .i64 i, .pointer (some ⟨b5, 0, none⟩), .pointer (some ⟨b4, 0, none⟩)] W fun e w' => e = .returned (.int .i64 (bN s i)) ∧ w' = W) := fun i hi W hW => stB_any s hs i hi b4 b5 W (by simpa using cells_at (rdO_keep q4 hW) 0) (by simpa using cells_at (rdO_keep q5 hW) 0)
  have HD : Hid (∀ q, Below w4.heap.size w4 (w4.drewN q)) := fun q => below_drewN (Below.refl _ _) q
  obtain ⟨f3, f8⟩ := HC.out w4 (Below.refl _ _)
  have y0r := bN_rng s 0
  have y1r := bN_rng s 1
  have y2r := bN_rng s 2
  have y3r := bN_rng s 3
  obtain ⟨y0, hy0⟩ : ∃ y0, y0 = bN s 0 := ⟨_, rfl⟩
  obtain ⟨y1, hy1⟩ : ∃ y1, y1 = bN s 1 := ⟨_, rfl⟩
  obtain ⟨y2, hy2⟩ : ∃ y2, y2 = bN s 2 := ⟨_, rfl⟩
  obtain ⟨y3, hy3⟩ : ∃ y3, y3 = bN s 3 := ⟨_, rfl⟩
  have H0 : Hid (∀ W, Below w4.heap.size w4 W → Calls Try.prog 36 #[.int .i64 0, .pointer (some ⟨b5, 0, none⟩), .pointer (some ⟨b4, 0, none⟩)] W fun e w' => e = .returned (.int .i64 y0) ∧ w' = W) := by rw [hy0]; exact HBi.out 0 (by decide)
  have H1 : Hid (∀ W, Below w4.heap.size w4 W → Calls Try.prog 36 #[.int .i64 1, .pointer (some ⟨b5, 0, none⟩), .pointer (some ⟨b4, 0, none⟩)] W fun e w' => e = .returned (.int .i64 y1) ∧ w' = W) := by rw [hy1]; exact HBi.out 1 (by decide)
  have H2 : Hid (∀ W, Below w4.heap.size w4 W → Calls Try.prog 36 #[.int .i64 2, .pointer (some ⟨b5, 0, none⟩), .pointer (some ⟨b4, 0, none⟩)] W fun e w' => e = .returned (.int .i64 y2) ∧ w' = W) := by rw [hy2]; exact HBi.out 2 (by decide)
  have H3 : Hid (∀ W, Below w4.heap.size w4 W → Calls Try.prog 36 #[.int .i64 3, .pointer (some ⟨b5, 0, none⟩), .pointer (some ⟨b4, 0, none⟩)] W fun e w' => e = .returned (.int .i64 y3) ∧ w' = W) := by rw [hy3]; exact HBi.out 3 (by decide)
  rw [← hy0] at y0r
  rw [← hy1] at y1r
  rw [← hy2] at y2r
  rw [← hy3] at y3r
  have HY : Hid (∀ p, tl s = bytesR 1 p → y0 = (bytesR 1 p).getD 0 (-1) ∧ y1 = (bytesR 1 p).getD 1 (-1) ∧ y2 = (bytesR 1 p).getD 2 (-1) ∧ y3 = (bytesR 1 p).getD 3 (-1)) := fun p h => ⟨by rw [hy0]; exact bN_tl h 0, by rw [hy1]; exact bN_tl h 1, by rw [hy2]; exact bN_tl h 2, by rw [hy3]; exact bN_tl h 3⟩
  rw [← hy0] at h0 h1
  obtain ⟨r1, hr1⟩ : ∃ r1, r1 = y1.tmod 64 := ⟨_, rfl⟩
  have r1r := tmod_rng y1 64 y1r (by decide)
  rw [← hr1] at r1r
  obtain ⟨r2, hr2⟩ : ∃ r2, r2 = y2.tmod 64 := ⟨_, rfl⟩
  have r2r := tmod_rng y2 64 y2r (by decide)
  rw [← hr2] at r2r
  obtain ⟨r3, hr3⟩ : ∃ r3, r3 = y3.tmod 64 := ⟨_, rfl⟩
  have r3r := tmod_rng y3 64 y3r (by decide)
  rw [← hr3] at r3r
  have HP : Hid (∀ p, Scal 1 p → tl s = bytesR 1 p → y0 % 8 * 262144 + r1 * 4096 + r2 * 64 + r3 = p) := fun p hp ht => by
    obtain ⟨v0, v1, v2, v3⟩ := HY.out p ht
    have hp' : 0 ≤ p ∧ p ≤ 1114111 := by unfold Scal at hp; omega
    by_cases g1 : p < 128
    · have e : bytesR 1 p = [p] := by simp [bytesR, g1]
      rw [e] at v0 v1 v2 v3
      simp at v0 v1 v2 v3
      omega
    by_cases g2 : p < 2048
    · have e : bytesR 1 p = [192 + p / 64, 128 + p % 64] := by simp [bytesR, g1, g2]
      rw [e] at v0 v1 v2 v3
      simp at v0 v1 v2 v3
      omega
    by_cases g3 : p < 65536
    · have e : bytesR 1 p = [224 + p / 4096, 128 + p / 64 % 64, 128 + p % 64] := by simp [bytesR, g1, g2, g3]
      rw [e] at v0 v1 v2 v3
      simp at v0 v1 v2 v3
      omega
    · have e : bytesR 1 p = [240 + p / 262144, 128 + p / 4096 % 64, 128 + p / 64 % 64, 128 + p % 64] := by simp [bytesR, g1, g2, g3]
      rw [e] at v0 v1 v2 v3
      simp at v0 v1 v2 v3
      omega
  simp only [stF] at hw4 f8 HC
  clear k3 k4 k5 q3 q4 q5 q8 hy0 hy1 hy2 hy3
  go_enter Try.func16, Try.ntmps16
  go_upto_region 1 with fail
  rw [← hw3, ← hb5, ← hb4, ← hb3]
  clear hw3 hb5 hb4 hb3
  go_upto_region 2 with fail
  rw [← hw4, ← hb8]
  clear hw4 hb8
  have HBc : Hid (Below w4.heap.size w4 w4) := Below.refl _ _
  have HBw : Hid (∀ W, Below w4.heap.size w4 W → Below w.heap.size w W) := fun W hW => below_tr HB4.out hW
  have tr1 : y1.tmod 64 = r1 := hr1.symm
  have tr2 : y2.tmod 64 = r2 := hr2.symm
  have tr3 : y3.tmod 64 = r3 := hr3.symm
  have hwr : IntKind.i64.wrap (y0 % 8 * 262144 + r1 * 4096 + r2 * 64 + r3) = y0 % 8 * 262144 + r1 * 4096 + r2 * 64 + r3 := by rw [IntKind.wrap_i64]; omega
  clear hr1 hr2 hr3
  obtain ⟨P, hP⟩ : ∃ P, P = y0 % 8 * 262144 + r1 * 4096 + r2 * 64 + r3 := ⟨_, rfl⟩
  rw [← hP] at HP
  go_upto_region 12 with (go_at_call_of 36 (Value.int .i64 0); refine (H0.out _ HBc.out).mono ?_; rintro e w5 ⟨rfl, hw5⟩; have hw6 := hw5.symm; subst hw6; clear hw5)
  go_quiet (first | (go_at_call_of 36 (Value.int .i64 0); refine Calls.quiet_of_same (H0.out _ (HD.out _))) | (go_at_call_of 36 (Value.int .i64 1); refine Calls.quiet_of_same (H1.out _ (HD.out _))) | (go_at_call_of 36 (Value.int .i64 2); refine Calls.quiet_of_same (H2.out _ (HD.out _))) | (go_at_call_of 36 (Value.int .i64 3); refine Calls.quiet_of_same (H3.out _ (HD.out _))))
  obtain ⟨w5, hw5⟩ : ∃ w5, w5 = w4.drewN nq := ⟨_, rfl⟩
  replace HBc : Hid (Below w4.heap.size w4 w5) := by rw [hw5]; exact HD.out nq
  rw [← hw5]
  clear hw5 f3 f8
  obtain ⟨f3, f8⟩ := HC.out w5 HBc.out
  go_upto_region 19 with fail
  rw [← hP]
  clear hP
  have HSc := hide (EE.isScalarR_any 1 P)
  cases hh : EE.holdB 1 P with
  | false =>
    rw [hh] at HSc
    have HF : Hid (StE 1 s (.returned (.tuple #[.int .i64 (-1), .int .i64 0]))) := stE_no fun p hp ht => by
      have := HP.out p hp ht
      rw [this, EE.holdB_iff.2 hp] at hh
      exact absurd hh (by decide)
    clear hh
    go_wp2_with (go_at_call 13; refine (HSc.out _).mono ?_; rintro e w7 ⟨rfl, hw7⟩; have hw8 := hw7.symm; subst hw8; clear hw7)
    go_ret2
    exact ⟨HF.out, HBw.out _ HBc.out⟩
  | true =>
    have hsc := EE.holdB_iff.1 hh
    have HB := hide (EE.bytesOf_shape 1 P w5 (EE.encB_iff.2 (by unfold isEnc; omega)) hh)
    have hbl := EE.bytesOf_len 1 P
    obtain ⟨bs, hbs⟩ : ∃ bs, bs = EE.bytesOf 1 P := ⟨_, rfl⟩
    have hbsR : bs = bytesR 1 P := by rw [hbs]; exact EE.bytesOf_R (by unfold isEnc; omega)
    rw [← hbs] at HB hbl
    rw [hh] at HSc
    obtain ⟨bl, hbl2⟩ : ∃ bl, bl = bs.length := ⟨_, rfl⟩
    have HBl := hide hbl2
    rw [← hbl2] at HB hbl
    have HFn : Hid (∀ i (h : i < bs.length), ¬ bN s i = bs[i] → StE 1 s (.returned (.tuple #[.int .i64 (-1), .int .i64 0]))) := fun i h hne => stE_no fun p hp ht => by
      have h1 := HP.out p hp ht
      have h2 := bN_tl ht i
      rw [← h1, ← hbsR, List.getD, List.getElem?_eq_getElem h] at h2
      exact hne h2
    have HFy : Hid (StE 1 s (.returned (.tuple #[.int .i64 P, .int .i64 bl]))) := ⟨P, bl, rfl, fun p hp ht => by
      have h1 := HP.out p hp ht
      refine ⟨h1, ?_⟩
      rw [hbl2, hbsR, h1, ← ht, tl_len]⟩
    clear hh hbs hbsR hbl2 hsc HP
    go_wp2_with (first | (go_at_call 13; refine (HSc.out _).mono ?_; rintro e w7 ⟨rfl, hw7⟩; have hw8 := hw7.symm; subst hw8; clear hw7) | (go_at_call 34; refine HB.out.mono ?_; rintro e w1 ⟨g, cp, rfl, ho9, hb9⟩; have HO := hide ho9; replace HBc := hide (below_tr HBc.out hb9); clear ho9 hb9))
    have HCs : Hid (∀ W, Below w1.heap.size w1 W → ∀ i (h : i < bs.length), W.cell? ⟨g, i, none⟩ = some (.int .i64 bs[i])) := fun W hW i h => by
      have h1 := HO.out.cellAt i (by have := HBl.out; omega)
      have h2 : w1.cell? ⟨g, i, none⟩ = some (.int .i64 bs[i]) := by rw [h1]; simp [i64s, h]
      exact below_cell hW (lt_of_cell h2) h2
    clear HO HB
    go_loopw [12] (fun q wr => ∃ i : Nat, i ≤ bl ∧ q = .int .i64 i ∧ Below w1.heap.size w1 wr) (fun q _ => bl - (intOf q).toNat)
    case atStart => exact ⟨0, Nat.zero_le _, rfl, Below.refl _ _⟩
    case round =>
      obtain ⟨i, hi, rfl, hbi⟩ := hrel
      obtain ⟨w9, hw9⟩ : ∃ w9, w9 = wr := ⟨_, rfl⟩
      subst hw9
      have HBi9 := hide hbi
      clear hbi
      by_cases hlt : i < bl
      · have hib : i < bs.length := by have := HBl.out; omega
        have e5 : (i : Int) < (bl : Int) := by omega
        have e6 : (0 : Int) ≤ (i : Int) := by omega
        have hkw : IntKind.i64.wrap ((i : Int) + 1) = (i : Int) + 1 := by rw [IntKind.wrap_i64]; omega
        have c9 := HCs.out w9 HBi9.out i hib
        have HBq : Hid (∀ q, Calls Try.prog 36 #[.int .i64 i, .pointer (some ⟨b5, 0, none⟩), .pointer (some ⟨b4, 0, none⟩)] (w9.drewN q) fun e w' => e = .returned (.int .i64 (bN s i)) ∧ w' = w9.drewN q) := fun q => HBi.out i (by omega) _ (below_drewN (below_tr HBc.out HBi9.out) q)
        obtain ⟨_, g8⟩ := HC.out w9 (below_tr HBc.out HBi9.out)
        have HFi := hide (HFn.out i hib)
        have HBe := hide (HBw.out _ (below_tr HBc.out HBi9.out))
        obtain ⟨yi, hyi⟩ : ∃ yi, yi = bN s i := ⟨_, rfl⟩
        obtain ⟨li, hli⟩ : ∃ li, li = bs[i] := ⟨_, rfl⟩
        rw [← hyi] at HBq HFi
        rw [← hli] at c9 HFi
        clear hyi hli hib f3 f8
        by_cases hne : yi = li
        · have bne : (yi != li) = false := by simpa using hne
          clear HFi hne
          go_upto_region 25 with fail
          go_quiet (first | (go_at_call 36; refine Calls.quiet_of_same (HBq.out _)))
          go_wp2
          go_roundw
          case rel => exact ⟨i + 1, by omega, by go_num, below_drewN HBi9.out _⟩
          case measure => simp [intOf]; omega
        · have bne : (yi != li) = true := by simpa using hne
          have HF := hide (HFi.out hne)
          clear HFi hne
          go_upto_region 25 with fail
          go_quiet (first | (go_at_call 36; refine Calls.quiet_of_same (HBq.out _)))
          go_wp2
          go_ret2
          exact ⟨HF.out, below_drewN HBe.out _⟩
      · have e5 : ¬ (i : Int) < (bl : Int) := by omega
        clear f3 f8
        go_wp2
        go_ret2
        exact ⟨HFy.out, HBw.out _ (below_tr HBc.out HBi9.out)⟩

end Go.Proofs.Ythigleohjagfiaa
