/- The reference's TokenAt: what is escaped stands as a premise. -/
import Derived.Test.YtlapnhjkhpgklaaRb6
import Derived.Test.YtlapnhjkhpgklaaRb8
namespace Go.Proofs.Ytlapnhjkhpgklaa
open Go.RowKit
set_option linter.unusedVariables false

theorem times_no {d : Int} {l : List Int} {i : Nat} (h : (ivlT d l i).1 = false) : timesT d l i = if d = 1 then .ok (pointT 123, i) else .error 1 := by
  unfold ivlT at h
  unfold timesT
  simp only at h ⊢
  split at h
  · rename_i h1; rw [if_pos h1]
  · cases h
theorem times_yes {d : Int} {l : List Int} {i : Nat} {R : RT} (h : ivlT d l i = (true, R)) : timesT d l i = R := by
  unfold ivlT at h
  unfold timesT
  simp only at h ⊢
  split at h
  · cases h
  · rename_i h1
    rw [if_neg h1]
    exact (Prod.mk.inj h).2
theorem ivl_err {d : Int} {l : List Int} {i : Nat} {z : Int} (h : ivlT d l i = (true, .error z)) : z = 3 ∨ z = 2 := by
  unfold ivlT at h
  simp only at h
  split at h
  · cases h
  · have h := (Prod.mk.inj h).2
    split at h
    · left; injection h with h; exact h.symm
    · split at h
      · right; injection h with h; exact h.symm
      · cases h
set_option maxHeartbeats 1000000 in
theorem isT_any (x : Addr) (c : Nat) (l : List Int) (i : Nat) (b4 b5 : Nat) (u : UInt8) (z : Int) (hz : z = (u.toNat : Int)) (W : World) (h : ReadsI W x l) (h4 : W.cell? ⟨b4, 0, none⟩ = some (.slice (some x) l.length c)) (h5 : W.cell? ⟨b5, 0, none⟩ = some (.int .i64 i)) (hi : i ≤ 1000) (hl : l.length ≤ 1000) : Calls Try.prog 17 #[.string ⟨#[u]⟩, .pointer (some ⟨b4, 0, none⟩), .pointer (some ⟨b5, 0, none⟩)] W fun e w' => e = .returned (.bool (says l i [z])) ∧ Below W.heap.size W w' := by
  have HS := hide (says1_b x c l i u z hz W h hi hl)
  obtain ⟨s, hs⟩ : ∃ s, s = says l i [z] := ⟨_, rfl⟩
  rw [← hs] at HS ⊢
  clear h hs
  go_enter Try.func17, Try.ntmps17
  go_wp2_with fail
  refine HS.out.mono ?_
  rintro e w1 ⟨rfl, hb⟩
  have HB := hide hb
  clear hb
  go_wp2
  go_ret
  exact ⟨rfl, HB.out⟩
theorem three_below (w : World) (o o' o2 : Obj) : Below w.heap.size w (((w.alloc o).alloc o').alloc o2) := (two_below w o o').alloc (by simp; omega) o2

/-- what is escaped, as the reference has it. -/
def EscOk : Prop := ∀ (d : Int) (x : Addr) (c : Nat) (l : List Int) (i : Nat) (w : World), ReadsI w x l → i ≤ l.length → l.length ≤ 300 → l.length ≤ c → (∀ p ∈ l, 0 ≤ p ∧ p ≤ 1114111) → (d = 1 ∨ d = 2 ∨ d = 3) → Calls Try.prog 20 #[.int .i64 d, .slice (some x) l.length c, .int .i64 i] w fun e w' => NextE (escT d l i) w e w'

set_option maxRecDepth 100000 in
set_option maxHeartbeats 40000000 in
theorem tokenAt_any (hesc : EscOk) (d : Int) (x : Addr) (c : Nat) (l : List Int) (i : Nat) (w : World) (h : ReadsI w x l) (hi : i < l.length) (hl : l.length ≤ 300) (hcap : l.length ≤ c) (hpts : ∀ p ∈ l, 0 ≤ p ∧ p ≤ 1114111) (hd : d = 1 ∨ d = 2 ∨ d = 3) : Calls Try.prog 10 #[.int .i64 d, .slice (some x) l.length c, .int .i64 i] w fun e w' => NextE (tokT d l i l[i]) w e w' := by
  have hb3 := three_below w (.cells #[.slice (some x) l.length c] 22) (.cells #[.int .i64 i] 3) (tokO {})
  have HX := hide (hesc d x c l (i + 1))
  have HY : Hid (∀ W, Below w.heap.size w W → Calls Try.prog 20 #[.int .i64 d, .slice (some x) l.length c, .int .i64 ((i : Int) + 1)] W fun e w' => NextE (escT d l (i + 1)) W e w') := fun W hW => by
    have := HX.out W (h.belowB hW) (by omega) hl hcap hpts hd
    rw [show (((i + 1 : Nat)) : Int) = (i : Int) + 1 from by omega] at this
    exact this
  have HOp : Hid (∀ W, Below w.heap.size w W → Calls Try.prog 21 #[.int .i64 d, .slice (some x) l.length c, .int .i64 ((i : Int) + 1)] W fun e w' => NextE (openS d l (i + 1)) W e w') := fun W hW => by
    have := openedR_any d x c l (i + 1) W (h.belowB hW) (by omega) hl
    rw [show (((i + 1 : Nat)) : Int) = (i : Int) + 1 from by omega] at this
    exact this
  have HIv : Hid (∀ W, Below w.heap.size w W → Calls Try.prog 22 #[.int .i64 d, .slice (some x) l.length c, .int .i64 ((i : Int) + 1)] W fun e w' => IvE (ivlT d l (i + 1)) W e w') := fun W hW => by
    have := intervalR_any d x c l (i + 1) W (h.belowB hW) (by omega) hl
    rw [show (((i + 1 : Nat)) : Int) = (i : Int) + 1 from by omega] at this
    exact this
  have HRp : Hid (∀ W, Below w.heap.size w W → ∀ least most, Calls Try.prog 19 #[.int .i64 d, .slice (some x) l.length c, .int .i64 ((i : Int) + 1), .int .i64 least, .int .i64 most] W fun e w' => e = .returned (.tuple #[tokV (repT d l (i + 1) least most).1, .int .i64 ((repT d l (i + 1) least most).2 : Nat)]) ∧ Below W.heap.size W w') := fun W hW least most => by
    have := repeatR_any d least most x c l (i + 1) W (h.belowB hW) (by omega) (by omega)
    rw [show (((i + 1 : Nat)) : Int) = (i : Int) + 1 from by omega] at this
    exact this
  have hpi := hpts l[i] (List.getElem_mem _)
  have HCi : Hid (∀ W, Below w.heap.size w W → W.cell? (x.add i) = some (.int .i64 l[i])) := fun W hW => h.belowB hW i hi
  have hs : ∀ z : Int, 0 ≤ z → says l i [z] = decide (l[i] = z) := fun z hz => by rw [says_pt l i z hz, ptA_in hi]
  obtain ⟨p, hp⟩ : ∃ p, p = l[i] := ⟨_, rfl⟩
  rw [← hp] at hpi HCi ⊢
  have HI : Hid (∀ W, Below w.heap.size w W → W.cell? ⟨w.heap.size, 0, none⟩ = some (.slice (some x) l.length c) → W.cell? ⟨w.heap.size + 1, 0, none⟩ = some (.int .i64 i) → ∀ (u : UInt8) (z : Int), z = (u.toNat : Int) → Calls Try.prog 17 #[.string ⟨#[u]⟩, .pointer (some ⟨w.heap.size, 0, none⟩), .pointer (some ⟨w.heap.size + 1, 0, none⟩)] W fun e w' => e = .returned (.bool (decide (p = z))) ∧ Below W.heap.size W w') := fun W hW h4 h5 u z hz => by
    have := isT_any x c l i _ _ u z hz W (h.belowB hW) h4 h5 (by omega) (by omega)
    rw [hs z (by omega), ← hp] at this
    exact this
  obtain ⟨n, hn⟩ : ∃ n, n = l.length := ⟨_, rfl⟩
  have HN := hide hn
  rw [← hn] at HY HOp HIv HRp HI hi hl hb3 ⊢
  have e1 : (i : Int) < (n : Int) := by omega
  have e0 : (0 : Int) ≤ (i : Int) := by omega
  obtain ⟨w0, hw0⟩ : ∃ w0, w0 = ((w.alloc (.cells #[.slice (some x) n c] 22)).alloc (.cells #[.int .i64 i] 3)).alloc (tokO {}) := ⟨_, rfl⟩
  have HB0 : Hid (Below w.heap.size w w0) := by show Below _ _ _; rw [hw0]; exact hb3
  have A0 : Hid (w0.cell? ⟨w.heap.size, 0, none⟩ = some (.slice (some x) n c) ∧ w0.cell? ⟨w.heap.size + 1, 0, none⟩ = some (.int .i64 i) ∧ w0.heap[w.heap.size + 2]? = some (tokO {})) := by
    refine ⟨?_, ?_, ?_⟩
    · rw [hw0]; exact below_cellT ((Below.refl _ _).alloc (Nat.le_refl _) _) (World.cell?_alloc2 w _ _ 0 _ rfl)
    · rw [hw0]; exact below_cellT ((Below.refl _ _).alloc (Nat.le_refl _) _) (World.cell?_alloc1 w _ _ 0 _ rfl)
    · rw [hw0]; exact at_new' _ _ (by simp)
  simp only [tokO] at hw0
  clear h hn hb3 hpts hs hp hcap HX hesc
  go_enter Try.func10, Try.ntmps10
  go_wp2_with fail
  rw [← hw0]
  clear hw0
  refine (HI.out w0 HB0.out A0.out.1 A0.out.2.1 46 46 rfl).mono ?_
  rintro e w1 ⟨rfl, hb1⟩
  have HB1 := hide (HB0.out.trans (hb1.mono HB0.out.size))
  have A1 : Hid (w1.cell? ⟨w.heap.size, 0, none⟩ = some (.slice (some x) n c) ∧ w1.cell? ⟨w.heap.size + 1, 0, none⟩ = some (.int .i64 i) ∧ w1.heap[w.heap.size + 2]? = some (tokO {})) := ⟨below_cellT hb1 A0.out.1, below_cellT hb1 A0.out.2.1, below_atT hb1 A0.out.2.2⟩
  clear hb1 HB0 A0
  by_cases hp46 : p = 46
  · rw [decide_eq_true hp46]
    subst hp46
    have hE : Hid (tokT d l i 46 = .ok ({ kind := 2 }, i + 1)) := by show _ = _; rfl
    obtain ⟨m0, m1, m2, m3, m4, m5, m6, m7⟩ := tok_cells A1.out.2.2
    have fr0 := tok_free A1.out.2.2
    have c4 := A1.out.1
    have c5 := A1.out.2.1
    go_wp2
    exact ret_t2 (N := w.heap.size + 2) (t0 := {}) (W := w1) (t := { kind := 2 }) (k := (i : Int) + 1) (z := 0) rfl rfl rfl rfl A1.out.2.2 (.inl ⟨_, _, hE.out, rfl, tset_below HB1.out (by omega) _⟩)
  · rw [decide_eq_false hp46]
    go_wp2_with fail
    refine (HI.out w1 HB1.out A1.out.1 A1.out.2.1 94 94 rfl).mono ?_
    rintro e w2 ⟨rfl, hb2⟩
    have HB2 := hide (HB1.out.trans (hb2.mono HB1.out.size))
    have A2 : Hid (w2.cell? ⟨w.heap.size, 0, none⟩ = some (.slice (some x) n c) ∧ w2.cell? ⟨w.heap.size + 1, 0, none⟩ = some (.int .i64 i) ∧ w2.heap[w.heap.size + 2]? = some (tokO {})) := ⟨below_cellT hb2 A1.out.1, below_cellT hb2 A1.out.2.1, below_atT hb2 A1.out.2.2⟩
    clear hb2 HB1 A1
    by_cases hp94 : p = 94
    · rw [decide_eq_true hp94]
      subst hp94
      have hE : Hid (tokT d l i 94 = .ok (lookT 3, i + 1)) := by show _ = _; rfl
      obtain ⟨m0, m1, m2, m3, m4, m5, m6, m7⟩ := tok_cells A2.out.2.2
      have fr0 := tok_free A2.out.2.2
      have c4 := A2.out.1
      have c5 := A2.out.2.1
      go_wp2
      exact ret_t2 (N := w.heap.size + 2) (t0 := {}) (W := w2) (t := lookT 3) (k := (i : Int) + 1) (z := 0) rfl rfl rfl rfl A2.out.2.2 (.inl ⟨_, _, hE.out, rfl, tset_below HB2.out (by omega) _⟩)
    · rw [decide_eq_false hp94]
      go_wp2_with fail
      refine (HI.out w2 HB2.out A2.out.1 A2.out.2.1 36 36 rfl).mono ?_
      rintro e w3 ⟨rfl, hb3⟩
      have HB3 := hide (HB2.out.trans (hb3.mono HB2.out.size))
      have A3 : Hid (w3.cell? ⟨w.heap.size, 0, none⟩ = some (.slice (some x) n c) ∧ w3.cell? ⟨w.heap.size + 1, 0, none⟩ = some (.int .i64 i) ∧ w3.heap[w.heap.size + 2]? = some (tokO {})) := ⟨below_cellT hb3 A2.out.1, below_cellT hb3 A2.out.2.1, below_atT hb3 A2.out.2.2⟩
      clear hb3 HB2 A2
      by_cases hp36 : p = 36
      · rw [decide_eq_true hp36]
        subst hp36
        have hE : Hid (tokT d l i 36 = .ok (lookT 4, i + 1)) := by show _ = _; rfl
        obtain ⟨m0, m1, m2, m3, m4, m5, m6, m7⟩ := tok_cells A3.out.2.2
        have fr0 := tok_free A3.out.2.2
        have c4 := A3.out.1
        have c5 := A3.out.2.1
        go_wp2
        exact ret_t2 (N := w.heap.size + 2) (t0 := {}) (W := w3) (t := lookT 4) (k := (i : Int) + 1) (z := 0) rfl rfl rfl rfl A3.out.2.2 (.inl ⟨_, _, hE.out, rfl, tset_below HB3.out (by omega) _⟩)
      · rw [decide_eq_false hp36]
        go_wp2_with fail
        refine (HI.out w3 HB3.out A3.out.1 A3.out.2.1 91 91 rfl).mono ?_
        rintro e w4 ⟨rfl, hb4⟩
        have HB4 := hide (HB3.out.trans (hb4.mono HB3.out.size))
        have A4 : Hid (w4.cell? ⟨w.heap.size, 0, none⟩ = some (.slice (some x) n c) ∧ w4.cell? ⟨w.heap.size + 1, 0, none⟩ = some (.int .i64 i) ∧ w4.heap[w.heap.size + 2]? = some (tokO {})) := ⟨below_cellT hb4 A3.out.1, below_cellT hb4 A3.out.2.1, below_atT hb4 A3.out.2.2⟩
        clear hb4 HB3 A3
        by_cases hp91 : p = 91
        · rw [decide_eq_true hp91]
          subst hp91
          have hE : Hid (tokT d l i 91 = .ok ({ kind := 5 }, i + 1)) := by show _ = _; rfl
          obtain ⟨m0, m1, m2, m3, m4, m5, m6, m7⟩ := tok_cells A4.out.2.2
          have fr0 := tok_free A4.out.2.2
          have c4 := A4.out.1
          have c5 := A4.out.2.1
          go_wp2
          exact ret_t2 (N := w.heap.size + 2) (t0 := {}) (W := w4) (t := { kind := 5 }) (k := (i : Int) + 1) (z := 0) rfl rfl rfl rfl A4.out.2.2 (.inl ⟨_, _, hE.out, rfl, tset_below HB4.out (by omega) _⟩)
        · rw [decide_eq_false hp91]
          go_wp2_with fail
          refine (HI.out w4 HB4.out A4.out.1 A4.out.2.1 42 42 rfl).mono ?_
          rintro e w5 ⟨rfl, hb5⟩
          have HB5 := hide (HB4.out.trans (hb5.mono HB4.out.size))
          have A5 : Hid (w5.cell? ⟨w.heap.size, 0, none⟩ = some (.slice (some x) n c) ∧ w5.cell? ⟨w.heap.size + 1, 0, none⟩ = some (.int .i64 i) ∧ w5.heap[w.heap.size + 2]? = some (tokO {})) := ⟨below_cellT hb5 A4.out.1, below_cellT hb5 A4.out.2.1, below_atT hb5 A4.out.2.2⟩
          clear hb5 HB4 A4
          by_cases hp42 : p = 42
          · rw [decide_eq_true hp42]
            subst hp42
            go_wp2_with fail
            refine (HI.out w5 HB5.out A5.out.1 A5.out.2.1 43 43 rfl).mono ?_
            rintro e w6 ⟨rfl, hb6⟩
            have HB6 := hide (HB5.out.trans (hb6.mono HB5.out.size))
            have A6 : Hid (w6.cell? ⟨w.heap.size, 0, none⟩ = some (.slice (some x) n c) ∧ w6.cell? ⟨w.heap.size + 1, 0, none⟩ = some (.int .i64 i) ∧ w6.heap[w.heap.size + 2]? = some (tokO {})) := ⟨below_cellT hb6 A5.out.1, below_cellT hb6 A5.out.2.1, below_atT hb6 A5.out.2.2⟩
            clear hb6 HB5 A5
            rw [decide_eq_false (by decide)]
            go_wp2_with fail
            refine (HI.out w6 HB6.out A6.out.1 A6.out.2.1 63 63 rfl).mono ?_
            rintro e w7 ⟨rfl, hb7⟩
            have HB7 := hide (HB6.out.trans (hb7.mono HB6.out.size))
            have A7 : Hid (w7.cell? ⟨w.heap.size, 0, none⟩ = some (.slice (some x) n c) ∧ w7.cell? ⟨w.heap.size + 1, 0, none⟩ = some (.int .i64 i) ∧ w7.heap[w.heap.size + 2]? = some (tokO {})) := ⟨below_cellT hb7 A6.out.1, below_cellT hb7 A6.out.2.1, below_atT hb7 A6.out.2.2⟩
            clear hb7 HB6 A6
            rw [decide_eq_false (by decide)]
            have hE : Hid (tokT d l i 42 = .ok (repT d l (i + 1) 0 (-1))) := by show _ = _; rfl
            obtain ⟨rt, hrt⟩ : ∃ rt, rt = repT d l (i + 1) 0 (-1) := ⟨_, rfl⟩
            have HRq := hide (HRp.out w7 HB7.out 0 (-1))
            rw [← hrt] at HRq hE
            clear hrt
            obtain ⟨t, kk⟩ := rt
            simp only [tokV] at HRq
            have c4 := A7.out.1
            have c5 := A7.out.2.1
            go_wp2_with fail
            refine HRq.out.mono ?_
            rintro e w8 ⟨rfl, hb8⟩
            clear c4 c5
            have HB8 := hide (HB7.out.trans (hb8.mono HB7.out.size))
            have A8 : Hid (w8.cell? ⟨w.heap.size, 0, none⟩ = some (.slice (some x) n c) ∧ w8.cell? ⟨w.heap.size + 1, 0, none⟩ = some (.int .i64 i) ∧ w8.heap[w.heap.size + 2]? = some (tokO {})) := ⟨below_cellT hb8 A7.out.1, below_cellT hb8 A7.out.2.1, below_atT hb8 A7.out.2.2⟩
            clear hb8 HB7 A7
            have HL8 : Hid (w.heap.size + 2 < w8.heap.size) := lt_of_block A8.out.2.2
            go_upto_region 20 with fail
            obtain ⟨w9, hw9⟩ : ∃ w', w' = w8.alloc (tokO t) := ⟨_, rfl⟩
            have hM : w9.heap[w8.heap.size]? = some (tokO t) := by rw [hw9]; exact at_new _ _
            have hb9 : Below w8.heap.size w8 w9 := by rw [hw9]; exact (Below.refl _ _).alloc (Nat.le_refl _) _
            simp only [tokO] at hw9
            rw [← hw9]
            clear hw9
            obtain ⟨M, hMe⟩ : ∃ M, M = w8.heap.size := ⟨_, rfl⟩
            rw [← hMe] at hM ⊢
            obtain ⟨n0, n1, n2, n3, n4, n5, n6, n7⟩ := tok_cells hM
            clear hM hMe
            have HB9 := hide (HB8.out.trans (hb9.mono HB8.out.size))
            have A9 : Hid (w9.cell? ⟨w.heap.size, 0, none⟩ = some (.slice (some x) n c) ∧ w9.cell? ⟨w.heap.size + 1, 0, none⟩ = some (.int .i64 i) ∧ w9.heap[w.heap.size + 2]? = some (tokO {})) := ⟨below_cellT hb9 A8.out.1, below_cellT hb9 A8.out.2.1, below_atT hb9 A8.out.2.2⟩
            clear hb9 HB8 A8
            obtain ⟨m0, m1, m2, m3, m4, m5, m6, m7⟩ := tok_cells A9.out.2.2
            have fr0 := tok_free A9.out.2.2
            have c4 := A9.out.1
            have c5 := A9.out.2.1
            go_wp2
            exact ret_t2 (N := w.heap.size + 2) (t0 := {}) (W := w9) (t := t) (k := (kk : Int)) (z := 0) rfl rfl rfl rfl A9.out.2.2 (.inl ⟨_, _, hE.out, rfl, tset_below HB9.out (by omega) _⟩)
          · rw [decide_eq_false hp42]
            go_wp2_with fail
            refine (HI.out w5 HB5.out A5.out.1 A5.out.2.1 43 43 rfl).mono ?_
            rintro e w6 ⟨rfl, hb6⟩
            have HB6 := hide (HB5.out.trans (hb6.mono HB5.out.size))
            have A6 : Hid (w6.cell? ⟨w.heap.size, 0, none⟩ = some (.slice (some x) n c) ∧ w6.cell? ⟨w.heap.size + 1, 0, none⟩ = some (.int .i64 i) ∧ w6.heap[w.heap.size + 2]? = some (tokO {})) := ⟨below_cellT hb6 A5.out.1, below_cellT hb6 A5.out.2.1, below_atT hb6 A5.out.2.2⟩
            clear hb6 HB5 A5
            by_cases hp43 : p = 43
            · rw [decide_eq_true hp43]
              subst hp43
              go_wp2_with fail
              refine (HI.out w6 HB6.out A6.out.1 A6.out.2.1 43 43 rfl).mono ?_
              rintro e w7 ⟨rfl, hb7⟩
              have HB7 := hide (HB6.out.trans (hb7.mono HB6.out.size))
              have A7 : Hid (w7.cell? ⟨w.heap.size, 0, none⟩ = some (.slice (some x) n c) ∧ w7.cell? ⟨w.heap.size + 1, 0, none⟩ = some (.int .i64 i) ∧ w7.heap[w.heap.size + 2]? = some (tokO {})) := ⟨below_cellT hb7 A6.out.1, below_cellT hb7 A6.out.2.1, below_atT hb7 A6.out.2.2⟩
              clear hb7 HB6 A6
              rw [decide_eq_true rfl]
              go_wp2_with fail
              refine (HI.out w7 HB7.out A7.out.1 A7.out.2.1 63 63 rfl).mono ?_
              rintro e w8 ⟨rfl, hb8⟩
              have HB8 := hide (HB7.out.trans (hb8.mono HB7.out.size))
              have A8 : Hid (w8.cell? ⟨w.heap.size, 0, none⟩ = some (.slice (some x) n c) ∧ w8.cell? ⟨w.heap.size + 1, 0, none⟩ = some (.int .i64 i) ∧ w8.heap[w.heap.size + 2]? = some (tokO {})) := ⟨below_cellT hb8 A7.out.1, below_cellT hb8 A7.out.2.1, below_atT hb8 A7.out.2.2⟩
              clear hb8 HB7 A7
              rw [decide_eq_false (by decide)]
              have hE : Hid (tokT d l i 43 = .ok (repT d l (i + 1) 1 (-1))) := by show _ = _; rfl
              obtain ⟨rt, hrt⟩ : ∃ rt, rt = repT d l (i + 1) 1 (-1) := ⟨_, rfl⟩
              have HRq := hide (HRp.out w8 HB8.out 1 (-1))
              rw [← hrt] at HRq hE
              clear hrt
              obtain ⟨t, kk⟩ := rt
              simp only [tokV] at HRq
              have c4 := A8.out.1
              have c5 := A8.out.2.1
              go_wp2_with fail
              refine HRq.out.mono ?_
              rintro e w9 ⟨rfl, hb9⟩
              clear c4 c5
              have HB9 := hide (HB8.out.trans (hb9.mono HB8.out.size))
              have A9 : Hid (w9.cell? ⟨w.heap.size, 0, none⟩ = some (.slice (some x) n c) ∧ w9.cell? ⟨w.heap.size + 1, 0, none⟩ = some (.int .i64 i) ∧ w9.heap[w.heap.size + 2]? = some (tokO {})) := ⟨below_cellT hb9 A8.out.1, below_cellT hb9 A8.out.2.1, below_atT hb9 A8.out.2.2⟩
              clear hb9 HB8 A8
              have HL9 : Hid (w.heap.size + 2 < w9.heap.size) := lt_of_block A9.out.2.2
              go_upto_region 20 with fail
              obtain ⟨w10, hw10⟩ : ∃ w', w' = w9.alloc (tokO t) := ⟨_, rfl⟩
              have hM : w10.heap[w9.heap.size]? = some (tokO t) := by rw [hw10]; exact at_new _ _
              have hb10 : Below w9.heap.size w9 w10 := by rw [hw10]; exact (Below.refl _ _).alloc (Nat.le_refl _) _
              simp only [tokO] at hw10
              rw [← hw10]
              clear hw10
              obtain ⟨M, hMe⟩ : ∃ M, M = w9.heap.size := ⟨_, rfl⟩
              rw [← hMe] at hM ⊢
              obtain ⟨n0, n1, n2, n3, n4, n5, n6, n7⟩ := tok_cells hM
              clear hM hMe
              have HB10 := hide (HB9.out.trans (hb10.mono HB9.out.size))
              have A10 : Hid (w10.cell? ⟨w.heap.size, 0, none⟩ = some (.slice (some x) n c) ∧ w10.cell? ⟨w.heap.size + 1, 0, none⟩ = some (.int .i64 i) ∧ w10.heap[w.heap.size + 2]? = some (tokO {})) := ⟨below_cellT hb10 A9.out.1, below_cellT hb10 A9.out.2.1, below_atT hb10 A9.out.2.2⟩
              clear hb10 HB9 A9
              obtain ⟨m0, m1, m2, m3, m4, m5, m6, m7⟩ := tok_cells A10.out.2.2
              have fr0 := tok_free A10.out.2.2
              have c4 := A10.out.1
              have c5 := A10.out.2.1
              go_wp2
              exact ret_t2 (N := w.heap.size + 2) (t0 := {}) (W := w10) (t := t) (k := (kk : Int)) (z := 0) rfl rfl rfl rfl A10.out.2.2 (.inl ⟨_, _, hE.out, rfl, tset_below HB10.out (by omega) _⟩)
            · rw [decide_eq_false hp43]
              go_wp2_with fail
              refine (HI.out w6 HB6.out A6.out.1 A6.out.2.1 63 63 rfl).mono ?_
              rintro e w7 ⟨rfl, hb7⟩
              have HB7 := hide (HB6.out.trans (hb7.mono HB6.out.size))
              have A7 : Hid (w7.cell? ⟨w.heap.size, 0, none⟩ = some (.slice (some x) n c) ∧ w7.cell? ⟨w.heap.size + 1, 0, none⟩ = some (.int .i64 i) ∧ w7.heap[w.heap.size + 2]? = some (tokO {})) := ⟨below_cellT hb7 A6.out.1, below_cellT hb7 A6.out.2.1, below_atT hb7 A6.out.2.2⟩
              clear hb7 HB6 A6
              by_cases hp63 : p = 63
              · rw [decide_eq_true hp63]
                subst hp63
                go_wp2_with fail
                refine (HI.out w7 HB7.out A7.out.1 A7.out.2.1 43 43 rfl).mono ?_
                rintro e w8 ⟨rfl, hb8⟩
                have HB8 := hide (HB7.out.trans (hb8.mono HB7.out.size))
                have A8 : Hid (w8.cell? ⟨w.heap.size, 0, none⟩ = some (.slice (some x) n c) ∧ w8.cell? ⟨w.heap.size + 1, 0, none⟩ = some (.int .i64 i) ∧ w8.heap[w.heap.size + 2]? = some (tokO {})) := ⟨below_cellT hb8 A7.out.1, below_cellT hb8 A7.out.2.1, below_atT hb8 A7.out.2.2⟩
                clear hb8 HB7 A7
                rw [decide_eq_false (by decide)]
                go_wp2_with fail
                refine (HI.out w8 HB8.out A8.out.1 A8.out.2.1 63 63 rfl).mono ?_
                rintro e w9 ⟨rfl, hb9⟩
                have HB9 := hide (HB8.out.trans (hb9.mono HB8.out.size))
                have A9 : Hid (w9.cell? ⟨w.heap.size, 0, none⟩ = some (.slice (some x) n c) ∧ w9.cell? ⟨w.heap.size + 1, 0, none⟩ = some (.int .i64 i) ∧ w9.heap[w.heap.size + 2]? = some (tokO {})) := ⟨below_cellT hb9 A8.out.1, below_cellT hb9 A8.out.2.1, below_atT hb9 A8.out.2.2⟩
                clear hb9 HB8 A8
                rw [decide_eq_true rfl]
                have hE : Hid (tokT d l i 63 = .ok (repT d l (i + 1) 0 1)) := by show _ = _; rfl
                obtain ⟨rt, hrt⟩ : ∃ rt, rt = repT d l (i + 1) 0 1 := ⟨_, rfl⟩
                have HRq := hide (HRp.out w9 HB9.out 0 1)
                rw [← hrt] at HRq hE
                clear hrt
                obtain ⟨t, kk⟩ := rt
                simp only [tokV] at HRq
                have c4 := A9.out.1
                have c5 := A9.out.2.1
                go_wp2_with fail
                refine HRq.out.mono ?_
                rintro e w10 ⟨rfl, hb10⟩
                clear c4 c5
                have HB10 := hide (HB9.out.trans (hb10.mono HB9.out.size))
                have A10 : Hid (w10.cell? ⟨w.heap.size, 0, none⟩ = some (.slice (some x) n c) ∧ w10.cell? ⟨w.heap.size + 1, 0, none⟩ = some (.int .i64 i) ∧ w10.heap[w.heap.size + 2]? = some (tokO {})) := ⟨below_cellT hb10 A9.out.1, below_cellT hb10 A9.out.2.1, below_atT hb10 A9.out.2.2⟩
                clear hb10 HB9 A9
                have HL10 : Hid (w.heap.size + 2 < w10.heap.size) := lt_of_block A10.out.2.2
                go_upto_region 20 with fail
                obtain ⟨w11, hw11⟩ : ∃ w', w' = w10.alloc (tokO t) := ⟨_, rfl⟩
                have hM : w11.heap[w10.heap.size]? = some (tokO t) := by rw [hw11]; exact at_new _ _
                have hb11 : Below w10.heap.size w10 w11 := by rw [hw11]; exact (Below.refl _ _).alloc (Nat.le_refl _) _
                simp only [tokO] at hw11
                rw [← hw11]
                clear hw11
                obtain ⟨M, hMe⟩ : ∃ M, M = w10.heap.size := ⟨_, rfl⟩
                rw [← hMe] at hM ⊢
                obtain ⟨n0, n1, n2, n3, n4, n5, n6, n7⟩ := tok_cells hM
                clear hM hMe
                have HB11 := hide (HB10.out.trans (hb11.mono HB10.out.size))
                have A11 : Hid (w11.cell? ⟨w.heap.size, 0, none⟩ = some (.slice (some x) n c) ∧ w11.cell? ⟨w.heap.size + 1, 0, none⟩ = some (.int .i64 i) ∧ w11.heap[w.heap.size + 2]? = some (tokO {})) := ⟨below_cellT hb11 A10.out.1, below_cellT hb11 A10.out.2.1, below_atT hb11 A10.out.2.2⟩
                clear hb11 HB10 A10
                obtain ⟨m0, m1, m2, m3, m4, m5, m6, m7⟩ := tok_cells A11.out.2.2
                have fr0 := tok_free A11.out.2.2
                have c4 := A11.out.1
                have c5 := A11.out.2.1
                go_wp2
                exact ret_t2 (N := w.heap.size + 2) (t0 := {}) (W := w11) (t := t) (k := (kk : Int)) (z := 0) rfl rfl rfl rfl A11.out.2.2 (.inl ⟨_, _, hE.out, rfl, tset_below HB11.out (by omega) _⟩)
              · rw [decide_eq_false hp63]
                go_wp2_with fail
                refine (HI.out w7 HB7.out A7.out.1 A7.out.2.1 92 92 rfl).mono ?_
                rintro e w8 ⟨rfl, hb8⟩
                have HB8 := hide (HB7.out.trans (hb8.mono HB7.out.size))
                have A8 : Hid (w8.cell? ⟨w.heap.size, 0, none⟩ = some (.slice (some x) n c) ∧ w8.cell? ⟨w.heap.size + 1, 0, none⟩ = some (.int .i64 i) ∧ w8.heap[w.heap.size + 2]? = some (tokO {})) := ⟨below_cellT hb8 A7.out.1, below_cellT hb8 A7.out.2.1, below_atT hb8 A7.out.2.2⟩
                clear hb8 HB7 A7
                by_cases hp92 : p = 92
                · rw [decide_eq_true hp92]
                  subst hp92
                  have hE : Hid (tokT d l i 92 = escT d l (i + 1)) := by show _ = _; unfold tokT; rw [if_pos rfl]
                  have c4 := A8.out.1
                  have c5 := A8.out.2.1
                  go_wp2_with fail
                  refine (HY.out w8 HB8.out).mono ?_
                  rintro e w9 (⟨t, k, hR, rfl, hb9⟩ | ⟨z, hR, rfl, hb9⟩)
                  · have hE2 := hide (hE.out.trans hR)
                    clear hR c4 c5
                    have HB9 := hide (HB8.out.trans (hb9.mono HB8.out.size))
                    have A9 : Hid (w9.cell? ⟨w.heap.size, 0, none⟩ = some (.slice (some x) n c) ∧ w9.cell? ⟨w.heap.size + 1, 0, none⟩ = some (.int .i64 i) ∧ w9.heap[w.heap.size + 2]? = some (tokO {})) := ⟨below_cellT hb9 A8.out.1, below_cellT hb9 A8.out.2.1, below_atT hb9 A8.out.2.2⟩
                    clear hb9 HB8 A8
                    obtain ⟨m0, m1, m2, m3, m4, m5, m6, m7⟩ := tok_cells A9.out.2.2
                    have fr0 := tok_free A9.out.2.2
                    have c4 := A9.out.1
                    have c5 := A9.out.2.1
                    simp only [tokV]
                    go_wp2
                    exact ret_t2 (N := w.heap.size + 2) (t0 := {}) (W := w9) (t := t) (k := (k : Int)) (z := 0) rfl rfl rfl rfl A9.out.2.2 (.inl ⟨_, _, hE2.out, rfl, tset_below HB9.out (by omega) _⟩)
                  · have hE2 := hide (hE.out.trans hR)
                    clear hR c4 c5
                    have HB9 := hide (HB8.out.trans (hb9.mono HB8.out.size))
                    have A9 : Hid (w9.cell? ⟨w.heap.size, 0, none⟩ = some (.slice (some x) n c) ∧ w9.cell? ⟨w.heap.size + 1, 0, none⟩ = some (.int .i64 i) ∧ w9.heap[w.heap.size + 2]? = some (tokO {})) := ⟨below_cellT hb9 A8.out.1, below_cellT hb9 A8.out.2.1, below_atT hb9 A8.out.2.2⟩
                    clear hb9 HB8 A8
                    obtain ⟨m0, m1, m2, m3, m4, m5, m6, m7⟩ := tok_cells A9.out.2.2
                    have fr0 := tok_free A9.out.2.2
                    have c4 := A9.out.1
                    have c5 := A9.out.2.1
                    simp only [tokV]
                    go_wp2
                    exact ret_t2 (N := w.heap.size + 2) (t0 := {}) (W := w9) (t := {}) (k := 0) (z := z) rfl rfl rfl rfl A9.out.2.2 (.inr ⟨_, hE2.out, rfl, tset_below HB9.out (by omega) _⟩)
                · rw [decide_eq_false hp92]
                  by_cases hd3 : d = 3
                  · subst hd3
                    have hE : Hid (tokT 3 l i p = .ok (pointT p, i + 1)) := by show _ = _; unfold tokT; rw [if_neg hp92, if_neg hp46, if_neg hp94, if_neg hp36, if_neg hp91, if_neg hp42, if_neg hp43, if_neg hp63, if_pos rfl]
                    have c4 := A8.out.1
                    have c5 := A8.out.2.1
                    have ci := HCi.out w8 HB8.out
                    go_wp2_with fail
                    refine (ptok_any p w8).mono ?_
                    rintro e w9 ⟨rfl, hb9⟩
                    clear c4 c5 ci
                    have HB9 := hide (HB8.out.trans (hb9.mono HB8.out.size))
                    have A9 : Hid (w9.cell? ⟨w.heap.size, 0, none⟩ = some (.slice (some x) n c) ∧ w9.cell? ⟨w.heap.size + 1, 0, none⟩ = some (.int .i64 i) ∧ w9.heap[w.heap.size + 2]? = some (tokO {})) := ⟨below_cellT hb9 A8.out.1, below_cellT hb9 A8.out.2.1, below_atT hb9 A8.out.2.2⟩
                    clear hb9 HB8 A8
                    obtain ⟨m0, m1, m2, m3, m4, m5, m6, m7⟩ := tok_cells A9.out.2.2
                    have fr0 := tok_free A9.out.2.2
                    have c4 := A9.out.1
                    have c5 := A9.out.2.1
                    simp only [tokV, pointT]
                    go_wp2
                    exact ret_t2 (N := w.heap.size + 2) (t0 := {}) (W := w9) (t := pointT p) (k := (i : Int) + 1) (z := 0) rfl rfl rfl rfl A9.out.2.2 (.inl ⟨_, _, hE.out, rfl, tset_below HB9.out (by omega) _⟩)
                  · have hdl : d < 3 := by omega
                    go_wp2_with fail
                    refine (HI.out w8 HB8.out A8.out.1 A8.out.2.1 40 40 rfl).mono ?_
                    rintro e w9 ⟨rfl, hb9⟩
                    have HB9 := hide (HB8.out.trans (hb9.mono HB8.out.size))
                    have A9 : Hid (w9.cell? ⟨w.heap.size, 0, none⟩ = some (.slice (some x) n c) ∧ w9.cell? ⟨w.heap.size + 1, 0, none⟩ = some (.int .i64 i) ∧ w9.heap[w.heap.size + 2]? = some (tokO {})) := ⟨below_cellT hb9 A8.out.1, below_cellT hb9 A8.out.2.1, below_atT hb9 A8.out.2.2⟩
                    clear hb9 HB8 A8
                    by_cases hp40 : p = 40
                    · rw [decide_eq_true hp40]
                      subst hp40
                      have hE : Hid (tokT d l i 40 = openS d l (i + 1)) := by show _ = _; unfold tokT; rw [if_neg hp92, if_neg hp46, if_neg hp94, if_neg hp36, if_neg hp91, if_neg hp42, if_neg hp43, if_neg hp63, if_neg (by omega)]; unfold partT; rw [if_pos rfl]
                      have c4 := A9.out.1
                      have c5 := A9.out.2.1
                      go_wp2_with fail
                      refine (HOp.out w9 HB9.out).mono ?_
                      rintro e w10 (⟨t, k, hR, rfl, hb10⟩ | ⟨z, hR, rfl, hb10⟩)
                      · have hE2 := hide (hE.out.trans hR)
                        clear hR c4 c5
                        have HB10 := hide (HB9.out.trans (hb10.mono HB9.out.size))
                        have A10 : Hid (w10.cell? ⟨w.heap.size, 0, none⟩ = some (.slice (some x) n c) ∧ w10.cell? ⟨w.heap.size + 1, 0, none⟩ = some (.int .i64 i) ∧ w10.heap[w.heap.size + 2]? = some (tokO {})) := ⟨below_cellT hb10 A9.out.1, below_cellT hb10 A9.out.2.1, below_atT hb10 A9.out.2.2⟩
                        clear hb10 HB9 A9
                        obtain ⟨m0, m1, m2, m3, m4, m5, m6, m7⟩ := tok_cells A10.out.2.2
                        have fr0 := tok_free A10.out.2.2
                        have c4 := A10.out.1
                        have c5 := A10.out.2.1
                        simp only [tokV]
                        go_wp2
                        exact ret_t2 (N := w.heap.size + 2) (t0 := {}) (W := w10) (t := t) (k := (k : Int)) (z := 0) rfl rfl rfl rfl A10.out.2.2 (.inl ⟨_, _, hE2.out, rfl, tset_below HB10.out (by omega) _⟩)
                      · have hE2 := hide (hE.out.trans hR)
                        clear hR c4 c5
                        have HB10 := hide (HB9.out.trans (hb10.mono HB9.out.size))
                        have A10 : Hid (w10.cell? ⟨w.heap.size, 0, none⟩ = some (.slice (some x) n c) ∧ w10.cell? ⟨w.heap.size + 1, 0, none⟩ = some (.int .i64 i) ∧ w10.heap[w.heap.size + 2]? = some (tokO {})) := ⟨below_cellT hb10 A9.out.1, below_cellT hb10 A9.out.2.1, below_atT hb10 A9.out.2.2⟩
                        clear hb10 HB9 A9
                        obtain ⟨m0, m1, m2, m3, m4, m5, m6, m7⟩ := tok_cells A10.out.2.2
                        have fr0 := tok_free A10.out.2.2
                        have c4 := A10.out.1
                        have c5 := A10.out.2.1
                        simp only [tokV]
                        go_wp2
                        exact ret_t2 (N := w.heap.size + 2) (t0 := {}) (W := w10) (t := {}) (k := 0) (z := z) rfl rfl rfl rfl A10.out.2.2 (.inr ⟨_, hE2.out, rfl, tset_below HB10.out (by omega) _⟩)
                    · rw [decide_eq_false hp40]
                      go_wp2_with fail
                      refine (HI.out w9 HB9.out A9.out.1 A9.out.2.1 41 41 rfl).mono ?_
                      rintro e w10 ⟨rfl, hb10⟩
                      have HB10 := hide (HB9.out.trans (hb10.mono HB9.out.size))
                      have A10 : Hid (w10.cell? ⟨w.heap.size, 0, none⟩ = some (.slice (some x) n c) ∧ w10.cell? ⟨w.heap.size + 1, 0, none⟩ = some (.int .i64 i) ∧ w10.heap[w.heap.size + 2]? = some (tokO {})) := ⟨below_cellT hb10 A9.out.1, below_cellT hb10 A9.out.2.1, below_atT hb10 A9.out.2.2⟩
                      clear hb10 HB9 A9
                      by_cases hp41 : p = 41
                      · rw [decide_eq_true hp41]
                        subst hp41
                        have hE : Hid (tokT d l i 41 = .ok ({ kind := 8 }, i + 1)) := by show _ = _; unfold tokT; rw [if_neg hp92, if_neg hp46, if_neg hp94, if_neg hp36, if_neg hp91, if_neg hp42, if_neg hp43, if_neg hp63, if_neg (by omega)]; unfold partT; rw [if_neg hp40, if_pos rfl]
                        obtain ⟨m0, m1, m2, m3, m4, m5, m6, m7⟩ := tok_cells A10.out.2.2
                        have fr0 := tok_free A10.out.2.2
                        have c4 := A10.out.1
                        have c5 := A10.out.2.1
                        go_wp2
                        exact ret_t2 (N := w.heap.size + 2) (t0 := {}) (W := w10) (t := { kind := 8 }) (k := (i : Int) + 1) (z := 0) rfl rfl rfl rfl A10.out.2.2 (.inl ⟨_, _, hE.out, rfl, tset_below HB10.out (by omega) _⟩)
                      · rw [decide_eq_false hp41]
                        go_wp2_with fail
                        refine (HI.out w10 HB10.out A10.out.1 A10.out.2.1 124 124 rfl).mono ?_
                        rintro e w11 ⟨rfl, hb11⟩
                        have HB11 := hide (HB10.out.trans (hb11.mono HB10.out.size))
                        have A11 : Hid (w11.cell? ⟨w.heap.size, 0, none⟩ = some (.slice (some x) n c) ∧ w11.cell? ⟨w.heap.size + 1, 0, none⟩ = some (.int .i64 i) ∧ w11.heap[w.heap.size + 2]? = some (tokO {})) := ⟨below_cellT hb11 A10.out.1, below_cellT hb11 A10.out.2.1, below_atT hb11 A10.out.2.2⟩
                        clear hb11 HB10 A10
                        by_cases hp124 : p = 124
                        · rw [decide_eq_true hp124]
                          subst hp124
                          have hE : Hid (tokT d l i 124 = .ok ({ kind := 9 }, i + 1)) := by show _ = _; unfold tokT; rw [if_neg hp92, if_neg hp46, if_neg hp94, if_neg hp36, if_neg hp91, if_neg hp42, if_neg hp43, if_neg hp63, if_neg (by omega)]; unfold partT; rw [if_neg hp40, if_neg hp41, if_pos rfl]
                          obtain ⟨m0, m1, m2, m3, m4, m5, m6, m7⟩ := tok_cells A11.out.2.2
                          have fr0 := tok_free A11.out.2.2
                          have c4 := A11.out.1
                          have c5 := A11.out.2.1
                          go_wp2
                          exact ret_t2 (N := w.heap.size + 2) (t0 := {}) (W := w11) (t := { kind := 9 }) (k := (i : Int) + 1) (z := 0) rfl rfl rfl rfl A11.out.2.2 (.inl ⟨_, _, hE.out, rfl, tset_below HB11.out (by omega) _⟩)
                        · rw [decide_eq_false hp124]
                          go_wp2_with fail
                          refine (HI.out w11 HB11.out A11.out.1 A11.out.2.1 123 123 rfl).mono ?_
                          rintro e w12 ⟨rfl, hb12⟩
                          have HB12 := hide (HB11.out.trans (hb12.mono HB11.out.size))
                          have A12 : Hid (w12.cell? ⟨w.heap.size, 0, none⟩ = some (.slice (some x) n c) ∧ w12.cell? ⟨w.heap.size + 1, 0, none⟩ = some (.int .i64 i) ∧ w12.heap[w.heap.size + 2]? = some (tokO {})) := ⟨below_cellT hb12 A11.out.1, below_cellT hb12 A11.out.2.1, below_atT hb12 A11.out.2.2⟩
                          clear hb12 HB11 A11
                          by_cases hp123 : p = 123
                          · rw [decide_eq_true hp123]
                            subst hp123
                            have hE : Hid (tokT d l i 123 = timesT d l (i + 1)) := by show _ = _; unfold tokT; rw [if_neg hp92, if_neg hp46, if_neg hp94, if_neg hp36, if_neg hp91, if_neg hp42, if_neg hp43, if_neg hp63, if_neg (by omega)]; unfold partT; rw [if_neg hp40, if_neg hp41, if_neg hp124, if_pos rfl]
                            have c4 := A12.out.1
                            have c5 := A12.out.2.1
                            go_wp2_with fail
                            refine (HIv.out w12 HB12.out).mono ?_
                            rintro e w13 ⟨hb13, ⟨hR, rfl⟩ | ⟨z, hR, rfl⟩ | ⟨t, k, hR, rfl⟩⟩
                            · have HRr := hide hR
                              clear hR c4 c5
                              have HB13 := hide (HB12.out.trans (hb13.mono HB12.out.size))
                              have A13 : Hid (w13.cell? ⟨w.heap.size, 0, none⟩ = some (.slice (some x) n c) ∧ w13.cell? ⟨w.heap.size + 1, 0, none⟩ = some (.int .i64 i) ∧ w13.heap[w.heap.size + 2]? = some (tokO {})) := ⟨below_cellT hb13 A12.out.1, below_cellT hb13 A12.out.2.1, below_atT hb13 A12.out.2.2⟩
                              clear hb13 HB12 A12
                              simp only [tokV]
                              have HL13 : Hid (w.heap.size + 2 < w13.heap.size) := lt_of_block A13.out.2.2
                              go_upto_region 32 with fail
                              obtain ⟨w14, hw14⟩ : ∃ w', w' = w13.alloc (tokO {}) := ⟨_, rfl⟩
                              have hM : w14.heap[w13.heap.size]? = some (tokO {}) := by rw [hw14]; exact at_new _ _
                              have hb14 : Below w13.heap.size w13 w14 := by rw [hw14]; exact (Below.refl _ _).alloc (Nat.le_refl _) _
                              simp only [tokO] at hw14
                              rw [← hw14]
                              clear hw14
                              obtain ⟨M, hMe⟩ : ∃ M, M = w13.heap.size := ⟨_, rfl⟩
                              rw [← hMe] at hM ⊢
                              obtain ⟨n0, n1, n2, n3, n4, n5, n6, n7⟩ := tok_cells hM
                              clear hM hMe
                              have HB14 := hide (HB13.out.trans (hb14.mono HB13.out.size))
                              have A14 : Hid (w14.cell? ⟨w.heap.size, 0, none⟩ = some (.slice (some x) n c) ∧ w14.cell? ⟨w.heap.size + 1, 0, none⟩ = some (.int .i64 i) ∧ w14.heap[w.heap.size + 2]? = some (tokO {})) := ⟨below_cellT hb14 A13.out.1, below_cellT hb14 A13.out.2.1, below_atT hb14 A13.out.2.2⟩
                              clear hb14 HB13 A13
                              by_cases hd2 : d = 2
                              · subst hd2
                                have hE2 : Hid (tokT 2 l i 123 = .error 1) := by show _ = _; rw [hE.out, times_no HRr.out, if_neg (by omega)]
                                obtain ⟨m0, m1, m2, m3, m4, m5, m6, m7⟩ := tok_cells A14.out.2.2
                                have fr0 := tok_free A14.out.2.2
                                have c4 := A14.out.1
                                have c5 := A14.out.2.1
                                go_wp2
                                exact ret_t2 (N := w.heap.size + 2) (t0 := {}) (W := w14) (t := {}) (k := 0) (z := 1) rfl rfl rfl rfl A14.out.2.2 (.inr ⟨_, hE2.out, rfl, tset_below HB14.out (by omega) _⟩)
                              · have hd1 : d = 1 := by omega
                                subst hd1
                                have hE3 : Hid (tokT 1 l i 123 = .ok (pointT 123, i + 1)) := by show _ = _; rw [hE.out, times_no HRr.out, if_pos rfl]
                                clear hE
                                have hE : Hid (tokT 1 l i 123 = .ok (pointT 123, i + 1)) := by show _ = _; exact hE3.out
                                have c4 := A14.out.1
                                have c5 := A14.out.2.1
                                have ci := HCi.out w14 HB14.out
                                go_wp2_with fail
                                refine (ptok_any 123 w14).mono ?_
                                rintro e w15 ⟨rfl, hb15⟩
                                clear c4 c5 ci
                                have HB15 := hide (HB14.out.trans (hb15.mono HB14.out.size))
                                have A15 : Hid (w15.cell? ⟨w.heap.size, 0, none⟩ = some (.slice (some x) n c) ∧ w15.cell? ⟨w.heap.size + 1, 0, none⟩ = some (.int .i64 i) ∧ w15.heap[w.heap.size + 2]? = some (tokO {})) := ⟨below_cellT hb15 A14.out.1, below_cellT hb15 A14.out.2.1, below_atT hb15 A14.out.2.2⟩
                                clear hb15 HB14 A14
                                obtain ⟨m0, m1, m2, m3, m4, m5, m6, m7⟩ := tok_cells A15.out.2.2
                                have fr0 := tok_free A15.out.2.2
                                have c4 := A15.out.1
                                have c5 := A15.out.2.1
                                simp only [tokV, pointT]
                                go_wp2
                                exact ret_t2 (N := w.heap.size + 2) (t0 := {}) (W := w15) (t := pointT 123) (k := (i : Int) + 1) (z := 0) rfl rfl rfl rfl A15.out.2.2 (.inl ⟨_, _, hE.out, rfl, tset_below HB15.out (by omega) _⟩)
                            · have hz := ivl_err hR
                              have hzb : (z != 0) = true := by rcases hz with rfl | rfl <;> rfl
                              have hE2 := hide (hE.out.trans (times_yes hR))
                              clear hR c4 c5 hz
                              have HB13 := hide (HB12.out.trans (hb13.mono HB12.out.size))
                              have A13 : Hid (w13.cell? ⟨w.heap.size, 0, none⟩ = some (.slice (some x) n c) ∧ w13.cell? ⟨w.heap.size + 1, 0, none⟩ = some (.int .i64 i) ∧ w13.heap[w.heap.size + 2]? = some (tokO {})) := ⟨below_cellT hb13 A12.out.1, below_cellT hb13 A12.out.2.1, below_atT hb13 A12.out.2.2⟩
                              clear hb13 HB12 A12
                              simp only [tokV]
                              have HL13 : Hid (w.heap.size + 2 < w13.heap.size) := lt_of_block A13.out.2.2
                              go_upto_region 32 with fail
                              obtain ⟨w14, hw14⟩ : ∃ w', w' = w13.alloc (tokO {}) := ⟨_, rfl⟩
                              have hM : w14.heap[w13.heap.size]? = some (tokO {}) := by rw [hw14]; exact at_new _ _
                              have hb14 : Below w13.heap.size w13 w14 := by rw [hw14]; exact (Below.refl _ _).alloc (Nat.le_refl _) _
                              simp only [tokO] at hw14
                              rw [← hw14]
                              clear hw14
                              obtain ⟨M, hMe⟩ : ∃ M, M = w13.heap.size := ⟨_, rfl⟩
                              rw [← hMe] at hM ⊢
                              obtain ⟨n0, n1, n2, n3, n4, n5, n6, n7⟩ := tok_cells hM
                              clear hM hMe
                              have HB14 := hide (HB13.out.trans (hb14.mono HB13.out.size))
                              have A14 : Hid (w14.cell? ⟨w.heap.size, 0, none⟩ = some (.slice (some x) n c) ∧ w14.cell? ⟨w.heap.size + 1, 0, none⟩ = some (.int .i64 i) ∧ w14.heap[w.heap.size + 2]? = some (tokO {})) := ⟨below_cellT hb14 A13.out.1, below_cellT hb14 A13.out.2.1, below_atT hb14 A13.out.2.2⟩
                              clear hb14 HB13 A13
                              obtain ⟨m0, m1, m2, m3, m4, m5, m6, m7⟩ := tok_cells A14.out.2.2
                              have fr0 := tok_free A14.out.2.2
                              have c4 := A14.out.1
                              have c5 := A14.out.2.1
                              go_wp2
                              exact ret_t2 (N := w.heap.size + 2) (t0 := {}) (W := w14) (t := {}) (k := 0) (z := z) rfl rfl rfl rfl A14.out.2.2 (.inr ⟨_, hE2.out, rfl, tset_below HB14.out (by omega) _⟩)
                            · have hE2 := hide (hE.out.trans (times_yes hR))
                              clear hR c4 c5
                              have HB13 := hide (HB12.out.trans (hb13.mono HB12.out.size))
                              have A13 : Hid (w13.cell? ⟨w.heap.size, 0, none⟩ = some (.slice (some x) n c) ∧ w13.cell? ⟨w.heap.size + 1, 0, none⟩ = some (.int .i64 i) ∧ w13.heap[w.heap.size + 2]? = some (tokO {})) := ⟨below_cellT hb13 A12.out.1, below_cellT hb13 A12.out.2.1, below_atT hb13 A12.out.2.2⟩
                              clear hb13 HB12 A12
                              simp only [tokV]
                              have HL13 : Hid (w.heap.size + 2 < w13.heap.size) := lt_of_block A13.out.2.2
                              go_upto_region 32 with fail
                              obtain ⟨w14, hw14⟩ : ∃ w', w' = w13.alloc (tokO t) := ⟨_, rfl⟩
                              have hM : w14.heap[w13.heap.size]? = some (tokO t) := by rw [hw14]; exact at_new _ _
                              have hb14 : Below w13.heap.size w13 w14 := by rw [hw14]; exact (Below.refl _ _).alloc (Nat.le_refl _) _
                              simp only [tokO] at hw14
                              rw [← hw14]
                              clear hw14
                              obtain ⟨M, hMe⟩ : ∃ M, M = w13.heap.size := ⟨_, rfl⟩
                              rw [← hMe] at hM ⊢
                              obtain ⟨n0, n1, n2, n3, n4, n5, n6, n7⟩ := tok_cells hM
                              clear hM hMe
                              have HB14 := hide (HB13.out.trans (hb14.mono HB13.out.size))
                              have A14 : Hid (w14.cell? ⟨w.heap.size, 0, none⟩ = some (.slice (some x) n c) ∧ w14.cell? ⟨w.heap.size + 1, 0, none⟩ = some (.int .i64 i) ∧ w14.heap[w.heap.size + 2]? = some (tokO {})) := ⟨below_cellT hb14 A13.out.1, below_cellT hb14 A13.out.2.1, below_atT hb14 A13.out.2.2⟩
                              clear hb14 HB13 A13
                              obtain ⟨m0, m1, m2, m3, m4, m5, m6, m7⟩ := tok_cells A14.out.2.2
                              have fr0 := tok_free A14.out.2.2
                              have c4 := A14.out.1
                              have c5 := A14.out.2.1
                              go_wp2
                              exact ret_t2 (N := w.heap.size + 2) (t0 := {}) (W := w14) (t := t) (k := (k : Int)) (z := 0) rfl rfl rfl rfl A14.out.2.2 (.inl ⟨_, _, hE2.out, rfl, tset_below HB14.out (by omega) _⟩)
                          · rw [decide_eq_false hp123]
                            have hE : Hid (tokT d l i p = .ok (pointT p, i + 1)) := by show _ = _; unfold tokT; rw [if_neg hp92, if_neg hp46, if_neg hp94, if_neg hp36, if_neg hp91, if_neg hp42, if_neg hp43, if_neg hp63, if_neg (by omega)]; unfold partT; rw [if_neg hp40, if_neg hp41, if_neg hp124, if_neg hp123]
                            have c4 := A12.out.1
                            have c5 := A12.out.2.1
                            have ci := HCi.out w12 HB12.out
                            go_wp2_with fail
                            refine (ptok_any p w12).mono ?_
                            rintro e w13 ⟨rfl, hb13⟩
                            clear c4 c5 ci
                            have HB13 := hide (HB12.out.trans (hb13.mono HB12.out.size))
                            have A13 : Hid (w13.cell? ⟨w.heap.size, 0, none⟩ = some (.slice (some x) n c) ∧ w13.cell? ⟨w.heap.size + 1, 0, none⟩ = some (.int .i64 i) ∧ w13.heap[w.heap.size + 2]? = some (tokO {})) := ⟨below_cellT hb13 A12.out.1, below_cellT hb13 A12.out.2.1, below_atT hb13 A12.out.2.2⟩
                            clear hb13 HB12 A12
                            obtain ⟨m0, m1, m2, m3, m4, m5, m6, m7⟩ := tok_cells A13.out.2.2
                            have fr0 := tok_free A13.out.2.2
                            have c4 := A13.out.1
                            have c5 := A13.out.2.1
                            simp only [tokV, pointT]
                            go_wp2
                            exact ret_t2 (N := w.heap.size + 2) (t0 := {}) (W := w13) (t := pointT p) (k := (i : Int) + 1) (z := 0) rfl rfl rfl rfl A13.out.2.2 (.inl ⟨_, _, hE.out, rfl, tset_below HB13.out (by omega) _⟩)

end Go.Proofs.Ytlapnhjkhpgklaa
