/- The reference's Interval. -/
import Derived.Test.YtlapnhjkhpgklaaRb5
import Derived.Deep.Cut
namespace Go.Proofs.Ytlapnhjkhpgklaa
open Go.RowKit
set_option linter.unusedVariables false

def midT (l : List Int) (i : Nat) : Int × Nat × Nat :=
  let a := digs 10 3 l i
  let j := i + a.2
  if says l j [44] then
    let b := digs 10 3 l (j + 1)
    ((if b.2 = 0 then -1 else b.1), a.2 + b.2, j + 1 + b.2)
  else (a.1, a.2, j)
theorem bounds_mid (d : Int) (l : List Int) (i : Nat) : boundsT d l i = if (midT l i).2.1 = 0 then (0, 0, false, (midT l i).2.2) else if d = 3 then ((digs 10 3 l i).1, (midT l i).1, says l (midT l i).2.2 [92, 125], if says l (midT l i).2.2 [92, 125] then (midT l i).2.2 + 2 else (midT l i).2.2) else ((digs 10 3 l i).1, (midT l i).1, says l (midT l i).2.2 [125], if says l (midT l i).2.2 [125] then (midT l i).2.2 + 1 else (midT l i).2.2) := rfl
/-- whether it is one, and what it is. -/
def ivlT (d : Int) (l : List Int) (i : Nat) : Bool × RT :=
  let b := boundsT d l i
  if b.2.2.1 = false then (false, .error 0)
  else (true, if b.2.1 ≠ -1 ∧ b.1 > b.2.1 then .error 3 else if b.1 > 100 ∨ b.2.1 > 100 then .error 2 else .ok (repT d l b.2.2.2 b.1 b.2.1))
def IvE (r : Bool × RT) (w : World) (e : Ending) (w' : World) : Prop :=
  Below w.heap.size w w' ∧ ((r.1 = false ∧ e = .returned (.tuple #[tokV {}, .int .i64 0, .bool false, .int .i64 0])) ∨
    (∃ z, r = (true, .error z) ∧ e = .returned (.tuple #[tokV {}, .int .i64 0, .bool true, .int .i64 z])) ∨
    (∃ t k, r = (true, .ok (t, k)) ∧ e = .returned (.tuple #[tokV t, .int .i64 (k : Nat), .bool true, .int .i64 0])))
theorem ivl_no0 {d : Int} {l : List Int} {i : Nat} (h : (midT l i).2.1 = 0) : (ivlT d l i).1 = false := by
  unfold ivlT
  rw [bounds_mid, if_pos h]
  rfl
theorem ivl_no3 {l : List Int} {i : Nat} (h : says l (midT l i).2.2 [92, 125] = false) : (ivlT 3 l i).1 = false := by
  unfold ivlT
  rw [bounds_mid]
  by_cases h0 : (midT l i).2.1 = 0
  · rw [if_pos h0]; rfl
  · rw [if_neg h0, if_pos rfl, h]; rfl
theorem ivl_no {d : Int} {l : List Int} {i : Nat} (hd : d ≠ 3) (h : says l (midT l i).2.2 [125] = false) : (ivlT d l i).1 = false := by
  unfold ivlT
  rw [bounds_mid]
  by_cases h0 : (midT l i).2.1 = 0
  · rw [if_pos h0]; rfl
  · rw [if_neg h0, if_neg hd, h]; rfl
theorem ivl_yes3 {l : List Int} {i : Nat} (h0 : (midT l i).2.1 ≠ 0) (h : says l (midT l i).2.2 [92, 125] = true) : ivlT 3 l i = (true, if (midT l i).1 ≠ -1 ∧ (digs 10 3 l i).1 > (midT l i).1 then .error 3 else if (digs 10 3 l i).1 > 100 ∨ (midT l i).1 > 100 then .error 2 else .ok (repT 3 l ((midT l i).2.2 + 2) (digs 10 3 l i).1 (midT l i).1)) := by
  unfold ivlT
  rw [bounds_mid, if_neg h0, if_pos rfl, h]
  rfl
theorem ivl_yes {d : Int} {l : List Int} {i : Nat} (hd : d ≠ 3) (h0 : (midT l i).2.1 ≠ 0) (h : says l (midT l i).2.2 [125] = true) : ivlT d l i = (true, if (midT l i).1 ≠ -1 ∧ (digs 10 3 l i).1 > (midT l i).1 then .error 3 else if (digs 10 3 l i).1 > 100 ∨ (midT l i).1 > 100 then .error 2 else .ok (repT d l ((midT l i).2.2 + 1) (digs 10 3 l i).1 (midT l i).1)) := by
  unfold ivlT
  rw [bounds_mid, if_neg h0, if_neg hd, h]
  rfl

/-- what stands in the slots where the ways meet. -/
structure Mid (l : List Int) (i : Nat) (f sec e : Bool) (A mo : Int) (j : Nat) : Prop where
  a : (digs 10 3 l i).1 = A
  f1 : f = decide ((digs 10 3 l i).2 > 0)
  at' : (midT l i).2.2 = j
  some : (midT l i).2.1 = 0 ↔ f = false ∧ sec = false
  most : (midT l i).2.1 ≠ 0 → (midT l i).1 = if e then mo else -1
  zero : f = false → A = 0
  jl : j ≤ l.length
  A0 : 0 ≤ A
  A1 : A ≤ 16777215
  m0 : 0 ≤ mo
  m1 : mo ≤ 16777215
theorem digs_zero {l : List Int} {i : Nat} (hi : i ≤ l.length) (h : (digs 10 3 l i).2 = 0) : (digs 10 3 l i).1 = 0 := by
  obtain ⟨n, k, h1, h2⟩ := digs_spec 10 3 l i hi (.inl rfl)
  rw [h1] at h ⊢
  simp only at h ⊢
  subst h
  have a := h2.n0
  have b := h2.n1
  simp at b
  omega
theorem digs_rng {l : List Int} {i : Nat} (hi : i ≤ l.length) : 0 ≤ (digs 10 3 l i).1 ∧ (digs 10 3 l i).1 ≤ 16777215 ∧ i + (digs 10 3 l i).2 ≤ l.length := by
  obtain ⟨n, k, h1, h2⟩ := digs_spec 10 3 l i hi (.inl rfl)
  rw [h1]
  exact ⟨h2.n0, digR_bound h2 (by omega), h2.k2⟩
theorem mid_comma {l : List Int} {i : Nat} (hi : i ≤ l.length) (hs : says l (i + (digs 10 3 l i).2) [44] = true) : Mid l i (decide ((digs 10 3 l i).2 > 0)) (decide ((digs 10 3 l (i + (digs 10 3 l i).2 + 1)).2 > 0)) (decide ((digs 10 3 l (i + (digs 10 3 l i).2 + 1)).2 > 0)) (digs 10 3 l i).1 (digs 10 3 l (i + (digs 10 3 l i).2 + 1)).1 (i + (digs 10 3 l i).2 + 1 + (digs 10 3 l (i + (digs 10 3 l i).2 + 1)).2) := by
  have hlen := says_len hs (by simp)
  simp only [List.length_cons, List.length_nil] at hlen
  have r1 := digs_rng hi
  have r2 := digs_rng (l := l) (i := i + (digs 10 3 l i).2 + 1) (by omega)
  have hm : midT l i = ((if (digs 10 3 l (i + (digs 10 3 l i).2 + 1)).2 = 0 then -1 else (digs 10 3 l (i + (digs 10 3 l i).2 + 1)).1), (digs 10 3 l i).2 + (digs 10 3 l (i + (digs 10 3 l i).2 + 1)).2, i + (digs 10 3 l i).2 + 1 + (digs 10 3 l (i + (digs 10 3 l i).2 + 1)).2) := by
    unfold midT
    simp only
    rw [if_pos hs]
  refine ⟨rfl, rfl, by rw [hm], ?_, ?_, ?_, r2.2.2, r1.1, r1.2.1, r2.1, r2.2.1⟩
  · rw [hm]
    simp
  · intro _
    rw [hm]
    simp only
    split
    · rename_i h; rw [if_neg (by simp [h])]
    · rename_i h; rw [if_pos (by simp; omega)]
  · intro h
    simp at h
    exact digs_zero hi h
theorem mid_none {l : List Int} {i : Nat} (hi : i ≤ l.length) (hs : says l (i + (digs 10 3 l i).2) [44] = false) : Mid l i (decide ((digs 10 3 l i).2 > 0)) (decide ((digs 10 3 l i).2 > 0)) (decide ((digs 10 3 l i).2 > 0)) (digs 10 3 l i).1 (digs 10 3 l i).1 (i + (digs 10 3 l i).2) := by
  have r1 := digs_rng hi
  have hm : midT l i = ((digs 10 3 l i).1, (digs 10 3 l i).2, i + (digs 10 3 l i).2) := by
    unfold midT
    simp only
    rw [if_neg (by rw [hs]; simp)]
  refine ⟨rfl, rfl, by rw [hm], ?_, ?_, ?_, r1.2.2, r1.1, r1.2.1, r1.1, r1.2.1⟩
  · rw [hm]
    simp
  · intro h
    rw [hm] at h ⊢
    simp only at h ⊢
    rw [if_pos (by simp; omega)]
  · intro h
    simp at h
    exact digs_zero hi h

set_option maxRecDepth 100000 in
set_option maxHeartbeats 20000000 in
theorem intervalR_any (d : Int) (x : Addr) (c : Nat) (l : List Int) (i : Nat) (w : World) (h : ReadsI w x l) (hi : i ≤ l.length) (hl : l.length ≤ 300) : Calls Try.prog 22 #[.int .i64 d, .slice (some x) l.length c, .int .i64 i] w fun e w' => IvE (ivlT d l i) w e w' := by
  have hb0 : Below w.heap.size w (w.alloc (tokO {})) := (Below.refl _ w).alloc (Nat.le_refl _) _
  have HR := hide h
  have HDg := hide (digitsR_any x c l i 3 _ (h.belowB hb0) hi (by omega) (by omega))
  simp only [tokO] at HDg
  have hsz : w.heap.size < (w.alloc (tokO {})).heap.size := by simp
  have HN0 : Hid ((w.alloc (tokO {})).heap[w.heap.size]? = some (tokO {})) := at_new _ _
  have HB0 := hide hb0
  have r1 := digs_rng hi
  have HI := hide hi
  obtain ⟨D, hD⟩ : ∃ D, D = digs 10 3 l i := ⟨_, rfl⟩
  have HD := hide hD
  rw [← hD] at HDg r1
  obtain ⟨A, ka⟩ := D
  simp only at HDg r1
  obtain ⟨A0, A1, j1⟩ := r1
  obtain ⟨j, hj⟩ : ∃ j, j = i + ka := ⟨_, rfl⟩
  have HJ := hide hj
  rw [← hj] at HDg j1
  have HS := hide (fun W (hW : Below w.heap.size w W) => says1_b x c l j 44 44 rfl W (h.belowB hW) (by omega) (by omega))
  have HM1 : Hid (says l j [44] = true → Mid l i (decide (j > i)) (decide ((digs 10 3 l (j + 1)).2 > 0)) (decide ((digs 10 3 l (j + 1)).2 > 0)) A (digs 10 3 l (j + 1)).1 (j + 1 + (digs 10 3 l (j + 1)).2)) := fun hs => by
    have e : j = i + (digs 10 3 l i).2 := by rw [← HD.out, HJ.out]
    have := mid_comma hi (by rw [← e]; exact hs)
    rw [← e] at this
    rw [show decide (j > i) = decide ((digs 10 3 l i).2 > 0) from by rw [← HD.out, HJ.out]; rw [Bool.eq_iff_iff]; simp, show A = (digs 10 3 l i).1 from by rw [← HD.out]]
    exact this
  have HM2 : Hid (says l j [44] = false → Mid l i (decide (j > i)) (decide (j > i)) (decide (j > i)) A A j) := fun hs => by
    have e : j = i + (digs 10 3 l i).2 := by rw [← HD.out, HJ.out]
    have := mid_none hi (by rw [← e]; exact hs)
    rw [← e] at this
    rw [show decide (j > i) = decide ((digs 10 3 l i).2 > 0) from by rw [← HD.out, HJ.out]; rw [Bool.eq_iff_iff]; simp, show A = (digs 10 3 l i).1 from by rw [← HD.out]]
    exact this
  have HL := hide hl
  have hlen : ∀ j2 : Nat, says l j2 [44] = true → j2 + 1 ≤ l.length := fun j2 hs => by have := says_len hs (by simp); simpa using this
  have HLen := hide hlen
  obtain ⟨n, hn⟩ : ∃ n, n = l.length := ⟨_, rfl⟩
  have HN := hide hn
  have HDg2 := hide (fun W (hW : Below w.heap.size w W) (hj : j + 1 ≤ l.length) => digitsR_any x c l (j + 1) 3 W (h.belowB hW) hj (by omega) (by omega))
  have HSx := hide (fun (j2 : Nat) (hj2 : j2 ≤ 900) W (hW : Below w.heap.size w W) => says1_b x c l j2 92 92 rfl W (h.belowB hW) (by omega) (by omega))
  have HSy := hide (fun (j2 : Nat) (hj2 : j2 ≤ 900) W (hW : Below w.heap.size w W) => says1_b x c l j2 125 125 rfl W (h.belowB hW) (by omega) (by omega))
  have HRp := hide (fun (d2 least most : Int) (j2 : Nat) (hj2 : j2 ≤ 900) W (hW : Below w.heap.size w W) => repeatR_any d2 least most x c l j2 W (h.belowB hW) (by omega) (by omega))
  rw [← hn] at HDg HS HDg2 HSx HSy HRp hl j1 ⊢
  clear h hi hn hD hj hb0 hlen hsz
  have gi : (decide ((j : Int) > (i : Int))) = decide (j > i) := by rw [Bool.eq_iff_iff]; simp
  go_enter Try.func22, Try.ntmps22
  go_wp2_with fail
  refine HDg.out.mono ?_
  rintro e w1 ⟨rfl, rfl⟩
  go_wp2_with fail
  refine (HS.out _ HB0.out).mono ?_
  rintro e w2 ⟨rfl, hb2⟩
  have HB2 := hide (HB0.out.trans (hb2.mono HB0.out.size))
  have HN2 := hide (below_at hb2 HN0.out)
  clear hb2 HDg HS HB0 HN0
  obtain ⟨s44, h44⟩ : ∃ s, s = says l j [44] := ⟨_, rfl⟩
  rw [← h44]
  have H44 := hide h44
  clear h44
  go_upto_if 35 with fail
  go_cut [2, 11, 12, 13, 14, 15, 16] from 19 (fun s2 s11 s12 s13 s14 s15 s16 wc => ∃ (f sec e : Bool) (mo : Int) (j2 : Nat), s2 = .int .i64 j2 ∧ s12 = .bool f ∧ s14 = .bool sec ∧ s15 = .bool e ∧ s16 = .int .i64 mo ∧ Mid l i f sec e A mo j2 ∧ Below w.heap.size w wc ∧ wc.heap[w.heap.size]? = some (tokO {}))
  case first =>
    cases s44 with
    | true =>
      have hj1 : j + 1 ≤ n := by have := HLen.out j H44.out.symm; have := HN.out; omega
      have HD2 := hide (HDg2.out w2 HB2.out hj1)
      have HM := hide (HM1.out H44.out.symm)
      obtain ⟨D2, hD2⟩ : ∃ D, D = digs 10 3 l (j + 1) := ⟨_, rfl⟩
      rw [← hD2] at HD2 HM
      obtain ⟨B, kb⟩ := D2
      simp only at HD2 HM
      rw [show (((j + 1 : Nat) : Int)) = (j : Int) + 1 from by omega] at HD2
      obtain ⟨j3, hj3⟩ : ∃ j3, j3 = j + 1 + kb := ⟨_, rfl⟩
      rw [← hj3] at HD2 HM
      have gb : (decide ((j3 : Int) > (j : Int) + 1)) = decide (kb > 0) := by rw [Bool.eq_iff_iff]; simp; omega
      have GB := hide gb
      clear hD2 hj3 gb
      go_wp2_with fail
      refine HD2.out.mono ?_
      rintro e w3 ⟨rfl, rfl⟩
      go_wp2_with fail
      go_meet
      case rel => exact ⟨_, _, _, _, _, rfl, rfl, rfl, rfl, rfl, by first | exact HM.out | (rw [GB.out]; exact HM.out) | (rw [gi, GB.out]; exact HM.out), HB2.out, HN2.out⟩
    | false =>
      have HM := hide (HM2.out H44.out.symm)
      go_wp2_with fail
      go_meet
      case rel => exact ⟨_, _, _, _, _, rfl, rfl, rfl, rfl, rfl, by first | exact HM.out | (rw [gi]; exact HM.out), HB2.out, HN2.out⟩
  case rest =>
    clear HB2 HN2 HM1 HM2 H44 HLen HDg2 gi
    obtain ⟨f, sec, e, mo, j2, rfl, rfl, rfl, rfl, rfl, hM, hbc, hnc⟩ := hcut
    have HM := hide hM
    have HBc := hide hbc
    have HNc := hide hnc
    have hjl : j2 ≤ n := by have := HN.out; have := hM.jl; omega
    have hm0 := hM.m0
    have hm1 := hM.m1
    clear hM hbc hnc
    obtain ⟨m0, m1, m2, m3, m4, m5, m6, m7⟩ := tok_cells HNc.out
    have fr0 := tok_free HNc.out
    by_cases hd : d = 3
    · subst hd
      clear m0 m1 m2 m3 m4 m5 m6 m7 fr0
      go_wp2_with fail
      refine (HSx.out j2 (by omega) wc HBc.out).mono ?_
      rintro e w3 ⟨rfl, hb3⟩
      have HB3 := hide (HBc.out.trans (hb3.mono HBc.out.size))
      have HN3 := hide (below_at hb3 HNc.out)
      clear hb3
      cases h92 : says l j2 [92] with
      | false =>
        have hE : Hid ((ivlT 3 l i).1 = false) := ivl_no3 (by rw [HM.out.at', says_two, h92]; rfl)
        clear h92
        obtain ⟨m0, m1, m2, m3, m4, m5, m6, m7⟩ := tok_cells HN3.out
        have fr0 := tok_free HN3.out
        go_wp2
        exact ret_t3 (N := w.heap.size) (t0 := {}) (W := w3) (t := {}) (k := 0) (z := 0) (y := false) rfl rfl rfl rfl rfl HN3.out ⟨tset_below HB3.out (Nat.le_refl _) _, .inl ⟨hE.out, rfl⟩⟩
      | true =>
        have H92 := hide h92
        clear h92
        obtain ⟨k, hk⟩ : ∃ k, k = j2 + 1 := ⟨_, rfl⟩
        have HK := hide hk
        have hk2 : k ≤ 301 := by omega
        have hki : ((j2 : Int) + 1) = (k : Int) := by omega
        clear hk
        cases f with
        | true =>
          have hne : Hid ((midT l i).2.1 ≠ 0) := fun h0 => by have := HM.out.some.1 h0; simp at this
          go_wp2_with fail
          refine (HSy.out k (by omega) w3 HB3.out).mono ?_
          rintro e w4 ⟨rfl, hb4⟩
          have HB4 := hide (HB3.out.trans (hb4.mono HB3.out.size))
          have HN4 := hide (below_at hb4 HN3.out)
          clear hb4
          cases h125 : says l k [125] with
          | false =>
            have hE : Hid ((ivlT 3 l i).1 = false) := ivl_no3 (by rw [HM.out.at', says_two, ← HK.out, h125, Bool.and_false])
            clear h125

            obtain ⟨m0, m1, m2, m3, m4, m5, m6, m7⟩ := tok_cells HN4.out
            have fr0 := tok_free HN4.out
            go_wp2
            exact ret_t3 (N := w.heap.size) (t0 := {}) (W := w4) (t := {}) (k := 0) (z := 0) (y := false) rfl rfl rfl rfl rfl HN4.out ⟨tset_below HB4.out (Nat.le_refl _) _, .inl ⟨hE.out, rfl⟩⟩
          | true =>
            have HY := hide (ivl_yes3 hne.out (by rw [HM.out.at', says_two, H92.out, ← HK.out, h125]; rfl))
            rw [HM.out.at', show j2 + 2 = k + 1 from by have := HK.out; omega] at HY
            clear h125
            cases e with
            | true =>
              have HMa : Hid ((digs 10 3 l i).1 = A) := by show _ = _; rw [HM.out.a]
              have HMm : Hid ((midT l i).1 = mo) := by show _ = _; rw [HM.out.most hne.out]; rfl
              by_cases hc : mo < A
              · skip
                have hE : Hid (ivlT 3 l i = (true, .error 3)) := by show _ = _; rw [HY.out, HMa.out, HMm.out]; rw [if_pos ⟨by omega, hc⟩]
                obtain ⟨m0, m1, m2, m3, m4, m5, m6, m7⟩ := tok_cells HN4.out
                have fr0 := tok_free HN4.out
                go_wp2
                exact ret_t3 (N := w.heap.size) (t0 := {}) (W := w4) (t := {}) (k := 0) (z := 3) (y := true) rfl rfl rfl rfl rfl HN4.out ⟨tset_below HB4.out (Nat.le_refl _) _, .inr (.inl ⟨3, hE.out, rfl⟩)⟩
              · skip
                by_cases hA : A > 100
                · skip
                  have hE : Hid (ivlT 3 l i = (true, .error 2)) := by show _ = _; rw [HY.out, HMa.out, HMm.out]; rw [if_neg (fun hh => hc hh.2), if_pos (Or.inl hA)]
                  obtain ⟨m0, m1, m2, m3, m4, m5, m6, m7⟩ := tok_cells HN4.out
                  have fr0 := tok_free HN4.out
                  go_wp2
                  exact ret_t3 (N := w.heap.size) (t0 := {}) (W := w4) (t := {}) (k := 0) (z := 2) (y := true) rfl rfl rfl rfl rfl HN4.out ⟨tset_below HB4.out (Nat.le_refl _) _, .inr (.inl ⟨2, hE.out, rfl⟩)⟩
                · skip
                  by_cases hB : mo > 100
                  · skip
                    have hE : Hid (ivlT 3 l i = (true, .error 2)) := by show _ = _; rw [HY.out, HMa.out, HMm.out]; rw [if_neg (fun hh => hc hh.2), if_pos (Or.inr hB)]
                    obtain ⟨m0, m1, m2, m3, m4, m5, m6, m7⟩ := tok_cells HN4.out
                    have fr0 := tok_free HN4.out
                    go_wp2
                    exact ret_t3 (N := w.heap.size) (t0 := {}) (W := w4) (t := {}) (k := 0) (z := 2) (y := true) rfl rfl rfl rfl rfl HN4.out ⟨tset_below HB4.out (Nat.le_refl _) _, .inr (.inl ⟨2, hE.out, rfl⟩)⟩
                  · skip
                    have hE : Hid (ivlT 3 l i = (true, .ok (repT 3 l (k + 1) A mo))) := by show _ = _; rw [HY.out, HMa.out, HMm.out]; rw [if_neg (fun hh => hc hh.2), if_neg (by omega)]
                    have HRq := hide (HRp.out 3 A mo (k + 1) (by omega) w4 HB4.out)
                    rw [show (((k + 1 : Nat)) : Int) = (k : Int) + 1 from by omega] at HRq
                    obtain ⟨rt, hrt⟩ : ∃ rt, rt = repT 3 l (k + 1) A mo := ⟨_, rfl⟩
                    rw [← hrt] at HRq hE
                    clear hrt
                    obtain ⟨t, kk⟩ := rt
                    simp only [tokV] at HRq
                    go_wp2_with fail
                    refine HRq.out.mono ?_
                    rintro e w5 ⟨rfl, hb5⟩
                    have HB5 := hide (HB4.out.trans (hb5.mono HB4.out.size))
                    have HN5 := hide (below_at hb5 HN4.out)
                    have HW5 : Hid (w.heap.size < w5.heap.size) := lt_of_block HN5.out
                    clear hb5
                    go_upto_region 30 with fail
                    obtain ⟨w6, hw6⟩ : ∃ w6, w6 = w5.alloc (tokO t) := ⟨_, rfl⟩
                    have hM6 : w6.heap[w5.heap.size]? = some (tokO t) := by rw [hw6]; exact at_new _ _
                    have HN6 : Hid (w6.heap[w.heap.size]? = some (tokO {})) := by show _ = _; rw [hw6]; exact at_old HN5.out
                    have HB6 : Hid (Below w.heap.size w w6) := by show Below _ _ _; rw [hw6]; exact HB5.out.alloc (Nat.le_of_lt HW5.out) _
                    simp only [tokO] at hw6
                    rw [← hw6]
                    clear hw6
                    obtain ⟨n0, n1, n2, n3, n4, n5, n6, n7⟩ := tok_cells hM6
                    obtain ⟨m0, m1, m2, m3, m4, m5, m6, m7⟩ := tok_cells HN6.out
                    have fr0 := tok_free HN6.out
                    obtain ⟨M, hM⟩ : ∃ M, M = w5.heap.size := ⟨_, rfl⟩
                    rw [← hM] at n0 n1 n2 n3 n4 n5 n6 n7 ⊢
                    clear hM hM6
                    go_wp2
                    exact ret_t3 (N := w.heap.size) (t0 := {}) (W := w6) (t := t) (k := (kk : Int)) (z := 0) (y := true) rfl rfl rfl rfl rfl HN6.out ⟨tset_below HB6.out (Nat.le_refl _) _, .inr (.inr ⟨t, kk, hE.out, rfl⟩)⟩
            | false =>
              have HMa : Hid ((digs 10 3 l i).1 = A) := by show _ = _; rw [HM.out.a]
              have HMm : Hid ((midT l i).1 = (-1)) := by show _ = _; rw [HM.out.most hne.out]; rfl
              by_cases hA : A > 100
              · skip
                have hE : Hid (ivlT 3 l i = (true, .error 2)) := by show _ = _; rw [HY.out, HMa.out, HMm.out]; rw [if_neg (fun hh => hh.1 rfl), if_pos (Or.inl hA)]
                obtain ⟨m0, m1, m2, m3, m4, m5, m6, m7⟩ := tok_cells HN4.out
                have fr0 := tok_free HN4.out
                go_wp2
                exact ret_t3 (N := w.heap.size) (t0 := {}) (W := w4) (t := {}) (k := 0) (z := 2) (y := true) rfl rfl rfl rfl rfl HN4.out ⟨tset_below HB4.out (Nat.le_refl _) _, .inr (.inl ⟨2, hE.out, rfl⟩)⟩
              · skip
                have hE : Hid (ivlT 3 l i = (true, .ok (repT 3 l (k + 1) A (-1)))) := by show _ = _; rw [HY.out, HMa.out, HMm.out]; rw [if_neg (fun hh => hh.1 rfl), if_neg (by omega)]
                have HRq := hide (HRp.out 3 A (-1) (k + 1) (by omega) w4 HB4.out)
                rw [show (((k + 1 : Nat)) : Int) = (k : Int) + 1 from by omega] at HRq
                obtain ⟨rt, hrt⟩ : ∃ rt, rt = repT 3 l (k + 1) A (-1) := ⟨_, rfl⟩
                rw [← hrt] at HRq hE
                clear hrt
                obtain ⟨t, kk⟩ := rt
                simp only [tokV] at HRq
                go_wp2_with fail
                refine HRq.out.mono ?_
                rintro e w5 ⟨rfl, hb5⟩
                have HB5 := hide (HB4.out.trans (hb5.mono HB4.out.size))
                have HN5 := hide (below_at hb5 HN4.out)
                have HW5 : Hid (w.heap.size < w5.heap.size) := lt_of_block HN5.out
                clear hb5
                go_upto_region 30 with fail
                obtain ⟨w6, hw6⟩ : ∃ w6, w6 = w5.alloc (tokO t) := ⟨_, rfl⟩
                have hM6 : w6.heap[w5.heap.size]? = some (tokO t) := by rw [hw6]; exact at_new _ _
                have HN6 : Hid (w6.heap[w.heap.size]? = some (tokO {})) := by show _ = _; rw [hw6]; exact at_old HN5.out
                have HB6 : Hid (Below w.heap.size w w6) := by show Below _ _ _; rw [hw6]; exact HB5.out.alloc (Nat.le_of_lt HW5.out) _
                simp only [tokO] at hw6
                rw [← hw6]
                clear hw6
                obtain ⟨n0, n1, n2, n3, n4, n5, n6, n7⟩ := tok_cells hM6
                obtain ⟨m0, m1, m2, m3, m4, m5, m6, m7⟩ := tok_cells HN6.out
                have fr0 := tok_free HN6.out
                obtain ⟨M, hM⟩ : ∃ M, M = w5.heap.size := ⟨_, rfl⟩
                rw [← hM] at n0 n1 n2 n3 n4 n5 n6 n7 ⊢
                clear hM hM6
                go_wp2
                exact ret_t3 (N := w.heap.size) (t0 := {}) (W := w6) (t := t) (k := (kk : Int)) (z := 0) (y := true) rfl rfl rfl rfl rfl HN6.out ⟨tset_below HB6.out (Nat.le_refl _) _, .inr (.inr ⟨t, kk, hE.out, rfl⟩)⟩
        | false =>
          cases sec with
          | false =>
            have hE : Hid ((ivlT 3 l i).1 = false) := ivl_no0 (HM.out.some.2 ⟨rfl, rfl⟩)

            obtain ⟨m0, m1, m2, m3, m4, m5, m6, m7⟩ := tok_cells HN3.out
            have fr0 := tok_free HN3.out
            go_wp2
            exact ret_t3 (N := w.heap.size) (t0 := {}) (W := w3) (t := {}) (k := 0) (z := 0) (y := false) rfl rfl rfl rfl rfl HN3.out ⟨tset_below HB3.out (Nat.le_refl _) _, .inl ⟨hE.out, rfl⟩⟩
          | true =>
            have hne : Hid ((midT l i).2.1 ≠ 0) := fun h0 => by have := HM.out.some.1 h0; simp at this
            go_wp2_with fail
            refine (HSy.out k (by omega) w3 HB3.out).mono ?_
            rintro e w4 ⟨rfl, hb4⟩
            have HB4 := hide (HB3.out.trans (hb4.mono HB3.out.size))
            have HN4 := hide (below_at hb4 HN3.out)
            clear hb4
            cases h125 : says l k [125] with
            | false =>
              have hE : Hid ((ivlT 3 l i).1 = false) := ivl_no3 (by rw [HM.out.at', says_two, ← HK.out, h125, Bool.and_false])
              clear h125

              obtain ⟨m0, m1, m2, m3, m4, m5, m6, m7⟩ := tok_cells HN4.out
              have fr0 := tok_free HN4.out
              go_wp2
              exact ret_t3 (N := w.heap.size) (t0 := {}) (W := w4) (t := {}) (k := 0) (z := 0) (y := false) rfl rfl rfl rfl rfl HN4.out ⟨tset_below HB4.out (Nat.le_refl _) _, .inl ⟨hE.out, rfl⟩⟩
            | true =>
              have HY := hide (ivl_yes3 hne.out (by rw [HM.out.at', says_two, H92.out, ← HK.out, h125]; rfl))
              rw [HM.out.at', show j2 + 2 = k + 1 from by have := HK.out; omega] at HY
              clear h125
              cases e with
              | true =>
                have HMa : Hid ((digs 10 3 l i).1 = 0) := by show _ = _; rw [HM.out.a]; exact HM.out.zero rfl
                have HMm : Hid ((midT l i).1 = mo) := by show _ = _; rw [HM.out.most hne.out]; rfl
                have hc : ¬ mo < 0 := by omega
                by_cases hB : mo > 100
                · skip
                  have hE : Hid (ivlT 3 l i = (true, .error 2)) := by show _ = _; rw [HY.out, HMa.out, HMm.out]; rw [if_neg (fun hh => hc hh.2), if_pos (Or.inr hB)]
                  obtain ⟨m0, m1, m2, m3, m4, m5, m6, m7⟩ := tok_cells HN4.out
                  have fr0 := tok_free HN4.out
                  go_wp2
                  exact ret_t3 (N := w.heap.size) (t0 := {}) (W := w4) (t := {}) (k := 0) (z := 2) (y := true) rfl rfl rfl rfl rfl HN4.out ⟨tset_below HB4.out (Nat.le_refl _) _, .inr (.inl ⟨2, hE.out, rfl⟩)⟩
                · skip
                  have hE : Hid (ivlT 3 l i = (true, .ok (repT 3 l (k + 1) 0 mo))) := by show _ = _; rw [HY.out, HMa.out, HMm.out]; rw [if_neg (fun hh => hc hh.2), if_neg (by omega)]
                  have HRq := hide (HRp.out 3 0 mo (k + 1) (by omega) w4 HB4.out)
                  rw [show (((k + 1 : Nat)) : Int) = (k : Int) + 1 from by omega] at HRq
                  obtain ⟨rt, hrt⟩ : ∃ rt, rt = repT 3 l (k + 1) 0 mo := ⟨_, rfl⟩
                  rw [← hrt] at HRq hE
                  clear hrt
                  obtain ⟨t, kk⟩ := rt
                  simp only [tokV] at HRq
                  go_wp2_with fail
                  refine HRq.out.mono ?_
                  rintro e w5 ⟨rfl, hb5⟩
                  have HB5 := hide (HB4.out.trans (hb5.mono HB4.out.size))
                  have HN5 := hide (below_at hb5 HN4.out)
                  have HW5 : Hid (w.heap.size < w5.heap.size) := lt_of_block HN5.out
                  clear hb5
                  go_upto_region 30 with fail
                  obtain ⟨w6, hw6⟩ : ∃ w6, w6 = w5.alloc (tokO t) := ⟨_, rfl⟩
                  have hM6 : w6.heap[w5.heap.size]? = some (tokO t) := by rw [hw6]; exact at_new _ _
                  have HN6 : Hid (w6.heap[w.heap.size]? = some (tokO {})) := by show _ = _; rw [hw6]; exact at_old HN5.out
                  have HB6 : Hid (Below w.heap.size w w6) := by show Below _ _ _; rw [hw6]; exact HB5.out.alloc (Nat.le_of_lt HW5.out) _
                  simp only [tokO] at hw6
                  rw [← hw6]
                  clear hw6
                  obtain ⟨n0, n1, n2, n3, n4, n5, n6, n7⟩ := tok_cells hM6
                  obtain ⟨m0, m1, m2, m3, m4, m5, m6, m7⟩ := tok_cells HN6.out
                  have fr0 := tok_free HN6.out
                  obtain ⟨M, hM⟩ : ∃ M, M = w5.heap.size := ⟨_, rfl⟩
                  rw [← hM] at n0 n1 n2 n3 n4 n5 n6 n7 ⊢
                  clear hM hM6
                  go_wp2
                  exact ret_t3 (N := w.heap.size) (t0 := {}) (W := w6) (t := t) (k := (kk : Int)) (z := 0) (y := true) rfl rfl rfl rfl rfl HN6.out ⟨tset_below HB6.out (Nat.le_refl _) _, .inr (.inr ⟨t, kk, hE.out, rfl⟩)⟩
              | false =>
                have HMa : Hid ((digs 10 3 l i).1 = 0) := by show _ = _; rw [HM.out.a]; exact HM.out.zero rfl
                have HMm : Hid ((midT l i).1 = (-1)) := by show _ = _; rw [HM.out.most hne.out]; rfl
                have hE : Hid (ivlT 3 l i = (true, .ok (repT 3 l (k + 1) 0 (-1)))) := by show _ = _; rw [HY.out, HMa.out, HMm.out]; rw [if_neg (fun hh => hh.1 rfl), if_neg (by omega)]
                have HRq := hide (HRp.out 3 0 (-1) (k + 1) (by omega) w4 HB4.out)
                rw [show (((k + 1 : Nat)) : Int) = (k : Int) + 1 from by omega] at HRq
                obtain ⟨rt, hrt⟩ : ∃ rt, rt = repT 3 l (k + 1) 0 (-1) := ⟨_, rfl⟩
                rw [← hrt] at HRq hE
                clear hrt
                obtain ⟨t, kk⟩ := rt
                simp only [tokV] at HRq
                go_wp2_with fail
                refine HRq.out.mono ?_
                rintro e w5 ⟨rfl, hb5⟩
                have HB5 := hide (HB4.out.trans (hb5.mono HB4.out.size))
                have HN5 := hide (below_at hb5 HN4.out)
                have HW5 : Hid (w.heap.size < w5.heap.size) := lt_of_block HN5.out
                clear hb5
                go_upto_region 30 with fail
                obtain ⟨w6, hw6⟩ : ∃ w6, w6 = w5.alloc (tokO t) := ⟨_, rfl⟩
                have hM6 : w6.heap[w5.heap.size]? = some (tokO t) := by rw [hw6]; exact at_new _ _
                have HN6 : Hid (w6.heap[w.heap.size]? = some (tokO {})) := by show _ = _; rw [hw6]; exact at_old HN5.out
                have HB6 : Hid (Below w.heap.size w w6) := by show Below _ _ _; rw [hw6]; exact HB5.out.alloc (Nat.le_of_lt HW5.out) _
                simp only [tokO] at hw6
                rw [← hw6]
                clear hw6
                obtain ⟨n0, n1, n2, n3, n4, n5, n6, n7⟩ := tok_cells hM6
                obtain ⟨m0, m1, m2, m3, m4, m5, m6, m7⟩ := tok_cells HN6.out
                have fr0 := tok_free HN6.out
                obtain ⟨M, hM⟩ : ∃ M, M = w5.heap.size := ⟨_, rfl⟩
                rw [← hM] at n0 n1 n2 n3 n4 n5 n6 n7 ⊢
                clear hM hM6
                go_wp2
                exact ret_t3 (N := w.heap.size) (t0 := {}) (W := w6) (t := t) (k := (kk : Int)) (z := 0) (y := true) rfl rfl rfl rfl rfl HN6.out ⟨tset_below HB6.out (Nat.le_refl _) _, .inr (.inr ⟨t, kk, hE.out, rfl⟩)⟩
    · have hdb : (d == 3) = false := by simpa using hd
      have HDn := hide hd
      clear m0 m1 m2 m3 m4 m5 m6 m7 fr0 hd
      obtain ⟨w3, hw3⟩ : ∃ w3, w3 = wc := ⟨_, rfl⟩
      subst hw3
      have HB3 := HBc
      have HN3 := HNc
      clear HBc HNc
      cases f with
      | true =>
        have hne : Hid ((midT l i).2.1 ≠ 0) := fun h0 => by have := HM.out.some.1 h0; simp at this
        go_wp2_with fail
        refine (HSy.out j2 (by omega) w3 HB3.out).mono ?_
        rintro e w4 ⟨rfl, hb4⟩
        have HB4 := hide (HB3.out.trans (hb4.mono HB3.out.size))
        have HN4 := hide (below_at hb4 HN3.out)
        clear hb4
        cases h125 : says l j2 [125] with
        | false =>
          have hE : Hid ((ivlT d l i).1 = false) := ivl_no HDn.out (by rw [HM.out.at', h125])
          clear h125

          obtain ⟨m0, m1, m2, m3, m4, m5, m6, m7⟩ := tok_cells HN4.out
          have fr0 := tok_free HN4.out
          go_wp2
          exact ret_t3 (N := w.heap.size) (t0 := {}) (W := w4) (t := {}) (k := 0) (z := 0) (y := false) rfl rfl rfl rfl rfl HN4.out ⟨tset_below HB4.out (Nat.le_refl _) _, .inl ⟨hE.out, rfl⟩⟩
        | true =>
          have HY := hide (ivl_yes HDn.out hne.out (by rw [HM.out.at', h125]))
          rw [HM.out.at'] at HY
          clear h125
          cases e with
          | true =>
            have HMa : Hid ((digs 10 3 l i).1 = A) := by show _ = _; rw [HM.out.a]
            have HMm : Hid ((midT l i).1 = mo) := by show _ = _; rw [HM.out.most hne.out]; rfl
            by_cases hc : mo < A
            · skip
              have hE : Hid (ivlT d l i = (true, .error 3)) := by show _ = _; rw [HY.out, HMa.out, HMm.out]; rw [if_pos ⟨by omega, hc⟩]
              obtain ⟨m0, m1, m2, m3, m4, m5, m6, m7⟩ := tok_cells HN4.out
              have fr0 := tok_free HN4.out
              go_wp2
              exact ret_t3 (N := w.heap.size) (t0 := {}) (W := w4) (t := {}) (k := 0) (z := 3) (y := true) rfl rfl rfl rfl rfl HN4.out ⟨tset_below HB4.out (Nat.le_refl _) _, .inr (.inl ⟨3, hE.out, rfl⟩)⟩
            · skip
              by_cases hA : A > 100
              · skip
                have hE : Hid (ivlT d l i = (true, .error 2)) := by show _ = _; rw [HY.out, HMa.out, HMm.out]; rw [if_neg (fun hh => hc hh.2), if_pos (Or.inl hA)]
                obtain ⟨m0, m1, m2, m3, m4, m5, m6, m7⟩ := tok_cells HN4.out
                have fr0 := tok_free HN4.out
                go_wp2
                exact ret_t3 (N := w.heap.size) (t0 := {}) (W := w4) (t := {}) (k := 0) (z := 2) (y := true) rfl rfl rfl rfl rfl HN4.out ⟨tset_below HB4.out (Nat.le_refl _) _, .inr (.inl ⟨2, hE.out, rfl⟩)⟩
              · skip
                by_cases hB : mo > 100
                · skip
                  have hE : Hid (ivlT d l i = (true, .error 2)) := by show _ = _; rw [HY.out, HMa.out, HMm.out]; rw [if_neg (fun hh => hc hh.2), if_pos (Or.inr hB)]
                  obtain ⟨m0, m1, m2, m3, m4, m5, m6, m7⟩ := tok_cells HN4.out
                  have fr0 := tok_free HN4.out
                  go_wp2
                  exact ret_t3 (N := w.heap.size) (t0 := {}) (W := w4) (t := {}) (k := 0) (z := 2) (y := true) rfl rfl rfl rfl rfl HN4.out ⟨tset_below HB4.out (Nat.le_refl _) _, .inr (.inl ⟨2, hE.out, rfl⟩)⟩
                · skip
                  have hE : Hid (ivlT d l i = (true, .ok (repT d l (j2 + 1) A mo))) := by show _ = _; rw [HY.out, HMa.out, HMm.out]; rw [if_neg (fun hh => hc hh.2), if_neg (by omega)]
                  have HRq := hide (HRp.out d A mo (j2 + 1) (by omega) w4 HB4.out)
                  rw [show (((j2 + 1 : Nat)) : Int) = (j2 : Int) + 1 from by omega] at HRq
                  obtain ⟨rt, hrt⟩ : ∃ rt, rt = repT d l (j2 + 1) A mo := ⟨_, rfl⟩
                  rw [← hrt] at HRq hE
                  clear hrt
                  obtain ⟨t, kk⟩ := rt
                  simp only [tokV] at HRq
                  go_wp2_with fail
                  refine HRq.out.mono ?_
                  rintro e w5 ⟨rfl, hb5⟩
                  have HB5 := hide (HB4.out.trans (hb5.mono HB4.out.size))
                  have HN5 := hide (below_at hb5 HN4.out)
                  have HW5 : Hid (w.heap.size < w5.heap.size) := lt_of_block HN5.out
                  clear hb5
                  go_upto_region 30 with fail
                  obtain ⟨w6, hw6⟩ : ∃ w6, w6 = w5.alloc (tokO t) := ⟨_, rfl⟩
                  have hM6 : w6.heap[w5.heap.size]? = some (tokO t) := by rw [hw6]; exact at_new _ _
                  have HN6 : Hid (w6.heap[w.heap.size]? = some (tokO {})) := by show _ = _; rw [hw6]; exact at_old HN5.out
                  have HB6 : Hid (Below w.heap.size w w6) := by show Below _ _ _; rw [hw6]; exact HB5.out.alloc (Nat.le_of_lt HW5.out) _
                  simp only [tokO] at hw6
                  rw [← hw6]
                  clear hw6
                  obtain ⟨n0, n1, n2, n3, n4, n5, n6, n7⟩ := tok_cells hM6
                  obtain ⟨m0, m1, m2, m3, m4, m5, m6, m7⟩ := tok_cells HN6.out
                  have fr0 := tok_free HN6.out
                  obtain ⟨M, hM⟩ : ∃ M, M = w5.heap.size := ⟨_, rfl⟩
                  rw [← hM] at n0 n1 n2 n3 n4 n5 n6 n7 ⊢
                  clear hM hM6
                  go_wp2
                  exact ret_t3 (N := w.heap.size) (t0 := {}) (W := w6) (t := t) (k := (kk : Int)) (z := 0) (y := true) rfl rfl rfl rfl rfl HN6.out ⟨tset_below HB6.out (Nat.le_refl _) _, .inr (.inr ⟨t, kk, hE.out, rfl⟩)⟩
          | false =>
            have HMa : Hid ((digs 10 3 l i).1 = A) := by show _ = _; rw [HM.out.a]
            have HMm : Hid ((midT l i).1 = (-1)) := by show _ = _; rw [HM.out.most hne.out]; rfl
            by_cases hA : A > 100
            · skip
              have hE : Hid (ivlT d l i = (true, .error 2)) := by show _ = _; rw [HY.out, HMa.out, HMm.out]; rw [if_neg (fun hh => hh.1 rfl), if_pos (Or.inl hA)]
              obtain ⟨m0, m1, m2, m3, m4, m5, m6, m7⟩ := tok_cells HN4.out
              have fr0 := tok_free HN4.out
              go_wp2
              exact ret_t3 (N := w.heap.size) (t0 := {}) (W := w4) (t := {}) (k := 0) (z := 2) (y := true) rfl rfl rfl rfl rfl HN4.out ⟨tset_below HB4.out (Nat.le_refl _) _, .inr (.inl ⟨2, hE.out, rfl⟩)⟩
            · skip
              have hE : Hid (ivlT d l i = (true, .ok (repT d l (j2 + 1) A (-1)))) := by show _ = _; rw [HY.out, HMa.out, HMm.out]; rw [if_neg (fun hh => hh.1 rfl), if_neg (by omega)]
              have HRq := hide (HRp.out d A (-1) (j2 + 1) (by omega) w4 HB4.out)
              rw [show (((j2 + 1 : Nat)) : Int) = (j2 : Int) + 1 from by omega] at HRq
              obtain ⟨rt, hrt⟩ : ∃ rt, rt = repT d l (j2 + 1) A (-1) := ⟨_, rfl⟩
              rw [← hrt] at HRq hE
              clear hrt
              obtain ⟨t, kk⟩ := rt
              simp only [tokV] at HRq
              go_wp2_with fail
              refine HRq.out.mono ?_
              rintro e w5 ⟨rfl, hb5⟩
              have HB5 := hide (HB4.out.trans (hb5.mono HB4.out.size))
              have HN5 := hide (below_at hb5 HN4.out)
              have HW5 : Hid (w.heap.size < w5.heap.size) := lt_of_block HN5.out
              clear hb5
              go_upto_region 30 with fail
              obtain ⟨w6, hw6⟩ : ∃ w6, w6 = w5.alloc (tokO t) := ⟨_, rfl⟩
              have hM6 : w6.heap[w5.heap.size]? = some (tokO t) := by rw [hw6]; exact at_new _ _
              have HN6 : Hid (w6.heap[w.heap.size]? = some (tokO {})) := by show _ = _; rw [hw6]; exact at_old HN5.out
              have HB6 : Hid (Below w.heap.size w w6) := by show Below _ _ _; rw [hw6]; exact HB5.out.alloc (Nat.le_of_lt HW5.out) _
              simp only [tokO] at hw6
              rw [← hw6]
              clear hw6
              obtain ⟨n0, n1, n2, n3, n4, n5, n6, n7⟩ := tok_cells hM6
              obtain ⟨m0, m1, m2, m3, m4, m5, m6, m7⟩ := tok_cells HN6.out
              have fr0 := tok_free HN6.out
              obtain ⟨M, hM⟩ : ∃ M, M = w5.heap.size := ⟨_, rfl⟩
              rw [← hM] at n0 n1 n2 n3 n4 n5 n6 n7 ⊢
              clear hM hM6
              go_wp2
              exact ret_t3 (N := w.heap.size) (t0 := {}) (W := w6) (t := t) (k := (kk : Int)) (z := 0) (y := true) rfl rfl rfl rfl rfl HN6.out ⟨tset_below HB6.out (Nat.le_refl _) _, .inr (.inr ⟨t, kk, hE.out, rfl⟩)⟩
      | false =>
        cases sec with
        | false =>
          have hE : Hid ((ivlT d l i).1 = false) := ivl_no0 (HM.out.some.2 ⟨rfl, rfl⟩)

          obtain ⟨m0, m1, m2, m3, m4, m5, m6, m7⟩ := tok_cells HN3.out
          have fr0 := tok_free HN3.out
          go_wp2
          exact ret_t3 (N := w.heap.size) (t0 := {}) (W := w3) (t := {}) (k := 0) (z := 0) (y := false) rfl rfl rfl rfl rfl HN3.out ⟨tset_below HB3.out (Nat.le_refl _) _, .inl ⟨hE.out, rfl⟩⟩
        | true =>
          have hne : Hid ((midT l i).2.1 ≠ 0) := fun h0 => by have := HM.out.some.1 h0; simp at this
          go_wp2_with fail
          refine (HSy.out j2 (by omega) w3 HB3.out).mono ?_
          rintro e w4 ⟨rfl, hb4⟩
          have HB4 := hide (HB3.out.trans (hb4.mono HB3.out.size))
          have HN4 := hide (below_at hb4 HN3.out)
          clear hb4
          cases h125 : says l j2 [125] with
          | false =>
            have hE : Hid ((ivlT d l i).1 = false) := ivl_no HDn.out (by rw [HM.out.at', h125])
            clear h125

            obtain ⟨m0, m1, m2, m3, m4, m5, m6, m7⟩ := tok_cells HN4.out
            have fr0 := tok_free HN4.out
            go_wp2
            exact ret_t3 (N := w.heap.size) (t0 := {}) (W := w4) (t := {}) (k := 0) (z := 0) (y := false) rfl rfl rfl rfl rfl HN4.out ⟨tset_below HB4.out (Nat.le_refl _) _, .inl ⟨hE.out, rfl⟩⟩
          | true =>
            have HY := hide (ivl_yes HDn.out hne.out (by rw [HM.out.at', h125]))
            rw [HM.out.at'] at HY
            clear h125
            cases e with
            | true =>
              have HMa : Hid ((digs 10 3 l i).1 = 0) := by show _ = _; rw [HM.out.a]; exact HM.out.zero rfl
              have HMm : Hid ((midT l i).1 = mo) := by show _ = _; rw [HM.out.most hne.out]; rfl
              have hc : ¬ mo < 0 := by omega
              by_cases hB : mo > 100
              · skip
                have hE : Hid (ivlT d l i = (true, .error 2)) := by show _ = _; rw [HY.out, HMa.out, HMm.out]; rw [if_neg (fun hh => hc hh.2), if_pos (Or.inr hB)]
                obtain ⟨m0, m1, m2, m3, m4, m5, m6, m7⟩ := tok_cells HN4.out
                have fr0 := tok_free HN4.out
                go_wp2
                exact ret_t3 (N := w.heap.size) (t0 := {}) (W := w4) (t := {}) (k := 0) (z := 2) (y := true) rfl rfl rfl rfl rfl HN4.out ⟨tset_below HB4.out (Nat.le_refl _) _, .inr (.inl ⟨2, hE.out, rfl⟩)⟩
              · skip
                have hE : Hid (ivlT d l i = (true, .ok (repT d l (j2 + 1) 0 mo))) := by show _ = _; rw [HY.out, HMa.out, HMm.out]; rw [if_neg (fun hh => hc hh.2), if_neg (by omega)]
                have HRq := hide (HRp.out d 0 mo (j2 + 1) (by omega) w4 HB4.out)
                rw [show (((j2 + 1 : Nat)) : Int) = (j2 : Int) + 1 from by omega] at HRq
                obtain ⟨rt, hrt⟩ : ∃ rt, rt = repT d l (j2 + 1) 0 mo := ⟨_, rfl⟩
                rw [← hrt] at HRq hE
                clear hrt
                obtain ⟨t, kk⟩ := rt
                simp only [tokV] at HRq
                go_wp2_with fail
                refine HRq.out.mono ?_
                rintro e w5 ⟨rfl, hb5⟩
                have HB5 := hide (HB4.out.trans (hb5.mono HB4.out.size))
                have HN5 := hide (below_at hb5 HN4.out)
                have HW5 : Hid (w.heap.size < w5.heap.size) := lt_of_block HN5.out
                clear hb5
                go_upto_region 30 with fail
                obtain ⟨w6, hw6⟩ : ∃ w6, w6 = w5.alloc (tokO t) := ⟨_, rfl⟩
                have hM6 : w6.heap[w5.heap.size]? = some (tokO t) := by rw [hw6]; exact at_new _ _
                have HN6 : Hid (w6.heap[w.heap.size]? = some (tokO {})) := by show _ = _; rw [hw6]; exact at_old HN5.out
                have HB6 : Hid (Below w.heap.size w w6) := by show Below _ _ _; rw [hw6]; exact HB5.out.alloc (Nat.le_of_lt HW5.out) _
                simp only [tokO] at hw6
                rw [← hw6]
                clear hw6
                obtain ⟨n0, n1, n2, n3, n4, n5, n6, n7⟩ := tok_cells hM6
                obtain ⟨m0, m1, m2, m3, m4, m5, m6, m7⟩ := tok_cells HN6.out
                have fr0 := tok_free HN6.out
                obtain ⟨M, hM⟩ : ∃ M, M = w5.heap.size := ⟨_, rfl⟩
                rw [← hM] at n0 n1 n2 n3 n4 n5 n6 n7 ⊢
                clear hM hM6
                go_wp2
                exact ret_t3 (N := w.heap.size) (t0 := {}) (W := w6) (t := t) (k := (kk : Int)) (z := 0) (y := true) rfl rfl rfl rfl rfl HN6.out ⟨tset_below HB6.out (Nat.le_refl _) _, .inr (.inr ⟨t, kk, hE.out, rfl⟩)⟩
            | false =>
              have HMa : Hid ((digs 10 3 l i).1 = 0) := by show _ = _; rw [HM.out.a]; exact HM.out.zero rfl
              have HMm : Hid ((midT l i).1 = (-1)) := by show _ = _; rw [HM.out.most hne.out]; rfl
              have hE : Hid (ivlT d l i = (true, .ok (repT d l (j2 + 1) 0 (-1)))) := by show _ = _; rw [HY.out, HMa.out, HMm.out]; rw [if_neg (fun hh => hh.1 rfl), if_neg (by omega)]
              have HRq := hide (HRp.out d 0 (-1) (j2 + 1) (by omega) w4 HB4.out)
              rw [show (((j2 + 1 : Nat)) : Int) = (j2 : Int) + 1 from by omega] at HRq
              obtain ⟨rt, hrt⟩ : ∃ rt, rt = repT d l (j2 + 1) 0 (-1) := ⟨_, rfl⟩
              rw [← hrt] at HRq hE
              clear hrt
              obtain ⟨t, kk⟩ := rt
              simp only [tokV] at HRq
              go_wp2_with fail
              refine HRq.out.mono ?_
              rintro e w5 ⟨rfl, hb5⟩
              have HB5 := hide (HB4.out.trans (hb5.mono HB4.out.size))
              have HN5 := hide (below_at hb5 HN4.out)
              have HW5 : Hid (w.heap.size < w5.heap.size) := lt_of_block HN5.out
              clear hb5
              go_upto_region 30 with fail
              obtain ⟨w6, hw6⟩ : ∃ w6, w6 = w5.alloc (tokO t) := ⟨_, rfl⟩
              have hM6 : w6.heap[w5.heap.size]? = some (tokO t) := by rw [hw6]; exact at_new _ _
              have HN6 : Hid (w6.heap[w.heap.size]? = some (tokO {})) := by show _ = _; rw [hw6]; exact at_old HN5.out
              have HB6 : Hid (Below w.heap.size w w6) := by show Below _ _ _; rw [hw6]; exact HB5.out.alloc (Nat.le_of_lt HW5.out) _
              simp only [tokO] at hw6
              rw [← hw6]
              clear hw6
              obtain ⟨n0, n1, n2, n3, n4, n5, n6, n7⟩ := tok_cells hM6
              obtain ⟨m0, m1, m2, m3, m4, m5, m6, m7⟩ := tok_cells HN6.out
              have fr0 := tok_free HN6.out
              obtain ⟨M, hM⟩ : ∃ M, M = w5.heap.size := ⟨_, rfl⟩
              rw [← hM] at n0 n1 n2 n3 n4 n5 n6 n7 ⊢
              clear hM hM6
              go_wp2
              exact ret_t3 (N := w.heap.size) (t0 := {}) (W := w6) (t := t) (k := (kk : Int)) (z := 0) (y := true) rfl rfl rfl rfl rfl HN6.out ⟨tset_below HB6.out (Nat.le_refl _) _, .inr (.inr ⟨t, kk, hE.out, rfl⟩)⟩

end Go.Proofs.Ytlapnhjkhpgklaa
