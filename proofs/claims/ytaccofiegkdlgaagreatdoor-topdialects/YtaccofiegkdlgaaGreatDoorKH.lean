import Derived.Test.YtaccofiegkdlgaaGreatDoorKG
import Derived.Maps.Keyed
namespace Go.Proofs.YtaccofiegkdlgaaGreatDoor.TK
set_option maxHeartbeats 4000000
open Go.RowKit
set_option linter.unusedVariables false
theorem classTok_any (n : ByteArray) (g : Bool) (w : World) : Calls Tryz.prog 58 #[.agg #[.string n, .bool g]] w fun e w' => e = .returned (tokV (classT (n, g))) ∧ Below w.heap.size w w' := by
 go_enter Tryz.func58, Tryz.ntmps58
 go_wp21
 go_wp21
 exact ret_tok (N := w.heap.size + 1) (t := classT (n, g)) rfl rfl (at_new' _ _ (by simp)) ⟨rfl, ((Below.refl _ _).alloc (Nat.le_refl _) _).alloc (by simp) _⟩
theorem control_any (p : Int) (w : World) : Calls Tryz.prog 63 #[.int .i64 p] w fun e w' => (∃ q, ctlT p = .ok q ∧ e = .returned (.int .i64 q) ∧ w = w') ∨ (ctlT p = .error 1 ∧ e = gives 1 ∧ w = w') := by
 by_cases hp110 : p = 110
 ·subst hp110
  go_enter Tryz.func63, Tryz.ntmps63
  go_wp2
  go_ret
  exact .inl ⟨10, by simp [ctlT], rfl, rfl⟩
 by_cases hp116 : p = 116
 ·subst hp116
  go_enter Tryz.func63, Tryz.ntmps63
  go_wp2
  go_ret
  exact .inl ⟨9, by simp [ctlT], rfl, rfl⟩
 by_cases hp114 : p = 114
 ·subst hp114
  go_enter Tryz.func63, Tryz.ntmps63
  go_wp2
  go_ret
  exact .inl ⟨13, by simp [ctlT], rfl, rfl⟩
 by_cases hp102 : p = 102
 ·subst hp102
  go_enter Tryz.func63, Tryz.ntmps63
  go_wp2
  go_ret
  exact .inl ⟨12, by simp [ctlT], rfl, rfl⟩
 by_cases hp118 : p = 118
 ·subst hp118
  go_enter Tryz.func63, Tryz.ntmps63
  go_wp2
  go_ret
  exact .inl ⟨11, by simp [ctlT], rfl, rfl⟩
 by_cases hp97 : p = 97
 ·subst hp97
  go_enter Tryz.func63, Tryz.ntmps63
  go_wp2
  go_ret
  exact .inl ⟨7, by simp [ctlT], rfl, rfl⟩
 by_cases hp101 : p = 101
 ·subst hp101
  go_enter Tryz.func63, Tryz.ntmps63
  go_wp2
  go_ret
  exact .inl ⟨27, by simp [ctlT], rfl, rfl⟩
 have hq110 : (p == 110) = false := by simpa using hp110
 have hq116 : (p == 116) = false := by simpa using hp116
 have hq114 : (p == 114) = false := by simpa using hp114
 have hq102 : (p == 102) = false := by simpa using hp102
 have hq118 : (p == 118) = false := by simpa using hp118
 have hq97 : (p == 97) = false := by simpa using hp97
 have hq101 : (p == 101) = false := by simpa using hp101
 have HL := hide (isLetter_any p w)
 cases hl : letB p with
 | true =>
  rw [hl] at HL
  have hE : Hid (ctlT p = .error 1) := by show _ = _; unfold ctlT; simp [hp110, hp116, hp114, hp102, hp118, hp97, hp101, hl]
  clear hl
  go_enter Tryz.func63, Tryz.ntmps63
  go_wp2_with fail
  refine HL.out.mono ?_
  rintro e w' ⟨rfl, rfl⟩
  go_wp2
  exact ⟨rfl, .inr ⟨hE.out, rfl, rfl⟩⟩
 | false =>
  rw [hl] at HL
  by_cases hp48 : p = 48
  ·subst hp48
   have hE : Hid (ctlT 48 = .error 1) := by show _ = _; unfold ctlT; simp
   clear hl
   go_enter Tryz.func63, Tryz.ntmps63
   go_wp2_with fail
   refine HL.out.mono ?_
   rintro e w' ⟨rfl, rfl⟩
   go_wp2
   exact ⟨rfl, .inr ⟨hE.out, rfl, rfl⟩⟩
  ·have hq48 : (p == 48) = false := by simpa using hp48
   have hE : Hid (ctlT p = .ok p) := by show _ = _; unfold ctlT; simp [hp110, hp116, hp114, hp102, hp118, hp97, hp101, hl, hp48]
   clear hl
   go_enter Tryz.func63, Tryz.ntmps63
   go_wp2_with fail
   refine HL.out.mono ?_
   rintro e w' ⟨rfl, rfl⟩
   go_wp2
   go_ret
   exact .inl ⟨p, hE.out, rfl, rfl⟩
theorem hex_is {b : Nat} {x : Addr} {c : Nat} {l : List Int} {i : Nat} {d : Int} {least most k : Nat} {n : Int} (w : World) (h : RB w b x c l i d) (hm : most ≤ 6) (hl : least ≤ 6) (he : digs 16 most l i = (n, k)) (hk : least ≤ k) :
  Calls Tryz.prog 60 #[.pointer (some ⟨b, 0, none⟩), .int .i64 least, .int .i64 most] w fun e w' => e = .returned (.int .i64 n) ∧ RB w' b x c l (i + k) d ∧ Mv b w w' := by
 have := hex_yes least most w h hm hl (by rw [he]; exact hk)
 rw [he] at this
 exact this
theorem hex_not {b : Nat} {x : Addr} {c : Nat} {l : List Int} {i : Nat} {d : Int} {least most k : Nat} {n : Int} (w : World) (h : RB w b x c l i d) (hm : most ≤ 6) (hl : least ≤ 6) (he : digs 16 most l i = (n, k)) (hk : k < least) :
  Calls Tryz.prog 60 #[.pointer (some ⟨b, 0, none⟩), .int .i64 least, .int .i64 most] w fun e w' => e = gives 1 ∧ Mv b w w' :=
 hex_no least most w h hm hl (by rw [he]; exact hk)
theorem hexPoint_any {b : Nat} {x : Addr} {c : Nat} {l : List Int} {i : Nat} {d : Int} (w : World) (h : RB w b x c l i d) : Calls Tryz.prog 59 #[.pointer (some ⟨b, 0, none⟩)] w fun e w' => OutT b x c l d w (hexT l i) e w' := by
 have hlt := h.lt
 have hxw := h.xw
 have hat := h.at'
 have hw0 := h.alloc (tokO {})
 cases hs : says l i [123] with
 | false =>
  have HS := hide (skip_no _ hw0 123 hs)
  obtain ⟨n, k, he, hr0⟩ := digs_spec 16 2 l i hat (Or.inr rfl)
  by_cases hk : k < 1
  ·have HX := hide (fun w1 (h1 : RB w1 b x c l i d) => hex_not (least := 1) w1 h1 (by omega) (by omega) he hk)
   have hE : Hid (hexT l i = .error 1) := by show _ = _; unfold hexT; rw [if_pos hs]; simp only [he]; rw [if_pos hk]
   clear hs h hw0 he hr0 hk
   go_enter Tryz.func59, Tryz.ntmps59
   go_wp2_with fail
   simp only [tokO, World.size_alloc] at HS
   refine HS.out.mono ?_
   rintro e w1 ⟨rfl, hr1, hm1⟩
   go_wp2_with fail
   refine (HX.out w1 hr1).mono ?_
   rintro e w2 ⟨rfl, hm2⟩
   have hm := hm1.trans hm2
   have HMM := hide hm
   clear hm HS HX hr1 hm1 hm2
   simp only [gives]
   go_wp2
   exact ⟨rfl, .inr ⟨1, hE.out, rfl, ((Mv.refl b w).alloc _).trans HMM.out⟩⟩
  ·have HX := hide (fun w1 (h1 : RB w1 b x c l i d) => hex_is (least := 1) w1 h1 (by omega) (by omega) he (by omega))
   have hE : Hid (hexT l i = .ok (pointT n, i + k)) := by show _ = _; unfold hexT; rw [if_pos hs]; simp only [he]; rw [if_neg hk]
   clear hs h hw0 he hr0 hk
   go_enter Tryz.func59, Tryz.ntmps59
   go_wp2_with fail
   simp only [tokO, World.size_alloc] at HS
   refine HS.out.mono ?_
   rintro e w1 ⟨rfl, hr1, hm1⟩
   go_wp2_with fail
   refine (HX.out w1 hr1).mono ?_
   rintro e w2 ⟨rfl, hr2, hm2⟩
   go_wp2_with fail
   refine (point_any n w2).mono ?_
   rintro e w3 ⟨rfl, hb3⟩
   have hr := hr2.keep hb3
   have hm := (hm1.trans hm2).trans (Mv.of_below hb3)
   have hN : w3.heap[w.heap.size]? = some (tokO {}) := hm.blockAt (at_new _ _) (by omega)
   obtain ⟨m0, m1, m2, m3, m4, m5, m6, m7⟩ := tok_cells hN
   have fr0 := tok_free hN
   have hq0 : w.heap.size < w3.heap.size := lt_of_block hN
   have hq1 : ¬ w.heap.size = w3.heap.size := by omega
   have hq2 : ¬ w3.heap.size = w.heap.size := by omega
   have HRR := hide hr
   have HMM := hide hm
   clear hr hm HS HX hr1 hm1 hr2 hm2 hb3
   simp only [tokV, pointT]
   go_wp21
   go_wp21
   go_wp21
   exact ret_tok (N := w.heap.size) rfl rfl (tok_set hN (pointT n)) (.inl ⟨(pointT n), (i + k), hE.out, rfl, HRR.out.tok (by omega) (by omega) _ _ _ _ _ _ _ _, Mv.tok (((Mv.refl b w).alloc _).trans HMM.out) (Nat.le_refl _) _ _ _ _ _ _ _ _⟩)
 | true =>
  have HS := hide (skip_yes _ hw0 123 hs)
  have hin := says_len hs (by simp)
  obtain ⟨n, k, he, hr0⟩ := digs_spec 16 6 l (i + 1) (by simpa using hin) (Or.inr rfl)
  have hnb := digR_bound hr0 (by omega)
  by_cases hk : k < 1
  ·have HX := hide (fun w1 (h1 : RB w1 b x c l (i + 1) d) => hex_not (least := 1) w1 h1 (by omega) (by omega) he hk)
   have hE : Hid (hexT l i = .error 1) := by show _ = _; unfold hexT; rw [if_neg (by rw [hs]; simp)]; simp only [he]; rw [if_pos hk]
   clear hs h hw0 he hr0 hk hin
   go_enter Tryz.func59, Tryz.ntmps59
   go_wp2_with fail
   simp only [tokO, World.size_alloc] at HS
   refine HS.out.mono ?_
   rintro e w1 ⟨rfl, hr1, hm1⟩
   go_wp2_with fail
   refine (HX.out w1 hr1).mono ?_
   rintro e w2 ⟨rfl, hm2⟩
   have hm := hm1.trans hm2
   have HMM := hide hm
   clear hm HS HX hr1 hm1 hm2
   simp only [gives]
   go_wp2
   exact ⟨rfl, .inr ⟨1, hE.out, rfl, ((Mv.refl b w).alloc _).trans HMM.out⟩⟩
  ·have HX := hide (fun w1 (h1 : RB w1 b x c l (i + 1) d) => hex_is (least := 1) w1 h1 (by omega) (by omega) he (by omega))
   have hE0 : Hid (hexT l i = (if says l (i + 1 + k) [125] = false then .error 1 else if n > 1114111 then .error 3 else .ok (pointT n, i + 1 + k + 1))) := by show _ = _; unfold hexT; rw [if_neg (by rw [hs]; simp)]; simp only [he]; rw [if_neg hk]
   clear hs h hw0 he hr0 hk hin
   cases hs2 : says l (i + 1 + k) [125] with
   | false =>
    have HM2 := hide (fun w1 (h1 : RB w1 b x c l (i + 1 + k) d) => must_no 125 w1 h1 hs2)
    have hE : Hid (hexT l i = .error 1) := by show _ = _; rw [hE0.out, if_pos hs2]
    clear hs2 hE0
    go_enter Tryz.func59, Tryz.ntmps59
    go_wp2_with fail
    simp only [tokO, World.size_alloc] at HS
    refine HS.out.mono ?_
    rintro e w1 ⟨rfl, hr1, hm1⟩
    go_wp2_with fail
    refine (HX.out w1 hr1).mono ?_
    rintro e w2 ⟨rfl, hr2, hm2⟩
    go_wp2_with fail
    refine (HM2.out w2 hr2).mono ?_
    rintro e w3 ⟨rfl, hm3⟩
    have hm := (hm1.trans hm2).trans hm3
    have HMM := hide hm
    clear hm HS HX HM2 hr1 hm1 hr2 hm2 hm3
    simp only [gives]
    go_wp2
    exact ⟨rfl, .inr ⟨1, hE.out, rfl, ((Mv.refl b w).alloc _).trans HMM.out⟩⟩
   | true =>
    have HM2 := hide (fun w1 (h1 : RB w1 b x c l (i + 1 + k) d) => must_yes 125 w1 h1 hs2)
    by_cases hbig : n > 1114111
    ·have hE : Hid (hexT l i = .error 3) := by show _ = _; rw [hE0.out, if_neg (by rw [hs2]; simp), if_pos hbig]
     have hbig' : 1114111 < n := hbig
     clear hs2 hE0 hbig
     go_enter Tryz.func59, Tryz.ntmps59
     go_wp2_with fail
     simp only [tokO, World.size_alloc] at HS
     refine HS.out.mono ?_
     rintro e w1 ⟨rfl, hr1, hm1⟩
     go_wp2_with fail
     refine (HX.out w1 hr1).mono ?_
     rintro e w2 ⟨rfl, hr2, hm2⟩
     go_wp2_with fail
     refine (HM2.out w2 hr2).mono ?_
     rintro e w3 ⟨rfl, hr3, hm3⟩
     have hm := (hm1.trans hm2).trans hm3
     have HMM := hide hm
     clear hm HS HX HM2 hr1 hm1 hr2 hm2 hr3 hm3
     simp only
     go_wp2
     exact ⟨rfl, .inr ⟨3, hE.out, rfl, ((Mv.refl b w).alloc _).trans HMM.out⟩⟩
    ·have hE : Hid (hexT l i = .ok (pointT n, i + 1 + k + 1)) := by show _ = _; rw [hE0.out, if_neg (by rw [hs2]; simp), if_neg hbig]
     have hbig' : ¬ 1114111 < n := hbig
     clear hs2 hE0 hbig
     go_enter Tryz.func59, Tryz.ntmps59
     go_wp2_with fail
     simp only [tokO, World.size_alloc] at HS
     refine HS.out.mono ?_
     rintro e w1 ⟨rfl, hr1, hm1⟩
     go_wp2_with fail
     refine (HX.out w1 hr1).mono ?_
     rintro e w2 ⟨rfl, hr2, hm2⟩
     go_wp2_with fail
     refine (HM2.out w2 hr2).mono ?_
     rintro e w3 ⟨rfl, hr3, hm3⟩
     go_wp2_with fail
     refine (point_any n w3).mono ?_
     rintro e w4 ⟨rfl, hb4⟩
     have hr := hr3.keep hb4
     have hm := ((hm1.trans hm2).trans hm3).trans (Mv.of_below hb4)
     have hN : w4.heap[w.heap.size]? = some (tokO {}) := hm.blockAt (at_new _ _) (by omega)
     obtain ⟨m0, m1, m2, m3, m4, m5, m6, m7⟩ := tok_cells hN
     have fr0 := tok_free hN
     have hq0 : w.heap.size < w4.heap.size := lt_of_block hN
     have hq1 : ¬ w.heap.size = w4.heap.size := by omega
     have hq2 : ¬ w4.heap.size = w.heap.size := by omega
     have HRR := hide hr
     have HMM := hide hm
     clear hr hm HS HX HM2 hr1 hm1 hr2 hm2 hr3 hm3 hb4
     simp only [tokV, pointT]
     go_wp21
     go_wp21
     go_wp21
     exact ret_tok (N := w.heap.size) rfl rfl (tok_set hN (pointT n)) (.inl ⟨(pointT n), (i + 1 + k + 1), hE.out, rfl, HRR.out.tok (by omega) (by omega) _ _ _ _ _ _ _ _, Mv.tok (((Mv.refl b w).alloc _).trans HMM.out) (Nat.le_refl _) _ _ _ _ _ _ _ _⟩)
theorem againDigits_any {b : Nat} {x : Addr} {c : Nat} {l : List Int} {i : Nat} {d : Int} (n : Int) (w : World) (h : RB w b x c l i d) (n0 : 0 ≤ n) (n1 : n ≤ 9) : Calls Tryz.prog 62 #[.pointer (some ⟨b, 0, none⟩), .int .i64 n] w fun e w' => OutT b x c l d w (.ok (agdT l i n)) e w' := by
 have hlt := h.lt
 have hxw := h.xw
 have hat := h.at'
 have hw0 := h.alloc (tokO {})
 obtain ⟨m, k, he, hr0⟩ := digs_spec 10 1 l i hat (Or.inl rfl)
 have HD := hide (digits_is _ hw0 (Or.inl rfl) (by omega) he)
 have hk1 := hr0.k1
 have hm0 := hr0.n0
 have hmb := digR_bound hr0 (by omega)
 by_cases hk : k = 1
 ·subst hk
  have hE : Hid ((.ok (agdT l i n) : RT) = .ok (againT (n * 10 + m), i + 1)) := by show _ = _; unfold agdT; simp [he]
  clear h hw0 he hr0
  go_enter Tryz.func62, Tryz.ntmps62
  go_wp2_with fail
  simp only [tokO] at HD
  refine HD.out.mono ?_
  rintro e w1 ⟨rfl, hr1, hm1⟩
  go_wp2_with fail
  refine (again_any (n * 10 + m) w1).mono ?_
  rintro e w2 ⟨rfl, hb2⟩
  have hr := hr1.keep hb2
  have hm := hm1.trans (Mv.of_below hb2)
  have hN : w2.heap[w.heap.size]? = some (tokO {}) := hm.blockAt (at_new _ _) (by omega)
  obtain ⟨m0, m1, m2, m3, m4, m5, m6, m7⟩ := tok_cells hN
  have fr0 := tok_free hN
  have hq0 : w.heap.size < w2.heap.size := lt_of_block hN
  have hq1 : ¬ w.heap.size = w2.heap.size := by omega
  have hq2 : ¬ w2.heap.size = w.heap.size := by omega
  have HRR := hide hr
  have HMM := hide hm
  clear hr hm HD hr1 hm1 hb2
  simp only [tokV, againT]
  go_wp21
  go_wp21
  go_wp21
  exact ret_tok (N := w.heap.size) rfl rfl (tok_set hN (againT (n * 10 + m))) (.inl ⟨(againT (n * 10 + m)), (i + 1), hE.out, rfl, HRR.out.tok (by omega) (by omega) _ _ _ _ _ _ _ _, Mv.tok (((Mv.refl b w).alloc _).trans HMM.out) (Nat.le_refl _) _ _ _ _ _ _ _ _⟩)
 ·obtain rfl : k = 0 := by omega
  have hE : Hid ((.ok (agdT l i n) : RT) = .ok (againT n, i)) := by show _ = _; unfold agdT; simp only [he]; rw [if_neg (by omega)]
  clear h hw0 he hr0 hk
  go_enter Tryz.func62, Tryz.ntmps62
  go_wp2_with fail
  simp only [tokO] at HD
  refine HD.out.mono ?_
  rintro e w1 ⟨rfl, hr1, hm1⟩
  go_wp2_with fail
  refine (again_any n w1).mono ?_
  rintro e w2 ⟨rfl, hb2⟩
  have hr := hr1.keep hb2
  have hm := hm1.trans (Mv.of_below hb2)
  have hN : w2.heap[w.heap.size]? = some (tokO {}) := hm.blockAt (at_new _ _) (by omega)
  obtain ⟨m0, m1, m2, m3, m4, m5, m6, m7⟩ := tok_cells hN
  have fr0 := tok_free hN
  have hq0 : w.heap.size < w2.heap.size := lt_of_block hN
  have hq1 : ¬ w.heap.size = w2.heap.size := by omega
  have hq2 : ¬ w2.heap.size = w.heap.size := by omega
  have HRR := hide hr
  have HMM := hide hm
  clear hr hm HD hr1 hm1 hb2
  simp only [tokV, againT]
  go_wp21
  go_wp21
  go_wp21
  exact ret_tok (N := w.heap.size) rfl rfl (tok_set hN (againT n)) (.inl ⟨(againT n), i, hE.out, rfl, HRR.out.tok (by omega) (by omega) _ _ _ _ _ _ _ _, Mv.tok (((Mv.refl b w).alloc _).trans HMM.out) (Nat.le_refl _) _ _ _ _ _ _ _ _⟩)
end Go.Proofs.YtaccofiegkdlgaaGreatDoor.TK
namespace Go.Proofs.YtaccofiegkdlgaaGreatDoor.TK
set_option maxHeartbeats 16000000
open Go.RowKit
set_option linter.unusedVariables false
theorem byteA_ne {l : List Int} (h : l ≠ []) : (byteA l).toList.isEmpty = false := by
 rw [ByteArray.toList_eq]
 unfold byteA
 cases l with
 | nil => exact absurd rfl h
 | cons a t => rfl
theorem agb_yes {l : List Int} {i : Nat} (hs : says l i [60] = true) {back : Bool} (hb : says l (i + 1) [45] = back) {j : Nat} (hj : j = if back then i + 2 else i + 1) {n : Int} {k : Nat} (he : digs 10 3 l j = (n, k)) :
  agbT l i = (if 0 < k then (if says l (j + k) [62] = false then .error 1 else if n = 0 then .error 3 else .ok (againT (if back then -n else n), j + k + 1)) else if back then .error 1 else if nameL l j = [] then .error 1 else if says l (j + (nameL l j).length) [62] = false then .error 1 else .ok ({ kind := 10, text := byteA (nameL l j) }, j + (nameL l j).length + 1)) := by
 unfold agbT
 rw [if_neg (by rw [hs]; simp)]
 simp only [hb, ← hj, he]
theorem againBy_any {b : Nat} {x : Addr} {c : Nat} {l : List Int} {i : Nat} {d : Int} (w : World) (h : RB w b x c l i d) : Calls Tryz.prog 61 #[.pointer (some ⟨b, 0, none⟩)] w fun e w' => OutT b x c l d w (agbT l i) e w' := by
 have hlt := h.lt
 have hxw := h.xw
 have hat := h.at'
 have hw0 := h.alloc (tokO {})
 cases hs : says l i [60] with
 | false =>
  have HS := hide (must_no 60 _ hw0 hs)
  have hE : Hid (agbT l i = .error 1) := by show _ = _; unfold agbT; rw [if_pos hs]
  clear hs h hw0
  go_enter Tryz.func61, Tryz.ntmps61
  go_wp2_with fail
  simp only [tokO] at HS
  refine HS.out.mono ?_
  rintro e w1 ⟨rfl, hm⟩
  have HMM := hide hm
  clear hm HS
  simp only [gives]
  go_wp2
  exact ⟨rfl, .inr ⟨1, hE.out, rfl, ((Mv.refl b w).alloc _).trans HMM.out⟩⟩
 | true =>
  have HS := hide (must_yes 60 _ hw0 hs)
  have hin := says_len hs (by simp)
  obtain ⟨back, hbk⟩ : ∃ back, says l (i + 1) [45] = back := ⟨_, rfl⟩
  obtain ⟨j, hj⟩ : ∃ j, j = (if back then i + 2 else i + 1) := ⟨_, rfl⟩
  have hjl : j ≤ l.length := by
   rw [hj]
   split
   ·rename_i hb; rw [hb] at hbk; have := says_len hbk (by simp); simp at this; omega
   ·simpa using hin
  obtain ⟨n, k, he, hr0⟩ := digs_spec 10 3 l j hjl (Or.inl rfl)
  have HA := hide (agb_yes hs hbk hj he)
  have HS2 : Hid (∀ w1, RB w1 b x c l (i + 1) d → Calls Tryz.prog 50 #[.pointer (some ⟨b, 0, none⟩), .slice (some ⟨w1.heap.size, 0, none⟩) 1 1] (w1.alloc (.cells #[.int .i64 45] 3)) fun e w' => e = .returned (.bool back) ∧ RB w' b x c l j d ∧ Mv b w1 w') := fun w1 h1 => by
   have := skip1 w1 h1 45
   rw [hbk] at this
   rw [hj]
   exact this
  have HD := hide (fun w1 (h1 : RB w1 b x c l j d) => digits_is w1 h1 (Or.inl rfl) (show 3 ≤ 6 by omega) he)
  have hnb := digR_bound hr0 (by omega)
  have hn0 := hr0.n0
  have hk1 := hr0.k1
  clear hs h hw0 he hr0 hbk hj hin
  by_cases hkp : 0 < k
  ·have hki : (0 : Int) < (k : Int) := by omega
   cases back with
   | true =>
    go_enter Tryz.func61, Tryz.ntmps61
    go_wp2_with fail
    simp only [tokO] at HS
    refine HS.out.mono ?_
    rintro e w1 ⟨rfl, hr1, hm1⟩
    go_wp2_with fail
    refine (again_any 0 w1).mono ?_
    rintro e w2 ⟨rfl, hb2⟩
    have hr2 := hr1.keep hb2
    have hm2 := hm1.trans (Mv.of_below hb2)
    have hz2 : w.heap.size + 1 ≤ w2.heap.size := by have := hm2.size; simpa using this
    have hlt2 := hr2.lt
    have hxw2 := hr2.xw
    simp only [tokV, againT]
    have HS3 := hide (HS2.out _ (hr2.alloc (tokO (againT 0))))
    simp only [tokO, againT, World.size_alloc] at HS3
    clear hr1 hm1 hb2 HS HS2
    go_wp2_with fail
    refine HS3.out.mono ?_
    rintro e w3 ⟨rfl, hr3, hm3⟩
    go_wp2_with fail
    refine (HD.out w3 hr3).mono ?_
    rintro e w4 ⟨rfl, hr4, hm4⟩
    have hm24 := ((Mv.refl b w2).alloc (tokO (againT 0))).trans (hm3.trans hm4)
    have hT : w4.heap[w2.heap.size]? = some (tokO (againT 0)) := (hm3.trans hm4).blockAt (at_new _ _) (by omega)
    have hmA := hm2.trans hm24
    have frT := tok_free hT
    obtain ⟨n0, n1, n2, n3, n4, n5, n6, n7⟩ := tok_cells hT
    simp only [againT] at n0 n1 n2 n3 n4 n5 n6 n7
    clear HS3 HD hr2 hm2 hr3 hm3 hm4 hm24
    have hrX := hr4.other (p := ⟨w2.heap.size, 1, none⟩) (by simp; omega) (by simp; omega) (.int .i64 (-n))
    have hmX := hmA.setNew (p := ⟨w2.heap.size, 1, none⟩) (by simp; omega) (.int .i64 (-n))
    have HTX : Hid ((w4.setCell ⟨w2.heap.size, 1, none⟩ (.int .i64 (-n))).heap[w2.heap.size]? = some (tokO (againT (-n)))) := by
     show _ = _
     rw [set_one hT]
     simp [tokO, againT]
    clear hr4 hmA
    cases hs3 : says l (j + k) [62] with
    | false =>
     have hE : Hid (agbT l i = .error 1) := by show _ = _; rw [HA.out, if_pos hkp, if_pos hs3]
     have HM5 := hide (must_no 62 _ hrX hs3)
     clear hs3 hrX
     simp only []
     go_wp2_with fail
     refine HM5.out.mono ?_
     rintro e w9 ⟨rfl, hm9⟩
     have hm := hmX.trans hm9
     have HMM := hide hm
     clear hm hmX hm9 HM5
     simp only [gives]
     go_wp2
     exact ⟨rfl, .inr ⟨1, hE.out, rfl, ((Mv.refl b w).alloc _).trans HMM.out⟩⟩
    | true =>
     have HM5 := hide (must_yes 62 _ hrX hs3)
     by_cases hz : n = 0
     ·subst hz
      have hE : Hid (agbT l i = .error 3) := by show _ = _; rw [HA.out, if_pos hkp, if_neg (by rw [hs3]; simp), if_pos rfl]
      clear hs3 hrX
      simp only []
      go_wp2_with fail
      refine HM5.out.mono ?_
      rintro e w9 ⟨rfl, hr, hm9⟩
      have hm := hmX.trans hm9
      have hT9 := hm9.blockAt HTX.out (by omega)
      obtain ⟨p0, p1, p2, p3, p4, p5, p6, p7⟩ := tok_cells hT9
      try simp only [againT, Int.neg_zero] at p0 p1 p2 p3 p4 p5 p6 p7
      have HMM := hide hm
      clear hm hr hmX hm9 HM5
      simp only
      go_wp2
      exact ⟨rfl, .inr ⟨3, hE.out, rfl, ((Mv.refl b w).alloc _).trans HMM.out⟩⟩
     ·have hE : Hid (agbT l i = .ok ((againT (-n)), j + k + 1)) := by show _ = _; rw [HA.out, if_pos hkp, if_neg (by rw [hs3]; simp), if_neg hz]; rfl
      clear hs3 hrX
      have hzb : ((-n) == 0) = false := by simp; omega
      have hzc : ¬ (-n) = 0 := by omega
      simp only []
      go_wp2_with fail
      refine HM5.out.mono ?_
      rintro e w9 ⟨rfl, hr, hm9⟩
      have hm := hmX.trans hm9
      have hT9 := hm9.blockAt HTX.out (by omega)
      obtain ⟨p0, p1, p2, p3, p4, p5, p6, p7⟩ := tok_cells hT9
      try simp only [againT] at p0 p1 p2 p3 p4 p5 p6 p7
      have hN : w9.heap[w.heap.size]? = some (tokO {}) := hm.blockAt (at_new _ _) (by omega)
      obtain ⟨m0, m1, m2, m3, m4, m5, m6, m7⟩ := tok_cells hN
      have fr0 := tok_free hN
      have hq0 : w.heap.size < w9.heap.size := lt_of_block hN
      have hq1 : ¬ w.heap.size = w9.heap.size := by omega
      have hq2 : ¬ w9.heap.size = w.heap.size := by omega
      have HRR := hide hr
      have HMM := hide hm
      clear hr hm hmX hm9 HM5
      go_wp21
      go_wp21
      go_wp21
      exact ret_tok (N := w.heap.size) rfl rfl (tok_set hN (againT (-n))) (.inl ⟨(againT (-n)), (j + k + 1), hE.out, rfl, HRR.out.tok (by omega) (by omega) _ _ _ _ _ _ _ _, Mv.tok (((Mv.refl b w).alloc _).trans HMM.out) (Nat.le_refl _) _ _ _ _ _ _ _ _⟩)
   | false =>
    go_enter Tryz.func61, Tryz.ntmps61
    go_wp2_with fail
    simp only [tokO] at HS
    refine HS.out.mono ?_
    rintro e w1 ⟨rfl, hr1, hm1⟩
    go_wp2_with fail
    refine (again_any 0 w1).mono ?_
    rintro e w2 ⟨rfl, hb2⟩
    have hr2 := hr1.keep hb2
    have hm2 := hm1.trans (Mv.of_below hb2)
    have hz2 : w.heap.size + 1 ≤ w2.heap.size := by have := hm2.size; simpa using this
    have hlt2 := hr2.lt
    have hxw2 := hr2.xw
    simp only [tokV, againT]
    have HS3 := hide (HS2.out _ (hr2.alloc (tokO (againT 0))))
    simp only [tokO, againT, World.size_alloc] at HS3
    clear hr1 hm1 hb2 HS HS2
    go_wp2_with fail
    refine HS3.out.mono ?_
    rintro e w3 ⟨rfl, hr3, hm3⟩
    go_wp2_with fail
    refine (HD.out w3 hr3).mono ?_
    rintro e w4 ⟨rfl, hr4, hm4⟩
    have hm24 := ((Mv.refl b w2).alloc (tokO (againT 0))).trans (hm3.trans hm4)
    have hT : w4.heap[w2.heap.size]? = some (tokO (againT 0)) := (hm3.trans hm4).blockAt (at_new _ _) (by omega)
    have hmA := hm2.trans hm24
    have frT := tok_free hT
    obtain ⟨n0, n1, n2, n3, n4, n5, n6, n7⟩ := tok_cells hT
    simp only [againT] at n0 n1 n2 n3 n4 n5 n6 n7
    clear HS3 HD hr2 hm2 hr3 hm3 hm4 hm24
    have hrX := hr4.other (p := ⟨w2.heap.size, 1, none⟩) (by simp; omega) (by simp; omega) (.int .i64 (n))
    have hmX := hmA.setNew (p := ⟨w2.heap.size, 1, none⟩) (by simp; omega) (.int .i64 (n))
    have HTX : Hid ((w4.setCell ⟨w2.heap.size, 1, none⟩ (.int .i64 (n))).heap[w2.heap.size]? = some (tokO (againT (n)))) := by
     show _ = _
     rw [set_one hT]
     simp [tokO, againT]
    clear hr4 hmA
    cases hs3 : says l (j + k) [62] with
    | false =>
     have hE : Hid (agbT l i = .error 1) := by show _ = _; rw [HA.out, if_pos hkp, if_pos hs3]
     have HM5 := hide (must_no 62 _ hrX hs3)
     clear hs3 hrX
     simp only []
     go_wp2_with fail
     refine HM5.out.mono ?_
     rintro e w9 ⟨rfl, hm9⟩
     have hm := hmX.trans hm9
     have HMM := hide hm
     clear hm hmX hm9 HM5
     simp only [gives]
     go_wp2
     exact ⟨rfl, .inr ⟨1, hE.out, rfl, ((Mv.refl b w).alloc _).trans HMM.out⟩⟩
    | true =>
     have HM5 := hide (must_yes 62 _ hrX hs3)
     by_cases hz : n = 0
     ·subst hz
      have hE : Hid (agbT l i = .error 3) := by show _ = _; rw [HA.out, if_pos hkp, if_neg (by rw [hs3]; simp), if_pos rfl]
      clear hs3 hrX
      simp only []
      go_wp2_with fail
      refine HM5.out.mono ?_
      rintro e w9 ⟨rfl, hr, hm9⟩
      have hm := hmX.trans hm9
      have hT9 := hm9.blockAt HTX.out (by omega)
      obtain ⟨p0, p1, p2, p3, p4, p5, p6, p7⟩ := tok_cells hT9
      try simp only [againT] at p0 p1 p2 p3 p4 p5 p6 p7
      have HMM := hide hm
      clear hm hr hmX hm9 HM5
      simp only
      go_wp2
      exact ⟨rfl, .inr ⟨3, hE.out, rfl, ((Mv.refl b w).alloc _).trans HMM.out⟩⟩
     ·have hE : Hid (agbT l i = .ok ((againT (n)), j + k + 1)) := by show _ = _; rw [HA.out, if_pos hkp, if_neg (by rw [hs3]; simp), if_neg hz]; rfl
      clear hs3 hrX
      have hzb : ((n) == 0) = false := by simp; omega
      have hzc : ¬ (n) = 0 := by omega
      simp only []
      go_wp2_with fail
      refine HM5.out.mono ?_
      rintro e w9 ⟨rfl, hr, hm9⟩
      have hm := hmX.trans hm9
      have hT9 := hm9.blockAt HTX.out (by omega)
      obtain ⟨p0, p1, p2, p3, p4, p5, p6, p7⟩ := tok_cells hT9
      try simp only [againT] at p0 p1 p2 p3 p4 p5 p6 p7
      have hN : w9.heap[w.heap.size]? = some (tokO {}) := hm.blockAt (at_new _ _) (by omega)
      obtain ⟨m0, m1, m2, m3, m4, m5, m6, m7⟩ := tok_cells hN
      have fr0 := tok_free hN
      have hq0 : w.heap.size < w9.heap.size := lt_of_block hN
      have hq1 : ¬ w.heap.size = w9.heap.size := by omega
      have hq2 : ¬ w9.heap.size = w.heap.size := by omega
      have HRR := hide hr
      have HMM := hide hm
      clear hr hm hmX hm9 HM5
      go_wp21
      go_wp21
      go_wp21
      exact ret_tok (N := w.heap.size) rfl rfl (tok_set hN (againT (n))) (.inl ⟨(againT (n)), (j + k + 1), hE.out, rfl, HRR.out.tok (by omega) (by omega) _ _ _ _ _ _ _ _, Mv.tok (((Mv.refl b w).alloc _).trans HMM.out) (Nat.le_refl _) _ _ _ _ _ _ _ _⟩)
  ·obtain rfl : k = 0 := by omega
   cases back with
   | true =>
    have hE : Hid (agbT l i = .error 1) := by show _ = _; rw [HA.out, if_neg hkp, if_pos rfl]
    go_enter Tryz.func61, Tryz.ntmps61
    go_wp2_with fail
    simp only [tokO] at HS
    refine HS.out.mono ?_
    rintro e w1 ⟨rfl, hr1, hm1⟩
    go_wp2_with fail
    refine (again_any 0 w1).mono ?_
    rintro e w2 ⟨rfl, hb2⟩
    have hr2 := hr1.keep hb2
    have hm2 := hm1.trans (Mv.of_below hb2)
    have hz2 : w.heap.size + 1 ≤ w2.heap.size := by have := hm2.size; simpa using this
    have hlt2 := hr2.lt
    have hxw2 := hr2.xw
    simp only [tokV, againT]
    have HS3 := hide (HS2.out _ (hr2.alloc (tokO (againT 0))))
    simp only [tokO, againT, World.size_alloc] at HS3
    clear hr1 hm1 hb2 HS HS2
    go_wp2_with fail
    refine HS3.out.mono ?_
    rintro e w3 ⟨rfl, hr3, hm3⟩
    go_wp2_with fail
    refine (HD.out w3 hr3).mono ?_
    rintro e w4 ⟨rfl, hr4, hm4⟩
    have hm24 := ((Mv.refl b w2).alloc (tokO (againT 0))).trans (hm3.trans hm4)
    have hT : w4.heap[w2.heap.size]? = some (tokO (againT 0)) := (hm3.trans hm4).blockAt (at_new _ _) (by omega)
    have hmA := hm2.trans hm24
    have frT := tok_free hT
    obtain ⟨n0, n1, n2, n3, n4, n5, n6, n7⟩ := tok_cells hT
    simp only [againT] at n0 n1 n2 n3 n4 n5 n6 n7
    clear HS3 HD hr2 hm2 hr3 hm3 hm4 hm24
    have hm := hmA
    have HMM := hide hm
    clear hm hmA hr4
    simp only
    go_wp2
    exact ⟨rfl, .inr ⟨1, hE.out, rfl, ((Mv.refl b w).alloc _).trans HMM.out⟩⟩
   | false =>
    go_enter Tryz.func61, Tryz.ntmps61
    go_wp2_with fail
    simp only [tokO] at HS
    refine HS.out.mono ?_
    rintro e w1 ⟨rfl, hr1, hm1⟩
    go_wp2_with fail
    refine (again_any 0 w1).mono ?_
    rintro e w2 ⟨rfl, hb2⟩
    have hr2 := hr1.keep hb2
    have hm2 := hm1.trans (Mv.of_below hb2)
    have hz2 : w.heap.size + 1 ≤ w2.heap.size := by have := hm2.size; simpa using this
    have hlt2 := hr2.lt
    have hxw2 := hr2.xw
    simp only [tokV, againT]
    have HS3 := hide (HS2.out _ (hr2.alloc (tokO (againT 0))))
    simp only [tokO, againT, World.size_alloc] at HS3
    clear hr1 hm1 hb2 HS HS2
    go_wp2_with fail
    refine HS3.out.mono ?_
    rintro e w3 ⟨rfl, hr3, hm3⟩
    go_wp2_with fail
    refine (HD.out w3 hr3).mono ?_
    rintro e w4 ⟨rfl, hr4, hm4⟩
    have hm24 := ((Mv.refl b w2).alloc (tokO (againT 0))).trans (hm3.trans hm4)
    have hT : w4.heap[w2.heap.size]? = some (tokO (againT 0)) := (hm3.trans hm4).blockAt (at_new _ _) (by omega)
    have hmA := hm2.trans hm24
    have frT := tok_free hT
    obtain ⟨n0, n1, n2, n3, n4, n5, n6, n7⟩ := tok_cells hT
    simp only [againT] at n0 n1 n2 n3 n4 n5 n6 n7
    clear HS3 HD hr2 hm2 hr3 hm3 hm4 hm24
    have hr4' : RB w4 b x c l j d := hr4
    clear hr4
    go_wp2_with fail
    refine (name_any w4 hr4').mono ?_
    rintro e w5 (⟨hnil, rfl, hm5⟩ | ⟨hnn, rfl, hr5, hm5⟩)
    ·have hm := hmA.trans hm5
     have hE : Hid (agbT l i = .error 1) := by show _ = _; rw [HA.out, if_neg hkp, if_neg (by simp), if_pos hnil]
     have HMM := hide hm
     clear hm hmA hm5 hr4' hnil
     simp only [gives]
     go_wp2
     exact ⟨rfl, .inr ⟨1, hE.out, rfl, ((Mv.refl b w).alloc _).trans HMM.out⟩⟩
    ·have hT5 := hm5.blockAt hT (by omega)
     have frT5 := tok_free hT5
     obtain ⟨q0, q1, q2, q3, q4, q5, q6, q7⟩ := tok_cells hT5
     simp only [againT] at q0 q1 q2 q3 q4 q5 q6 q7
     have hA2 : Hid (agbT l i = (if says l (j + (nameL l j).length) [62] = false then .error 1 else .ok ({ kind := 10, text := byteA (nameL l j) }, j + (nameL l j).length + 1))) := by show _ = _; rw [HA.out, if_neg hkp, if_neg (by simp), if_neg hnn]
     have hSe := byteA_ne hnn
     obtain ⟨S, hS⟩ : ∃ S, S = byteA (nameL l j) := ⟨_, rfl⟩
     obtain ⟨q, hq⟩ : ∃ q, q = j + (nameL l j).length := ⟨_, rfl⟩
     rw [← hS] at hA2 hSe ⊢
     rw [← hq] at hA2 hr5
     have hrX := hr5.other (p := ⟨w2.heap.size, 2, none⟩) (by simp; omega) (by simp; omega) (.string S)
     have hmX := (hmA.trans hm5).setNew (p := ⟨w2.heap.size, 2, none⟩) (by simp; omega) (.string S)
     have HTX : Hid ((w5.setCell ⟨w2.heap.size, 2, none⟩ (.string S)).heap[w2.heap.size]? = some (tokO { kind := 10, text := S })) := by
      show _ = _
      rw [set_one hT5]
      simp [tokO, againT]
     clear hr4' hmA hr5 hm5 hT hT5 frT n0 n1 n2 n3 n4 n5 n6 n7 hS hq hnn HA
     cases hs3 : says l (q) [62] with
     | false =>
      have hE : Hid (agbT l i = .error 1) := by show _ = _; rw [hA2.out, if_pos hs3]
      have HM5 := hide (must_no 62 _ hrX hs3)
      clear hs3 hrX
      simp only []
      go_wp2_with fail
      refine HM5.out.mono ?_
      rintro e w9 ⟨rfl, hm9⟩
      have hm := hmX.trans hm9
      have HMM := hide hm
      clear hm hmX hm9 HM5
      simp only [gives]
      go_wp2
      exact ⟨rfl, .inr ⟨1, hE.out, rfl, ((Mv.refl b w).alloc _).trans HMM.out⟩⟩
     | true =>
      have HM5 := hide (must_yes 62 _ hrX hs3)
      have hE : Hid (agbT l i = .ok ({ kind := 10, text := S }, q + 1)) := by show _ = _; rw [hA2.out, if_neg (by rw [hs3]; simp)]
      clear hs3 hrX
      simp only []
      go_wp2_with fail
      refine HM5.out.mono ?_
      rintro e w9 ⟨rfl, hr, hm9⟩
      have hm := hmX.trans hm9
      have hT9 := hm9.blockAt HTX.out (by omega)
      obtain ⟨p0, p1, p2, p3, p4, p5, p6, p7⟩ := tok_cells hT9
      try simp only at p0 p1 p2 p3 p4 p5 p6 p7
      have hN : w9.heap[w.heap.size]? = some (tokO {}) := hm.blockAt (at_new _ _) (by omega)
      obtain ⟨m0, m1, m2, m3, m4, m5, m6, m7⟩ := tok_cells hN
      have fr0 := tok_free hN
      have hq0 : w.heap.size < w9.heap.size := lt_of_block hN
      have hq1 : ¬ w.heap.size = w9.heap.size := by omega
      have hq2 : ¬ w9.heap.size = w.heap.size := by omega
      have HRR := hide hr
      have HMM := hide hm
      clear hr hm hmX hm9 HM5
      go_wp21
      go_wp21
      go_wp21
      exact ret_tok (N := w.heap.size) rfl rfl (tok_set hN { kind := 10, text := S }) (.inl ⟨{ kind := 10, text := S }, (q + 1), hE.out, rfl, HRR.out.tok (by omega) (by omega) _ _ _ _ _ _ _ _, Mv.tok (((Mv.refl b w).alloc _).trans HMM.out) (Nat.le_refl _) _ _ _ _ _ _ _ _⟩)
end Go.Proofs.YtaccofiegkdlgaaGreatDoor.TK
namespace Go.Proofs.YtaccofiegkdlgaaGreatDoor.TK
set_option maxHeartbeats 2000000
open Go.RowKit
set_option linter.unusedVariables false
def clsV (n : ByteArray) (g : Bool) : Value := .agg #[.string n, .bool g]
def clsE : Array MapEntry := #[⟨.int .i64 100, clsV bDigit false, 0⟩, ⟨.int .i64 68, clsV bDigit true, 1⟩, ⟨.int .i64 119, clsV bWord false, 2⟩, ⟨.int .i64 87, clsV bWord true, 3⟩, ⟨.int .i64 115, clsV bSpace false, 4⟩, ⟨.int .i64 83, clsV bSpace true, 5⟩, ⟨.int .i64 104, clsV bXdigit false, 6⟩, ⟨.int .i64 72, clsV bXdigit true, 7⟩]
theorem upd_step {w : World} {r : Nat} {es : Array MapEntry} {cl : Nat} (hr : w.heap[r]? = some (.map es cl)) (k : Int) (v : Value) (hf : Instr.findNow (.int .i64) (.int .i64 k) es.toList 0 = some none) :
  ∃ w', (Instr.mapUpdate 91 (.map (some r)) (.int .i64 k) v).run Tryz.prog w = .ok () w' ∧ w'.heap[r]? = some (.map (es.push ⟨.int .i64 k, v, cl⟩) (cl + 1)) ∧ ∀ B, B ≤ r → Below B w w' := by
 have hlt := lt_of_block hr
 refine ⟨{ w with heap := w.heap.setIfInBounds r (.map (es.push ⟨.int .i64 k, v, cl⟩) (cl + 1)) }, ?_, ?_, ?_⟩
 ·simp [Instr.mapUpdate, run_underlying Tryz.underlying91, MapKept.run_getObj_map hr, MapKept.run_checkKey Tryz.underlying3 (k := .int .i64 k) (by simp [MapKept.IsKey]), Instr.findKey, run_underlying Tryz.underlying3, hf, MapKept.run_setObj_map _ hr, Result.andThen]
 ·simp [hlt]
 ·intro B hB
  refine ⟨rfl, rfl, rfl, by simp, fun j hj => ?_⟩
  show (w.heap.setIfInBounds r _)[j]? = _
  rw [Array.getElem?_setIfInBounds_ne (by omega)]
theorem mk_map (w : World) : (Instr.makeMap 91 none).run Tryz.prog w = .ok (.map (some w.heap.size)) (w.alloc (.map #[] 0)) := by
 simp [Instr.makeMap, Result.andThen]
theorem classes_any (w : World) : Calls Tryz.prog 57 #[] w fun e w' => e = .returned (.map (some w.heap.size)) ∧ w'.heap[w.heap.size]? = some (.map clsE 8) ∧ Below w.heap.size w w' := by
 have hmk := mk_map w
 have b0 : Below w.heap.size w (w.alloc (.map #[] 0)) := (Below.refl _ w).alloc (Nat.le_refl _) _
 obtain ⟨w1, e1, h1, b1⟩ := upd_step (at_new w (.map #[] 0)) 100 (.agg #[.string ⟨#[100, 105, 103, 105, 116]⟩, .bool false]) rfl
 obtain ⟨w2, e2, h2, b2⟩ := upd_step h1 68 (.agg #[.string ⟨#[100, 105, 103, 105, 116]⟩, .bool true]) (by kernel_rfl)
 obtain ⟨w3, e3, h3, b3⟩ := upd_step h2 119 (.agg #[.string ⟨#[119, 111, 114, 100]⟩, .bool false]) (by kernel_rfl)
 obtain ⟨w4, e4, h4, b4⟩ := upd_step h3 87 (.agg #[.string ⟨#[119, 111, 114, 100]⟩, .bool true]) (by kernel_rfl)
 obtain ⟨w5, e5, h5, b5⟩ := upd_step h4 115 (.agg #[.string ⟨#[115, 112, 97, 99, 101]⟩, .bool false]) (by kernel_rfl)
 obtain ⟨w6, e6, h6, b6⟩ := upd_step h5 83 (.agg #[.string ⟨#[115, 112, 97, 99, 101]⟩, .bool true]) (by kernel_rfl)
 obtain ⟨w7, e7, h7, b7⟩ := upd_step h6 104 (.agg #[.string ⟨#[120, 100, 105, 103, 105, 116]⟩, .bool false]) (by kernel_rfl)
 obtain ⟨w8, e8, h8, b8⟩ := upd_step h7 72 (.agg #[.string ⟨#[120, 100, 105, 103, 105, 116]⟩, .bool true]) (by kernel_rfl)
 have HB : Hid (Below w.heap.size w w8) := ((((((((b0).trans (b1 _ (Nat.le_refl _))).trans (b2 _ (Nat.le_refl _))).trans (b3 _ (Nat.le_refl _))).trans (b4 _ (Nat.le_refl _))).trans (b5 _ (Nat.le_refl _))).trans (b6 _ (Nat.le_refl _))).trans (b7 _ (Nat.le_refl _))).trans (b8 _ (Nat.le_refl _))
 have H8 : Hid (w8.heap[w.heap.size]? = some (.map clsE 8)) := h8
 clear b0 h1 h2 h3 h4 h5 h6 h7 h8 b1 b2 b3 b4 b5 b6 b7 b8
 go_enter Tryz.func57, Tryz.ntmps57
 go_wp2
 go_ret
 exact ⟨rfl, H8.out, HB.out⟩
theorem look_any2 {w : World} {r : Nat} (hr : w.heap[r]? = some (.map clsE 8)) (p : Int) : (Instr.lookup 91 (.map (some r)) (.int .i64 p) true).run Tryz.prog w = .ok (.tuple #[clsV (match clsT p with | some c => c.1 | none => ⟨#[]⟩) (match clsT p with | some c => c.2 | none => false), .bool (clsT p).isSome]) w := by
 have hf : Instr.findNow (.int .i64) (.int .i64 p) clsE.toList 0 = some ((clsT p).map fun c => (if p = 100 then 0 else if p = 68 then 1 else if p = 119 then 2 else if p = 87 then 3 else if p = 115 then 4 else if p = 83 then 5 else if p = 104 then 6 else 7, clsV c.1 c.2)) := by
  by_cases h100 : p = 100
  ·subst h100; rfl
  by_cases h68 : p = 68
  ·subst h68; rfl
  by_cases h119 : p = 119
  ·subst h119; rfl
  by_cases h87 : p = 87
  ·subst h87; rfl
  by_cases h115 : p = 115
  ·subst h115; rfl
  by_cases h83 : p = 83
  ·subst h83; rfl
  by_cases h104 : p = 104
  ·subst h104; rfl
  by_cases h72 : p = 72
  ·subst h72; rfl
  have hn : clsT p = none := by simp [clsT, h100, h68, h119, h87, h115, h83, h104, h72]
  rw [hn]
  have g100 : (p == 100) = false := by simpa using h100
  have g68 : (p == 68) = false := by simpa using h68
  have g119 : (p == 119) = false := by simpa using h119
  have g87 : (p == 87) = false := by simpa using h87
  have g115 : (p == 115) = false := by simpa using h115
  have g83 : (p == 83) = false := by simpa using h83
  have g104 : (p == 104) = false := by simpa using h104
  have g72 : (p == 72) = false := by simpa using h72
  simp [clsE, Instr.findNow, Instr.sameNow, g100, g68, g119, g87, g115, g83, g104, g72]
 have hz : ∀ W, (zeroValue 89).run Tryz.prog W = .ok (clsV ⟨#[]⟩ false) W := fun W => by kernel_rfl
 simp only [Instr.lookup, Sem.run_bind, run_underlying Tryz.underlying91, MapKept.run_getObj_map hr, MapKept.run_checkKey Tryz.underlying3 (k := .int .i64 p) (by simp [MapKept.IsKey]), Instr.findKey, run_underlying Tryz.underlying3, hf, Result.andThen, Sem.run_pure]
 cases clsT p with
 | none => simp [hz, Result.andThen]
 | some c => simp
theorem look_w {w : World} {r : Nat} (hr : w.heap[r]? = some (.map clsE 8)) (p : Int) (g : Bool) (hp : p = 119 ∧ g = false ∨ p = 87 ∧ g = true) : (Instr.lookup 91 (.map (some r)) (.int .i64 p) false).run Tryz.prog w = .ok (clsV bWord g) w := by
 rcases hp with ⟨rfl, rfl⟩ | ⟨rfl, rfl⟩
 all_goals
  simp only [Instr.lookup, Sem.run_bind, run_underlying Tryz.underlying91, MapKept.run_getObj_map hr, MapKept.run_checkKey Tryz.underlying3 (k := .int .i64 _) (by simp [MapKept.IsKey]), Instr.findKey, run_underlying Tryz.underlying3, Result.andThen, Sem.run_pure]
  rfl
end Go.Proofs.YtaccofiegkdlgaaGreatDoor.TK
