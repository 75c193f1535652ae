/- What option and openBehind answer. -/
import Derived.Test.YtlapnhjkhpgklaaTpart
import Derived.Test.YtlapnhjkhpgklaaTret
namespace Go.Proofs.Ytlapnhjkhpgklaa
open Go.RowKit
set_option linter.unusedVariables false

set_option maxHeartbeats 4000000 in
theorem option_any {b : Nat} {x : Addr} {c : Nat} {l : List Int} {i : Nat} {d : Int} (f : Int) (w : World) (h : RB w b x c l i d) : Calls Try.prog 62 #[.pointer (some ⟨b, 0, none⟩), .int .i64 f] w fun e w' => OutT b x c l d w (optT l i f) e w' := by
  have hlt := h.lt
  have hxw := h.xw
  have hat := h.at'
  have hw0 := h.alloc (tokO {})
  cases hs : says l i [41] with
  | true =>
    have HS := hide (skip_yes _ hw0 41 hs)
    have hE : Hid (optT l i f = .ok ({ kind := 11, fold := f }, i + 1)) := by show _ = _; unfold optT; rw [if_pos hs]
    clear hs h hw0
    go_enter Try.func62, Try.ntmps62
    go_wp2_with fail
    simp only [tokO, World.size_alloc] at HS
    refine HS.out.mono ?_
    rintro e w1 ⟨rfl, hr, hm⟩
    have hN : w1.heap[w.heap.size]? = some (tokO {}) := hm.blockAt (at_new _ _) (by omega)
    obtain ⟨m0, m1, m2, m3, m4, m5, m6, m7⟩ := tok_cells hN
    have fr0 := tok_free hN
    have hq0 : w.heap.size < w1.heap.size := lt_of_block hN
    have hq1 : ¬ w.heap.size = w1.heap.size := by omega
    have hq2 : ¬ w1.heap.size = w.heap.size := by omega
    have HRR := hide hr
    have HMM := hide hm
    clear hr hm HS
    go_wp21
    go_wp21
    go_wp21
    exact ret_tok (N := w.heap.size) rfl rfl (tok_set hN { kind := 11, fold := f }) (.inl ⟨{ kind := 11, fold := f }, (i + 1), hE.out, rfl, HRR.out.tok (by omega) (by omega) _ _ _ _ _ _ _ _, Mv.tok (((Mv.refl b w).alloc _).trans HMM.out) (Nat.le_refl _) _ _ _ _ _ _ _ _⟩)
  | false =>
    have HS := hide (skip_no _ hw0 41 hs)
    cases hs2 : says l i [58] with
    | true =>
      have hE : Hid (optT l i f = .ok ({ kind := 7, num := 1, fold := f }, i + 1)) := by show _ = _; unfold optT; rw [if_neg (by rw [hs]; simp), if_pos hs2]
      have HM2 := hide (fun w1 (h1 : RB w1 b x c l i d) => must_yes 58 w1 h1 hs2)
      clear hs hs2 h hw0
      go_enter Try.func62, Try.ntmps62
      go_wp2_with fail
      simp only [tokO, World.size_alloc] at HS
      refine HS.out.mono ?_
      rintro e w1 ⟨rfl, hr, hm⟩
      go_wp2_with fail
      refine (HM2.out w1 hr).mono ?_
      rintro e w2 ⟨rfl, hr2, hm2⟩
      go_wp2_with fail
      refine (open_any 1 w2).mono ?_
      rintro e w3 ⟨rfl, hb3⟩
      have hr3 := hr2.keep hb3
      have hm3 := (hm.trans hm2).trans (Mv.of_below hb3)
      have hx3 := hr3.xw
      have hl3 := hr3.lt
      have hN : w3.heap[w.heap.size]? = some (tokO {}) := hm3.blockAt (at_new _ _) (by omega)
      obtain ⟨m0, m1, m2, m3, m4, m5, m6, m7⟩ := tok_cells hN
      have fr0 := tok_free hN
      have hq0 : w.heap.size < w3.heap.size := lt_of_block hN
      have hq1 : ¬ w.heap.size = w3.heap.size := by omega
      have hq2 : ¬ w3.heap.size = w.heap.size := by omega
      have HRR := hide hr3
      have HMM := hide hm3
      clear hr3 hm3 hr hm hr2 hm2 hb3 HS HM2
      simp only [tokV, openT]
      go_wp21
      go_wp21
      go_wp21
      exact ret_tok (N := w.heap.size) rfl rfl (at_old (tok_set hN { kind := 7, num := 1, fold := f })) (.inl ⟨{ kind := 7, num := 1, fold := f }, (i + 1), hE.out, rfl, (HRR.out.tok (by omega) (by omega) _ _ _ _ _ _ _ _).alloc _, (Mv.tok (((Mv.refl b w).alloc _).trans HMM.out) (Nat.le_refl _) _ _ _ _ _ _ _ _).alloc _⟩)
    | false =>
      have hE : Hid (optT l i f = .error 1) := by show _ = _; unfold optT; rw [if_neg (by rw [hs]; simp), if_neg (by rw [hs2]; simp)]
      have HM2 := hide (fun w1 (h1 : RB w1 b x c l i d) => must_no 58 w1 h1 hs2)
      clear hs hs2 h hw0
      go_enter Try.func62, Try.ntmps62
      go_wp2_with fail
      simp only [tokO, World.size_alloc] at HS
      refine HS.out.mono ?_
      rintro e w1 ⟨rfl, hr, hm⟩
      go_wp2_with fail
      refine (HM2.out w1 hr).mono ?_
      rintro e w2 ⟨rfl, hm2⟩
      have hm := hm.trans hm2
      have HMM := hide hm
      clear hm
      simp only [gives]
      go_wp2
      exact ⟨rfl, .inr ⟨1, hE.out, rfl, ((Mv.refl b w).alloc _).trans HMM.out⟩⟩

set_option maxHeartbeats 4000000 in
theorem openBehind_any {b : Nat} {x : Addr} {c : Nat} {l : List Int} {i : Nat} {d : Int} (w : World) (h : RB w b x c l i d) : Calls Try.prog 61 #[.pointer (some ⟨b, 0, none⟩)] w fun e w' => OutT b x c l d w (behT l i) e w' := by
  have hlt := h.lt
  have hxw := h.xw
  have hat := h.at'
  have hw0 := h.alloc (tokO {})
  cases hs : says l i [61] with
  | true =>
    have HS := hide (skip_yes _ hw0 61 hs)
    have hE : Hid (behT l i = .ok (openT 16, i + 1)) := by show _ = _; unfold behT; rw [if_pos hs]
    clear hs h hw0
    go_enter Try.func61, Try.ntmps61
    go_wp2_with fail
    simp only [tokO, World.size_alloc] at HS
    refine HS.out.mono ?_
    rintro e w1 ⟨rfl, hr1, hm1⟩
    go_wp2_with fail
    refine (open_any 16 w1).mono ?_
    rintro e w2 ⟨rfl, hb2⟩
    have hr := hr1.keep hb2
    have hm := hm1.trans (Mv.of_below hb2)
    have hN : w2.heap[w.heap.size]? = some (tokO {}) := hm.blockAt (at_new _ _) (by omega)
    obtain ⟨m0, m1, m2, m3, m4, m5, m6, m7⟩ := tok_cells hN
    have fr0 := tok_free hN
    have hq0 : w.heap.size < w2.heap.size := lt_of_block hN
    have hq1 : ¬ w.heap.size = w2.heap.size := by omega
    have hq2 : ¬ w2.heap.size = w.heap.size := by omega
    have HRR := hide hr
    have HMM := hide hm
    clear hr hm HS hr1 hm1 hb2
    simp only [tokV, openT]
    go_wp21
    go_wp21
    go_wp21
    exact ret_tok (N := w.heap.size) rfl rfl (tok_set hN (openT 16)) (.inl ⟨(openT 16), (i + 1), hE.out, rfl, HRR.out.tok (by omega) (by omega) _ _ _ _ _ _ _ _, Mv.tok (((Mv.refl b w).alloc _).trans HMM.out) (Nat.le_refl _) _ _ _ _ _ _ _ _⟩)
  | false =>
    have HS := hide (skip_no _ hw0 61 hs)
    cases hs2 : says l i [33] with
    | true =>
      have hE : Hid (behT l i = .ok (openT 17, i + 1)) := by show _ = _; unfold behT; rw [if_neg (by rw [hs]; simp), if_pos hs2]
      have HS2 := hide (fun w1 (h1 : RB w1 b x c l i d) => skip_yes w1 h1 33 hs2)
      clear hs hs2 h hw0
      go_enter Try.func61, Try.ntmps61
      go_wp2_with fail
      simp only [tokO, World.size_alloc] at HS
      refine HS.out.mono ?_
      rintro e w1 ⟨rfl, hr1, hm1⟩
      go_wp2_with fail
      refine (HS2.out w1 hr1).mono ?_
      rintro e w2 ⟨rfl, hr2, hm2⟩
      go_wp2_with fail
      refine (open_any 17 w2).mono ?_
      rintro e w3 ⟨rfl, hb3⟩
      have hr := hr2.keep hb3
      have hm := (hm1.trans hm2).trans (Mv.of_below hb3)
      have hN : w3.heap[w.heap.size]? = some (tokO {}) := hm.blockAt (at_new _ _) (by omega)
      obtain ⟨m0, m1, m2, m3, m4, m5, m6, m7⟩ := tok_cells hN
      have fr0 := tok_free hN
      have hq0 : w.heap.size < w3.heap.size := lt_of_block hN
      have hq1 : ¬ w.heap.size = w3.heap.size := by omega
      have hq2 : ¬ w3.heap.size = w.heap.size := by omega
      have HRR := hide hr
      have HMM := hide hm
      clear hr hm HS HS2 hr1 hm1 hr2 hm2 hb3
      simp only [tokV, openT]
      go_wp21
      go_wp21
      go_wp21
      exact ret_tok (N := w.heap.size) rfl rfl (tok_set hN (openT 17)) (.inl ⟨(openT 17), (i + 1), hE.out, rfl, HRR.out.tok (by omega) (by omega) _ _ _ _ _ _ _ _, Mv.tok (((Mv.refl b w).alloc _).trans HMM.out) (Nat.le_refl _) _ _ _ _ _ _ _ _⟩)
    | false =>
      have HS2 := hide (fun w1 (h1 : RB w1 b x c l i d) => skip_no w1 h1 33 hs2)
      have HNL := hide (name_len l i hat)
      have hE0 : Hid (behT l i = (if nameL l i = [] then .error 1 else if says l (i + (nameL l i).length) [62] then .ok ({ kind := 7, num := 11, text := byteA (nameL l i) }, i + (nameL l i).length + 1) else .error 1)) := by show _ = _; unfold behT; rw [if_neg (by rw [hs]; simp), if_neg (by rw [hs2]; simp)]
      have HM3 := hide (fun w1 k (h1 : RB w1 b x c l k d) (hh : says l k [62] = true) => must_yes 62 w1 h1 hh)
      have HM4 := hide (fun w1 k (h1 : RB w1 b x c l k d) (hh : says l k [62] = false) => must_no 62 w1 h1 hh)
      clear hs hs2 h hw0
      go_enter Try.func61, Try.ntmps61
      go_wp2_with fail
      simp only [tokO, World.size_alloc] at HS
      refine HS.out.mono ?_
      rintro e w1 ⟨rfl, hr1, hm1⟩
      go_wp2_with fail
      refine (HS2.out w1 hr1).mono ?_
      rintro e w2 ⟨rfl, hr2, hm2⟩
      go_wp2_with fail
      refine (open_any 11 w2).mono ?_
      rintro e w3 ⟨rfl, hb3⟩
      have hr3 := hr2.keep hb3
      have hm3 := (hm1.trans hm2).trans (Mv.of_below hb3)
      have hz3 : w.heap.size + 1 ≤ w3.heap.size := by have := hm3.size; simpa using this
      clear hr1 hm1 hr2 hm2 hb3 HS HS2
      simp only [tokV, openT]
      have HN4 := hide (name_any _ (hr3.alloc (tokO (openT 11))))
      simp only [tokO, openT] at HN4
      go_wp2_with fail
      refine HN4.out.mono ?_
      rintro e w4 (⟨hnil, rfl, hm4⟩ | ⟨hnn, rfl, hr4, hm4⟩)

      · have hm := hm3.trans (((Mv.refl b w3).alloc _).trans hm4)
        have hE : Hid (behT l i = .error 1) := by show _ = _; rw [hE0.out, if_pos hnil]
        have HMM := hide hm
        clear hm hr3 hm3 hm4 hnil HN4
        simp only [gives]
        go_wp2
        exact ⟨rfl, .inr ⟨1, hE.out, rfl, ((Mv.refl b w).alloc _).trans HMM.out⟩⟩
      · have hlt3 := hr3.lt
        have hxw3 := hr3.xw
        have hT : w4.heap[w3.heap.size]? = some (tokO (openT 11)) := hm4.blockAt (at_new _ _) (by omega)
        have frT := tok_free hT
        obtain ⟨n0, n1, n2, n3, n4, n5, n6, n7⟩ := tok_cells hT
        have hE2 : Hid (behT l i = (if says l (i + (nameL l i).length) [62] then .ok ({ kind := 7, num := 11, text := byteA (nameL l i) }, i + (nameL l i).length + 1) else .error 1)) := by show _ = _; rw [hE0.out, if_neg hnn]
        obtain ⟨S, hS⟩ : ∃ S, S = byteA (nameL l i) := ⟨_, rfl⟩
        obtain ⟨k, hk⟩ : ∃ k, k = i + (nameL l i).length := ⟨_, rfl⟩
        rw [← hS] at hE2 ⊢
        rw [← hk] at hE2 hr4
        have hr5 := hr4.other (p := ⟨w3.heap.size, 2, none⟩) (by simp; omega) (by simp; omega) (.string S)
        have hm5 := (hm3.trans (((Mv.refl b w3).alloc _).trans hm4)).setNew (p := ⟨w3.heap.size, 2, none⟩) (by simp; omega) (.string S)
        have hT5 : (w4.setCell ⟨w3.heap.size, 2, none⟩ (.string S)).heap[w3.heap.size]? = some (tokO { openT 11 with text := S }) := by
          rw [set_one hT]
          simp [tokO]
        have HT5 := hide hT5
        clear hT5 hS hk hnn HN4 hE0 hr3 hm3 hr4 hm4
        cases hs3 : says l k [62] with
        | true =>
          have hE : Hid (behT l i = .ok ({ kind := 7, num := 11, text := S }, k + 1)) := by show _ = _; rw [hE2.out, if_pos hs3]
          have HM5 := hide (HM3.out _ k hr5 hs3)
          clear hs3 hr5 HM3 HM4 hE2
          simp only []
          go_wp2_with fail
          refine HM5.out.mono ?_
          rintro e w6 ⟨rfl, hr, hm6⟩
          have hm := hm5.trans hm6
          have hT6 := hm6.blockAt HT5.out (by omega)
          obtain ⟨p0, p1, p2, p3, p4, p5, p6, p7⟩ := tok_cells hT6
          clear n0 n1 n2 n3 n4 n5 n6 n7 frT hT
          have hN : w6.heap[w.heap.size]? = some (tokO {}) := hm.blockAt (at_new _ _) (by omega)
          obtain ⟨m0, m1, m2, m3, m4, m5, m6, m7⟩ := tok_cells hN
          have fr0 := tok_free hN
          have hq0 : w.heap.size < w6.heap.size := lt_of_block hN
          have hq1 : ¬ w.heap.size = w6.heap.size := by omega
          have hq2 : ¬ w6.heap.size = w.heap.size := by omega
          have HRR := hide hr
          have HMM := hide hm
          clear hr hm hm5 hm6 HM5
          go_wp21
          go_wp21
          go_wp21
          exact ret_tok (N := w.heap.size) rfl rfl (tok_set hN { kind := 7, num := 11, text := S }) (.inl ⟨{ kind := 7, num := 11, text := S }, (k + 1), hE.out, rfl, HRR.out.tok (by omega) (by omega) _ _ _ _ _ _ _ _, Mv.tok (((Mv.refl b w).alloc _).trans HMM.out) (Nat.le_refl _) _ _ _ _ _ _ _ _⟩)
        | false =>
          have hE : Hid (behT l i = .error 1) := by show _ = _; rw [hE2.out, if_neg (by rw [hs3]; simp)]
          have HM5 := hide (HM4.out _ k hr5 hs3)
          clear hs3 hr5 HM3 HM4 hE2
          simp only []
          go_wp2_with fail
          refine HM5.out.mono ?_
          rintro e w6 ⟨rfl, hm6⟩
          have hm := hm5.trans hm6
          have HMM := hide hm
          clear hm hm5 hm6 HM5
          simp only [gives]
          go_wp2
          exact ⟨rfl, .inr ⟨1, hE.out, rfl, ((Mv.refl b w).alloc _).trans HMM.out⟩⟩

end Go.Proofs.Ytlapnhjkhpgklaa
