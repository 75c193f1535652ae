import Derived.Test.YtaccofiegkdlgaaGreatDoorKF
import Derived.Test.YtaccofiegkdlgaaGreatDoorKE
namespace Go.Proofs.YtaccofiegkdlgaaGreatDoor.TK
set_option maxHeartbeats 4000000
open Go.RowKit
set_option linter.unusedVariables false
theorem option_any {b : Nat} {x : Addr} {c : Nat} {l : List Int} {i : Nat} {d : Int} (f : Int) (w : World) (h : RB w b x c l i d) : Calls Tryz.prog 68 #[.pointer (some ⟨b, 0, none⟩), .int .i64 f] w fun e w' => OutT b x c l d w (optT l i f) e w' := by
 have hlt := h.lt
 have hxw := h.xw
 have hat := h.at'
 have hw0 := h.alloc (tokO {})
 cases hs : says l i [41] with
 | true =>
  have HS := hide (skip_yes _ hw0 41 hs)
  have hE : Hid (optT l i f = .ok ({ kind := 11, fold := f }, i + 1)) := by show _ = _; unfold optT; rw [if_pos hs]
  clear hs h hw0
  go_enter Tryz.func68, Tryz.ntmps68
  go_wp2_with fail
  simp only [tokO, World.size_alloc] at HS
  refine HS.out.mono ?_
  rintro e w1 ⟨rfl, hr, hm⟩
  have hN : w1.heap[w.heap.size]? = some (tokO {}) := hm.blockAt (at_new _ _) (by omega)
  obtain ⟨m0, m1, m2, m3, m4, m5, m6, m7⟩ := tok_cells hN
  have fr0 := tok_free hN
  have hq0 : w.heap.size < w1.heap.size := lt_of_block hN
  have hq1 : ¬ w.heap.size = w1.heap.size := by omega
  have hq2 : ¬ w1.heap.size = w.heap.size := by omega
  have HRR := hide hr
  have HMM := hide hm
  clear hr hm HS
  go_wp21
  go_wp21
  go_wp21
  exact ret_tok (N := w.heap.size) rfl rfl (tok_set hN { kind := 11, fold := f }) (.inl ⟨{ kind := 11, fold := f }, (i + 1), hE.out, rfl, HRR.out.tok (by omega) (by omega) _ _ _ _ _ _ _ _, Mv.tok (((Mv.refl b w).alloc _).trans HMM.out) (Nat.le_refl _) _ _ _ _ _ _ _ _⟩)
 | false =>
  have HS := hide (skip_no _ hw0 41 hs)
  cases hs2 : says l i [58] with
  | true =>
   have hE : Hid (optT l i f = .ok ({ kind := 7, num := 1, fold := f }, i + 1)) := by show _ = _; unfold optT; rw [if_neg (by rw [hs]; simp), if_pos hs2]
   have HM2 := hide (fun w1 (h1 : RB w1 b x c l i d) => must_yes 58 w1 h1 hs2)
   clear hs hs2 h hw0
   go_enter Tryz.func68, Tryz.ntmps68
   go_wp2_with fail
   simp only [tokO, World.size_alloc] at HS
   refine HS.out.mono ?_
   rintro e w1 ⟨rfl, hr, hm⟩
   go_wp2_with fail
   refine (HM2.out w1 hr).mono ?_
   rintro e w2 ⟨rfl, hr2, hm2⟩
   go_wp2_with fail
   refine (open_any 1 w2).mono ?_
   rintro e w3 ⟨rfl, hb3⟩
   have hr3 := hr2.keep hb3
   have hm3 := (hm.trans hm2).trans (Mv.of_below hb3)
   have hx3 := hr3.xw
   have hl3 := hr3.lt
   have hN : w3.heap[w.heap.size]? = some (tokO {}) := hm3.blockAt (at_new _ _) (by omega)
   obtain ⟨m0, m1, m2, m3, m4, m5, m6, m7⟩ := tok_cells hN
   have fr0 := tok_free hN
   have hq0 : w.heap.size < w3.heap.size := lt_of_block hN
   have hq1 : ¬ w.heap.size = w3.heap.size := by omega
   have hq2 : ¬ w3.heap.size = w.heap.size := by omega
   have HRR := hide hr3
   have HMM := hide hm3
   clear hr3 hm3 hr hm hr2 hm2 hb3 HS HM2
   simp only [tokV, openT]
   go_wp21
   go_wp21
   go_wp21
   exact ret_tok (N := w.heap.size) rfl rfl (at_old (tok_set hN { kind := 7, num := 1, fold := f })) (.inl ⟨{ kind := 7, num := 1, fold := f }, (i + 1), hE.out, rfl, (HRR.out.tok (by omega) (by omega) _ _ _ _ _ _ _ _).alloc _, (Mv.tok (((Mv.refl b w).alloc _).trans HMM.out) (Nat.le_refl _) _ _ _ _ _ _ _ _).alloc _⟩)
  | false =>
   have hE : Hid (optT l i f = .error 1) := by show _ = _; unfold optT; rw [if_neg (by rw [hs]; simp), if_neg (by rw [hs2]; simp)]
   have HM2 := hide (fun w1 (h1 : RB w1 b x c l i d) => must_no 58 w1 h1 hs2)
   clear hs hs2 h hw0
   go_enter Tryz.func68, Tryz.ntmps68
   go_wp2_with fail
   simp only [tokO, World.size_alloc] at HS
   refine HS.out.mono ?_
   rintro e w1 ⟨rfl, hr, hm⟩
   go_wp2_with fail
   refine (HM2.out w1 hr).mono ?_
   rintro e w2 ⟨rfl, hm2⟩
   have hm := hm.trans hm2
   have HMM := hide hm
   clear hm
   simp only [gives]
   go_wp2
   exact ⟨rfl, .inr ⟨1, hE.out, rfl, ((Mv.refl b w).alloc _).trans HMM.out⟩⟩
theorem openBehind_any {b : Nat} {x : Addr} {c : Nat} {l : List Int} {i : Nat} {d : Int} (w : World) (h : RB w b x c l i d) : Calls Tryz.prog 67 #[.pointer (some ⟨b, 0, none⟩)] w fun e w' => OutT b x c l d w (behT l i) e w' := by
 have hlt := h.lt
 have hxw := h.xw
 have hat := h.at'
 have hw0 := h.alloc (tokO {})
 cases hs : says l i [61] with
 | true =>
  have HS := hide (skip_yes _ hw0 61 hs)
  have hE : Hid (behT l i = .ok (openT 16, i + 1)) := by show _ = _; unfold behT; rw [if_pos hs]
  clear hs h hw0
  go_enter Tryz.func67, Tryz.ntmps67
  go_wp2_with fail
  simp only [tokO, World.size_alloc] at HS
  refine HS.out.mono ?_
  rintro e w1 ⟨rfl, hr1, hm1⟩
  go_wp2_with fail
  refine (open_any 16 w1).mono ?_
  rintro e w2 ⟨rfl, hb2⟩
  have hr := hr1.keep hb2
  have hm := hm1.trans (Mv.of_below hb2)
  have hN : w2.heap[w.heap.size]? = some (tokO {}) := hm.blockAt (at_new _ _) (by omega)
  obtain ⟨m0, m1, m2, m3, m4, m5, m6, m7⟩ := tok_cells hN
  have fr0 := tok_free hN
  have hq0 : w.heap.size < w2.heap.size := lt_of_block hN
  have hq1 : ¬ w.heap.size = w2.heap.size := by omega
  have hq2 : ¬ w2.heap.size = w.heap.size := by omega
  have HRR := hide hr
  have HMM := hide hm
  clear hr hm HS hr1 hm1 hb2
  simp only [tokV, openT]
  go_wp21
  go_wp21
  go_wp21
  exact ret_tok (N := w.heap.size) rfl rfl (tok_set hN (openT 16)) (.inl ⟨(openT 16), (i + 1), hE.out, rfl, HRR.out.tok (by omega) (by omega) _ _ _ _ _ _ _ _, Mv.tok (((Mv.refl b w).alloc _).trans HMM.out) (Nat.le_refl _) _ _ _ _ _ _ _ _⟩)
 | false =>
  have HS := hide (skip_no _ hw0 61 hs)
  cases hs2 : says l i [33] with
  | true =>
   have hE : Hid (behT l i = .ok (openT 17, i + 1)) := by show _ = _; unfold behT; rw [if_neg (by rw [hs]; simp), if_pos hs2]
   have HS2 := hide (fun w1 (h1 : RB w1 b x c l i d) => skip_yes w1 h1 33 hs2)
   clear hs hs2 h hw0
   go_enter Tryz.func67, Tryz.ntmps67
   go_wp2_with fail
   simp only [tokO, World.size_alloc] at HS
   refine HS.out.mono ?_
   rintro e w1 ⟨rfl, hr1, hm1⟩
   go_wp2_with fail
   refine (HS2.out w1 hr1).mono ?_
   rintro e w2 ⟨rfl, hr2, hm2⟩
   go_wp2_with fail
   refine (open_any 17 w2).mono ?_
   rintro e w3 ⟨rfl, hb3⟩
   have hr := hr2.keep hb3
   have hm := (hm1.trans hm2).trans (Mv.of_below hb3)
   have hN : w3.heap[w.heap.size]? = some (tokO {}) := hm.blockAt (at_new _ _) (by omega)
   obtain ⟨m0, m1, m2, m3, m4, m5, m6, m7⟩ := tok_cells hN
   have fr0 := tok_free hN
   have hq0 : w.heap.size < w3.heap.size := lt_of_block hN
   have hq1 : ¬ w.heap.size = w3.heap.size := by omega
   have hq2 : ¬ w3.heap.size = w.heap.size := by omega
   have HRR := hide hr
   have HMM := hide hm
   clear hr hm HS HS2 hr1 hm1 hr2 hm2 hb3
   simp only [tokV, openT]
   go_wp21
   go_wp21
   go_wp21
   exact ret_tok (N := w.heap.size) rfl rfl (tok_set hN (openT 17)) (.inl ⟨(openT 17), (i + 1), hE.out, rfl, HRR.out.tok (by omega) (by omega) _ _ _ _ _ _ _ _, Mv.tok (((Mv.refl b w).alloc _).trans HMM.out) (Nat.le_refl _) _ _ _ _ _ _ _ _⟩)
  | false =>
   have HS2 := hide (fun w1 (h1 : RB w1 b x c l i d) => skip_no w1 h1 33 hs2)
   have HNL := hide (name_len l i hat)
   have hE0 : Hid (behT l i = (if nameL l i = [] then .error 1 else if says l (i + (nameL l i).length) [62] then .ok ({ kind := 7, num := 11, text := byteA (nameL l i) }, i + (nameL l i).length + 1) else .error 1)) := by show _ = _; unfold behT; rw [if_neg (by rw [hs]; simp), if_neg (by rw [hs2]; simp)]
   have HM3 := hide (fun w1 k (h1 : RB w1 b x c l k d) (hh : says l k [62] = true) => must_yes 62 w1 h1 hh)
   have HM4 := hide (fun w1 k (h1 : RB w1 b x c l k d) (hh : says l k [62] = false) => must_no 62 w1 h1 hh)
   clear hs hs2 h hw0
   go_enter Tryz.func67, Tryz.ntmps67
   go_wp2_with fail
   simp only [tokO, World.size_alloc] at HS
   refine HS.out.mono ?_
   rintro e w1 ⟨rfl, hr1, hm1⟩
   go_wp2_with fail
   refine (HS2.out w1 hr1).mono ?_
   rintro e w2 ⟨rfl, hr2, hm2⟩
   go_wp2_with fail
   refine (open_any 11 w2).mono ?_
   rintro e w3 ⟨rfl, hb3⟩
   have hr3 := hr2.keep hb3
   have hm3 := (hm1.trans hm2).trans (Mv.of_below hb3)
   have hz3 : w.heap.size + 1 ≤ w3.heap.size := by have := hm3.size; simpa using this
   clear hr1 hm1 hr2 hm2 hb3 HS HS2
   simp only [tokV, openT]
   have HN4 := hide (name_any _ (hr3.alloc (tokO (openT 11))))
   simp only [tokO, openT] at HN4
   go_wp2_with fail
   refine HN4.out.mono ?_
   rintro e w4 (⟨hnil, rfl, hm4⟩ | ⟨hnn, rfl, hr4, hm4⟩)
   ·have hm := hm3.trans (((Mv.refl b w3).alloc _).trans hm4)
    have hE : Hid (behT l i = .error 1) := by show _ = _; rw [hE0.out, if_pos hnil]
    have HMM := hide hm
    clear hm hr3 hm3 hm4 hnil HN4
    simp only [gives]
    go_wp2
    exact ⟨rfl, .inr ⟨1, hE.out, rfl, ((Mv.refl b w).alloc _).trans HMM.out⟩⟩
   ·have hlt3 := hr3.lt
    have hxw3 := hr3.xw
    have hT : w4.heap[w3.heap.size]? = some (tokO (openT 11)) := hm4.blockAt (at_new _ _) (by omega)
    have frT := tok_free hT
    obtain ⟨n0, n1, n2, n3, n4, n5, n6, n7⟩ := tok_cells hT
    have hE2 : Hid (behT l i = (if says l (i + (nameL l i).length) [62] then .ok ({ kind := 7, num := 11, text := byteA (nameL l i) }, i + (nameL l i).length + 1) else .error 1)) := by show _ = _; rw [hE0.out, if_neg hnn]
    obtain ⟨S, hS⟩ : ∃ S, S = byteA (nameL l i) := ⟨_, rfl⟩
    obtain ⟨k, hk⟩ : ∃ k, k = i + (nameL l i).length := ⟨_, rfl⟩
    rw [← hS] at hE2 ⊢
    rw [← hk] at hE2 hr4
    have hr5 := hr4.other (p := ⟨w3.heap.size, 2, none⟩) (by simp; omega) (by simp; omega) (.string S)
    have hm5 := (hm3.trans (((Mv.refl b w3).alloc _).trans hm4)).setNew (p := ⟨w3.heap.size, 2, none⟩) (by simp; omega) (.string S)
    have hT5 : (w4.setCell ⟨w3.heap.size, 2, none⟩ (.string S)).heap[w3.heap.size]? = some (tokO { openT 11 with text := S }) := by
     rw [set_one hT]
     simp [tokO]
    have HT5 := hide hT5
    clear hT5 hS hk hnn HN4 hE0 hr3 hm3 hr4 hm4
    cases hs3 : says l k [62] with
    | true =>
     have hE : Hid (behT l i = .ok ({ kind := 7, num := 11, text := S }, k + 1)) := by show _ = _; rw [hE2.out, if_pos hs3]
     have HM5 := hide (HM3.out _ k hr5 hs3)
     clear hs3 hr5 HM3 HM4 hE2
     simp only []
     go_wp2_with fail
     refine HM5.out.mono ?_
     rintro e w6 ⟨rfl, hr, hm6⟩
     have hm := hm5.trans hm6
     have hT6 := hm6.blockAt HT5.out (by omega)
     obtain ⟨p0, p1, p2, p3, p4, p5, p6, p7⟩ := tok_cells hT6
     clear n0 n1 n2 n3 n4 n5 n6 n7 frT hT
     have hN : w6.heap[w.heap.size]? = some (tokO {}) := hm.blockAt (at_new _ _) (by omega)
     obtain ⟨m0, m1, m2, m3, m4, m5, m6, m7⟩ := tok_cells hN
     have fr0 := tok_free hN
     have hq0 : w.heap.size < w6.heap.size := lt_of_block hN
     have hq1 : ¬ w.heap.size = w6.heap.size := by omega
     have hq2 : ¬ w6.heap.size = w.heap.size := by omega
     have HRR := hide hr
     have HMM := hide hm
     clear hr hm hm5 hm6 HM5
     go_wp21
     go_wp21
     go_wp21
     exact ret_tok (N := w.heap.size) rfl rfl (tok_set hN { kind := 7, num := 11, text := S }) (.inl ⟨{ kind := 7, num := 11, text := S }, (k + 1), hE.out, rfl, HRR.out.tok (by omega) (by omega) _ _ _ _ _ _ _ _, Mv.tok (((Mv.refl b w).alloc _).trans HMM.out) (Nat.le_refl _) _ _ _ _ _ _ _ _⟩)
    | false =>
     have hE : Hid (behT l i = .error 1) := by show _ = _; rw [hE2.out, if_neg (by rw [hs3]; simp)]
     have HM5 := hide (HM4.out _ k hr5 hs3)
     clear hs3 hr5 HM3 HM4 hE2
     simp only []
     go_wp2_with fail
     refine HM5.out.mono ?_
     rintro e w6 ⟨rfl, hm6⟩
     have hm := hm5.trans hm6
     have HMM := hide hm
     clear hm hm5 hm6 HM5
     simp only [gives]
     go_wp2
     exact ⟨rfl, .inr ⟨1, hE.out, rfl, ((Mv.refl b w).alloc _).trans HMM.out⟩⟩
end Go.Proofs.YtaccofiegkdlgaaGreatDoor.TK
namespace Go.Proofs.YtaccofiegkdlgaaGreatDoor.TK
set_option maxHeartbeats 8000000
open Go.RowKit
set_option linter.unusedVariables false
theorem openS_at {l : List Int} {i : Nat} {p : Int} (hs : says l i [63] = true) (hp : l[i + 1]? = some p) : openS 1 l i = (if p = 58 then .ok (openT 1, i + 2) else if p = 62 then .ok (openT 13, i + 2) else if p = 61 then .ok (openT 14, i + 2) else if p = 33 then .ok (openT 15, i + 2) else if p = 60 then behT l (i + 2) else if p = 105 then optT l (i + 2) 1 else if p = 45 then (if says l (i + 2) [105] then optT l (i + 3) (-1) else .error 1) else .error 1) := by
 unfold openS
 rw [if_neg (by simp), if_neg (by rw [hs]; simp), hp]
theorem openM_any {b : Nat} {x : Addr} {c : Nat} {l : List Int} {i : Nat} {d : Int} (w : World) (h : RB w b x c l i d) : Calls Tryz.prog 51 #[.pointer (some ⟨b, 0, none⟩)] w fun e w' => OutT b x c l d w (openS d l i) e w' := by
 have hlt := h.lt
 have hxw := h.xw
 have hat := h.at'
 have hw0 := h.alloc (tokO {})
 obtain ⟨c0, c1, c2, f1⟩ := h.cells
 by_cases hd : d = 1
 ·subst hd
  cases hs : says l i [63] with
  | false =>
   have HS := hide (skip_no _ hw0 63 hs)
   have hE : Hid (openS 1 l i = .ok (openT 11, i)) := by show _ = _; unfold openS; rw [if_neg (by simp), if_pos hs]
   clear hs h hw0
   go_enter Tryz.func51, Tryz.ntmps51
   go_wp2_with fail
   simp only [tokO, World.size_alloc] at HS
   refine HS.out.mono ?_
   rintro e w1 ⟨rfl, hr1, hm1⟩
   go_wp2_with fail
   refine (open_any 11 w1).mono ?_
   rintro e w2 ⟨rfl, hb2⟩
   have hr := hr1.keep hb2
   have hm := hm1.trans (Mv.of_below hb2)
   have hN : w2.heap[w.heap.size]? = some (tokO {}) := hm.blockAt (at_new _ _) (by omega)
   obtain ⟨m0, m1, m2, m3, m4, m5, m6, m7⟩ := tok_cells hN
   have fr0 := tok_free hN
   have hq0 : w.heap.size < w2.heap.size := lt_of_block hN
   have hq1 : ¬ w.heap.size = w2.heap.size := by omega
   have hq2 : ¬ w2.heap.size = w.heap.size := by omega
   have HRR := hide hr
   have HMM := hide hm
   clear hr hm HS hr1 hm1 hb2
   simp only [tokV, openT]
   go_wp21
   go_wp21
   go_wp21
   exact ret_tok (N := w.heap.size) rfl rfl (tok_set hN (openT 11)) (.inl ⟨(openT 11), i, hE.out, rfl, HRR.out.tok (by omega) (by omega) _ _ _ _ _ _ _ _, Mv.tok (((Mv.refl b w).alloc _).trans HMM.out) (Nat.le_refl _) _ _ _ _ _ _ _ _⟩)
  | true =>
   have HS := hide (skip_yes _ hw0 63 hs)
   by_cases hi : i + 1 < l.length
   ·have HT := hide (fun w1 (h1 : RB w1 b x c l (i + 1) 1) => take_yes w1 h1 hi)
    have hE0 := hide (openS_at hs (List.getElem?_eq_getElem hi))
    obtain ⟨p, hp⟩ : ∃ p, p = l[i + 1] := ⟨_, rfl⟩
    rw [← hp] at HT hE0
    clear hs h hw0 hp
    by_cases hp58 : p = 58
    ·subst hp58
     have hE : Hid (openS 1 l i = .ok (openT 1, i + 2)) := by show _ = _; rw [hE0.out]; simp
     clear hE0
     go_enter Tryz.func51, Tryz.ntmps51
     go_wp2_with fail
     simp only [tokO, World.size_alloc] at HS
     refine HS.out.mono ?_
     rintro e w1 ⟨rfl, hr1, hm1⟩
     go_wp2_with fail
     refine (HT.out w1 hr1).mono ?_
     rintro e w2 ⟨rfl, hr2, hm2⟩
     go_wp2_with fail
     refine (open_any 1 w2).mono ?_
     rintro e w3 ⟨rfl, hb3⟩
     have hr := hr2.keep hb3
     have hm := (hm1.trans hm2).trans (Mv.of_below hb3)
     have hN : w3.heap[w.heap.size]? = some (tokO {}) := hm.blockAt (at_new _ _) (by omega)
     obtain ⟨m0, m1, m2, m3, m4, m5, m6, m7⟩ := tok_cells hN
     have fr0 := tok_free hN
     have hq0 : w.heap.size < w3.heap.size := lt_of_block hN
     have hq1 : ¬ w.heap.size = w3.heap.size := by omega
     have hq2 : ¬ w3.heap.size = w.heap.size := by omega
     have HRR := hide hr
     have HMM := hide hm
     clear hr hm HS HT hr1 hm1 hr2 hm2 hb3
     simp only [tokV, openT]
     go_wp21
     go_wp21
     go_wp21
     exact ret_tok (N := w.heap.size) rfl rfl (tok_set hN (openT 1)) (.inl ⟨(openT 1), (i + 2), hE.out, rfl, HRR.out.tok (by omega) (by omega) _ _ _ _ _ _ _ _, Mv.tok (((Mv.refl b w).alloc _).trans HMM.out) (Nat.le_refl _) _ _ _ _ _ _ _ _⟩)
    by_cases hp62 : p = 62
    ·subst hp62
     have hE : Hid (openS 1 l i = .ok (openT 13, i + 2)) := by show _ = _; rw [hE0.out]; simp
     clear hE0
     go_enter Tryz.func51, Tryz.ntmps51
     go_wp2_with fail
     simp only [tokO, World.size_alloc] at HS
     refine HS.out.mono ?_
     rintro e w1 ⟨rfl, hr1, hm1⟩
     go_wp2_with fail
     refine (HT.out w1 hr1).mono ?_
     rintro e w2 ⟨rfl, hr2, hm2⟩
     go_wp2_with fail
     refine (open_any 13 w2).mono ?_
     rintro e w3 ⟨rfl, hb3⟩
     have hr := hr2.keep hb3
     have hm := (hm1.trans hm2).trans (Mv.of_below hb3)
     have hN : w3.heap[w.heap.size]? = some (tokO {}) := hm.blockAt (at_new _ _) (by omega)
     obtain ⟨m0, m1, m2, m3, m4, m5, m6, m7⟩ := tok_cells hN
     have fr0 := tok_free hN
     have hq0 : w.heap.size < w3.heap.size := lt_of_block hN
     have hq1 : ¬ w.heap.size = w3.heap.size := by omega
     have hq2 : ¬ w3.heap.size = w.heap.size := by omega
     have HRR := hide hr
     have HMM := hide hm
     clear hr hm HS HT hr1 hm1 hr2 hm2 hb3
     simp only [tokV, openT]
     go_wp21
     go_wp21
     go_wp21
     exact ret_tok (N := w.heap.size) rfl rfl (tok_set hN (openT 13)) (.inl ⟨(openT 13), (i + 2), hE.out, rfl, HRR.out.tok (by omega) (by omega) _ _ _ _ _ _ _ _, Mv.tok (((Mv.refl b w).alloc _).trans HMM.out) (Nat.le_refl _) _ _ _ _ _ _ _ _⟩)
    by_cases hp61 : p = 61
    ·subst hp61
     have hE : Hid (openS 1 l i = .ok (openT 14, i + 2)) := by show _ = _; rw [hE0.out]; simp
     clear hE0
     go_enter Tryz.func51, Tryz.ntmps51
     go_wp2_with fail
     simp only [tokO, World.size_alloc] at HS
     refine HS.out.mono ?_
     rintro e w1 ⟨rfl, hr1, hm1⟩
     go_wp2_with fail
     refine (HT.out w1 hr1).mono ?_
     rintro e w2 ⟨rfl, hr2, hm2⟩
     go_wp2_with fail
     refine (open_any 14 w2).mono ?_
     rintro e w3 ⟨rfl, hb3⟩
     have hr := hr2.keep hb3
     have hm := (hm1.trans hm2).trans (Mv.of_below hb3)
     have hN : w3.heap[w.heap.size]? = some (tokO {}) := hm.blockAt (at_new _ _) (by omega)
     obtain ⟨m0, m1, m2, m3, m4, m5, m6, m7⟩ := tok_cells hN
     have fr0 := tok_free hN
     have hq0 : w.heap.size < w3.heap.size := lt_of_block hN
     have hq1 : ¬ w.heap.size = w3.heap.size := by omega
     have hq2 : ¬ w3.heap.size = w.heap.size := by omega
     have HRR := hide hr
     have HMM := hide hm
     clear hr hm HS HT hr1 hm1 hr2 hm2 hb3
     simp only [tokV, openT]
     go_wp21
     go_wp21
     go_wp21
     exact ret_tok (N := w.heap.size) rfl rfl (tok_set hN (openT 14)) (.inl ⟨(openT 14), (i + 2), hE.out, rfl, HRR.out.tok (by omega) (by omega) _ _ _ _ _ _ _ _, Mv.tok (((Mv.refl b w).alloc _).trans HMM.out) (Nat.le_refl _) _ _ _ _ _ _ _ _⟩)
    by_cases hp33 : p = 33
    ·subst hp33
     have hE : Hid (openS 1 l i = .ok (openT 15, i + 2)) := by show _ = _; rw [hE0.out]; simp
     clear hE0
     go_enter Tryz.func51, Tryz.ntmps51
     go_wp2_with fail
     simp only [tokO, World.size_alloc] at HS
     refine HS.out.mono ?_
     rintro e w1 ⟨rfl, hr1, hm1⟩
     go_wp2_with fail
     refine (HT.out w1 hr1).mono ?_
     rintro e w2 ⟨rfl, hr2, hm2⟩
     go_wp2_with fail
     refine (open_any 15 w2).mono ?_
     rintro e w3 ⟨rfl, hb3⟩
     have hr := hr2.keep hb3
     have hm := (hm1.trans hm2).trans (Mv.of_below hb3)
     have hN : w3.heap[w.heap.size]? = some (tokO {}) := hm.blockAt (at_new _ _) (by omega)
     obtain ⟨m0, m1, m2, m3, m4, m5, m6, m7⟩ := tok_cells hN
     have fr0 := tok_free hN
     have hq0 : w.heap.size < w3.heap.size := lt_of_block hN
     have hq1 : ¬ w.heap.size = w3.heap.size := by omega
     have hq2 : ¬ w3.heap.size = w.heap.size := by omega
     have HRR := hide hr
     have HMM := hide hm
     clear hr hm HS HT hr1 hm1 hr2 hm2 hb3
     simp only [tokV, openT]
     go_wp21
     go_wp21
     go_wp21
     exact ret_tok (N := w.heap.size) rfl rfl (tok_set hN (openT 15)) (.inl ⟨(openT 15), (i + 2), hE.out, rfl, HRR.out.tok (by omega) (by omega) _ _ _ _ _ _ _ _, Mv.tok (((Mv.refl b w).alloc _).trans HMM.out) (Nat.le_refl _) _ _ _ _ _ _ _ _⟩)
    by_cases hp60 : p = 60
    ·subst hp60
     have HR : Hid (openS 1 l i = behT l (i + 2)) := by show _ = _; rw [hE0.out]; simp
     clear hE0
     go_enter Tryz.func51, Tryz.ntmps51
     go_wp2_with fail
     simp only [tokO, World.size_alloc] at HS
     refine HS.out.mono ?_
     rintro e w1 ⟨rfl, hr1, hm1⟩
     go_wp2_with fail
     refine (HT.out w1 hr1).mono ?_
     rintro e w2 ⟨rfl, hr2, hm2⟩
     go_wp2_with fail
     refine (openBehind_any w2 hr2).mono ?_
     rintro e w3 (⟨t, k, hR, rfl, hr, hm9⟩ | ⟨z, hR, rfl, hm9⟩)
     ·have hE := hide (HR.out.trans hR)
      have hm := (hm1.trans hm2).trans hm9
      have hN : w3.heap[w.heap.size]? = some (tokO {}) := hm.blockAt (at_new _ _) (by omega)
      obtain ⟨m0, m1, m2, m3, m4, m5, m6, m7⟩ := tok_cells hN
      have fr0 := tok_free hN
      have hq0 : w.heap.size < w3.heap.size := lt_of_block hN
      have hq1 : ¬ w.heap.size = w3.heap.size := by omega
      have hq2 : ¬ w3.heap.size = w.heap.size := by omega
      have HRR := hide hr
      have HMM := hide hm
      clear hr hm hm9 hR HR HS HT hr1 hm1 hr2 hm2
      simp only [tokV]
      go_wp21
      go_wp21
      exact ret_tok (N := w.heap.size) rfl rfl (tok_set hN t) (.inl ⟨t, k, hE.out, rfl, HRR.out.tok (by omega) (by omega) _ _ _ _ _ _ _ _, Mv.tok (((Mv.refl b w).alloc _).trans HMM.out) (Nat.le_refl _) _ _ _ _ _ _ _ _⟩)
     ·have hE := hide (HR.out.trans hR)
      have hm := (hm1.trans hm2).trans hm9
      have HMM := hide hm
      clear hm hm9 hR HR HS HT hr1 hm1 hr2 hm2
      simp only [gives]
      go_wp2
      exact ⟨rfl, .inr ⟨z, hE.out, rfl, ((Mv.refl b w).alloc _).trans HMM.out⟩⟩
    by_cases hp105 : p = 105
    ·subst hp105
     have HR : Hid (openS 1 l i = optT l (i + 2) 1) := by show _ = _; rw [hE0.out]; simp
     clear hE0
     go_enter Tryz.func51, Tryz.ntmps51
     go_wp2_with fail
     simp only [tokO, World.size_alloc] at HS
     refine HS.out.mono ?_
     rintro e w1 ⟨rfl, hr1, hm1⟩
     go_wp2_with fail
     refine (HT.out w1 hr1).mono ?_
     rintro e w2 ⟨rfl, hr2, hm2⟩
     go_wp2_with fail
     refine (option_any 1 w2 hr2).mono ?_
     rintro e w3 (⟨t, k, hR, rfl, hr, hm9⟩ | ⟨z, hR, rfl, hm9⟩)
     ·have hE := hide (HR.out.trans hR)
      have hm := (hm1.trans hm2).trans hm9
      have hN : w3.heap[w.heap.size]? = some (tokO {}) := hm.blockAt (at_new _ _) (by omega)
      obtain ⟨m0, m1, m2, m3, m4, m5, m6, m7⟩ := tok_cells hN
      have fr0 := tok_free hN
      have hq0 : w.heap.size < w3.heap.size := lt_of_block hN
      have hq1 : ¬ w.heap.size = w3.heap.size := by omega
      have hq2 : ¬ w3.heap.size = w.heap.size := by omega
      have HRR := hide hr
      have HMM := hide hm
      clear hr hm hm9 hR HR HS HT hr1 hm1 hr2 hm2
      simp only [tokV]
      go_wp21
      go_wp21
      exact ret_tok (N := w.heap.size) rfl rfl (tok_set hN t) (.inl ⟨t, k, hE.out, rfl, HRR.out.tok (by omega) (by omega) _ _ _ _ _ _ _ _, Mv.tok (((Mv.refl b w).alloc _).trans HMM.out) (Nat.le_refl _) _ _ _ _ _ _ _ _⟩)
     ·have hE := hide (HR.out.trans hR)
      have hm := (hm1.trans hm2).trans hm9
      have HMM := hide hm
      clear hm hm9 hR HR HS HT hr1 hm1 hr2 hm2
      simp only [gives]
      go_wp2
      exact ⟨rfl, .inr ⟨z, hE.out, rfl, ((Mv.refl b w).alloc _).trans HMM.out⟩⟩
    by_cases hp45 : p = 45
    ·subst hp45
     cases hs2 : says l (i + 2) [105] with
     | true =>
      have HR : Hid (openS 1 l i = optT l (i + 3) (-1)) := by show _ = _; rw [hE0.out]; simp [hs2]
      have HM3 := hide (fun w2 (h2 : RB w2 b x c l (i + 2) 1) => must_yes 105 w2 h2 hs2)
      clear hE0 hs2
      go_enter Tryz.func51, Tryz.ntmps51
      go_wp2_with fail
      simp only [tokO, World.size_alloc] at HS
      refine HS.out.mono ?_
      rintro e w1 ⟨rfl, hr1, hm1⟩
      go_wp2_with fail
      refine (HT.out w1 hr1).mono ?_
      rintro e w2 ⟨rfl, hr2, hm2⟩
      go_wp2_with fail
      refine (HM3.out w2 hr2).mono ?_
      rintro e w3 ⟨rfl, hr3, hm3⟩
      go_wp2_with fail
      refine (option_any (-1) w3 hr3).mono ?_
      rintro e w4 (⟨t, k, hR, rfl, hr, hm9⟩ | ⟨z, hR, rfl, hm9⟩)
      ·have hE := hide (HR.out.trans hR)
       have hm := ((hm1.trans hm2).trans hm3).trans hm9
       have hN : w4.heap[w.heap.size]? = some (tokO {}) := hm.blockAt (at_new _ _) (by omega)
       obtain ⟨m0, m1, m2, m3, m4, m5, m6, m7⟩ := tok_cells hN
       have fr0 := tok_free hN
       have hq0 : w.heap.size < w4.heap.size := lt_of_block hN
       have hq1 : ¬ w.heap.size = w4.heap.size := by omega
       have hq2 : ¬ w4.heap.size = w.heap.size := by omega
       have HRR := hide hr
       have HMM := hide hm
       clear hr hm hm9 hR HR HS HT HM3 hr1 hm1 hr2 hm2 hr3 hm3
       simp only [tokV]
       go_wp21
       go_wp21
       exact ret_tok (N := w.heap.size) rfl rfl (tok_set hN t) (.inl ⟨t, k, hE.out, rfl, HRR.out.tok (by omega) (by omega) _ _ _ _ _ _ _ _, Mv.tok (((Mv.refl b w).alloc _).trans HMM.out) (Nat.le_refl _) _ _ _ _ _ _ _ _⟩)
      ·have hE := hide (HR.out.trans hR)
       have hm := ((hm1.trans hm2).trans hm3).trans hm9
       have HMM := hide hm
       clear hm hm9 hR HR HS HT HM3 hr1 hm1 hr2 hm2 hr3 hm3
       simp only [gives]
       go_wp2
       exact ⟨rfl, .inr ⟨z, hE.out, rfl, ((Mv.refl b w).alloc _).trans HMM.out⟩⟩
     | false =>
      have hE : Hid (openS 1 l i = .error 1) := by show _ = _; rw [hE0.out]; simp [hs2]
      have HM3 := hide (fun w2 (h2 : RB w2 b x c l (i + 2) 1) => must_no 105 w2 h2 hs2)
      clear hE0 hs2
      go_enter Tryz.func51, Tryz.ntmps51
      go_wp2_with fail
      simp only [tokO, World.size_alloc] at HS
      refine HS.out.mono ?_
      rintro e w1 ⟨rfl, hr1, hm1⟩
      go_wp2_with fail
      refine (HT.out w1 hr1).mono ?_
      rintro e w2 ⟨rfl, hr2, hm2⟩
      go_wp2_with fail
      refine (HM3.out w2 hr2).mono ?_
      rintro e w3 ⟨rfl, hm3⟩
      have hm := (hm1.trans hm2).trans hm3
      have HMM := hide hm
      clear hm HS HT HM3 hr1 hm1 hr2 hm2 hm3
      simp only [gives]
      go_wp2
      exact ⟨rfl, .inr ⟨1, hE.out, rfl, ((Mv.refl b w).alloc _).trans HMM.out⟩⟩
    have hE : Hid (openS 1 l i = .error 1) := by show _ = _; rw [hE0.out]; simp [hp58, hp62, hp61, hp33, hp60, hp105, hp45]
    have hq58 : (p == 58) = false := by simpa using hp58
    have hq62 : (p == 62) = false := by simpa using hp62
    have hq61 : (p == 61) = false := by simpa using hp61
    have hq33 : (p == 33) = false := by simpa using hp33
    have hq60 : (p == 60) = false := by simpa using hp60
    have hq105 : (p == 105) = false := by simpa using hp105
    have hq45 : (p == 45) = false := by simpa using hp45
    clear hE0
    go_enter Tryz.func51, Tryz.ntmps51
    go_wp2_with fail
    simp only [tokO, World.size_alloc] at HS
    refine HS.out.mono ?_
    rintro e w1 ⟨rfl, hr1, hm1⟩
    go_wp2_with fail
    refine (HT.out w1 hr1).mono ?_
    rintro e w2 ⟨rfl, hr2, hm2⟩
    have hm := hm1.trans hm2
    have HMM := hide hm
    clear hm HS HT hr1 hm1 hr2 hm2
    simp only
    go_wp2
    exact ⟨rfl, .inr ⟨1, hE.out, rfl, ((Mv.refl b w).alloc _).trans HMM.out⟩⟩
   ·have HT := hide (fun w1 (h1 : RB w1 b x c l (i + 1) 1) => take_no w1 h1 hi)
    have hE : Hid (openS 1 l i = .error 1) := by show _ = _; unfold openS; rw [if_neg (by simp), if_neg (by rw [hs]; simp), List.getElem?_eq_none (by omega)]
    clear hs h hw0
    go_enter Tryz.func51, Tryz.ntmps51
    go_wp2_with fail
    simp only [tokO, World.size_alloc] at HS
    refine HS.out.mono ?_
    rintro e w1 ⟨rfl, hr1, hm1⟩
    go_wp2_with fail
    refine (HT.out w1 hr1).mono ?_
    rintro e w2 ⟨rfl, hm2⟩
    have hm := hm1.trans hm2
    have HMM := hide hm
    clear hm HS HT hr1 hm1 hm2
    simp only [gives]
    go_wp2
    exact ⟨rfl, .inr ⟨1, hE.out, rfl, ((Mv.refl b w).alloc _).trans HMM.out⟩⟩
 ·have hE : Hid (openS d l i = .ok (openT 11, i)) := by show _ = _; unfold openS; rw [if_pos hd]
  have hdb : (d != 1) = true := by simpa using hd
  have HR0 := hide hw0
  have hm0 := (Mv.refl b (w.alloc (tokO {})))
  clear h hw0
  go_enter Tryz.func51, Tryz.ntmps51
  go_wp2_with fail
  refine (open_any 11 _).mono ?_
  rintro e w2 ⟨rfl, hb2⟩
  have hr := HR0.out.keep hb2
  have hm := hm0.trans (Mv.of_below hb2)
  have hN : w2.heap[w.heap.size]? = some (tokO {}) := hm.blockAt (at_new _ _) (by omega)
  obtain ⟨m0, m1, m2, m3, m4, m5, m6, m7⟩ := tok_cells hN
  have fr0 := tok_free hN
  have hq0 : w.heap.size < w2.heap.size := lt_of_block hN
  have hq1 : ¬ w.heap.size = w2.heap.size := by omega
  have hq2 : ¬ w2.heap.size = w.heap.size := by omega
  have HRR := hide hr
  have HMM := hide hm
  clear hr hm HR0 hm0 hb2 c0 c1 c2 f1
  simp only [tokV, openT]
  go_wp21
  go_wp21
  go_wp21
  exact ret_tok (N := w.heap.size) rfl rfl (tok_set hN (openT 11)) (.inl ⟨(openT 11), i, hE.out, rfl, HRR.out.tok (by omega) (by omega) _ _ _ _ _ _ _ _, Mv.tok (((Mv.refl b w).alloc _).trans HMM.out) (Nat.le_refl _) _ _ _ _ _ _ _ _⟩)
end Go.Proofs.YtaccofiegkdlgaaGreatDoor.TK
namespace Go.Proofs.YtaccofiegkdlgaaGreatDoor.TK
set_option maxHeartbeats 4000000
open Go.RowKit
set_option linter.unusedVariables false
theorem parting_any {b : Nat} {x : Addr} {c : Nat} {l : List Int} {i : Nat} {d : Int} (p : Int) (w : World) (h : RB w b x c l i d) : Calls Tryz.prog 44 #[.pointer (some ⟨b, 0, none⟩), .int .i64 p] w fun e w' => OutT b x c l d w (partT d l p i) e w' := by
 have hlt := h.lt
 have hxw := h.xw
 have hat := h.at'
 have hw0 := h.alloc (tokO {})
 have hm0 := (Mv.refl b (w.alloc (tokO {})))
 by_cases hp40 : p = 40
 ·subst hp40
  have HR : Hid (partT d l 40 i = openS d l i) := by show _ = _; unfold partT; simp
  have HC := hide (openM_any _ hw0)
  clear h hw0 hm0
  go_enter Tryz.func44, Tryz.ntmps44
  go_wp2_with fail
  simp only [tokO] at HC
  refine HC.out.mono ?_
  rintro e w1 (⟨t, k, hR, rfl, hr, hm⟩ | ⟨z, hR, rfl, hm⟩)
  ·have hE := hide (HR.out.trans hR)
   have hN : w1.heap[w.heap.size]? = some (tokO {}) := hm.blockAt (at_new _ _) (by omega)
   obtain ⟨m0, m1, m2, m3, m4, m5, m6, m7⟩ := tok_cells hN
   have fr0 := tok_free hN
   have hq0 : w.heap.size < w1.heap.size := lt_of_block hN
   have hq1 : ¬ w.heap.size = w1.heap.size := by omega
   have hq2 : ¬ w1.heap.size = w.heap.size := by omega
   have HRR := hide hr
   have HMM := hide hm
   clear hr hm hR HR HC
   simp only [tokV]
   go_wp21
   go_wp21
   exact ret_tok (N := w.heap.size) rfl rfl (tok_set hN t) (.inl ⟨t, k, hE.out, rfl, HRR.out.tok (by omega) (by omega) _ _ _ _ _ _ _ _, Mv.tok (((Mv.refl b w).alloc _).trans HMM.out) (Nat.le_refl _) _ _ _ _ _ _ _ _⟩)
  ·have hE := hide (HR.out.trans hR)
   have HMM := hide hm
   clear hm hR HR HC
   simp only [gives]
   go_wp2
   exact ⟨rfl, .inr ⟨z, hE.out, rfl, ((Mv.refl b w).alloc _).trans HMM.out⟩⟩
 by_cases hp41 : p = 41
 ·subst hp41
  have hE : Hid (partT d l 41 i = .ok ({ kind := 8 }, i)) := by show _ = _; unfold partT; simp
  have HR0 := hide h
  clear h hw0 hm0
  go_enter Tryz.func44, Tryz.ntmps44
  go_wp21
  go_wp21
  exact ret_tok (N := w.heap.size) (t := { kind := 8 }) rfl rfl (at_new _ _) (.inl ⟨{ kind := 8 }, i, hE.out, rfl, HR0.out.alloc _, (Mv.refl b w).alloc _⟩)
 by_cases hp124 : p = 124
 ·subst hp124
  have hE : Hid (partT d l 124 i = .ok ({ kind := 9 }, i)) := by show _ = _; unfold partT; simp
  have HR0 := hide h
  clear h hw0 hm0
  go_enter Tryz.func44, Tryz.ntmps44
  go_wp21
  go_wp21
  exact ret_tok (N := w.heap.size) (t := { kind := 9 }) rfl rfl (at_new _ _) (.inl ⟨{ kind := 9 }, i, hE.out, rfl, HR0.out.alloc _, (Mv.refl b w).alloc _⟩)
 by_cases hp123 : p = 123
 ·subst hp123
  have HR : Hid (partT d l 123 i = timesT d l i) := by show _ = _; unfold partT; simp
  have HC := hide (times_any _ hw0)
  clear h hw0 hm0
  go_enter Tryz.func44, Tryz.ntmps44
  go_wp2_with fail
  simp only [tokO] at HC
  refine HC.out.mono ?_
  rintro e w1 (⟨t, k, hR, rfl, hr, hm⟩ | ⟨z, hR, rfl, hm⟩)
  ·have hE := hide (HR.out.trans hR)
   have hN : w1.heap[w.heap.size]? = some (tokO {}) := hm.blockAt (at_new _ _) (by omega)
   obtain ⟨m0, m1, m2, m3, m4, m5, m6, m7⟩ := tok_cells hN
   have fr0 := tok_free hN
   have hq0 : w.heap.size < w1.heap.size := lt_of_block hN
   have hq1 : ¬ w.heap.size = w1.heap.size := by omega
   have hq2 : ¬ w1.heap.size = w.heap.size := by omega
   have HRR := hide hr
   have HMM := hide hm
   clear hr hm hR HR HC
   simp only [tokV]
   go_wp21
   go_wp21
   exact ret_tok (N := w.heap.size) rfl rfl (tok_set hN t) (.inl ⟨t, k, hE.out, rfl, HRR.out.tok (by omega) (by omega) _ _ _ _ _ _ _ _, Mv.tok (((Mv.refl b w).alloc _).trans HMM.out) (Nat.le_refl _) _ _ _ _ _ _ _ _⟩)
  ·have hE := hide (HR.out.trans hR)
   have HMM := hide hm
   clear hm hR HR HC
   simp only [gives]
   go_wp2
   exact ⟨rfl, .inr ⟨z, hE.out, rfl, ((Mv.refl b w).alloc _).trans HMM.out⟩⟩
 have hE : Hid (partT d l p i = .ok (pointT p, i)) := by show _ = _; unfold partT; simp [hp40, hp41, hp124, hp123]
 have hq40 : (p == 40) = false := by simpa using hp40
 have hq41 : (p == 41) = false := by simpa using hp41
 have hq124 : (p == 124) = false := by simpa using hp124
 have hq123 : (p == 123) = false := by simpa using hp123
 have HR0 := hide hw0
 clear h hw0
 go_enter Tryz.func44, Tryz.ntmps44
 go_wp2_with fail
 refine (point_any p _).mono ?_
 rintro e w2 ⟨rfl, hb2⟩
 have hr := HR0.out.keep hb2
 have hm := hm0.trans (Mv.of_below hb2)
 have hN : w2.heap[w.heap.size]? = some (tokO {}) := hm.blockAt (at_new _ _) (by omega)
 obtain ⟨m0, m1, m2, m3, m4, m5, m6, m7⟩ := tok_cells hN
 have fr0 := tok_free hN
 have hq0 : w.heap.size < w2.heap.size := lt_of_block hN
 have hq1 : ¬ w.heap.size = w2.heap.size := by omega
 have hq2 : ¬ w2.heap.size = w.heap.size := by omega
 have HRR := hide hr
 have HMM := hide hm
 clear hr hm HR0 hm0 hb2
 simp only [tokV, pointT]
 go_wp21
 go_wp21
 exact ret_tok (N := w.heap.size) rfl rfl (tok_set hN (pointT p)) (.inl ⟨(pointT p), i, hE.out, rfl, HRR.out.tok (by omega) (by omega) _ _ _ _ _ _ _ _, Mv.tok (((Mv.refl b w).alloc _).trans HMM.out) (Nat.le_refl _) _ _ _ _ _ _ _ _⟩)
end Go.Proofs.YtaccofiegkdlgaaGreatDoor.TK
