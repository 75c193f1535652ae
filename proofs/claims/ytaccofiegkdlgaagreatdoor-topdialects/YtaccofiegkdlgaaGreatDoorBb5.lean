import Derived.Test.YtaccofiegkdlgaaGreatDoorKW
namespace Go.Proofs.YtaccofiegkdlgaaGreatDoor.Br
set_option maxHeartbeats 4000000
open Go.RowKit
open TK (Mv PatV ReadsI byteA)
set_option linter.unusedVariables false
variable {w w' : World} {b : Nat} {v : Value} {l : List Int} {i : Nat} {d : Int} {fo : Bool}
theorem OutS.inl' {R : Except BE (PS × Nat)} {f : PS} {k : Nat} {sv : Value} {L : RL} (h1 : R = .ok (f, k)) (h2 : OR w' w.heap.size sv L) (h3 : IsSet f L) (h4 : BB w' b v l k d fo) (h5 : i < k) (h6 : Mv b w w') : OutS R b v l i d fo w (.returned sv) w' := .inl ⟨f, k, sv, L, h1, rfl, h2, h3, h4, h5, h6⟩
theorem class_ry_e (h : BB w b v l i d fo) (hc : isCls l i = true) (hd : (d == 1) = true) (h94 : isAt l (i + 2) [94] = true) (hn : lettersL l (i + 3) = []) :
  Calls Tryz.prog 165 #[.pointer (some ⟨b, 0, none⟩)] w fun e w' => OutS (namedE (par d fo) l i) b v l i d fo w e w' := by
 obtain ⟨c0, c1, c2, c3, f1⟩ := h.cells
 have hE := hide (named_err (d := d) (fo := fo) (l := l) (i := i) (no := true) (j := i + 3) (n := (lettersL l (i + 3)).length) (by simp only [par]; rw [hd, h94]; rfl) rfl rfl (.inl hn))
 have HS1 := hide (skip2_yes h 91 58 hc)
 obtain ⟨n, hnn⟩ : ∃ n, n = (lettersL l (i + 3)).length := ⟨_, rfl⟩
 obtain ⟨S, hS⟩ : ∃ S, S = byteA (lettersL l (i + 3)) := ⟨_, rfl⟩
 have HL := hide (fun w3 (hr3 : BB w3 b v l (i + 3) d fo) => letters_any hr3)
 simp only [LetE] at HL
 rw [← hnn, ← hS] at HL
 rw [← hnn] at hE
 have z1 : S.toList = [] := by rw [hS, hn, TK.byteA_isE]; rfl
 have z2 : S.toList.isEmpty = true := by rw [z1]; rfl
 clear hS hnn hn hc h c0 c2 c3 f1
 go_enter Tryz.func165, Tryz.ntmps165
 go_wp2_with fail
 refine HS1.out.mono ?_
 rintro e w1 ⟨rfl, hr1, hm1⟩
 have HM1 := hide hm1
 have HR1 := hide hr1
 clear hm1 hr1 HS1 c1
 go_wp2_with fail
 refine (ruby_is HR1.out hd).mono ?_
 rintro e w1' ⟨rfl, rfl⟩
 go_wp2_with fail
 refine (skip1_yes HR1.out 94 h94).mono ?_
 rintro e w2 ⟨rfl, hr2, hm2⟩
 have HM2 := hide (HM1.out.trans hm2)
 have HR2 := hide hr2
 clear hm2 hr2 HM1 HR1 h94 hd
 go_wp2_with fail
 refine (HL.out _ HR2.out).mono ?_
 rintro e w3 ⟨rfl, hr3, hm3⟩
 have HM3 := hide (HM2.out.trans hm3)
 have HR3 := hide hr3
 obtain ⟨c0, c1, c2, c3, f1⟩ := hr3.cells
 have HG := hide (giveUp_any 1 (((i + 3 + n : Nat) : Int)) w3)
 simp only [givesF] at HG
 clear hm3 hr3 HM2 HR2 HL c0 c2 c3 f1
 go_wp2_with fail
 refine HG.out.mono ?_
 rintro e w4 ⟨rfl, rfl⟩
 go_wp2
 exact ⟨rfl, .inr ⟨1, _, hE.out, rfl, HM3.out⟩⟩
theorem class_ry_n (h : BB w b v l i d fo) (hc : isCls l i = true) (hd : (d == 1) = true) (h94 : isAt l (i + 2) [94] = true) (hn : ¬ lettersL l (i + 3) = []) (h2 : isAt l (i + 3 + (lettersL l (i + 3)).length) [58, 93] = false) :
  Calls Tryz.prog 165 #[.pointer (some ⟨b, 0, none⟩)] w fun e w' => OutS (namedE (par d fo) l i) b v l i d fo w e w' := by
 obtain ⟨c0, c1, c2, c3, f1⟩ := h.cells
 have hE := hide (named_err (d := d) (fo := fo) (l := l) (i := i) (no := true) (j := i + 3) (n := (lettersL l (i + 3)).length) (by simp only [par]; rw [hd, h94]; rfl) rfl rfl (.inr h2))
 have HS1 := hide (skip2_yes h 91 58 hc)
 obtain ⟨n, hnn⟩ : ∃ n, n = (lettersL l (i + 3)).length := ⟨_, rfl⟩
 obtain ⟨S, hS⟩ : ∃ S, S = byteA (lettersL l (i + 3)) := ⟨_, rfl⟩
 have HL := hide (fun w3 (hr3 : BB w3 b v l (i + 3) d fo) => letters_any hr3)
 simp only [LetE] at HL
 rw [← hnn, ← hS] at HL
 rw [← hnn] at hE
 rw [← hnn] at h2
 have z1 : ¬ S.toList = [] := by rw [hS, TK.byteA_isE]; simpa using hn
 have z2 : S.toList.isEmpty = false := letters_one.2 z1
 clear hS hnn hn hc h c0 c2 c3 f1
 go_enter Tryz.func165, Tryz.ntmps165
 go_wp2_with fail
 refine HS1.out.mono ?_
 rintro e w1 ⟨rfl, hr1, hm1⟩
 have HM1 := hide hm1
 have HR1 := hide hr1
 clear hm1 hr1 HS1 c1
 go_wp2_with fail
 refine (ruby_is HR1.out hd).mono ?_
 rintro e w1' ⟨rfl, rfl⟩
 go_wp2_with fail
 refine (skip1_yes HR1.out 94 h94).mono ?_
 rintro e w2 ⟨rfl, hr2, hm2⟩
 have HM2 := hide (HM1.out.trans hm2)
 have HR2 := hide hr2
 clear hm2 hr2 HM1 HR1 h94 hd
 go_wp2_with fail
 refine (HL.out _ HR2.out).mono ?_
 rintro e w3 ⟨rfl, hr3, hm3⟩
 have HM3 := hide (HM2.out.trans hm3)
 have HR3 := hide hr3
 have H2 := hide h2
 clear hm3 hr3 HM2 HR2 HL h2
 go_wp2_with fail
 refine (skip2_no HR3.out 58 93 H2.out).mono ?_
 rintro e w4 ⟨rfl, hr4, hm4⟩
 have HM4 := hide (HM3.out.trans hm4)
 obtain ⟨c0, c1, c2, c3, f1⟩ := hr4.cells
 have HG := hide (giveUp_any 1 (((i + 3 + n : Nat) : Int)) w4)
 simp only [givesF] at HG
 clear hm4 hr4 HM3 HR3 c0 c2 c3 f1 H2
 go_wp2_with fail
 refine HG.out.mono ?_
 rintro e w5 ⟨rfl, rfl⟩
 go_wp2
 exact ⟨rfl, .inr ⟨1, _, hE.out, rfl, HM4.out⟩⟩
theorem class_ry_y (h : BB w b v l i d fo) (hc : isCls l i = true) (hd : (d == 1) = true) (h94 : isAt l (i + 2) [94] = true) (hn : ¬ lettersL l (i + 3) = []) (h2 : isAt l (i + 3 + (lettersL l (i + 3)).length) [58, 93] = true) :
  Calls Tryz.prog 165 #[.pointer (some ⟨b, 0, none⟩)] w fun e w' => OutS (namedE (par d fo) l i) b v l i d fo w e w' := by
 obtain ⟨c0, c1, c2, c3, f1⟩ := h.cells
 have hE := hide (named_ok (d := d) (fo := fo) (l := l) (i := i) (no := true) (j := i + 3) (n := (lettersL l (i + 3)).length) (by simp only [par]; rw [hd, h94]; rfl) rfl rfl hn h2)
 have HS1 := hide (skip2_yes h 91 58 hc)
 obtain ⟨n, hnn⟩ : ∃ n, n = (lettersL l (i + 3)).length := ⟨_, rfl⟩
 obtain ⟨S, hS⟩ : ∃ S, S = byteA (lettersL l (i + 3)) := ⟨_, rfl⟩
 have HL := hide (fun w3 (hr3 : BB w3 b v l (i + 3) d fo) => letters_any hr3)
 simp only [LetE] at HL
 rw [← hnn, ← hS] at HL
 rw [← hnn] at hE
 rw [← hS] at hE
 rw [← hnn] at h2
 have z1 : ¬ S.toList = [] := by rw [hS, TK.byteA_isE]; simpa using hn
 have z2 : S.toList.isEmpty = false := letters_one.2 z1
 clear hS hnn hn hc h c0 c2 c3 f1
 go_enter Tryz.func165, Tryz.ntmps165
 go_wp2_with fail
 refine HS1.out.mono ?_
 rintro e w1 ⟨rfl, hr1, hm1⟩
 have HM1 := hide hm1
 have HR1 := hide hr1
 clear hm1 hr1 HS1 c1
 go_wp2_with fail
 refine (ruby_is HR1.out hd).mono ?_
 rintro e w1' ⟨rfl, rfl⟩
 go_wp2_with fail
 refine (skip1_yes HR1.out 94 h94).mono ?_
 rintro e w2 ⟨rfl, hr2, hm2⟩
 have HM2 := hide (HM1.out.trans hm2)
 have HR2 := hide hr2
 clear hm2 hr2 HM1 HR1 h94 hd
 go_wp2_with fail
 refine (HL.out _ HR2.out).mono ?_
 rintro e w3 ⟨rfl, hr3, hm3⟩
 have HM3 := hide (HM2.out.trans hm3)
 have HR3 := hide hr3
 have H2 := hide h2
 clear hm3 hr3 HM2 HR2 HL h2
 go_wp2_with fail
 refine (skip2_yes HR3.out 58 93 H2.out).mono ?_
 rintro e w4 ⟨rfl, hr4, hm4⟩
 have HM4 := hide (HM3.out.trans hm4)
 have HR4 := hide hr4
 have HP := hide (pointsOf_any (d := d) (fo := fo) S true (i : Int) w4)
 clear hm4 hr4 HM3 HR3 H2
 go_wp2_with fail
 refine HP.out.mono ?_
 rintro e w5 (⟨f, sv, L, hR, rfl, hrd, hset, hb⟩ | ⟨z, a, hR, rfl, hb⟩)
 ·have HE := hide (hE.out.trans (by rw [hR]))
  have HF := hide (OutS.inl' (i := i) HE.out (hrd.low HM4.out.size) hset (HR4.out.keep hb) (by omega) (Mv.then HM4.out hb))
  obtain ⟨ao, c, hv⟩ := hrd.shape
  rw [hv] at HF ⊢
  clear hR hrd hset hb hv HE hE
  go_wp2
  go_ret
  exact HF.out
 ·have HE := hide (hE.out.trans (by rw [hR]))
  have HF := hide (Mv.then HM4.out hb)
  clear hR hb hE
  simp only [givesF]
  go_wp2
  exact ⟨rfl, .inr ⟨z, a, HE.out, rfl, HF.out⟩⟩
theorem class_rn_e (h : BB w b v l i d fo) (hc : isCls l i = true) (hd : (d == 1) = true) (h94 : isAt l (i + 2) [94] = false) (hn : lettersL l (i + 2) = []) :
  Calls Tryz.prog 165 #[.pointer (some ⟨b, 0, none⟩)] w fun e w' => OutS (namedE (par d fo) l i) b v l i d fo w e w' := by
 obtain ⟨c0, c1, c2, c3, f1⟩ := h.cells
 have hE := hide (named_err (d := d) (fo := fo) (l := l) (i := i) (no := false) (j := i + 2) (n := (lettersL l (i + 2)).length) (by simp only [par]; rw [hd, h94]; rfl) rfl rfl (.inl hn))
 have HS1 := hide (skip2_yes h 91 58 hc)
 obtain ⟨n, hnn⟩ : ∃ n, n = (lettersL l (i + 2)).length := ⟨_, rfl⟩
 obtain ⟨S, hS⟩ : ∃ S, S = byteA (lettersL l (i + 2)) := ⟨_, rfl⟩
 have HL := hide (fun w3 (hr3 : BB w3 b v l (i + 2) d fo) => letters_any hr3)
 simp only [LetE] at HL
 rw [← hnn, ← hS] at HL
 rw [← hnn] at hE
 have z1 : S.toList = [] := by rw [hS, hn, TK.byteA_isE]; rfl
 have z2 : S.toList.isEmpty = true := by rw [z1]; rfl
 clear hS hnn hn hc h c0 c2 c3 f1
 go_enter Tryz.func165, Tryz.ntmps165
 go_wp2_with fail
 refine HS1.out.mono ?_
 rintro e w1 ⟨rfl, hr1, hm1⟩
 have HM1 := hide hm1
 have HR1 := hide hr1
 clear hm1 hr1 HS1 c1
 go_wp2_with fail
 refine (ruby_is HR1.out hd).mono ?_
 rintro e w1' ⟨rfl, rfl⟩
 go_wp2_with fail
 refine (skip1_no HR1.out 94 h94).mono ?_
 rintro e w2 ⟨rfl, hr2, hm2⟩
 have HM2 := hide (HM1.out.trans hm2)
 have HR2 := hide hr2
 clear hm2 hr2 HM1 HR1 h94 hd
 go_wp2_with fail
 refine (HL.out _ HR2.out).mono ?_
 rintro e w3 ⟨rfl, hr3, hm3⟩
 have HM3 := hide (HM2.out.trans hm3)
 have HR3 := hide hr3
 obtain ⟨c0, c1, c2, c3, f1⟩ := hr3.cells
 have HG := hide (giveUp_any 1 (((i + 2 + n : Nat) : Int)) w3)
 simp only [givesF] at HG
 clear hm3 hr3 HM2 HR2 HL c0 c2 c3 f1
 go_wp2_with fail
 refine HG.out.mono ?_
 rintro e w4 ⟨rfl, rfl⟩
 go_wp2
 exact ⟨rfl, .inr ⟨1, _, hE.out, rfl, HM3.out⟩⟩
theorem class_rn_n (h : BB w b v l i d fo) (hc : isCls l i = true) (hd : (d == 1) = true) (h94 : isAt l (i + 2) [94] = false) (hn : ¬ lettersL l (i + 2) = []) (h2 : isAt l (i + 2 + (lettersL l (i + 2)).length) [58, 93] = false) :
  Calls Tryz.prog 165 #[.pointer (some ⟨b, 0, none⟩)] w fun e w' => OutS (namedE (par d fo) l i) b v l i d fo w e w' := by
 obtain ⟨c0, c1, c2, c3, f1⟩ := h.cells
 have hE := hide (named_err (d := d) (fo := fo) (l := l) (i := i) (no := false) (j := i + 2) (n := (lettersL l (i + 2)).length) (by simp only [par]; rw [hd, h94]; rfl) rfl rfl (.inr h2))
 have HS1 := hide (skip2_yes h 91 58 hc)
 obtain ⟨n, hnn⟩ : ∃ n, n = (lettersL l (i + 2)).length := ⟨_, rfl⟩
 obtain ⟨S, hS⟩ : ∃ S, S = byteA (lettersL l (i + 2)) := ⟨_, rfl⟩
 have HL := hide (fun w3 (hr3 : BB w3 b v l (i + 2) d fo) => letters_any hr3)
 simp only [LetE] at HL
 rw [← hnn, ← hS] at HL
 rw [← hnn] at hE
 rw [← hnn] at h2
 have z1 : ¬ S.toList = [] := by rw [hS, TK.byteA_isE]; simpa using hn
 have z2 : S.toList.isEmpty = false := letters_one.2 z1
 clear hS hnn hn hc h c0 c2 c3 f1
 go_enter Tryz.func165, Tryz.ntmps165
 go_wp2_with fail
 refine HS1.out.mono ?_
 rintro e w1 ⟨rfl, hr1, hm1⟩
 have HM1 := hide hm1
 have HR1 := hide hr1
 clear hm1 hr1 HS1 c1
 go_wp2_with fail
 refine (ruby_is HR1.out hd).mono ?_
 rintro e w1' ⟨rfl, rfl⟩
 go_wp2_with fail
 refine (skip1_no HR1.out 94 h94).mono ?_
 rintro e w2 ⟨rfl, hr2, hm2⟩
 have HM2 := hide (HM1.out.trans hm2)
 have HR2 := hide hr2
 clear hm2 hr2 HM1 HR1 h94 hd
 go_wp2_with fail
 refine (HL.out _ HR2.out).mono ?_
 rintro e w3 ⟨rfl, hr3, hm3⟩
 have HM3 := hide (HM2.out.trans hm3)
 have HR3 := hide hr3
 have H2 := hide h2
 clear hm3 hr3 HM2 HR2 HL h2
 go_wp2_with fail
 refine (skip2_no HR3.out 58 93 H2.out).mono ?_
 rintro e w4 ⟨rfl, hr4, hm4⟩
 have HM4 := hide (HM3.out.trans hm4)
 obtain ⟨c0, c1, c2, c3, f1⟩ := hr4.cells
 have HG := hide (giveUp_any 1 (((i + 2 + n : Nat) : Int)) w4)
 simp only [givesF] at HG
 clear hm4 hr4 HM3 HR3 c0 c2 c3 f1 H2
 go_wp2_with fail
 refine HG.out.mono ?_
 rintro e w5 ⟨rfl, rfl⟩
 go_wp2
 exact ⟨rfl, .inr ⟨1, _, hE.out, rfl, HM4.out⟩⟩
theorem class_rn_y (h : BB w b v l i d fo) (hc : isCls l i = true) (hd : (d == 1) = true) (h94 : isAt l (i + 2) [94] = false) (hn : ¬ lettersL l (i + 2) = []) (h2 : isAt l (i + 2 + (lettersL l (i + 2)).length) [58, 93] = true) :
  Calls Tryz.prog 165 #[.pointer (some ⟨b, 0, none⟩)] w fun e w' => OutS (namedE (par d fo) l i) b v l i d fo w e w' := by
 obtain ⟨c0, c1, c2, c3, f1⟩ := h.cells
 have hE := hide (named_ok (d := d) (fo := fo) (l := l) (i := i) (no := false) (j := i + 2) (n := (lettersL l (i + 2)).length) (by simp only [par]; rw [hd, h94]; rfl) rfl rfl hn h2)
 have HS1 := hide (skip2_yes h 91 58 hc)
 obtain ⟨n, hnn⟩ : ∃ n, n = (lettersL l (i + 2)).length := ⟨_, rfl⟩
 obtain ⟨S, hS⟩ : ∃ S, S = byteA (lettersL l (i + 2)) := ⟨_, rfl⟩
 have HL := hide (fun w3 (hr3 : BB w3 b v l (i + 2) d fo) => letters_any hr3)
 simp only [LetE] at HL
 rw [← hnn, ← hS] at HL
 rw [← hnn] at hE
 rw [← hS] at hE
 rw [← hnn] at h2
 have z1 : ¬ S.toList = [] := by rw [hS, TK.byteA_isE]; simpa using hn
 have z2 : S.toList.isEmpty = false := letters_one.2 z1
 clear hS hnn hn hc h c0 c2 c3 f1
 go_enter Tryz.func165, Tryz.ntmps165
 go_wp2_with fail
 refine HS1.out.mono ?_
 rintro e w1 ⟨rfl, hr1, hm1⟩
 have HM1 := hide hm1
 have HR1 := hide hr1
 clear hm1 hr1 HS1 c1
 go_wp2_with fail
 refine (ruby_is HR1.out hd).mono ?_
 rintro e w1' ⟨rfl, rfl⟩
 go_wp2_with fail
 refine (skip1_no HR1.out 94 h94).mono ?_
 rintro e w2 ⟨rfl, hr2, hm2⟩
 have HM2 := hide (HM1.out.trans hm2)
 have HR2 := hide hr2
 clear hm2 hr2 HM1 HR1 h94 hd
 go_wp2_with fail
 refine (HL.out _ HR2.out).mono ?_
 rintro e w3 ⟨rfl, hr3, hm3⟩
 have HM3 := hide (HM2.out.trans hm3)
 have HR3 := hide hr3
 have H2 := hide h2
 clear hm3 hr3 HM2 HR2 HL h2
 go_wp2_with fail
 refine (skip2_yes HR3.out 58 93 H2.out).mono ?_
 rintro e w4 ⟨rfl, hr4, hm4⟩
 have HM4 := hide (HM3.out.trans hm4)
 have HR4 := hide hr4
 have HP := hide (pointsOf_any (d := d) (fo := fo) S false (i : Int) w4)
 clear hm4 hr4 HM3 HR3 H2
 go_wp2_with fail
 refine HP.out.mono ?_
 rintro e w5 (⟨f, sv, L, hR, rfl, hrd, hset, hb⟩ | ⟨z, a, hR, rfl, hb⟩)
 ·have HE := hide (hE.out.trans (by rw [hR]))
  have HF := hide (OutS.inl' (i := i) HE.out (hrd.low HM4.out.size) hset (HR4.out.keep hb) (by omega) (Mv.then HM4.out hb))
  obtain ⟨ao, c, hv⟩ := hrd.shape
  rw [hv] at HF ⊢
  clear hR hrd hset hb hv HE hE
  go_wp2
  go_ret
  exact HF.out
 ·have HE := hide (hE.out.trans (by rw [hR]))
  have HF := hide (Mv.then HM4.out hb)
  clear hR hb hE
  simp only [givesF]
  go_wp2
  exact ⟨rfl, .inr ⟨z, a, HE.out, rfl, HF.out⟩⟩
theorem class_p_e (h : BB w b v l i d fo) (hc : isCls l i = true) (hd : (d == 1) = false) (hn : lettersL l (i + 2) = []) :
  Calls Tryz.prog 165 #[.pointer (some ⟨b, 0, none⟩)] w fun e w' => OutS (namedE (par d fo) l i) b v l i d fo w e w' := by
 obtain ⟨c0, c1, c2, c3, f1⟩ := h.cells
 have hE := hide (named_err (d := d) (fo := fo) (l := l) (i := i) (no := false) (j := i + 2) (n := (lettersL l (i + 2)).length) (by simp only [par]; rw [hd]; rfl) rfl rfl (.inl hn))
 have HS1 := hide (skip2_yes h 91 58 hc)
 obtain ⟨n, hnn⟩ : ∃ n, n = (lettersL l (i + 2)).length := ⟨_, rfl⟩
 obtain ⟨S, hS⟩ : ∃ S, S = byteA (lettersL l (i + 2)) := ⟨_, rfl⟩
 have HL := hide (fun w3 (hr3 : BB w3 b v l (i + 2) d fo) => letters_any hr3)
 simp only [LetE] at HL
 rw [← hnn, ← hS] at HL
 rw [← hnn] at hE
 have z1 : S.toList = [] := by rw [hS, hn, TK.byteA_isE]; rfl
 have z2 : S.toList.isEmpty = true := by rw [z1]; rfl
 clear hS hnn hn hc h c0 c2 c3 f1
 go_enter Tryz.func165, Tryz.ntmps165
 go_wp2_with fail
 refine HS1.out.mono ?_
 rintro e w1 ⟨rfl, hr1, hm1⟩
 have HM1 := hide hm1
 have HR1 := hide hr1
 clear hm1 hr1 HS1 c1
 go_wp2_with fail
 refine (ruby_is HR1.out hd).mono ?_
 rintro e w1' ⟨rfl, rfl⟩
 have HM2 := HM1
 have HR2 := HR1
 clear HM1 HR1 hd
 go_wp2_with fail
 refine (HL.out _ HR2.out).mono ?_
 rintro e w3 ⟨rfl, hr3, hm3⟩
 have HM3 := hide (HM2.out.trans hm3)
 have HR3 := hide hr3
 obtain ⟨c0, c1, c2, c3, f1⟩ := hr3.cells
 have HG := hide (giveUp_any 1 (((i + 2 + n : Nat) : Int)) w3)
 simp only [givesF] at HG
 clear hm3 hr3 HM2 HR2 HL c0 c2 c3 f1
 go_wp2_with fail
 refine HG.out.mono ?_
 rintro e w4 ⟨rfl, rfl⟩
 go_wp2
 exact ⟨rfl, .inr ⟨1, _, hE.out, rfl, HM3.out⟩⟩
theorem class_p_n (h : BB w b v l i d fo) (hc : isCls l i = true) (hd : (d == 1) = false) (hn : ¬ lettersL l (i + 2) = []) (h2 : isAt l (i + 2 + (lettersL l (i + 2)).length) [58, 93] = false) :
  Calls Tryz.prog 165 #[.pointer (some ⟨b, 0, none⟩)] w fun e w' => OutS (namedE (par d fo) l i) b v l i d fo w e w' := by
 obtain ⟨c0, c1, c2, c3, f1⟩ := h.cells
 have hE := hide (named_err (d := d) (fo := fo) (l := l) (i := i) (no := false) (j := i + 2) (n := (lettersL l (i + 2)).length) (by simp only [par]; rw [hd]; rfl) rfl rfl (.inr h2))
 have HS1 := hide (skip2_yes h 91 58 hc)
 obtain ⟨n, hnn⟩ : ∃ n, n = (lettersL l (i + 2)).length := ⟨_, rfl⟩
 obtain ⟨S, hS⟩ : ∃ S, S = byteA (lettersL l (i + 2)) := ⟨_, rfl⟩
 have HL := hide (fun w3 (hr3 : BB w3 b v l (i + 2) d fo) => letters_any hr3)
 simp only [LetE] at HL
 rw [← hnn, ← hS] at HL
 rw [← hnn] at hE
 rw [← hnn] at h2
 have z1 : ¬ S.toList = [] := by rw [hS, TK.byteA_isE]; simpa using hn
 have z2 : S.toList.isEmpty = false := letters_one.2 z1
 clear hS hnn hn hc h c0 c2 c3 f1
 go_enter Tryz.func165, Tryz.ntmps165
 go_wp2_with fail
 refine HS1.out.mono ?_
 rintro e w1 ⟨rfl, hr1, hm1⟩
 have HM1 := hide hm1
 have HR1 := hide hr1
 clear hm1 hr1 HS1 c1
 go_wp2_with fail
 refine (ruby_is HR1.out hd).mono ?_
 rintro e w1' ⟨rfl, rfl⟩
 have HM2 := HM1
 have HR2 := HR1
 clear HM1 HR1 hd
 go_wp2_with fail
 refine (HL.out _ HR2.out).mono ?_
 rintro e w3 ⟨rfl, hr3, hm3⟩
 have HM3 := hide (HM2.out.trans hm3)
 have HR3 := hide hr3
 have H2 := hide h2
 clear hm3 hr3 HM2 HR2 HL h2
 go_wp2_with fail
 refine (skip2_no HR3.out 58 93 H2.out).mono ?_
 rintro e w4 ⟨rfl, hr4, hm4⟩
 have HM4 := hide (HM3.out.trans hm4)
 obtain ⟨c0, c1, c2, c3, f1⟩ := hr4.cells
 have HG := hide (giveUp_any 1 (((i + 2 + n : Nat) : Int)) w4)
 simp only [givesF] at HG
 clear hm4 hr4 HM3 HR3 c0 c2 c3 f1 H2
 go_wp2_with fail
 refine HG.out.mono ?_
 rintro e w5 ⟨rfl, rfl⟩
 go_wp2
 exact ⟨rfl, .inr ⟨1, _, hE.out, rfl, HM4.out⟩⟩
theorem class_p_y (h : BB w b v l i d fo) (hc : isCls l i = true) (hd : (d == 1) = false) (hn : ¬ lettersL l (i + 2) = []) (h2 : isAt l (i + 2 + (lettersL l (i + 2)).length) [58, 93] = true) :
  Calls Tryz.prog 165 #[.pointer (some ⟨b, 0, none⟩)] w fun e w' => OutS (namedE (par d fo) l i) b v l i d fo w e w' := by
 obtain ⟨c0, c1, c2, c3, f1⟩ := h.cells
 have hE := hide (named_ok (d := d) (fo := fo) (l := l) (i := i) (no := false) (j := i + 2) (n := (lettersL l (i + 2)).length) (by simp only [par]; rw [hd]; rfl) rfl rfl hn h2)
 have HS1 := hide (skip2_yes h 91 58 hc)
 obtain ⟨n, hnn⟩ : ∃ n, n = (lettersL l (i + 2)).length := ⟨_, rfl⟩
 obtain ⟨S, hS⟩ : ∃ S, S = byteA (lettersL l (i + 2)) := ⟨_, rfl⟩
 have HL := hide (fun w3 (hr3 : BB w3 b v l (i + 2) d fo) => letters_any hr3)
 simp only [LetE] at HL
 rw [← hnn, ← hS] at HL
 rw [← hnn] at hE
 rw [← hS] at hE
 rw [← hnn] at h2
 have z1 : ¬ S.toList = [] := by rw [hS, TK.byteA_isE]; simpa using hn
 have z2 : S.toList.isEmpty = false := letters_one.2 z1
 clear hS hnn hn hc h c0 c2 c3 f1
 go_enter Tryz.func165, Tryz.ntmps165
 go_wp2_with fail
 refine HS1.out.mono ?_
 rintro e w1 ⟨rfl, hr1, hm1⟩
 have HM1 := hide hm1
 have HR1 := hide hr1
 clear hm1 hr1 HS1 c1
 go_wp2_with fail
 refine (ruby_is HR1.out hd).mono ?_
 rintro e w1' ⟨rfl, rfl⟩
 have HM2 := HM1
 have HR2 := HR1
 clear HM1 HR1 hd
 go_wp2_with fail
 refine (HL.out _ HR2.out).mono ?_
 rintro e w3 ⟨rfl, hr3, hm3⟩
 have HM3 := hide (HM2.out.trans hm3)
 have HR3 := hide hr3
 have H2 := hide h2
 clear hm3 hr3 HM2 HR2 HL h2
 go_wp2_with fail
 refine (skip2_yes HR3.out 58 93 H2.out).mono ?_
 rintro e w4 ⟨rfl, hr4, hm4⟩
 have HM4 := hide (HM3.out.trans hm4)
 have HR4 := hide hr4
 have HP := hide (pointsOf_any (d := d) (fo := fo) S false (i : Int) w4)
 clear hm4 hr4 HM3 HR3 H2
 go_wp2_with fail
 refine HP.out.mono ?_
 rintro e w5 (⟨f, sv, L, hR, rfl, hrd, hset, hb⟩ | ⟨z, a, hR, rfl, hb⟩)
 ·have HE := hide (hE.out.trans (by rw [hR]))
  have HF := hide (OutS.inl' (i := i) HE.out (hrd.low HM4.out.size) hset (HR4.out.keep hb) (by omega) (Mv.then HM4.out hb))
  obtain ⟨ao, c, hv⟩ := hrd.shape
  rw [hv] at HF ⊢
  clear hR hrd hset hb hv HE hE
  go_wp2
  go_ret
  exact HF.out
 ·have HE := hide (hE.out.trans (by rw [hR]))
  have HF := hide (Mv.then HM4.out hb)
  clear hR hb hE
  simp only [givesF]
  go_wp2
  exact ⟨rfl, .inr ⟨z, a, HE.out, rfl, HF.out⟩⟩
theorem class_any (h : BB w b v l i d fo) (hc : isCls l i = true) :
  Calls Tryz.prog 165 #[.pointer (some ⟨b, 0, none⟩)] w fun e w' => OutS (namedE (par d fo) l i) b v l i d fo w e w' := by
 cases hd : (d == 1) with
 | true =>
  cases h94 : isAt l (i + 2) [94] with
  | true =>
   by_cases hn : lettersL l (i + 3) = []
   ·exact class_ry_e h hc hd h94 hn
   ·cases h2 : isAt l (i + 3 + (lettersL l (i + 3)).length) [58, 93] with
    | true => exact class_ry_y h hc hd h94 hn h2
    | false => exact class_ry_n h hc hd h94 hn h2
  | false =>
   by_cases hn : lettersL l (i + 2) = []
   ·exact class_rn_e h hc hd h94 hn
   ·cases h2 : isAt l (i + 2 + (lettersL l (i + 2)).length) [58, 93] with
    | true => exact class_rn_y h hc hd h94 hn h2
    | false => exact class_rn_n h hc hd h94 hn h2
 | false =>
  by_cases hn : lettersL l (i + 2) = []
  ·exact class_p_e h hc hd hn
  ·cases h2 : isAt l (i + 2 + (lettersL l (i + 2)).length) [58, 93] with
   | true => exact class_p_y h hc hd hn h2
   | false => exact class_p_n h hc hd hn h2
end Go.Proofs.YtaccofiegkdlgaaGreatDoor.Br
