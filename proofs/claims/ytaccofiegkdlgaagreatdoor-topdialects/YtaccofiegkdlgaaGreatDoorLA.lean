import Derived.Test.YtaccofiegkdlgaaGreatDoorKX
import Derived.Test.YtaccofiegkdlgaaGreatDoorKY
import Derived.Test.YtaccofiegkdlgaaGreatDoorKZ
import Derived.Test.YtaccofiegkdlgaaGreatDoorKL
import Derived.Test.YtaccofiegkdlgaaGreatDoorBb5
import Derived.Laws.AppendOwnNone
namespace Go.Proofs.YtaccofiegkdlgaaGreatDoor.Br
set_option maxHeartbeats 8000000
open Go.RowKit
open TK (Mv PatV ReadsI byteA add_block)
set_option linter.unusedVariables false
set_option maxRecDepth 100000
variable {w w' : World} {b : Nat} {v : Value} {l : List Int} {i : Nat} {d : Int} {fo : Bool}
theorem word_any (h : BB w b v l i d fo) : Calls Tryz.prog 168 #[.pointer (some ⟨b, 0, none⟩)] w fun e w' => OutW (wordE (par d fo) l i) b v l i d fo w e w' := by
 by_cases hi : i < l.length
 ·cases hd : (d == 1) with
  | false => exact word_pl h hi hd
  | true =>
   cases h92 : isAt l i [92] with
   | false => exact word_rb h hi hd h92
   | true =>
    cases hR : TK.nextT 1 l i with
    | error z => exact word_bs_er h hi hd h92 hR (by have := TK.next_err hR; unfold TK.eOk at this; omega)
    | ok x =>
     obtain ⟨t, k⟩ := x
     by_cases h1 : t.kind = 1
     ·exact word_bs_pt h hi hd h92 hR h1
     ·by_cases h4 : t.kind = 4
      ·exact word_bs_cl h hi hd h92 hR h4
      ·exact word_bs_no h hi hd h92 hR h1 h4
 ·exact word_end h (by omega)
def OutN (R : Except BE (Int × Nat)) (b : Nat) (v : Value) (l : List Int) (i : Nat) (a : Int) (d : Int) (fo : Bool) (w : World) (e : Ending) (w' : World) : Prop :=
 (∃ q k, R = .ok (q, k) ∧ e = .returned (.int .i64 q) ∧ a ≤ q ∧ q ≤ 1114111 ∧ BB w' b v l k d fo ∧ i < k ∧ Mv b w w') ∨ (∃ z c : Int, R = .error (z, c) ∧ e = givesF z c ∧ Mv b w w')
theorem end_bad {a : Int} (h : (isCls l i || ((d == 1) && isAt l i [91] && !isCls l i) || ((d == 1) && isAt l i [38, 38])) = true) : endE (par d fo) l i a = .error (1, (i : Int)) := by
 unfold endE
 exact if_pos h
theorem end_good {a : Int} (h : (isCls l i || ((d == 1) && isAt l i [91] && !isCls l i) || ((d == 1) && isAt l i [38, 38])) = false) : endE (par d fo) l i a = match wordE (par d fo) l i with
  | .error e => .error e
  | .ok (.cls _ _, _) => .error (1, (i : Int))
  | .ok (.pt q, k) => if q < a then .error (3, (i : Int)) else .ok (q, k) := by
 unfold endE
 exact if_neg (by rw [show (isCls l i || isIn (par d fo) l i || isAnd (par d fo) l i) = false from h]; simp)
theorem class_is (h : BB w b v l i d fo) {z : Bool} (hz : isCls l i = z) : Calls Tryz.prog 164 #[.pointer (some ⟨b, 0, none⟩)] w fun e w' => e = .returned (.bool z) ∧ BB w' b v l i d fo ∧ Below w.heap.size w w' := by
 have := isClass_any h
 rw [hz] at this
 exact this.mono fun e w' ⟨h1, h2⟩ => ⟨h1, h.keep h2, h2⟩
theorem within_is (h : BB w b v l i d fo) {z : Bool} (hz : ((d == 1) && isAt l i [91] && !isCls l i) = z) : Calls Tryz.prog 166 #[.pointer (some ⟨b, 0, none⟩)] w fun e w' => e = .returned (.bool z) ∧ BB w' b v l i d fo ∧ Below w.heap.size w w' := by
 have := isWithin_any h
 rw [hz] at this
 exact this.mono fun e w' ⟨h1, h2⟩ => ⟨h1, h.keep h2, h2⟩
theorem and_is (h : BB w b v l i d fo) {z : Bool} (hz : ((d == 1) && isAt l i [38, 38]) = z) : Calls Tryz.prog 163 #[.pointer (some ⟨b, 0, none⟩)] w fun e w' => e = .returned (.bool z) ∧ BB w' b v l i d fo ∧ Below w.heap.size w w' := by
 have := isAnd_any h
 rw [hz] at this
 exact this.mono fun e w' ⟨h1, h2⟩ => ⟨h1, h.keep h2, h2⟩
theorem range_is (h : BB w b v l i d fo) {z : Bool} (hz : isRng l i = z) : Calls Tryz.prog 170 #[.pointer (some ⟨b, 0, none⟩)] w fun e w' => e = .returned (.bool z) ∧ BB w' b v l i d fo ∧ Below w.heap.size w w' := by
 have := isRange_any h
 rw [hz] at this
 exact this.mono fun e w' ⟨h1, h2⟩ => ⟨h1, h.keep h2, h2⟩
theorem rangeEnd_c (a : Int) (h : BB w b v l i d fo) (h1 : isCls l i = true) : Calls Tryz.prog 171 #[.pointer (some ⟨b, 0, none⟩), .int .i64 a] w fun e w' => OutN (endE (par d fo) l i a) b v l i a d fo w e w' := by
 obtain ⟨c0, c1, c2, c3, f1⟩ := h.cells
 have hE := hide (end_bad (fo := fo) (a := a) (d := d) (l := l) (i := i) (by rw [h1]; simp))
 have HR := hide h
 have HG := hide (fun W => giveUp_any 1 (i : Int) W)
 simp only [givesF] at HG
 clear h c0 c2 c3 f1
 go_enter Tryz.func171, Tryz.ntmps171
 go_wp2_with fail
 refine (class_is HR.out h1).mono ?_
 rintro e w1 ⟨rfl, hr1, hb1⟩
 have HR1 := hide hr1
 have HB1 := hide (hb1)
 clear hr1 hb1
 go_wp2_with fail
 refine (HG.out _).mono ?_
 rintro e w9 ⟨rfl, rfl⟩
 go_wp2
 exact ⟨rfl, .inr ⟨1, _, hE.out, rfl, Mv.of_below HB1.out⟩⟩
theorem rangeEnd_w (a : Int) (h : BB w b v l i d fo) (h1 : isCls l i = false) (h2 : ((d == 1) && isAt l i [91] && !isCls l i) = true) : Calls Tryz.prog 171 #[.pointer (some ⟨b, 0, none⟩), .int .i64 a] w fun e w' => OutN (endE (par d fo) l i a) b v l i a d fo w e w' := by
 obtain ⟨c0, c1, c2, c3, f1⟩ := h.cells
 have hE := hide (end_bad (fo := fo) (a := a) (d := d) (l := l) (i := i) (by rw [h2]; simp))
 have HR := hide h
 have HG := hide (fun W => giveUp_any 1 (i : Int) W)
 simp only [givesF] at HG
 clear h c0 c2 c3 f1
 go_enter Tryz.func171, Tryz.ntmps171
 go_wp2_with fail
 refine (class_is HR.out h1).mono ?_
 rintro e w1 ⟨rfl, hr1, hb1⟩
 have HR1 := hide hr1
 have HB1 := hide (hb1)
 clear hr1 hb1
 go_wp2_with fail
 refine (within_is HR1.out h2).mono ?_
 rintro e w2 ⟨rfl, hr2, hb2⟩
 have HR2 := hide hr2
 have HB2 := hide (HB1.out.trans (hb2.mono HB1.out.size))
 clear hr2 hb2
 go_wp2_with fail
 refine (HG.out _).mono ?_
 rintro e w9 ⟨rfl, rfl⟩
 go_wp2
 exact ⟨rfl, .inr ⟨1, _, hE.out, rfl, Mv.of_below HB2.out⟩⟩
theorem rangeEnd_a (a : Int) (h : BB w b v l i d fo) (h1 : isCls l i = false) (h2 : ((d == 1) && isAt l i [91] && !isCls l i) = false) (h3 : ((d == 1) && isAt l i [38, 38]) = true) : Calls Tryz.prog 171 #[.pointer (some ⟨b, 0, none⟩), .int .i64 a] w fun e w' => OutN (endE (par d fo) l i a) b v l i a d fo w e w' := by
 obtain ⟨c0, c1, c2, c3, f1⟩ := h.cells
 have hE := hide (end_bad (fo := fo) (a := a) (d := d) (l := l) (i := i) (by rw [h3]; simp))
 have HR := hide h
 have HG := hide (fun W => giveUp_any 1 (i : Int) W)
 simp only [givesF] at HG
 clear h c0 c2 c3 f1
 go_enter Tryz.func171, Tryz.ntmps171
 go_wp2_with fail
 refine (class_is HR.out h1).mono ?_
 rintro e w1 ⟨rfl, hr1, hb1⟩
 have HR1 := hide hr1
 have HB1 := hide (hb1)
 clear hr1 hb1
 go_wp2_with fail
 refine (within_is HR1.out h2).mono ?_
 rintro e w2 ⟨rfl, hr2, hb2⟩
 have HR2 := hide hr2
 have HB2 := hide (HB1.out.trans (hb2.mono HB1.out.size))
 clear hr2 hb2
 go_wp2_with fail
 refine (and_is HR2.out h3).mono ?_
 rintro e w3 ⟨rfl, hr3, hb3⟩
 have HR3 := hide hr3
 have HB3 := hide (HB2.out.trans (hb3.mono HB2.out.size))
 clear hr3 hb3
 go_wp2_with fail
 refine (HG.out _).mono ?_
 rintro e w9 ⟨rfl, rfl⟩
 go_wp2
 exact ⟨rfl, .inr ⟨1, _, hE.out, rfl, Mv.of_below HB3.out⟩⟩
theorem rangeEnd_g (a : Int) (ha : 0 ≤ a) (h : BB w b v l i d fo) (h1 : isCls l i = false) (h2 : ((d == 1) && isAt l i [91] && !isCls l i) = false) (h3 : ((d == 1) && isAt l i [38, 38]) = false) : Calls Tryz.prog 171 #[.pointer (some ⟨b, 0, none⟩), .int .i64 a] w fun e w' => OutN (endE (par d fo) l i a) b v l i a d fo w e w' := by
 obtain ⟨c0, c1, c2, c3, f1⟩ := h.cells
 have hE := hide (end_good (fo := fo) (a := a) (d := d) (l := l) (i := i) (by rw [h1] at h2 ⊢; rw [h2, h3]; rfl))
 have HR := hide h
 have HG := hide (fun z W => giveUp_any z (i : Int) W)
 simp only [givesF] at HG
 clear h c0 c2 c3 f1
 go_enter Tryz.func171, Tryz.ntmps171
 go_wp2_with fail
 refine (class_is HR.out h1).mono ?_
 rintro e w1 ⟨rfl, hr1, hb1⟩
 have HR1 := hide hr1
 have HB1 := hide hb1
 clear hr1 hb1
 go_wp2_with fail
 refine (within_is HR1.out h2).mono ?_
 rintro e w2 ⟨rfl, hr2, hb2⟩
 have HR2 := hide hr2
 have HB2 := hide (HB1.out.trans (hb2.mono HB1.out.size))
 clear hr2 hb2
 go_wp2_with fail
 refine (and_is HR2.out h3).mono ?_
 rintro e w3 ⟨rfl, hr3, hb3⟩
 have HR3 := hide hr3
 have HB3 := hide (HB2.out.trans (hb3.mono HB2.out.size))
 clear hr3 hb3 HR HR1 HR2 HB1 HB2 h1 h2 h3
 go_wp2_with fail
 refine (word_any HR3.out).mono ?_
 rintro e w4 (⟨x, k, t, hR, rfl, hwd, hpt, hr4, hik, hm4⟩ | ⟨z, hR, rfl, hm4⟩)
 ·have HM4 := hide ((Mv.of_below (b := b) HB3.out).trans hm4)
  have HR4 := hide hr4
  have HIK := hide hik
  simp only [TK.tokV]
  go_upto_region 5 with fail
  obtain ⟨w5, hw5⟩ : ∃ w5, w5 = w4.alloc (TK.tokO t) := ⟨_, rfl⟩
  have hM := TK.at_new w4 (TK.tokO t)
  have HR5 : Hid (BB w5 b v l k d fo) := by show BB _ _ _ _ _ _ _; rw [hw5]; exact hr4.alloc _
  have HM5 : Hid (Mv b w w5) := by show Mv _ _ _; rw [hw5]; exact HM4.out.alloc _
  rw [← hw5] at hM
  simp only [TK.tokO] at hw5
  rw [← hw5]
  obtain ⟨g0, g1, g2, g3, g4, g5, g6, g7⟩ := TK.tok_cells hM
  obtain ⟨M, hMM⟩ : ∃ M, M = w4.heap.size := ⟨_, rfl⟩
  rw [← hMM] at g0 g1 g2 g3 g4 g5 g6 g7 ⊢
  cases x with
  | cls s no =>
   have HE : Hid (endE (par d fo) l i a = .error (1, (i : Int))) := hE.out.trans (by rw [hR])
   have q1 : (t.kind != 1) = true := by rw [hwd.1]; rfl
   clear hR hwd hpt hr4 hik hm4 hw5 hM hMM hE HR3 HB3 HR4 HM4 g1 g2 g3 g4 g5 g6 g7
   go_wp2_with fail
   refine (HG.out 1 _).mono ?_
   rintro e w9 ⟨rfl, rfl⟩
   go_wp2
   exact ⟨rfl, .inr ⟨1, _, HE.out, rfl, HM5.out⟩⟩
  | pt q =>
   have q1 : (t.kind != 1) = false := by rw [hwd.1]; rfl
   have hq : t.num = q := hwd.2
   obtain ⟨hp0, hp1⟩ := hpt hwd.1
   rw [hq] at g1 hp0 hp1
   have HE0 : Hid (endE (par d fo) l i a = if q < a then .error (3, (i : Int)) else .ok (q, k)) := hE.out.trans (by rw [hR])
   clear hR hwd hpt hr4 hik hm4 hw5 hM hMM hE HR3 HB3 HR4 HM4 g2 g3 g4 g5 g6 g7 hq
   by_cases hlt : q < a
   ·have HE : Hid (endE (par d fo) l i a = .error (3, (i : Int))) := HE0.out.trans (if_pos hlt)
    go_wp2_with fail
    refine (HG.out 3 _).mono ?_
    rintro e w9 ⟨rfl, rfl⟩
    go_wp2
    exact ⟨rfl, .inr ⟨3, _, HE.out, rfl, HM5.out⟩⟩
   ·have HE : Hid (endE (par d fo) l i a = .ok (q, k)) := HE0.out.trans (if_neg hlt)
    clear HE0
    go_wp2
    go_ret
    exact .inl ⟨q, k, HE.out, rfl, by omega, hp1, HR5.out, HIK.out, HM5.out⟩
 ·have HM4 := hide ((Mv.of_below (b := b) HB3.out).trans hm4)
  have HE : Hid (endE (par d fo) l i a = .error (z, (i : Int))) := hE.out.trans (by rw [hR])
  clear hR hm4 hE HR3 HB3
  simp only [givesF]
  go_wp2
  exact ⟨rfl, .inr ⟨z, _, HE.out, rfl, HM4.out⟩⟩
theorem rangeEnd_any (a : Int) (ha : 0 ≤ a) (h : BB w b v l i d fo) : Calls Tryz.prog 171 #[.pointer (some ⟨b, 0, none⟩), .int .i64 a] w fun e w' => OutN (endE (par d fo) l i a) b v l i a d fo w e w' := by
 cases h1 : isCls l i with
 | true => exact rangeEnd_c a h h1
 | false =>
  cases h2 : ((d == 1) && isAt l i [91] && !isCls l i) with
  | true => exact rangeEnd_w a h h1 h2
  | false =>
   cases h3 : ((d == 1) && isAt l i [38, 38]) with
   | true => exact rangeEnd_a a h h1 h2 h3
   | false => exact rangeEnd_g a ha h h1 h2 h3
end Go.Proofs.YtaccofiegkdlgaaGreatDoor.Br
namespace Go.Proofs.YtaccofiegkdlgaaGreatDoor.Br
set_option maxHeartbeats 8000000
open Go.RowKit
open TK (Mv PatV ReadsI byteA add_block)
set_option linter.unusedVariables false
set_option maxRecDepth 100000
variable {w w' : World} {b : Nat} {v : Value} {l : List Int} {i : Nat} {d : Int} {fo : Bool}
abbrev Rec : Type := List Int → Nat → Nat → Except BE (PS × Nat)
def RecOk (rec : Rec) (b : Nat) (v : Value) (l : List Int) (d : Int) (fo : Bool) (deep : Nat) : Prop :=
 ∀ (w : World) (i : Nat), BB w b v l i d fo → Calls Tryz.prog 116 #[.pointer (some ⟨b, 0, none⟩), .int .i64 deep] w fun e w' => OutS (rec l i deep) b v l i d fo w e w'
theorem OutS.back {R : Except BE (PS × Nat)} {j : Nat} {w1 : World} {e : Ending} (h : OutS R b v l j d fo w1 e w') (hij : i ≤ j) (hm : Mv b w w1) : OutS R b v l i d fo w e w' := by
 rcases h with ⟨f, k, sv, L, h1, h2, h3, h4, h5, h6, h7⟩ | ⟨z, a, h1, h2, h3⟩
 ·exact .inl ⟨f, k, sv, L, h1, h2, h3.low hm.size, h4, h5, by omega, hm.trans h7⟩
 ·exact .inr ⟨z, a, h1, h2, hm.trans h3⟩
theorem within_any (rec : Rec) (deep : Nat) (hdp : deep ≤ 20) (hrec : deep < 20 → RecOk rec b v l d fo (deep + 1)) (h : BB w b v l i d fo) (h91 : isAt l i [91] = true) : Calls Tryz.prog 167 #[.pointer (some ⟨b, 0, none⟩), .int .i64 deep] w fun e w' => OutS (if deep = 20 then .error (2, (i : Int)) else rec l (i + 1) (deep + 1)) b v l i d fo w e w' := by
 obtain ⟨c0, c1, c2, c3, f1⟩ := h.cells
 have HR := hide h
 by_cases hd : deep = 20
 ·rw [if_pos hd]
  subst hd
  have HG := hide (giveUp_any 2 (i : Int) w)
  simp only [givesF] at HG
  clear h c0 c2 c3 f1 hrec
  go_enter Tryz.func167, Tryz.ntmps167
  go_wp2_with fail
  refine HG.out.mono ?_
  rintro e w1 ⟨rfl, rfl⟩
  go_wp2
  exact ⟨rfl, .inr ⟨2, _, rfl, rfl, Mv.refl _ _⟩⟩
 ·rw [if_neg hd]
  have HS := hide (skip1_yes h 91 h91)
  have HC := hide (hrec (by omega))
  have q1 : ((deep : Int) == 20) = false := by simp; omega
  have q2 : ¬ (deep : Int) = 20 := by omega
  clear h c0 c2 c3 f1 hrec hd h91
  go_enter Tryz.func167, Tryz.ntmps167
  go_wp2_with fail
  refine HS.out.mono ?_
  rintro e w1 ⟨rfl, hr1, hm1⟩
  have HM1 := hide hm1
  have HX := hide (HC.out w1 (i + 1) hr1)
  rw [show ((deep + 1 : Nat) : Int) = (deep : Int) + 1 from by omega] at HX
  clear hr1 hm1 HS
  go_wp2_with fail
  refine HX.out.mono ?_
  rintro e w2 (⟨f, k, sv, L, h1, rfl, h3, h4, h5, h6, h7⟩ | ⟨z, a, h1, rfl, h3⟩)
  ·have HF : Hid (OutS (rec l (i + 1) (deep + 1)) b v l i d fo w (.returned sv) w2) := .inl ⟨f, k, sv, L, h1, rfl, h3.low HM1.out.size, h4, h5, by omega, HM1.out.trans h7⟩
   obtain ⟨ao, c, hv⟩ := h3.shape
   rw [hv] at HF ⊢
   clear h1 h3 h4 h5 h6 h7 hv HX c1
   go_wp2
   go_ret
   exact HF.out
  ·have HF : Hid (OutS (rec l (i + 1) (deep + 1)) b v l i d fo w (givesF z a) w2) := .inr ⟨z, a, h1, rfl, HM1.out.trans h3⟩
   clear h1 h3 HX c1
   simp only [givesF] at HF ⊢
   go_wp2
   exact ⟨rfl, HF.out⟩
theorem item_cls (rec : Rec) (deep : Nat) (h : isCls l i = true) : itemE (par d fo) rec l i deep = namedE (par d fo) l i := by unfold itemE; exact if_pos h
theorem item_in (rec : Rec) (deep : Nat) (h : isCls l i = false) (h2 : ((d == 1) && isAt l i [91] && !isCls l i) = true) : itemE (par d fo) rec l i deep = if deep = 20 then .error (2, (i : Int)) else rec l (i + 1) (deep + 1) := by
 unfold itemE
 rw [if_neg (by rw [h]; simp)]
 exact if_pos h2
theorem item_wd (rec : Rec) (deep : Nat) (h : isCls l i = false) (h2 : ((d == 1) && isAt l i [91] && !isCls l i) = false) : itemE (par d fo) rec l i deep = match wordE (par d fo) l i with
  | .error e => .error e
  | .ok (.cls t no, k) => (match classE (par d fo) t no i with | .error e => .error e | .ok f => .ok (f, k))
  | .ok (.pt p, k) =>
   if isRng l k then (match endE (par d fo) l (k + 1) p with | .error e => .error e | .ok (q, m) => .ok (fun x => decide (p ≤ x) && decide (x ≤ q), m))
   else .ok (fun x => decide (p ≤ x) && decide (x ≤ p), k) := by
 unfold itemE
 rw [if_neg (by rw [h]; simp)]
 exact if_neg (by rw [show isIn (par d fo) l i = false from h2]; simp)
theorem one_set {p q : Int} (h0 : 0 ≤ p) (h1 : p ≤ q) (h2 : q ≤ 1114111) : IsSet (fun x => decide (p ≤ x) && decide (x ≤ q)) [(p, q)] := by
 refine ⟨⟨fun r hr => by simp at hr; subst hr; exact ⟨h0, h1, h2⟩, by simp⟩, fun x => ?_⟩
 rw [Bool.eq_iff_iff]
 simp [ins]
 omega
theorem one_reads (W : World) (p q : Int) {B : Nat} (hB : B ≤ W.heap.size) : OR (W.alloc (.cells #[.int .i64 p, .int .i64 q] 66)) B (.slice (some ⟨W.heap.size, 0, none⟩) 1 1) [(p, q)] := by
 have h := World.ownsRow_lit (base := B) (e := 66) (size := 2) W #[.int .i64 p, .int .i64 q] 1 hB (by unfold maxLen; omega) (by simp)
 simpa [OR, cells2, encR] using h
theorem item_c (rec : Rec) (deep : Nat) (h : BB w b v l i d fo) (h1 : isCls l i = true) : Calls Tryz.prog 151 #[.pointer (some ⟨b, 0, none⟩), .int .i64 deep] w fun e w' => OutS (itemE (par d fo) rec l i deep) b v l i d fo w e w' := by
 rw [item_cls rec deep h1]
 have HR := hide h
 clear h
 go_enter Tryz.func151, Tryz.ntmps151
 go_wp2_with fail
 refine (class_is HR.out h1).mono ?_
 rintro e w1 ⟨rfl, hr1, hb1⟩
 have HR1 := hide hr1
 have HB1 := hide hb1
 have HC := hide (class_any hr1 h1)
 clear hr1 hb1 h1
 go_wp2_with fail
 refine HC.out.mono ?_
 rintro e w2 ho
 have HO := hide (ho.back (Nat.le_refl _) (Mv.of_below HB1.out))
 rcases ho with ⟨f, k, sv, L, h1, rfl, h3, h4, h5, h6, h7⟩ | ⟨z, a, h1, rfl, h3⟩
 ·obtain ⟨ao, c, hv⟩ := h3.shape
  rw [hv] at HO ⊢
  clear h1 h3 h4 h5 h6 h7 hv HC
  go_wp2
  go_ret
  exact HO.out
 ·clear h1 h3 HC
  simp only [givesF] at HO ⊢
  go_wp2
  exact ⟨rfl, HO.out⟩
theorem item_w (rec : Rec) (deep : Nat) (hdp : deep ≤ 20) (hrec : deep < 20 → RecOk rec b v l d fo (deep + 1)) (h : BB w b v l i d fo) (h1 : isCls l i = false) (h2 : ((d == 1) && isAt l i [91] && !isCls l i) = true) : Calls Tryz.prog 151 #[.pointer (some ⟨b, 0, none⟩), .int .i64 deep] w fun e w' => OutS (itemE (par d fo) rec l i deep) b v l i d fo w e w' := by
 rw [item_in rec deep h1 h2]
 have h91 : isAt l i [91] = true := by cases hh : isAt l i [91] with | true => rfl | false => rw [hh] at h2; simp at h2
 have HR := hide h
 have HRec := hide (fun w2 (hr : BB w2 b v l i d fo) => within_any rec deep hdp hrec hr h91)
 obtain ⟨R, hR⟩ : ∃ R : Except BE (PS × Nat), R = if deep = 20 then .error (2, (i : Int)) else rec l (i + 1) (deep + 1) := ⟨_, rfl⟩
 rw [← hR] at HRec ⊢
 clear h hR hrec h91
 go_enter Tryz.func151, Tryz.ntmps151
 go_wp2_with fail
 refine (class_is HR.out h1).mono ?_
 rintro e w1 ⟨rfl, hr1, hb1⟩
 have HR1 := hide hr1
 have HB1 := hide hb1
 clear hr1 hb1
 go_wp2_with fail
 refine (within_is HR1.out h2).mono ?_
 rintro e w2 ⟨rfl, hr2, hb2⟩
 have HB2 := hide (HB1.out.trans (hb2.mono HB1.out.size))
 have HC := hide (HRec.out w2 hr2)
 clear hr2 hb2 h1 h2 HRec HR HR1 HB1
 go_wp2_with fail
 refine HC.out.mono ?_
 rintro e w3 ho
 have HO := hide (ho.back (Nat.le_refl _) (Mv.of_below HB2.out))
 rcases ho with ⟨f, k, sv, L, h1, rfl, h3, h4, h5, h6, h7⟩ | ⟨z, a, h1, rfl, h3⟩
 ·obtain ⟨ao, c, hv⟩ := h3.shape
  rw [hv] at HO ⊢
  clear h1 h3 h4 h5 h6 h7 hv HC
  go_wp2
  go_ret
  exact HO.out
 ·clear h1 h3 HC
  simp only [givesF] at HO ⊢
  go_wp2
  exact ⟨rfl, HO.out⟩
theorem item_p (rec : Rec) (deep : Nat) (h : BB w b v l i d fo) (h1 : isCls l i = false) (h2 : ((d == 1) && isAt l i [91] && !isCls l i) = false) : Calls Tryz.prog 151 #[.pointer (some ⟨b, 0, none⟩), .int .i64 deep] w fun e w' => OutS (itemE (par d fo) rec l i deep) b v l i d fo w e w' := by
 have hE := hide (item_wd (fo := fo) rec deep h1 h2)
 obtain ⟨R, hRR⟩ : ∃ R : Except BE (PS × Nat), R = itemE (par d fo) rec l i deep := ⟨_, rfl⟩
 rw [← hRR] at hE ⊢
 have HR := hide h
 clear h hRR
 go_enter Tryz.func151, Tryz.ntmps151
 go_wp2_with fail
 refine (class_is HR.out h1).mono ?_
 rintro e w1 ⟨rfl, hr1, hb1⟩
 have HR1 := hide hr1
 have HB1 := hide hb1
 clear hr1 hb1
 go_wp2_with fail
 refine (within_is HR1.out h2).mono ?_
 rintro e w2 ⟨rfl, hr2, hb2⟩
 have HB2 := hide (HB1.out.trans (hb2.mono HB1.out.size))
 have HR2 := hide hr2
 obtain ⟨c0, c1, c2, c3, f1⟩ := hr2.cells
 clear hr2 hb2 h1 h2 HR HR1 HB1 c0 c2 c3 f1
 go_wp2_with fail
 refine (word_any HR2.out).mono ?_
 rintro e w3 (⟨x, k, t, hR, rfl, hwd, hpt, hr3, hik, hm3⟩ | ⟨z, hR, rfl, hm3⟩)
 ·have HM3 := hide ((Mv.of_below (b := b) HB2.out).trans hm3)
  have HIK := hide hik
  simp only [TK.tokV]
  go_upto_region 7 with fail
  obtain ⟨w5, hw5⟩ : ∃ w5, w5 = w3.alloc (TK.tokO t) := ⟨_, rfl⟩
  have hM := TK.at_new w3 (TK.tokO t)
  have HR5 : Hid (BB w5 b v l k d fo) := by show BB _ _ _ _ _ _ _; rw [hw5]; exact hr3.alloc _
  have HM5 : Hid (Mv b w w5) := by show Mv _ _ _; rw [hw5]; exact HM3.out.alloc _
  have hMb : w3.heap.size ≠ b := by have := hr3.lt; omega
  rw [← hw5] at hM
  simp only [TK.tokO] at hw5
  rw [← hw5]
  obtain ⟨g0, g1, g2, g3, g4, g5, g6, g7⟩ := TK.tok_cells hM
  obtain ⟨M, hMM⟩ : ∃ M, M = w3.heap.size := ⟨_, rfl⟩
  rw [← hMM] at g0 g1 g2 g3 g4 g5 g6 g7 hM hMb ⊢
  have HMt := hide hM
  have HMb := hide hMb
  cases x with
  | cls s no =>
   have q1 : (t.kind == 4) = true := by rw [hwd.1]; rfl
   have hs : t.text = s := hwd.2.1
   have hno : t.neg = no := hwd.2.2
   rw [hs] at g2
   rw [hno] at g3
   have HE : Hid (R = match classE (par d fo) s no i with | .error e => .error e | .ok f => .ok (f, k)) := hE.out.trans (by rw [hR])
   have HP := hide (pointsOf_any (d := d) (fo := fo) s no (i : Int) w5)
   clear hR hwd hpt hr3 hik hm3 hw5 hM hMM hMb hE HR2 HB2 HM3 g1 g4 g5 g6 g7 hs hno c1
   go_wp2_with fail
   refine HP.out.mono ?_
   rintro e w6 (⟨f, sv, L, hR, rfl, hrd, hset, hb⟩ | ⟨z, a, hR, rfl, hb⟩)
   ·have HE2 : Hid (R = .ok (f, k)) := HE.out.trans (by simp only [hR])
    have HF := hide (OutS.inl' (i := i) HE2.out (hrd.low HM5.out.size) hset (HR5.out.keep hb) HIK.out (Mv.then HM5.out hb))
    obtain ⟨ao, c, hv⟩ := hrd.shape
    rw [hv] at HF ⊢
    clear hR hrd hset hb hv HE HE2 HP
    go_wp2
    go_ret
    exact HF.out
   ·have HE2 : Hid (R = .error (z, a)) := HE.out.trans (by simp only [hR])
    have HF := hide (Mv.then HM5.out hb)
    clear hR hb HE HP
    simp only [givesF]
    go_wp2
    exact ⟨rfl, .inr ⟨z, a, HE2.out, rfl, HF.out⟩⟩
  | pt p =>
   have q1 : (t.kind == 4) = false := by rw [hwd.1]; rfl
   have hq : t.num = p := hwd.2
   have hpt2 := hide (hpt hwd.1)
   rw [hq] at g1 hpt2
   have HQ := hide hq
   cases hrg : isRng l k with
   | false =>
    have HE2 : Hid (R = .ok (fun x => decide (p ≤ x) && decide (x ≤ p), k)) := hE.out.trans (by rw [hR]; simp only [hrg, Bool.false_eq_true, if_false])
    have HG := hide (range_is HR5.out hrg)
    clear hR hwd hpt hr3 hik hm3 hw5 hM hMM hMb hE HR2 HB2 HM3 g2 g3 g4 g5 g6 g7 hq c1 hrg
    go_wp2_with fail
    refine HG.out.mono ?_
    rintro e w6 ⟨rfl, hr6, hb6⟩
    have g1b : w6.cell? ⟨M, 1, none⟩ = some (.int .i64 p) := below_cell hb6 (lt_of_block HMt.out) g1
    have HF : Hid (OutS R b v l i d fo w (.returned (.slice (some ⟨w6.heap.size, 0, none⟩) 1 1)) (w6.alloc (.cells #[.int .i64 p, .int .i64 p] 66))) := OutS.inl' (i := i) HE2.out (one_reads w6 p p (Nat.le_trans HM5.out.size hb6.size)) (one_set hpt2.out.1 (Int.le_refl _) hpt2.out.2) (hr6.alloc _) HIK.out ((Mv.then HM5.out hb6).alloc _)
    clear hr6 hb6 g0 g1 HG HMt
    go_wp2
    go_ret
    exact HF.out
   | true =>
    have h45 : isAt l k [45] = true := by unfold isRng at hrg; cases hh : isAt l k [45] with | true => rfl | false => rw [hh] at hrg; simp at hrg
    have HE1 : Hid (R = match endE (par d fo) l (k + 1) p with | .error e => .error e | .ok (q, m) => .ok (fun x => decide (p ≤ x) && decide (x ≤ q), m)) := hE.out.trans (by rw [hR]; simp only [hrg, if_true])
    have HG := hide (range_is HR5.out hrg)
    clear hR hwd hpt hr3 hik hm3 hw5 hM hMM hMb hE HR2 HB2 HM3 g2 g3 g4 g5 g6 g7 hq c1 hrg
    go_wp2_with fail
    refine HG.out.mono ?_
    rintro e w6 ⟨rfl, hr6, hb6⟩
    have HM6 := hide (Mv.then HM5.out hb6)
    have HMt6 : Hid (w6.heap[M]? = some (TK.tokO t)) := by show _ = _; rw [hb6.block _ (lt_of_block HMt.out)]; exact HMt.out
    have HS := hide (skip1_yes hr6 45 h45)
    clear hr6 hb6 g0 g1 HG HMt HR5 HM5 h45
    go_wp2_with fail
    refine HS.out.mono ?_
    rintro e w7 ⟨rfl, hr7, hm7⟩
    have HM7 := hide (HM6.out.trans hm7)
    have hMt7 := TK.Mv.blockAt hm7 HMt6.out HMb.out
    have HMt7 := hide hMt7
    obtain ⟨g0, g1, g2, g3, g4, g5, g6, g7⟩ := TK.tok_cells hMt7
    rw [HQ.out] at g1
    have HX := hide (rangeEnd_any p hpt2.out.1 hr7)
    clear hr7 hm7 hMt7 HS HM6 HMt6 g0 g2 g3 g4 g5 g6 g7
    go_wp2_with fail
    refine HX.out.mono ?_
    rintro e w8 (⟨q, m, hR8, rfl, hq1, hq2, hr8, hik8, hm8⟩ | ⟨z, a, hR8, rfl, hm8⟩)
    ·have HE2 : Hid (R = .ok (fun x => decide (p ≤ x) && decide (x ≤ q), m)) := HE1.out.trans (by rw [hR8])
     have hMt8 := TK.Mv.blockAt hm8 HMt7.out HMb.out
     obtain ⟨g0, g1', g2, g3, g4, g5, g6, g7⟩ := TK.tok_cells hMt8
     rw [HQ.out] at g1'
     have HF : Hid (OutS R b v l i d fo w (.returned (.slice (some ⟨w8.heap.size, 0, none⟩) 1 1)) (w8.alloc (.cells #[.int .i64 p, .int .i64 q] 66))) := OutS.inl' (i := i) HE2.out (one_reads w8 p q (Nat.le_trans HM7.out.size hm8.size)) (one_set hpt2.out.1 hq1 hq2) (hr8.alloc _) (by have := HIK.out; omega) ((HM7.out.trans hm8).alloc _)
     clear hR8 hr8 hik8 hm8 hMt8 g0 g2 g3 g4 g5 g6 g7 HX HE1 g1 hq1 hq2
     go_wp2
     go_ret
     exact HF.out
    ·have HE2 : Hid (R = .error (z, a)) := HE1.out.trans (by rw [hR8])
     have HF := hide (HM7.out.trans hm8)
     clear hR8 hm8 HX HE1 g1
     simp only [givesF]
     go_wp2
     exact ⟨rfl, .inr ⟨z, a, HE2.out, rfl, HF.out⟩⟩
 ·have HM3 := hide ((Mv.of_below (b := b) HB2.out).trans hm3)
  have HE : Hid (R = .error (z, (i : Int))) := hE.out.trans (by rw [hR])
  clear hR hm3 hE HR2 HB2 c1
  simp only [givesF]
  go_wp2
  exact ⟨rfl, .inr ⟨z, _, HE.out, rfl, HM3.out⟩⟩
theorem item_any (rec : Rec) (deep : Nat) (hdp : deep ≤ 20) (hrec : deep < 20 → RecOk rec b v l d fo (deep + 1)) (h : BB w b v l i d fo) : Calls Tryz.prog 151 #[.pointer (some ⟨b, 0, none⟩), .int .i64 deep] w fun e w' => OutS (itemE (par d fo) rec l i deep) b v l i d fo w e w' := by
 cases h1 : isCls l i with
 | true => exact item_c rec deep h h1
 | false =>
  cases h2 : ((d == 1) && isAt l i [91] && !isCls l i) with
  | true => exact item_w rec deep hdp hrec h h1 h2
  | false => exact item_p rec deep h h1 h2
end Go.Proofs.YtaccofiegkdlgaaGreatDoor.Br
namespace Go.Proofs.YtaccofiegkdlgaaGreatDoor.Br
set_option maxHeartbeats 16000000
open Go.RowKit
open TK (Mv PatV ReadsI byteA add_block)
set_option linter.unusedVariables false
set_option maxRecDepth 100000
variable {w w' : World} {b : Nat} {v : Value} {l : List Int} {i : Nat} {d : Int} {fo : Bool}
theorem own_mv {B e k n : Nat} {u : Value} {xs : List Value} (h : w.ownsRow B e k u n xs) (hm : Mv b w w') (hb : b < B) : w'.ownsRow B e k u n xs := by
 obtain ⟨h1, h2⟩ := h
 refine ⟨h1, ?_⟩
 rcases h2 with h | ⟨g, cap, cur, rfl, hg, hh, hn, hm', hs, ht⟩
 ·exact .inl h
 ·exact .inr ⟨g, cap, cur, rfl, hg, by rw [hm.block g (lt_of_block hh) (by omega)]; exact hh, hn, hm', hs, ht⟩
theorem append_rng {ops : Array Oper} {rest : List Oper} {o : Oper} {a : Act} {Q : Exit → Act → World → Prop} (w : World) (hgd : o.guard = none) (s x : Operand) (ho : o.op = .call { callee := .builtin .append, args := #[s, x], argTypes := #[25, 25] })
  (base : Nat) (v : Value) (n : Nat) (xs : List Value) (hs : a.eval s = v) (hown : w.ownsRow base 66 2 v n xs) (u : Value) (L : RL) (hx : a.eval x = u) (hp : Reads w u L) (hr : n + L.length ≤ 400000000) (hbase : base ≤ w.heap.size)
  (h : ∀ v' w', w'.ownsRow base 66 2 v' (n + L.length) (xs ++ cells2 L) → Below base w w' → wpList Tryz.prog ops Q rest (a.put o.dst v') w') : wpList Tryz.prog ops Q (o :: rest) a w := by
 obtain ⟨j0, hj, hy0, hy1, hy2⟩ := info_parts infoR
 rcases hp with ⟨rfl, rfl⟩ | ⟨ad, c, rfl, hrd⟩
 ·refine wpList_append_own_none hgd s x 25 ho base 66 j0 2 Tryz.underlying25 hj v n xs hs hown hx (h v w ?_ (Below.refl _ _))
  simpa [cells2] using hown
 ·refine wpList_append_own w hgd s x 25 ho base 66 j0 _ 2 16 Tryz.underlying25 hj hy0 hy1 hy2 rfl (by decide) v n xs hs hown ad L.length c (cells2 L) hx (cells2_len L) (cells_of hrd) (cells2_one L) (by unfold maxLen; omega) (by omega) hbase ?_
  intro v' w' h1 h2 _
  exact h v' w' h1 ((Below.refl base w).grown h2 hbase (fun g hg => (hown.lt g hg).1))
def atOf (w : World) (b : Nat) : Nat := match w.cell? ⟨b, 1, none⟩ with | some (.int _ n) => n.toNat | _ => 0
theorem BB.atOf (h : BB w b v l i d fo) : Br.atOf w b = i := by unfold Br.atOf; rw [h.cells.2.1]; simp
theorem set_len {f : PS} {L : RL} (h : IsSet f L) : L.length ≤ 1114112 := by
 have := canon_len h.1 1114112 (by omega) (fun x hx => by have := h.1.1 x hx; unfold okR at this; omega)
 omega
structure PartR (rec : Rec) (l : List Int) (first deep i : Nat) (d : Int) (fo : Bool) (k : Nat) (acc : PS) (L : RL) : Prop where
 rest : ∃ n, itemsE (par d fo) rec l first deep (l.length + 2 - i) i (fun _ => false) = itemsE (par d fo) rec l first deep n k acc ∧ l.length + 2 ≤ n + k
 ik : i ≤ k
 ok : ∀ r ∈ L, okR r
 is : ∀ q, ins L q = (decide (0 ≤ q) && decide (q ≤ 1114111) && acc q)
 len : L.length ≤ 1114112 * (k - i)
theorem partR_start (rec : Rec) (l : List Int) (first deep i : Nat) (d : Int) (fo : Bool) (hi : i ≤ l.length) : PartR rec l first deep i d fo i (fun _ => false) [] :=
 ⟨⟨_, rfl, by omega⟩, Nat.le_refl _, by simp, fun q => by simp [ins], by simp⟩
theorem partR_next {rec : Rec} {first deep k m : Nat} {acc f : PS} {L M : RL} (h : PartR rec l first deep i d fo k acc L) (hk : k ≤ l.length) (he : partEnd (par d fo) l first k = false) (hi : itemE (par d fo) rec l k deep = .ok (f, m)) (hm : k < m) (hf : IsSet f M) : PartR rec l first deep i d fo m (fun x => acc x || f x) (L ++ M) := by
 obtain ⟨⟨n, h1, h2⟩, h3, h4, h5, h6⟩ := h
 obtain ⟨n, rfl⟩ : ∃ n', n = n' + 1 := ⟨n - 1, by omega⟩
 refine ⟨⟨n, ?_, by omega⟩, by omega, ?_, ?_, ?_⟩
 ·rw [h1]
  conv => lhs; unfold itemsE
  rw [if_neg (by rw [he]; simp), hi]
 ·intro r hr
  rcases List.mem_append.1 hr with hr | hr
  ·exact h4 r hr
  ·exact hf.1.1 r hr
 ·intro q
  rw [ins_append, h5 q, hf.2 q]
  cases decide (0 ≤ q) <;> cases decide (q ≤ 1114111) <;> simp
 ·rw [List.length_append]
  have := set_len hf
  have e : m - i = (k - i) + (m - k) := by omega
  rw [e, Nat.mul_add]
  have : 1114112 * 1 ≤ 1114112 * (m - k) := Nat.mul_le_mul_left _ (by omega)
  omega
theorem partR_end {rec : Rec} {first deep k : Nat} {acc : PS} {L : RL} (h : PartR rec l first deep i d fo k acc L) (hk : k ≤ l.length) (he : partEnd (par d fo) l first k = true) : itemsE (par d fo) rec l first deep (l.length + 2 - i) i (fun _ => false) = .ok (acc, k) := by
 obtain ⟨⟨n, h1, h2⟩, h3, h4, h5, h6⟩ := h
 obtain ⟨n, rfl⟩ : ∃ n', n = n' + 1 := ⟨n - 1, by omega⟩
 rw [h1]
 unfold itemsE
 exact if_pos he
theorem partR_bad {rec : Rec} {first deep k : Nat} {acc : PS} {L : RL} {z : BE} (h : PartR rec l first deep i d fo k acc L) (hk : k ≤ l.length) (he : partEnd (par d fo) l first k = false) (hi : itemE (par d fo) rec l k deep = .error z) : partE (par d fo) rec l first deep i = .error z := by
 obtain ⟨⟨n, h1, h2⟩, h3, h4, h5, h6⟩ := h
 obtain ⟨n, rfl⟩ : ∃ n', n = n' + 1 := ⟨n - 1, by omega⟩
 unfold partE
 rw [h1]
 conv => lhs; unfold itemsE
 rw [if_neg (by rw [he]; simp), hi]
theorem part_of {rec : Rec} {first deep k : Nat} {acc : PS} (h : itemsE (par d fo) rec l first deep (l.length + 2 - i) i (fun _ => false) = .ok (acc, k)) : partE (par d fo) rec l first deep i = if k = i then .error (1, (k : Int)) else if fo then (match foldE (par d fo) acc with | .error e => .error e | .ok g => .ok (g, k)) else .ok (acc, k) := by
 unfold partE
 rw [h]
 rfl
theorem partEnd_is (first : Nat) (h : BB w b v l i d fo) {z : Bool} (hz : partEnd (par d fo) l first i = z) : Calls Tryz.prog 150 #[.pointer (some ⟨b, 0, none⟩), .int .i64 first] w fun e w' => e = .returned (.bool z) ∧ BB w' b v l i d fo ∧ Below w.heap.size w w' := by
 have := isPartEnd_any first h
 rw [show ((decide (i ≠ first) && isAt l i [93]) || ((d == 1) && isAt l i [38, 38])) = partEnd (par d fo) l first i from rfl, hz] at this
 exact this.mono fun e w' ⟨h1, h2⟩ => ⟨h1, h.keep h2, h2⟩
theorem acc_set {acc : PS} {L O : RL} (h : ∀ q, ins L q = (decide (0 ≤ q) && decide (q ≤ 1114111) && acc q)) (hO : IsSet (ins L) O) : IsSet acc O :=
 isSet_congr hO fun q h0 h1 => by rw [h q]; simp [h0, h1]
theorem part_any (rec : Rec) (first deep : Nat) (hdp : deep ≤ 20) (hrec : deep < 20 → RecOk rec b v l d fo (deep + 1)) (h : BB w b v l i d fo) : Calls Tryz.prog 125 #[.pointer (some ⟨b, 0, none⟩), .int .i64 first, .int .i64 deep] w fun e w' => OutS (partE (par d fo) rec l first deep i) b v l i d fo w e w' := by
 have HR0 := hide h
 have hat := h.at'
 have hsm := h.small
 have hbw := h.lt
 have HXL := hide h.xlt
 have HI := hide (fun w1 k (hr : BB w1 b v l k d fo) => item_any rec deep hdp hrec hr)
 obtain ⟨c0, c1, c2, c3, f1⟩ := h.cells
 have HP0 := hide (partR_start rec l first deep i d fo hat)
 obtain ⟨R, hRR⟩ : ∃ R : Except BE (PS × Nat), R = partE (par d fo) rec l first deep i := ⟨_, rfl⟩
 have HRR := hide hRR
 rw [← hRR]
 clear h hrec hRR c0 c2 c3 f1
 go_enter Tryz.func125, Tryz.ntmps125
 go_wp2
 go_loopw [8] (fun u wr => ∃ (k : Nat) (acc : PS) (L : RL), PartR rec l first deep i d fo k acc L ∧ wr.ownsRow w.heap.size 66 2 u L.length (cells2 L) ∧ BB wr b v l k d fo ∧ Mv b w wr) (fun _ wr => 300 - atOf wr b)
 case atStart => exact ⟨i, _, [], HP0.out, World.ownsRow_nil _ _ _ _, HR0.out, Mv.refl b w⟩
 case round =>
  obtain ⟨k, acc, L, hp, ho, hr, hv⟩ := hrel
  have HP := hide hp
  have HO := hide ho
  have HR := hide hr
  have HV := hide hv
  have hkl := hr.at'
  have hik := hp.ik
  have hlen : L.length ≤ 400000000 := by
   have h1 := hp.len
   have h2 : 1114112 * (k - i) ≤ 1114112 * 300 := Nat.mul_le_mul_left _ (by omega)
   omega
  obtain ⟨ao, ca, rfl⟩ := own_shape ho
  obtain ⟨n, hn⟩ : ∃ n, n = L.length := ⟨_, rfl⟩
  have HN := hide hn
  rw [← hn] at HO hlen ⊢
  have hAt := hide hr.atOf
  clear hp ho hr hv hn c1 HR0
  cases hpe : partEnd (par d fo) l first k with
  | false =>
   have HPE := hide hpe
   go_wp2_with fail
   refine (partEnd_is first HR.out hpe).mono ?_
   rintro e w1 ⟨rfl, hr1, hb1⟩
   have HV1 := hide (HV.out.trans (Mv.of_below hb1))
   have HO1 := hide (own_below HO.out hb1)
   have HX := hide (HI.out w1 k hr1)
   clear hr1 hb1 hpe
   go_wp2_with fail
   refine HX.out.mono ?_
   rintro e w2 (⟨f, m, sv, M, hR2, rfl, hrd, hset, hr2, hkm, hm2⟩ | ⟨z, a, hR2, rfl, hm2⟩)
   ·have HV2 := hide (HV1.out.trans hm2)
    have HO2 := hide (own_mv HO1.out hm2 hbw)
    have HPn := hide (partR_next HP.out hkl HPE.out hR2 hkm hset)
    have hnl : n + M.length ≤ 400000000 := by
     have h1 := HPn.out.len
     have h3 := hr2.at'
     have h2 : 1114112 * (m - i) ≤ 1114112 * 300 := Nat.mul_le_mul_left _ (by omega)
     rw [List.length_append] at h1
     have := HN.out
     omega
    have HRd := hide hrd.reads
    have HR2 := hide hr2
    have HKM := hide hkm
    obtain ⟨so, sc, hsv⟩ := hrd.shape
    rw [hsv] at HRd ⊢
    obtain ⟨mm, hmm⟩ : ∃ mm, mm = M.length := ⟨_, rfl⟩
    have HMM := hide hmm
    rw [← hmm] at HRd hnl ⊢
    clear hR2 hrd hset hr2 hkm hm2 hsv hmm HX HV1 HO1
    go_wp2_with (at_builtin; refine append_rng _ rfl _ _ rfl w.heap.size _ n (cells2 L) rfl HO2.out _ M rfl HRd.out (by have := HMM.out; omega) HV2.out.size ?_)
    intro v' w3 hown hb3
    rw [← cells2_append, ← HMM.out] at hown
    have HO3 := hide hown
    have HV3 : Hid (Mv b w w3) := ⟨hb3.os.trans HV2.out.os, hb3.tape.trans HV2.out.tape, hb3.output.trans HV2.out.output, Nat.le_trans HV2.out.size hb3.size, fun k' h1 h2 => (hb3.block k' h1).trans (HV2.out.block k' h1 h2)⟩
    have HR3 : Hid (BB w3 b v l m d fo) := HR2.out.keepB hb3 hbw HXL.out
    obtain ⟨vo, vc, hvv⟩ := own_shape hown
    rw [hvv] at HO3 ⊢
    clear hown hb3 hvv
    go_wp2
    go_roundw
    case rel => exact ⟨m, _, L ++ M, HPn.out, by rw [List.length_append, ← HN.out, ← HMM.out]; exact HO3.out, HR3.out, HV3.out⟩
    case measure => rw [HR3.out.atOf, hAt.out]; have := HKM.out; have := HR3.out.at'; have := HR3.out.small; omega
   ·have HV2 := hide (HV1.out.trans hm2)
    have HE : Hid (R = .error (z, a)) := HRR.out.trans (partR_bad HP.out hkl HPE.out hR2)
    clear hR2 hm2 HX HV1 HO1
    simp only [givesF]
    go_wp2
    exact ⟨rfl, .inr ⟨z, a, HE.out, rfl, HV2.out⟩⟩
  | true =>
   have HE0 := hide (HRR.out.trans (part_of (partR_end HP.out hkl hpe)))
   go_wp2_with fail
   refine (partEnd_is first HR.out hpe).mono ?_
   rintro e w1 ⟨rfl, hr1, hb1⟩
   have HV1 := hide (HV.out.trans (Mv.of_below hb1))
   have HO1 := hide (own_below HO.out hb1)
   have HR1 := hide hr1
   obtain ⟨c0, c1, c2, c3, f1⟩ := hr1.cells
   clear hb1 hpe HRR HI hr1 c0 c2
   by_cases hki : k = i
   ·have HE : Hid (R = .error (1, (k : Int))) := HE0.out.trans (if_pos hki)
    subst hki
    have HG := hide (giveUp_any 1 (k : Int) w1)
    simp only [givesF] at HG
    clear HE0
    go_wp2_with fail
    refine HG.out.mono ?_
    rintro e w2 ⟨rfl, rfl⟩
    go_wp2
    exact ⟨rfl, .inr ⟨1, _, HE.out, rfl, HV1.out⟩⟩
   ·have HE1 := hide (HE0.out.trans (if_neg hki))
    have q1 : ((k : Int) == (i : Int)) = false := by simp; omega
    have q2 : ¬ (k : Int) = (i : Int) := by omega
    have HKI : Hid (i < k) := by show _ < _; omega
    have HJ := hide (join_any w.heap.size _ L w1 (by have := HN.out; omega) HP.out.ok (by rw [← HN.out]; exact HO1.out) HV1.out.size)
    clear HE0 hki
    go_wp2_with fail
    refine HJ.out.mono ?_
    rintro e w2 ⟨v2, O, rfl, ho2, hs2, hl2, hb2⟩
    have HS2 := hide (acc_set HP.out.is hs2)
    have HRd2 : Hid (OR w2 w.heap.size v2 O) := ho2
    have HV2 : Hid (Mv b w w2) := ⟨hb2.os.trans HV1.out.os, hb2.tape.trans HV1.out.tape, hb2.output.trans HV1.out.output, Nat.le_trans HV1.out.size hb2.size, fun k' h1 h2 => (hb2.block k' h1).trans (HV1.out.block k' h1 h2)⟩
    have HR2 : Hid (BB w2 b v l k d fo) := HR1.out.keepB hb2 hbw HXL.out
    obtain ⟨c0, c1', c2, c3', f1'⟩ := HR2.out.cells
    obtain ⟨oo, oc, hv2⟩ := own_shape ho2
    obtain ⟨on, hon⟩ : ∃ on, on = O.length := ⟨_, rfl⟩
    rw [← hon] at hv2
    rw [hv2] at HRd2 ⊢
    clear HJ ho2 hs2 hl2 hb2 hv2 hon c0 c1 c2 c3 c1' f1 f1' HR1 HV1 HO1
    cases fo with
    | false =>
     have HE : Hid (R = .ok (acc, k)) := HE1.out.trans (if_neg (by simp))
     have HF := hide (OutS.inl' (i := i) HE.out HRd2.out HS2.out HR2.out HKI.out HV2.out)
     clear HE1
     go_wp2
     go_ret
     exact HF.out
    | true =>
     have HE : Hid (R = match foldE (par d true) acc with | .error e => .error e | .ok g => .ok (g, k)) := HE1.out.trans (if_pos rfl)
     have HX := hide (fold_any _ O w2 HR2.out.tab (Nat.lt_of_le_of_lt (Nat.zero_le _) HR2.out.lt) HRd2.out.reads)
     clear HE1
     go_wp2_with fail
     refine HX.out.mono ?_
     rintro e w3 ⟨v3, err, O3, rfl, hr3, hm3, hb3⟩
     have HB3 := hide (Mv.then HV2.out hb3)
     have HR3 := hide (HR2.out.keep hb3)
     obtain ⟨ao3, cc3, hv3⟩ := own_shape hr3
     have HRd3 : Hid (OR w3 w.heap.size v3 O3) := own_low hr3 HV2.out.size
     obtain ⟨n3, hn3⟩ : ∃ n3, n3 = O3.length := ⟨_, rfl⟩
     rw [← hn3] at hv3
     rw [hv3] at HRd3 ⊢
     rcases bridge_fold (d := d) (fo := true) HS2.out hm3 with ⟨h1, h2⟩ | ⟨h1, h2, h3⟩
     ·have HE2 : Hid (R = .error (2, 0)) := HE.out.trans (by rw [h1])
      rw [h2]
      have HM := hide (made_no ao3 n3 cc3 2 (by decide) w3)
      simp only [givesF] at HM
      clear h1 h2 hm3 hr3 hv3 hb3 hn3 HX HE HRd3
      go_wp2_with fail
      refine HM.out.mono ?_
      rintro e w4 ⟨rfl, rfl⟩
      go_wp2
      exact ⟨rfl, .inr ⟨2, 0, HE2.out, rfl, HB3.out⟩⟩
     ·have HE2 : Hid (R = .ok (fldB acc, k)) := HE.out.trans (by rw [h1])
      rw [h2]
      have HM := hide (made_ok ao3 n3 cc3 w3)
      have HF := hide (OutS.inl' (i := i) HE2.out HRd3.out h3 HR3.out HKI.out HB3.out)
      clear h1 h2 hm3 hr3 hv3 hb3 hn3 HX HE h3 HRd3
      go_wp2_with fail
      refine HM.out.mono ?_
      rintro e w4 ⟨rfl, rfl⟩
      go_wp2
      go_ret
      exact HF.out
end Go.Proofs.YtaccofiegkdlgaaGreatDoor.Br
