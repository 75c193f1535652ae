import Derived.Test.YtaccofiegkdlgaaGreatDoorKE
namespace Go.Proofs.YtaccofiegkdlgaaGreatDoor.TK
set_option maxHeartbeats 8000000
open Go.RowKit
set_option linter.unusedVariables false
theorem skip1 {b : Nat} {x : Addr} {c : Nat} {l : List Int} {i : Nat} {d : Int} (w : World) (h : RB w b x c l i d) (p : Int) :
  Calls Tryz.prog 50 #[.pointer (some ⟨b, 0, none⟩), .slice (some ⟨w.heap.size, 0, none⟩) 1 1] (w.alloc (.cells #[.int .i64 p] 3)) fun e w' => e = .returned (.bool (says l i [p])) ∧ RB w' b x c l (if says l i [p] then i + 1 else i) d ∧ Mv b w w' :=
 (skip_any _ 1 [p] _ (h.alloc (.cells #[.int .i64 p] 3)) (readsI_one w p 3) (by simp) (by simp)).mono fun e w' ⟨h1, h2, h3⟩ => ⟨h1, h2, ((Mv.refl b w).alloc _).trans h3⟩
theorem readsI_two (w : World) (p q : Int) (t : TypeId) : ReadsI (w.alloc (.cells #[.int .i64 p, .int .i64 q] t)) ⟨w.heap.size, 0, none⟩ [p, q] := by
 intro j hj
 have : j = 0 ∨ j = 1 := by simp at hj; omega
 rcases this with rfl | rfl
 ·have : (w.alloc (.cells #[.int .i64 p, .int .i64 q] t)).cell? ⟨w.heap.size, 0, none⟩ = some (.int .i64 p) := by rw [World.cell?_alloc_at _ _ _ _ (by simp)]; rfl
  simp [Addr.add]
 ·have : (w.alloc (.cells #[.int .i64 p, .int .i64 q] t)).cell? ⟨w.heap.size, 1, none⟩ = some (.int .i64 q) := by rw [World.cell?_alloc_at _ _ _ _ (by simp)]; rfl
  simp [Addr.add]
theorem skip2 {b : Nat} {x : Addr} {c : Nat} {l : List Int} {i : Nat} {d : Int} (w : World) (h : RB w b x c l i d) (p q : Int) :
  Calls Tryz.prog 50 #[.pointer (some ⟨b, 0, none⟩), .slice (some ⟨w.heap.size, 0, none⟩) 2 2] (w.alloc (.cells #[.int .i64 p, .int .i64 q] 3)) fun e w' => e = .returned (.bool (says l i [p, q])) ∧ RB w' b x c l (if says l i [p, q] then i + 2 else i) d ∧ Mv b w w' :=
 (skip_any _ 2 [p, q] _ (h.alloc (.cells #[.int .i64 p, .int .i64 q] 3)) (readsI_two w p q 3) (by simp) (by simp)).mono fun e w' ⟨h1, h2, h3⟩ => ⟨h1, h2, ((Mv.refl b w).alloc _).trans h3⟩
theorem digits_is {b : Nat} {x : Addr} {c : Nat} {l : List Int} {i : Nat} {d : Int} {most k : Nat} {n : Int} {base : Int} (w : World) (h : RB w b x c l i d) (hb : base = 10 ∨ base = 16) (hm : most ≤ 6) (he : digs base most l i = (n, k)) :
  Calls Tryz.prog 76 #[.pointer (some ⟨b, 0, none⟩), .int .i64 base, .int .i64 most] w fun e w' => e = .returned (.tuple #[.int .i64 n, .int .i64 k]) ∧ RB w' b x c l (i + k) d ∧ Mv b w w' := by
 have := digits_any base most w h hb hm
 rw [he] at this
 exact this
theorem bounds_nc {d : Int} {l : List Int} {i k1 : Nat} {n1 : Int} (e1 : digs 10 3 l i = (n1, k1)) (hc : says l (i + k1) [44] = false) : boundsT d l i = (if k1 = 0 then (0, 0, false, i + k1) else if d = 3 then (n1, n1, says l (i + k1) [92, 125], if says l (i + k1) [92, 125] then i + k1 + 2 else i + k1) else (n1, n1, says l (i + k1) [125], if says l (i + k1) [125] then i + k1 + 1 else i + k1)) := by
 unfold boundsT
 simp only [e1, hc, Bool.false_eq_true, if_false]
theorem bounds_c {d : Int} {l : List Int} {i k1 k2 : Nat} {n1 n2 : Int} (e1 : digs 10 3 l i = (n1, k1)) (hc : says l (i + k1) [44] = true) (e2 : digs 10 3 l (i + k1 + 1) = (n2, k2)) : boundsT d l i = (if k1 + k2 = 0 then (0, 0, false, i + k1 + 1 + k2) else if d = 3 then (n1, (if k2 = 0 then -1 else n2), says l (i + k1 + 1 + k2) [92, 125], if says l (i + k1 + 1 + k2) [92, 125] then i + k1 + 1 + k2 + 2 else i + k1 + 1 + k2) else (n1, (if k2 = 0 then -1 else n2), says l (i + k1 + 1 + k2) [125], if says l (i + k1 + 1 + k2) [125] then i + k1 + 1 + k2 + 1 else i + k1 + 1 + k2)) := by
 unfold boundsT
 simp only [e1, hc, e2, if_true]
theorem bounds_any {b : Nat} {x : Addr} {c : Nat} {l : List Int} {i : Nat} {d : Int} (w : World) (h : RB w b x c l i d) :
  Calls Tryz.prog 70 #[.pointer (some ⟨b, 0, none⟩)] w fun e w' => e = .returned (.tuple #[.int .i64 (boundsT d l i).1, .int .i64 (boundsT d l i).2.1, .bool (boundsT d l i).2.2.1]) ∧ RB w' b x c l (boundsT d l i).2.2.2 d ∧ Mv b w w' := by
 obtain ⟨n1, k1, e1, r1⟩ := digs_spec 10 3 l i h.at' (Or.inl rfl)
 have HD1 := hide (digits_is w h (Or.inl rfl) (by omega) e1)
 have hb1 := digR_bound r1 (by omega)
 have hk1 := r1.k1
 have hn1 := r1.n0
 cases hc : says l (i + k1) [44] with
 | false =>
  have HS := hide (fun w1 (h1 : RB w1 b x c l (i + k1) d) => skip_no w1 h1 44 hc)
  have hE := hide (bounds_nc (d := d) e1 hc)
  obtain ⟨j, hj⟩ : ∃ j, j = i + k1 := ⟨_, rfl⟩
  rw [← hj] at HD1 HS hE
  clear hc e1 r1 h hj
  by_cases hk : k1 = 0
  ·subst hk
   rw [if_pos rfl] at hE
   go_enter Tryz.func70, Tryz.ntmps70
   go_wp2_with fail
   refine HD1.out.mono ?_
   rintro e w1 ⟨rfl, hr1, hm1⟩
   go_wp2_with fail
   refine (HS.out w1 hr1).mono ?_
   rintro e w2 ⟨rfl, hr2, hm2⟩
   have HR2 := hide hr2
   have HM2 := hide (hm1.trans hm2)
   clear hr1 hm1 hr2 hm2 HD1 HS
   go_wp2
   rw [hE.out]
   go_ret3
   exact ⟨rfl, HR2.out, HM2.out⟩
  ·rw [if_neg hk] at hE
   have hkb : ((k1 : Int) == 0) = false := by simp; omega
   have hki : ¬ ((k1 : Int) = 0) := by omega
   by_cases hd : d = 3
   ·subst hd
    rw [if_pos rfl] at hE
    obtain ⟨z, hz⟩ : ∃ z, z = says l j [92, 125] := ⟨_, rfl⟩
    rw [← hz] at hE
    go_enter Tryz.func70, Tryz.ntmps70
    go_wp2_with fail
    refine HD1.out.mono ?_
    rintro e w1 ⟨rfl, hr1, hm1⟩
    go_wp2_with fail
    refine (HS.out w1 hr1).mono ?_
    rintro e w2 ⟨rfl, hr2, hm2⟩
    obtain ⟨c0, c1, c2, f1⟩ := hr2.cells
    have HSk := hide (skip2 _ hr2 92 125)
    have HM2 := hide (hm1.trans hm2)
    clear hr1 hm1 hr2 hm2 HD1 HS c0 c1 f1
    rw [← hz] at HSk
    clear hz
    go_wp2_with fail
    refine HSk.out.mono ?_
    rintro e w9 ⟨rfl, hr9, hm9⟩
    have HR9 := hide hr9
    have HM9 := hide (HM2.out.trans hm9)
    clear hr9 hm9 HSk
    go_wp2
    rw [hE.out]
    go_ret3
    exact ⟨rfl, HR9.out, HM9.out⟩
   ·rw [if_neg hd] at hE
    have hdb : (d == 3) = false := by simpa using hd
    obtain ⟨z, hz⟩ : ∃ z, z = says l j [125] := ⟨_, rfl⟩
    rw [← hz] at hE
    go_enter Tryz.func70, Tryz.ntmps70
    go_wp2_with fail
    refine HD1.out.mono ?_
    rintro e w1 ⟨rfl, hr1, hm1⟩
    go_wp2_with fail
    refine (HS.out w1 hr1).mono ?_
    rintro e w2 ⟨rfl, hr2, hm2⟩
    obtain ⟨c0, c1, c2, f1⟩ := hr2.cells
    have HSk := hide (skip1 _ hr2 125)
    have HM2 := hide (hm1.trans hm2)
    clear hr1 hm1 hr2 hm2 HD1 HS c0 c1 f1
    rw [← hz] at HSk
    clear hz
    go_wp2_with fail
    refine HSk.out.mono ?_
    rintro e w9 ⟨rfl, hr9, hm9⟩
    have HR9 := hide hr9
    have HM9 := hide (HM2.out.trans hm9)
    clear hr9 hm9 HSk
    go_wp2
    rw [hE.out]
    go_ret3
    exact ⟨rfl, HR9.out, HM9.out⟩
 | true =>
  have hin := says_len hc (by simp)
  obtain ⟨n2, k2, e2, r2⟩ := digs_spec 10 3 l (i + k1 + 1) (by simpa using hin) (Or.inl rfl)
  have HS := hide (fun w1 (h1 : RB w1 b x c l (i + k1) d) => skip_yes w1 h1 44 hc)
  have HD2 := hide (fun w2 (h2 : RB w2 b x c l (i + k1 + 1) d) => digits_is w2 h2 (Or.inl rfl) (show 3 ≤ 6 by omega) e2)
  have hb2 := digR_bound r2 (by omega)
  have hk2 := r2.k1
  have hn2 := r2.n0
  have hE := hide (bounds_c (d := d) e1 hc e2)
  obtain ⟨j, hj⟩ : ∃ j, j = i + k1 := ⟨_, rfl⟩
  rw [← hj] at HD1 HS HD2 hE
  obtain ⟨m, hm⟩ : ∃ m, m = j + 1 + k2 := ⟨_, rfl⟩
  rw [← hm] at HD2 hE
  clear hc e1 e2 r1 r2 h hj hm hin
  by_cases hk0 : k2 = 0
  ·subst hk0
   by_cases hk : k1 = 0
   ·subst hk
    rw [if_pos rfl] at hE
    go_enter Tryz.func70, Tryz.ntmps70
    go_wp2_with fail
    refine HD1.out.mono ?_
    rintro e w1 ⟨rfl, hr1, hm1⟩
    go_wp2_with fail
    refine (HS.out w1 hr1).mono ?_
    rintro e w2 ⟨rfl, hr2, hm2⟩
    go_wp2_with fail
    refine (HD2.out w2 hr2).mono ?_
    rintro e w3 ⟨rfl, hr3, hm3⟩
    have HR2 := hide hr3
    have HM2 := hide ((hm1.trans hm2).trans hm3)
    clear hr1 hm1 hr2 hm2 hr3 hm3 HD1 HS HD2
    go_wp2
    rw [hE.out]
    go_ret3
    exact ⟨rfl, HR2.out, HM2.out⟩
   ·rw [if_neg (by omega), if_pos rfl] at hE
    have hkb : ((k1 : Int) == 0) = false := by simp; omega
    have hki : ¬ ((k1 : Int) = 0) := by omega
    by_cases hd : d = 3
    ·subst hd
     rw [if_pos rfl] at hE
     obtain ⟨z, hz⟩ : ∃ z, z = says l m [92, 125] := ⟨_, rfl⟩
     rw [← hz] at hE
     go_enter Tryz.func70, Tryz.ntmps70
     go_wp2_with fail
     refine HD1.out.mono ?_
     rintro e w1 ⟨rfl, hr1, hm1⟩
     go_wp2_with fail
     refine (HS.out w1 hr1).mono ?_
     rintro e w2 ⟨rfl, hr2, hm2⟩
     go_wp2_with fail
     refine (HD2.out w2 hr2).mono ?_
     rintro e w3 ⟨rfl, hr3, hm3⟩
     obtain ⟨c0, c1, c2, f1⟩ := hr3.cells
     have HSk := hide (skip2 _ hr3 92 125)
     have HM2 := hide ((hm1.trans hm2).trans hm3)
     clear hr1 hm1 hr2 hm2 hr3 hm3 HD1 HS HD2 c0 c1 f1
     rw [← hz] at HSk
     clear hz
     go_wp2_with fail
     refine HSk.out.mono ?_
     rintro e w9 ⟨rfl, hr9, hm9⟩
     have HR9 := hide hr9
     have HM9 := hide (HM2.out.trans hm9)
     clear hr9 hm9 HSk
     go_wp2
     rw [hE.out]
     go_ret3
     exact ⟨rfl, HR9.out, HM9.out⟩
    ·rw [if_neg hd] at hE
     have hdb : (d == 3) = false := by simpa using hd
     obtain ⟨z, hz⟩ : ∃ z, z = says l m [125] := ⟨_, rfl⟩
     rw [← hz] at hE
     go_enter Tryz.func70, Tryz.ntmps70
     go_wp2_with fail
     refine HD1.out.mono ?_
     rintro e w1 ⟨rfl, hr1, hm1⟩
     go_wp2_with fail
     refine (HS.out w1 hr1).mono ?_
     rintro e w2 ⟨rfl, hr2, hm2⟩
     go_wp2_with fail
     refine (HD2.out w2 hr2).mono ?_
     rintro e w3 ⟨rfl, hr3, hm3⟩
     obtain ⟨c0, c1, c2, f1⟩ := hr3.cells
     have HSk := hide (skip1 _ hr3 125)
     have HM2 := hide ((hm1.trans hm2).trans hm3)
     clear hr1 hm1 hr2 hm2 hr3 hm3 HD1 HS HD2 c0 c1 f1
     rw [← hz] at HSk
     clear hz
     go_wp2_with fail
     refine HSk.out.mono ?_
     rintro e w9 ⟨rfl, hr9, hm9⟩
     have HR9 := hide hr9
     have HM9 := hide (HM2.out.trans hm9)
     clear hr9 hm9 HSk
     go_wp2
     rw [hE.out]
     go_ret3
     exact ⟨rfl, HR9.out, HM9.out⟩
  ·rw [if_neg (by omega), if_neg hk0] at hE
   have hkc : ((k2 : Int) == 0) = false := by simp; omega
   have hkj : ¬ ((k2 : Int) = 0) := by omega
   have hkb : ((k1 : Int) + (k2 : Int) == 0) = false := by simp; omega
   have hki : ¬ ((k1 : Int) + (k2 : Int) = 0) := by omega
   by_cases hd : d = 3
   ·subst hd
    rw [if_pos rfl] at hE
    obtain ⟨z, hz⟩ : ∃ z, z = says l m [92, 125] := ⟨_, rfl⟩
    rw [← hz] at hE
    go_enter Tryz.func70, Tryz.ntmps70
    go_wp2_with fail
    refine HD1.out.mono ?_
    rintro e w1 ⟨rfl, hr1, hm1⟩
    go_wp2_with fail
    refine (HS.out w1 hr1).mono ?_
    rintro e w2 ⟨rfl, hr2, hm2⟩
    go_wp2_with fail
    refine (HD2.out w2 hr2).mono ?_
    rintro e w3 ⟨rfl, hr3, hm3⟩
    obtain ⟨c0, c1, c2, f1⟩ := hr3.cells
    have HSk := hide (skip2 _ hr3 92 125)
    have HM2 := hide ((hm1.trans hm2).trans hm3)
    clear hr1 hm1 hr2 hm2 hr3 hm3 HD1 HS HD2 c0 c1 f1
    rw [← hz] at HSk
    clear hz
    go_wp2_with fail
    refine HSk.out.mono ?_
    rintro e w9 ⟨rfl, hr9, hm9⟩
    have HR9 := hide hr9
    have HM9 := hide (HM2.out.trans hm9)
    clear hr9 hm9 HSk
    go_wp2
    rw [hE.out]
    go_ret3
    exact ⟨rfl, HR9.out, HM9.out⟩
   ·rw [if_neg hd] at hE
    have hdb : (d == 3) = false := by simpa using hd
    obtain ⟨z, hz⟩ : ∃ z, z = says l m [125] := ⟨_, rfl⟩
    rw [← hz] at hE
    go_enter Tryz.func70, Tryz.ntmps70
    go_wp2_with fail
    refine HD1.out.mono ?_
    rintro e w1 ⟨rfl, hr1, hm1⟩
    go_wp2_with fail
    refine (HS.out w1 hr1).mono ?_
    rintro e w2 ⟨rfl, hr2, hm2⟩
    go_wp2_with fail
    refine (HD2.out w2 hr2).mono ?_
    rintro e w3 ⟨rfl, hr3, hm3⟩
    obtain ⟨c0, c1, c2, f1⟩ := hr3.cells
    have HSk := hide (skip1 _ hr3 125)
    have HM2 := hide ((hm1.trans hm2).trans hm3)
    clear hr1 hm1 hr2 hm2 hr3 hm3 HD1 HS HD2 c0 c1 f1
    rw [← hz] at HSk
    clear hz
    go_wp2_with fail
    refine HSk.out.mono ?_
    rintro e w9 ⟨rfl, hr9, hm9⟩
    have HR9 := hide hr9
    have HM9 := hide (HM2.out.trans hm9)
    clear hr9 hm9 HSk
    go_wp2
    rw [hE.out]
    go_ret3
    exact ⟨rfl, HR9.out, HM9.out⟩
end Go.Proofs.YtaccofiegkdlgaaGreatDoor.TK
namespace Go.Proofs.YtaccofiegkdlgaaGreatDoor.TK
set_option maxHeartbeats 4000000
open Go.RowKit
set_option linter.unusedVariables false
def OutT (b : Nat) (x : Addr) (c : Nat) (l : List Int) (d : Int) (w : World) (R : RT) (e : Ending) (w' : World) : Prop :=
 (∃ t k, R = .ok (t, k) ∧ e = .returned (tokV t) ∧ RB w' b x c l k d ∧ Mv b w w') ∨ (∃ z, R = .error z ∧ e = gives z ∧ Mv b w w')
theorem times_any {b : Nat} {x : Addr} {c : Nat} {l : List Int} {i : Nat} {d : Int} (w : World) (h : RB w b x c l i d) : Calls Tryz.prog 52 #[.pointer (some ⟨b, 0, none⟩)] w fun e w' => OutT b x c l d w (timesT d l i) e w' := by
 have hlt := h.lt
 have hxw := h.xw
 have hat := h.at'
 have hw0 := h.alloc (tokO {})
 have HB := hide (bounds_any _ hw0)
 obtain ⟨c0, c1, c2, f1⟩ := h.cells
 obtain ⟨lo, hi, ok, pos, hbb⟩ : ∃ lo hi ok pos, boundsT d l i = (lo, hi, ok, pos) := ⟨_, _, _, _, rfl⟩
 have HBB := hide hbb
 rw [hbb] at HB
 simp only [tokO] at HB
 clear hbb hw0 h
 cases ok with
 | false =>
  by_cases hd : d = 1
  ·subst hd
   have hE : Hid (timesT 1 l i = .ok (pointT 123, i)) := by show _ = _; unfold timesT; rw [HBB.out]; simp
   go_enter Tryz.func52, Tryz.ntmps52
   go_wp2_with fail
   refine HB.out.mono ?_
   rintro e w1 ⟨rfl, hr, hm⟩
   obtain ⟨d0, d1, d2, g1⟩ := hr.cells
   have hr1 := hr.go i hat
   have hm1 := hm.setCell 1 (.int .i64 i)
   clear c0 c1 c2 f1
   go_wp2_with fail
   refine (point_any 123 _).mono ?_
   rintro e w2 ⟨rfl, hb2⟩
   have hr2 := hr1.keep hb2
   have hm2 := hm1.trans (Mv.of_below hb2)
   have hN : w2.heap[w.heap.size]? = some (tokO {}) := hm2.blockAt (at_new _ _) (by omega)
   obtain ⟨m0, m1, m2, m3, m4, m5, m6, m7⟩ := tok_cells hN
   have fr0 := tok_free hN
   have HRR := hide hr2
   have HMM := hide hm2
   clear hr hm hr2 hm2 hr1 hm1 hb2 d0 d1 d2 g1 HB
   unfold tokV
   go_wp2
   refine bodyPost_ret (v := tokV (pointT 123)) (by simp [results, Tryz.results52, go_sem, tokV, m0, m1, m2, m3, m4, m5, m6, m7]) rfl (.inl ⟨(pointT 123), i, hE.out, rfl, HRR.out.tok (by omega) (by omega) _ _ _ _ _ _ _ _, Mv.tok (((Mv.refl b w).alloc _).trans HMM.out) (Nat.le_refl _) _ _ _ _ _ _ _ _⟩)
  ·have hE : Hid (timesT d l i = .error 1) := by show _ = _; unfold timesT; rw [HBB.out]; simp [hd]
   have hdb : (d == 1) = false := by simpa using hd
   go_enter Tryz.func52, Tryz.ntmps52
   go_wp2_with fail
   refine HB.out.mono ?_
   rintro e w1 ⟨rfl, hr, hm⟩
   obtain ⟨d0, d1, d2, g1⟩ := hr.cells
   clear c0 c1 c2 f1 HB hr
   have HMM := hide hm
   clear hm
   go_wp2
   exact ⟨rfl, .inr ⟨1, hE.out, rfl, ((Mv.refl b w).alloc _).trans HMM.out⟩⟩
 | true =>
  have hend : ∀ (R : RT), timesT d l i = R → Hid (timesT d l i = R) := fun _ h => h
  by_cases h1 : hi ≠ -1 ∧ lo > hi
  ·obtain ⟨h1a, h1b⟩ := h1
   have hE : Hid (timesT d l i = .error 3) := by show _ = _; unfold timesT; rw [HBB.out]; simp [h1a, h1b]
   have hnb : (hi != -1) = true := by simpa using h1a
   have hlt2 : hi < lo := h1b
   go_enter Tryz.func52, Tryz.ntmps52
   go_wp2_with fail
   refine HB.out.mono ?_
   rintro e w1 ⟨rfl, hr, hm⟩
   clear c0 c1 c2 f1 HB hr
   have HMM := hide hm
   clear hm
   go_wp2
   exact ⟨rfl, .inr ⟨3, hE.out, rfl, ((Mv.refl b w).alloc _).trans HMM.out⟩⟩
  ·by_cases h2 : lo > 100 ∨ hi > 100
   ·have hE : Hid (timesT d l i = .error 2) := by show _ = _; unfold timesT; rw [HBB.out]; simp only [Bool.true_eq_false, if_false]; rw [if_neg h1, if_pos h2]
    by_cases hn : hi = -1
    ·subst hn
     have hlo : 100 < lo := by omega
     go_enter Tryz.func52, Tryz.ntmps52
     go_wp2_with fail
     refine HB.out.mono ?_
     rintro e w1 ⟨rfl, hr, hm⟩
     clear c0 c1 c2 f1 HB hr h1 h2
     have HMM := hide hm
     clear hm
     go_wp2
     exact ⟨rfl, .inr ⟨2, hE.out, rfl, ((Mv.refl b w).alloc _).trans HMM.out⟩⟩
    ·have hnb : (hi != -1) = true := by simpa using hn
     have hle : ¬ hi < lo := by omega
     have hhi : 100 < hi := by omega
     go_enter Tryz.func52, Tryz.ntmps52
     go_wp2_with fail
     refine HB.out.mono ?_
     rintro e w1 ⟨rfl, hr, hm⟩
     clear c0 c1 c2 f1 HB hr h1 h2
     have HMM := hide hm
     clear hm
     go_wp2
     all_goals exact ⟨rfl, .inr ⟨2, hE.out, rfl, ((Mv.refl b w).alloc _).trans HMM.out⟩⟩
   ·have hE : Hid (timesT d l i = .ok ((repT d l pos lo hi).1, (repT d l pos lo hi).2)) := by show _ = _; unfold timesT; rw [HBB.out]; simp only [Bool.true_eq_false, if_false]; rw [if_neg h1, if_neg h2]
    have hl1 : ¬ 100 < lo := by omega
    have hl2 : ¬ 100 < hi := by omega
    by_cases hn : hi = -1
    ·subst hn
     go_enter Tryz.func52, Tryz.ntmps52
     go_wp2_with fail
     refine HB.out.mono ?_
     rintro e w1 ⟨rfl, hr1, hm1⟩
     clear c0 c1 c2 f1 HB h1 h2
     go_wp2_with fail
     refine (repeat_any lo (-1) w1 hr1).mono ?_
     rintro e w2 ⟨rfl, hr, hm2⟩
     have hm := hm1.trans hm2
     generalize repT d l pos lo (-1) = rt at *
     obtain ⟨t, k⟩ := rt
     simp only at hr hE ⊢
     have hN : w2.heap[w.heap.size]? = some (tokO {}) := hm.blockAt (at_new _ _) (by omega)
     obtain ⟨m0, m1, m2, m3, m4, m5, m6, m7⟩ := tok_cells hN
     have fr0 := tok_free hN
     have HRR := hide hr
     have HMM := hide hm
     clear hr hm hr1 hm1 hm2
     unfold tokV
     go_wp2
     refine bodyPost_ret (v := tokV t) (by simp [results, Tryz.results52, go_sem, tokV, m0, m1, m2, m3, m4, m5, m6, m7]) rfl (.inl ⟨t, k, hE.out, rfl, HRR.out.tok (by omega) (by omega) _ _ _ _ _ _ _ _, Mv.tok (((Mv.refl b w).alloc _).trans HMM.out) (Nat.le_refl _) _ _ _ _ _ _ _ _⟩)
    ·have hnb : (hi != -1) = true := by simpa using hn
     have hle : ¬ hi < lo := by omega
     go_enter Tryz.func52, Tryz.ntmps52
     go_wp2_with fail
     refine HB.out.mono ?_
     rintro e w1 ⟨rfl, hr1, hm1⟩
     clear c0 c1 c2 f1 HB h1 h2
     go_wp2_with fail
     refine (repeat_any lo hi w1 hr1).mono ?_
     rintro e w2 ⟨rfl, hr, hm2⟩
     have hm := hm1.trans hm2
     generalize repT d l pos lo hi = rt at *
     obtain ⟨t, k⟩ := rt
     simp only at hr hE ⊢
     have hN : w2.heap[w.heap.size]? = some (tokO {}) := hm.blockAt (at_new _ _) (by omega)
     obtain ⟨m0, m1, m2, m3, m4, m5, m6, m7⟩ := tok_cells hN
     have fr0 := tok_free hN
     have HRR := hide hr
     have HMM := hide hm
     clear hr hm hr1 hm1 hm2
     unfold tokV
     go_wp2
     refine bodyPost_ret (v := tokV t) (by simp [results, Tryz.results52, go_sem, tokV, m0, m1, m2, m3, m4, m5, m6, m7]) rfl (.inl ⟨t, k, hE.out, rfl, HRR.out.tok (by omega) (by omega) _ _ _ _ _ _ _ _, Mv.tok (((Mv.refl b w).alloc _).trans HMM.out) (Nat.le_refl _) _ _ _ _ _ _ _ _⟩)
end Go.Proofs.YtaccofiegkdlgaaGreatDoor.TK
