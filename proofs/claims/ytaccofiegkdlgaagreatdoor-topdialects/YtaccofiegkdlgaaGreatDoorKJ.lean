import Derived.Test.YtaccofiegkdlgaaGreatDoorKI
import Derived.Defers
import Derived.Recover
import Derived.RegionTactic
namespace Go.Proofs.YtaccofiegkdlgaaGreatDoor.TK
set_option maxHeartbeats 16000000
open Go.RowKit
set_option linter.unusedVariables false
set_option maxRecDepth 100000
theorem token_any {b : Nat} {x : Addr} {c : Nat} {l : List Int} {i : Nat} {d : Int} (w : World) (h : RB w b x c l i d) (hi : i < l.length) : Calls Tryz.prog 36 #[.pointer (some ⟨b, 0, none⟩)] w fun e w' => OutT b x c l d w (nextT d l i) e w' := by
 have hlt := h.lt
 have hxw := h.xw
 have hat := h.at'
 have hw0 := h.alloc (tokO {})
 have HT := hide (take_yes _ hw0 hi)
 have hE0 : Hid (nextT d l i = tokT d l i l[i]) := by show _ = _; unfold nextT; rw [List.getElem?_eq_getElem hi]
 obtain ⟨p, hp⟩ : ∃ p, p = l[i] := ⟨_, rfl⟩
 rw [← hp] at HT hE0
 clear h hw0 hp
 by_cases hp92 : p = 92
 ·subst hp92
  have HR : Hid (nextT d l i = escT d l (i + 1)) := by show _ = _; rw [hE0.out]; unfold tokT; simp
  clear hE0
  go_enter Tryz.func36, Tryz.ntmps36
  go_wp2_with fail
  simp only [tokO] at HT
  refine HT.out.mono ?_
  rintro e w1 ⟨rfl, hr1, hm1⟩
  go_wp2_with fail
  refine (escape_any w1 hr1).mono ?_
  rintro e w3 (⟨t, k, hR, rfl, hr, hm9⟩ | ⟨z, hR, rfl, hm9⟩)
  ·have hE := hide (HR.out.trans hR)
   have hm := hm1.trans hm9
   have hN : w3.heap[w.heap.size]? = some (tokO {}) := hm.blockAt (at_new _ _) (by omega)
   obtain ⟨m0, m1, m2, m3, m4, m5, m6, m7⟩ := tok_cells hN
   have fr0 := tok_free hN
   have hq0 : w.heap.size < w3.heap.size := lt_of_block hN
   have hq1 : ¬ w.heap.size = w3.heap.size := by omega
   have hq2 : ¬ w3.heap.size = w.heap.size := by omega
   have HRR := hide hr
   have HMM := hide hm
   clear hr hm hm9 hR HR hr1 hm1 HT
   simp only [tokV]
   go_wp21
   go_wp21
   exact ret_tok (N := w.heap.size) rfl rfl (tok_set hN t) (.inl ⟨t, k, hE.out, rfl, HRR.out.tok (by omega) (by omega) _ _ _ _ _ _ _ _, Mv.tok (((Mv.refl b w).alloc _).trans HMM.out) (Nat.le_refl _) _ _ _ _ _ _ _ _⟩)
  ·have hE := hide (HR.out.trans hR)
   have hm := hm1.trans hm9
   have HMM := hide hm
   clear hm hm9 hR HR hr1 hm1 HT
   simp only [gives]
   go_wp2
   exact ⟨rfl, .inr ⟨z, hE.out, rfl, ((Mv.refl b w).alloc _).trans HMM.out⟩⟩
 by_cases hp46 : p = 46
 ·subst hp46
  have hE : Hid (nextT d l i = .ok ({ kind := 2 }, i + 1)) := by show _ = _; rw [hE0.out]; unfold tokT; simp
  clear hE0
  go_enter Tryz.func36, Tryz.ntmps36
  go_wp2_with fail
  simp only [tokO] at HT
  refine HT.out.mono ?_
  rintro e w1 ⟨rfl, hr1, hm1⟩
  have hr := hr1
  have hm := hm1
  have hN : w1.heap[w.heap.size]? = some (tokO {}) := hm.blockAt (at_new _ _) (by omega)
  obtain ⟨m0, m1, m2, m3, m4, m5, m6, m7⟩ := tok_cells hN
  have fr0 := tok_free hN
  have hq0 : w.heap.size < w1.heap.size := lt_of_block hN
  have hq1 : ¬ w.heap.size = w1.heap.size := by omega
  have hq2 : ¬ w1.heap.size = w.heap.size := by omega
  have HRR := hide hr
  have HMM := hide hm
  clear hr hm hr1 hm1 HT
  go_wp21
  go_wp21
  go_wp21
  exact ret_tok (N := w.heap.size) rfl rfl (tok_set hN { kind := 2 }) (.inl ⟨{ kind := 2 }, (i + 1), hE.out, rfl, HRR.out.tok (by omega) (by omega) _ _ _ _ _ _ _ _, Mv.tok (((Mv.refl b w).alloc _).trans HMM.out) (Nat.le_refl _) _ _ _ _ _ _ _ _⟩)
 by_cases hp91 : p = 91
 ·subst hp91
  have hE : Hid (nextT d l i = .ok ({ kind := 5 }, i + 1)) := by show _ = _; rw [hE0.out]; unfold tokT; simp
  clear hE0
  go_enter Tryz.func36, Tryz.ntmps36
  go_wp2_with fail
  simp only [tokO] at HT
  refine HT.out.mono ?_
  rintro e w1 ⟨rfl, hr1, hm1⟩
  have hr := hr1
  have hm := hm1
  have hN : w1.heap[w.heap.size]? = some (tokO {}) := hm.blockAt (at_new _ _) (by omega)
  obtain ⟨m0, m1, m2, m3, m4, m5, m6, m7⟩ := tok_cells hN
  have fr0 := tok_free hN
  have hq0 : w.heap.size < w1.heap.size := lt_of_block hN
  have hq1 : ¬ w.heap.size = w1.heap.size := by omega
  have hq2 : ¬ w1.heap.size = w.heap.size := by omega
  have HRR := hide hr
  have HMM := hide hm
  clear hr hm hr1 hm1 HT
  go_wp21
  go_wp21
  go_wp21
  exact ret_tok (N := w.heap.size) rfl rfl (tok_set hN { kind := 5 }) (.inl ⟨{ kind := 5 }, (i + 1), hE.out, rfl, HRR.out.tok (by omega) (by omega) _ _ _ _ _ _ _ _, Mv.tok (((Mv.refl b w).alloc _).trans HMM.out) (Nat.le_refl _) _ _ _ _ _ _ _ _⟩)
 by_cases hp94 : p = 94
 ·subst hp94
  have hE : Hid (nextT d l i = .ok (lookT 3, i + 1)) := by show _ = _; rw [hE0.out]; unfold tokT; simp
  clear hE0
  go_enter Tryz.func36, Tryz.ntmps36
  go_wp2_with fail
  simp only [tokO] at HT
  refine HT.out.mono ?_
  rintro e w1 ⟨rfl, hr1, hm1⟩
  go_wp2_with fail
  refine (look_any 3 w1).mono ?_
  rintro e w2 ⟨rfl, hb2⟩
  have hr := hr1.keep hb2
  have hm := hm1.trans (Mv.of_below hb2)
  have hN : w2.heap[w.heap.size]? = some (tokO {}) := hm.blockAt (at_new _ _) (by omega)
  obtain ⟨m0, m1, m2, m3, m4, m5, m6, m7⟩ := tok_cells hN
  have fr0 := tok_free hN
  have hq0 : w.heap.size < w2.heap.size := lt_of_block hN
  have hq1 : ¬ w.heap.size = w2.heap.size := by omega
  have hq2 : ¬ w2.heap.size = w.heap.size := by omega
  have HRR := hide hr
  have HMM := hide hm
  clear hr hm hr1 hm1 hb2 HT
  simp only [tokV, lookT]
  go_wp21
  go_wp21
  go_wp21
  exact ret_tok (N := w.heap.size) rfl rfl (tok_set hN (lookT 3)) (.inl ⟨(lookT 3), (i + 1), hE.out, rfl, HRR.out.tok (by omega) (by omega) _ _ _ _ _ _ _ _, Mv.tok (((Mv.refl b w).alloc _).trans HMM.out) (Nat.le_refl _) _ _ _ _ _ _ _ _⟩)
 by_cases hp36 : p = 36
 ·subst hp36
  have hE : Hid (nextT d l i = .ok (lookT 4, i + 1)) := by show _ = _; rw [hE0.out]; unfold tokT; simp
  clear hE0
  go_enter Tryz.func36, Tryz.ntmps36
  go_wp2_with fail
  simp only [tokO] at HT
  refine HT.out.mono ?_
  rintro e w1 ⟨rfl, hr1, hm1⟩
  go_wp2_with fail
  refine (look_any 4 w1).mono ?_
  rintro e w2 ⟨rfl, hb2⟩
  have hr := hr1.keep hb2
  have hm := hm1.trans (Mv.of_below hb2)
  have hN : w2.heap[w.heap.size]? = some (tokO {}) := hm.blockAt (at_new _ _) (by omega)
  obtain ⟨m0, m1, m2, m3, m4, m5, m6, m7⟩ := tok_cells hN
  have fr0 := tok_free hN
  have hq0 : w.heap.size < w2.heap.size := lt_of_block hN
  have hq1 : ¬ w.heap.size = w2.heap.size := by omega
  have hq2 : ¬ w2.heap.size = w.heap.size := by omega
  have HRR := hide hr
  have HMM := hide hm
  clear hr hm hr1 hm1 hb2 HT
  simp only [tokV, lookT]
  go_wp21
  go_wp21
  go_wp21
  exact ret_tok (N := w.heap.size) rfl rfl (tok_set hN (lookT 4)) (.inl ⟨(lookT 4), (i + 1), hE.out, rfl, HRR.out.tok (by omega) (by omega) _ _ _ _ _ _ _ _, Mv.tok (((Mv.refl b w).alloc _).trans HMM.out) (Nat.le_refl _) _ _ _ _ _ _ _ _⟩)
 by_cases hp42 : p = 42
 ·subst hp42
  obtain ⟨t, k, ht⟩ : ∃ t k, repT d l (i + 1) 0 (-1) = (t, k) := ⟨_, _, rfl⟩
  have hE : Hid (nextT d l i = .ok (t, k)) := by show _ = _; rw [hE0.out, ← ht]; unfold tokT; simp
  have HC := hide (fun w1 (h1 : RB w1 b x c l (i + 1) d) => repeat_any 0 (-1) w1 h1)
  rw [ht] at HC
  clear hE0 ht
  go_enter Tryz.func36, Tryz.ntmps36
  go_wp2_with fail
  simp only [tokO] at HT
  refine HT.out.mono ?_
  rintro e w1 ⟨rfl, hr1, hm1⟩
  go_wp2_with fail
  refine (HC.out w1 hr1).mono ?_
  rintro e w2 ⟨rfl, hr, hm2⟩
  have hm := hm1.trans hm2
  have hN : w2.heap[w.heap.size]? = some (tokO {}) := hm.blockAt (at_new _ _) (by omega)
  obtain ⟨m0, m1, m2, m3, m4, m5, m6, m7⟩ := tok_cells hN
  have fr0 := tok_free hN
  have hq0 : w.heap.size < w2.heap.size := lt_of_block hN
  have hq1 : ¬ w.heap.size = w2.heap.size := by omega
  have hq2 : ¬ w2.heap.size = w.heap.size := by omega
  have HRR := hide hr
  have HMM := hide hm
  clear hr hm hr1 hm1 hm2 HT HC
  simp only [tokV]
  go_wp21
  go_wp21
  go_wp21
  exact ret_tok (N := w.heap.size) rfl rfl (tok_set hN t) (.inl ⟨t, k, hE.out, rfl, HRR.out.tok (by omega) (by omega) _ _ _ _ _ _ _ _, Mv.tok (((Mv.refl b w).alloc _).trans HMM.out) (Nat.le_refl _) _ _ _ _ _ _ _ _⟩)
 by_cases hp43 : p = 43
 ·subst hp43
  obtain ⟨t, k, ht⟩ : ∃ t k, repT d l (i + 1) 1 (-1) = (t, k) := ⟨_, _, rfl⟩
  have hE : Hid (nextT d l i = .ok (t, k)) := by show _ = _; rw [hE0.out, ← ht]; unfold tokT; simp
  have HC := hide (fun w1 (h1 : RB w1 b x c l (i + 1) d) => repeat_any 1 (-1) w1 h1)
  rw [ht] at HC
  clear hE0 ht
  go_enter Tryz.func36, Tryz.ntmps36
  go_wp2_with fail
  simp only [tokO] at HT
  refine HT.out.mono ?_
  rintro e w1 ⟨rfl, hr1, hm1⟩
  go_wp2_with fail
  refine (HC.out w1 hr1).mono ?_
  rintro e w2 ⟨rfl, hr, hm2⟩
  have hm := hm1.trans hm2
  have hN : w2.heap[w.heap.size]? = some (tokO {}) := hm.blockAt (at_new _ _) (by omega)
  obtain ⟨m0, m1, m2, m3, m4, m5, m6, m7⟩ := tok_cells hN
  have fr0 := tok_free hN
  have hq0 : w.heap.size < w2.heap.size := lt_of_block hN
  have hq1 : ¬ w.heap.size = w2.heap.size := by omega
  have hq2 : ¬ w2.heap.size = w.heap.size := by omega
  have HRR := hide hr
  have HMM := hide hm
  clear hr hm hr1 hm1 hm2 HT HC
  simp only [tokV]
  go_wp21
  go_wp21
  go_wp21
  exact ret_tok (N := w.heap.size) rfl rfl (tok_set hN t) (.inl ⟨t, k, hE.out, rfl, HRR.out.tok (by omega) (by omega) _ _ _ _ _ _ _ _, Mv.tok (((Mv.refl b w).alloc _).trans HMM.out) (Nat.le_refl _) _ _ _ _ _ _ _ _⟩)
 by_cases hp63 : p = 63
 ·subst hp63
  obtain ⟨t, k, ht⟩ : ∃ t k, repT d l (i + 1) 0 1 = (t, k) := ⟨_, _, rfl⟩
  have hE : Hid (nextT d l i = .ok (t, k)) := by show _ = _; rw [hE0.out, ← ht]; unfold tokT; simp
  have HC := hide (fun w1 (h1 : RB w1 b x c l (i + 1) d) => repeat_any 0 1 w1 h1)
  rw [ht] at HC
  clear hE0 ht
  go_enter Tryz.func36, Tryz.ntmps36
  go_wp2_with fail
  simp only [tokO] at HT
  refine HT.out.mono ?_
  rintro e w1 ⟨rfl, hr1, hm1⟩
  go_wp2_with fail
  refine (HC.out w1 hr1).mono ?_
  rintro e w2 ⟨rfl, hr, hm2⟩
  have hm := hm1.trans hm2
  have hN : w2.heap[w.heap.size]? = some (tokO {}) := hm.blockAt (at_new _ _) (by omega)
  obtain ⟨m0, m1, m2, m3, m4, m5, m6, m7⟩ := tok_cells hN
  have fr0 := tok_free hN
  have hq0 : w.heap.size < w2.heap.size := lt_of_block hN
  have hq1 : ¬ w.heap.size = w2.heap.size := by omega
  have hq2 : ¬ w2.heap.size = w.heap.size := by omega
  have HRR := hide hr
  have HMM := hide hm
  clear hr hm hr1 hm1 hm2 HT HC
  simp only [tokV]
  go_wp21
  go_wp21
  go_wp21
  exact ret_tok (N := w.heap.size) rfl rfl (tok_set hN t) (.inl ⟨t, k, hE.out, rfl, HRR.out.tok (by omega) (by omega) _ _ _ _ _ _ _ _, Mv.tok (((Mv.refl b w).alloc _).trans HMM.out) (Nat.le_refl _) _ _ _ _ _ _ _ _⟩)
 have hq92 : (p == 92) = false := by simpa using hp92
 have hq46 : (p == 46) = false := by simpa using hp46
 have hq91 : (p == 91) = false := by simpa using hp91
 have hq94 : (p == 94) = false := by simpa using hp94
 have hq36 : (p == 36) = false := by simpa using hp36
 have hq42 : (p == 42) = false := by simpa using hp42
 have hq43 : (p == 43) = false := by simpa using hp43
 have hq63 : (p == 63) = false := by simpa using hp63
 by_cases hd3 : d = 3
 ·subst hd3
  have hE : Hid (nextT 3 l i = .ok (pointT p, i + 1)) := by show _ = _; rw [hE0.out]; unfold tokT; simp [hp92, hp46, hp91, hp94, hp36, hp42, hp43, hp63]
  clear hE0 hp92 hp46 hp91 hp94 hp36 hp42 hp43 hp63
  go_enter Tryz.func36, Tryz.ntmps36
  go_wp2_with fail
  simp only [tokO] at HT
  refine HT.out.mono ?_
  rintro e w1 ⟨rfl, hr1, hm1⟩
  obtain ⟨c0, c1, c2, f1⟩ := hr1.cells
  go_wp2_with fail
  refine (point_any p w1).mono ?_
  rintro e w2 ⟨rfl, hb2⟩
  have hr := hr1.keep hb2
  have hm := hm1.trans (Mv.of_below hb2)
  have hN : w2.heap[w.heap.size]? = some (tokO {}) := hm.blockAt (at_new _ _) (by omega)
  obtain ⟨m0, m1, m2, m3, m4, m5, m6, m7⟩ := tok_cells hN
  have fr0 := tok_free hN
  have hq0 : w.heap.size < w2.heap.size := lt_of_block hN
  have hq1 : ¬ w.heap.size = w2.heap.size := by omega
  have hq2 : ¬ w2.heap.size = w.heap.size := by omega
  have HRR := hide hr
  have HMM := hide hm
  clear hr hm hr1 hm1 hb2 HT c0 c1 c2 f1
  simp only [tokV, pointT]
  go_wp21
  go_wp21
  go_wp21
  exact ret_tok (N := w.heap.size) rfl rfl (tok_set hN (pointT p)) (.inl ⟨(pointT p), (i + 1), hE.out, rfl, HRR.out.tok (by omega) (by omega) _ _ _ _ _ _ _ _, Mv.tok (((Mv.refl b w).alloc _).trans HMM.out) (Nat.le_refl _) _ _ _ _ _ _ _ _⟩)
 ·have HR : Hid (nextT d l i = partT d l p (i + 1)) := by show _ = _; rw [hE0.out]; unfold tokT; simp [hp92, hp46, hp91, hp94, hp36, hp42, hp43, hp63, hd3]
  have hqd : (d == 3) = false := by simpa using hd3
  clear hE0 hd3 hp92 hp46 hp91 hp94 hp36 hp42 hp43 hp63
  go_enter Tryz.func36, Tryz.ntmps36
  go_wp2_with fail
  simp only [tokO] at HT
  refine HT.out.mono ?_
  rintro e w1 ⟨rfl, hr1, hm1⟩
  obtain ⟨c0, c1, c2, f1⟩ := hr1.cells
  go_wp2_with fail
  refine (parting_any p w1 hr1).mono ?_
  rintro e w3 (⟨t, k, hR, rfl, hr, hm9⟩ | ⟨z, hR, rfl, hm9⟩)
  ·have hE := hide (HR.out.trans hR)
   have hm := hm1.trans hm9
   have hN : w3.heap[w.heap.size]? = some (tokO {}) := hm.blockAt (at_new _ _) (by omega)
   obtain ⟨m0, m1, m2, m3, m4, m5, m6, m7⟩ := tok_cells hN
   have fr0 := tok_free hN
   have hq0 : w.heap.size < w3.heap.size := lt_of_block hN
   have hq1 : ¬ w.heap.size = w3.heap.size := by omega
   have hq2 : ¬ w3.heap.size = w.heap.size := by omega
   have HRR := hide hr
   have HMM := hide hm
   clear hr hm hm9 hR HR hr1 hm1 HT c0 c1 c2 f1
   simp only [tokV]
   go_wp21
   go_wp21
   exact ret_tok (N := w.heap.size) rfl rfl (tok_set hN t) (.inl ⟨t, k, hE.out, rfl, HRR.out.tok (by omega) (by omega) _ _ _ _ _ _ _ _, Mv.tok (((Mv.refl b w).alloc _).trans HMM.out) (Nat.le_refl _) _ _ _ _ _ _ _ _⟩)
  ·have hE := hide (HR.out.trans hR)
   have hm := hm1.trans hm9
   have HMM := hide hm
   clear hm hm9 hR HR hr1 hm1 HT c0 c1 c2 f1
   simp only [gives]
   go_wp2
   exact ⟨rfl, .inr ⟨z, hE.out, rfl, ((Mv.refl b w).alloc _).trans HMM.out⟩⟩
end Go.Proofs.YtaccofiegkdlgaaGreatDoor.TK
namespace Go.Proofs.YtaccofiegkdlgaaGreatDoor.TK
set_option maxHeartbeats 1000000
open Go.RowKit
set_option linter.unusedVariables false
set_option maxRecDepth 100000
theorem heap_hit (X : World) (N o : Nat) (v : Value) : (X.setCell ⟨N, o, none⟩ v).heap[N]? = (X.heap[N]?).map fun | .cells c e f => .cells (c.setIfInBounds o v) e f | o => o := by
 simp only [World.setCell, Array.getElem?_modify, if_true]
 cases X.heap[N]? with
 | none => rfl
 | some o => cases o <;> rfl
theorem peel {X : World} {a : Addr} {u : Value} {j : Nat} {o : Obj} (h : X.heap[j]? = some o) (hne : j ≠ a.block) : (X.setCell a u).heap[j]? = some o := by rw [Below.heap_setCell _ _ _ _ hne]; exact h
theorem peelTok {X : World} {n j : Nat} {o : Obj} (h : X.heap[j]? = some o) (hne : j ≠ n) (v0 v1 v2 v3 v4 v5 v6 v7 : Value) :
  ((((((((X.setCell ⟨n, 0, none⟩ v0).setCell ⟨n, 1, none⟩ v1).setCell ⟨n, 2, none⟩ v2).setCell ⟨n, 3, none⟩ v3).setCell ⟨n, 4, none⟩ v4).setCell ⟨n, 5, none⟩ v5).setCell ⟨n, 6, none⟩ v6).setCell ⟨n, 7, none⟩ v7).heap[j]? = some o :=
 peel (peel (peel (peel (peel (peel (peel (peel h hne) hne) hne) hne) hne) hne) hne) hne
theorem catch_idle (p q r : Addr) (w : World) :
  CallsD Tryz.prog 35 #[.pointer (some p), .pointer (some q), .pointer (some r)] .returning w fun e u' w' => e = .returned (.tuple #[]) ∧ u' = .returning ∧ w' = w := by
 have hnn : ∀ w, (binOp .neq 20 .nilIface .nilIface).run Tryz.prog w = .ok (.bool false) w := fun w => by kernel_rfl
 refine callsD_of_wpS Tryz.func35 rfl fun c₀ cs hu => ?_
 apply wpS_seq
 apply wpS_region
 simp [wpOpsS, go_sem, recoverD, hu, Tryz.ntmps35, Exit.thenS]
 apply wpS_seq
 apply wpS_region
 simp [wpOpsS, go_sem, hnn, Exit.thenS]
 refine wpS_cond (t := false) (by simp [Act.eval, Array.replicate]) ?_
 simp only [Bool.false_eq_true, if_false]
 refine wpS_of_wp (wp_skip ?_)
 cases c₀
 simp_all [bodyPostS, results, Tryz.results35]
theorem catch_some (n m k : Nat) (z : Int) (w : World) (h1 : n < m) (h2 : m < k) {t : Tok} {a e : Int} (ht : w.heap[n]? = some (tokO t)) (hm : w.heap[m]? = some (.cells #[.int .i64 a] 3 (0, 0))) (hk : w.heap[k]? = some (.cells #[.int .i64 e] 32 (0, 0))) :
  CallsD Tryz.prog 35 #[.pointer (some ⟨n, 0, none⟩), .pointer (some ⟨m, 0, none⟩), .pointer (some ⟨k, 0, none⟩)] (.panicking [{ v := .iface 32 (.int .i64 z), recovered := false }]) w fun e u' w' => e = .returned (.tuple #[]) ∧ u' = .panicking [{ v := .iface 32 (.int .i64 z), recovered := true }] ∧ w'.heap[n]? = some (tokO {}) ∧ w'.heap[m]? = some (.cells #[.int .i64 0] 3 (0, 0)) ∧ w'.heap[k]? = some (.cells #[.int .i64 z] 32 (0, 0)) ∧ Below n w w' := by
 have hta : ∀ w, (Instr.typeAssert (.iface 32 (.int .i64 z)) 20 32 false).run Tryz.prog w = .ok (.int .i64 z) w := fun w => by kernel_rfl
 have hnn : ∀ x w, (binOp .neq 20 (.iface 32 x) .nilIface).run Tryz.prog w = .ok (.bool true) w := fun x w => by rfl
 refine callsD_of_wpS Tryz.func35 rfl fun c₀ cs hu => ?_
 apply wpS_seq
 apply wpS_region
 simp [wpOpsS, go_sem, recoverD, hu, Tryz.ntmps35, Exit.thenS]
 apply wpS_seq
 apply wpS_region
 simp [wpOpsS, go_sem, hnn, Exit.thenS]
 refine wpS_cond (t := true) (by simp [Act.eval, Array.replicate]) ?_
 simp only [if_true]
 refine wpS_of_wp ?_
 obtain ⟨m0, m1, m2, m3, m4, m5, m6, m7⟩ := tok_cells ht
 have fr0 := tok_free ht
 have cm := cell_of_one hm
 have fm := free_of_one hm
 have ck := cell_of_one hk
 have fk := free_of_one hk
 have q1 : ¬ n = m := by omega
 have q2 : ¬ m = n := by omega
 have q3 : ¬ n = k := by omega
 have q4 : ¬ k = n := by omega
 have q5 : ¬ m = k := by omega
 have q6 : ¬ k = m := by omega
 have ne_nm : ∀ (X : World) u, (X.setCell ⟨m, 0, none⟩ u).heap[n]? = X.heap[n]? := fun X u => Below.heap_setCell _ _ _ _ q1
 have ne_nk : ∀ (X : World) u, (X.setCell ⟨k, 0, none⟩ u).heap[n]? = X.heap[n]? := fun X u => Below.heap_setCell _ _ _ _ q3
 have ne_mn : ∀ (X : World) o u, (X.setCell ⟨n, o, none⟩ u).heap[m]? = X.heap[m]? := fun X o u => Below.heap_setCell _ _ _ _ q2
 have ne_mk : ∀ (X : World) u, (X.setCell ⟨k, 0, none⟩ u).heap[m]? = X.heap[m]? := fun X u => Below.heap_setCell _ _ _ _ q5
 have ne_kn : ∀ (X : World) o u, (X.setCell ⟨n, o, none⟩ u).heap[k]? = X.heap[k]? := fun X o u => Below.heap_setCell _ _ _ _ q4
 have ne_km : ∀ (X : World) u, (X.setCell ⟨m, 0, none⟩ u).heap[k]? = X.heap[k]? := fun X u => Below.heap_setCell _ _ _ _ q6
 have dr : ∀ (X : World), X.drew.heap = X.heap := fun X => rfl
 unfold tokO at ht
 go_region
 all_goals
  refine ⟨rfl, _, rfl, .tuple #[], by simp [results, Tryz.results35], rfl, rfl, ?_, ?_, ?_, ?_⟩
  ·simp only [dr, ne_nm, ne_nk, heap_hit, ht, Option.map_some, tokO]
   simp
  ·simp only [dr, ne_mn, ne_mk, heap_hit, hm, Option.map_some]
   simp
  ·simp only [dr, ne_kn, ne_km, heap_hit, hk, Option.map_some]
   simp
  ·refine Below.drew ?_
   repeat refine Below.setCell ?_ (by first | exact Nat.le_refl _ | exact Nat.le_of_lt h1 | exact Nat.le_of_lt (Nat.lt_trans h1 h2)) _
   exact Below.refl _ _
end Go.Proofs.YtaccofiegkdlgaaGreatDoor.TK
namespace Go.Proofs.YtaccofiegkdlgaaGreatDoor.TK
set_option maxHeartbeats 4000000
open Go.RowKit
set_option linter.unusedVariables false
set_option maxRecDepth 100000
structure Pat (w : World) (x : Addr) (c : Nat) (l : List Int) : Prop where
 reads : ReadsI w x l
 cap : l.length ≤ c
 small : l.length ≤ 300
 pts : ∀ p ∈ l, 0 ≤ p ∧ p ≤ 1114111
theorem Pat.below {w w' : World} {x : Addr} {c : Nat} {l : List Int} (h : Pat w x c l) (hb : Below w.heap.size w w') : Pat w' x c l :=
 ⟨fun j hj => by rw [hb.cell (World.block_lt_of_cell? _ _ (h.reads j hj))]; exact h.reads j hj, h.cap, h.small, h.pts⟩
def ReadE (d : Int) (l : List Int) (i : Nat) (w : World) (e : Ending) (w' : World) : Prop :=
 (∃ t k, nextT d l i = .ok (t, k) ∧ e = .returned (.tuple #[tokV t, .int .i64 (k : Nat), .int .i64 0]) ∧ k ≤ l.length ∧ Below w.heap.size w w') ∨
 (∃ z, nextT d l i = .error z ∧ e = .returned (.tuple #[tokV {}, .int .i64 0, .int .i64 z]) ∧ Below w.heap.size w w')
theorem drew_heap (X : World) : X.drew.heap = X.heap := rfl
theorem leave_ok {tmps : Array Value} {W : World} {N : Nat} {t : Tok} {k : Int} {R : Ending → World → Prop} (h6 : tmps[6]? = some (.pointer (some ⟨N, 0, none⟩))) (h7 : tmps[7]? = some (.pointer (some ⟨N + 1, 0, none⟩))) (h8 : tmps[8]? = some (.pointer (some ⟨N + 1 + 1, 0, none⟩)))
  (q0 : W.heap[N]? = some (tokO t)) (q1 : W.heap[N + 1]? = some (.cells #[.int .i64 k] 3 (0, 0))) (q2 : W.heap[N + 1 + 1]? = some (.cells #[.int .i64 0] 32 (0, 0))) (hF : R (.returned (.tuple #[tokV t, .int .i64 k, .int .i64 0])) W) :
  bodyPostD Tryz.prog Tryz.f31 R Exit.ret { tmps := tmps, defers := [{ target := Target.fn (Fn.func 35) #[.pointer (some ⟨N, 0, none⟩), .pointer (some ⟨N + 1, 0, none⟩), .pointer (some ⟨N + 1 + 1, 0, none⟩)], args := #[] }] } W := by
 obtain ⟨m0, m1, m2, m3, m4, m5, m6, m7⟩ := tok_cells q0
 have c1 := cell_of_one q1
 have c2 := cell_of_one q2
 refine leaves_cons (f := 35) (args := #[.pointer (some ⟨N, 0, none⟩), .pointer (some ⟨N + 1, 0, none⟩), .pointer (some ⟨N + 1 + 1, 0, none⟩)]) (by simp) (by simp [go_sem]) ?_
 refine (catch_idle _ _ _ _).mono ?_
 rintro e u' w2 ⟨rfl, rfl, rfl⟩
 simp only [tokV] at hF
 simp [Leaves, settle, results, Tryz.results31, go_sem, h6, h7, h8, m0, m1, m2, m3, m4, m5, m6, m7, c1, c2]
 exact hF
theorem read_any (d : Int) (x : Addr) (c : Nat) (l : List Int) (i : Nat) (w : World) (h : Pat w x c l) (hi : i < l.length) :
  Calls Tryz.prog 31 #[.int .i64 d, .slice (some x) l.length c, .int .i64 i] w fun e w' => ReadE d l i w e w' := by
 have hmf : ∀ (fn : Fn) (first cap : Array Value) (w : World), (Instr.makeFunc fn first cap).run Tryz.prog w = .ok (.func fn first cap) w := fun _ _ _ _ => rfl
 have hxb : x.block < w.heap.size := by
  have := World.block_lt_of_cell? _ _ (h.reads i hi)
  rw [add_block] at this
  exact this
 have hb0 : Below w.heap.size w ((((w.alloc (tokO {})).alloc (.cells #[.int .i64 0] 3)).alloc (.cells #[.int .i64 0] 32)).alloc (.cells #[.slice (some x) l.length c, .int .i64 i, .int .i64 d] 78)) := ((((Below.refl _ w).alloc (Nat.le_refl _) _).alloc (by simp) _).alloc (by simp; omega) _).alloc (by simp; omega) _
 have hRB : RB ((((w.alloc (tokO {})).alloc (.cells #[.int .i64 0] 3)).alloc (.cells #[.int .i64 0] 32)).alloc (.cells #[.slice (some x) l.length c, .int .i64 i, .int .i64 d] 78)) (w.heap.size + 3) x c l i d :=
  ⟨at_new' _ _ (by simp), (h.below hb0).reads, by omega, h.cap, h.small, Nat.le_of_lt hi, h.pts, by have := hb0.size; omega⟩
 have HT := hide (token_any _ hRB hi)
 simp only [tokO] at HT
 have HB0 := hide hb0
 clear h hb0 hRB
 obtain ⟨n, hn⟩ : ∃ n, n = l.length := ⟨_, rfl⟩
 have HN := hide hn
 rw [← hn] at HT HB0 ⊢
 clear hn
 go_enter_defers Tryz.func31, Tryz.ntmps31
 go_wp2_with fail
 refine HT.out.mono ?_
 rintro e w1 (⟨t, k, hR, rfl, hr, hm⟩ | ⟨z, hR, rfl, hm⟩)
 ·have g0 : w1.heap[w.heap.size]? = some (tokO {}) := hm.blockAt (at_old (at_old (at_old (at_new _ _)))) (by omega)
  have g1 : w1.heap[w.heap.size + 1]? = some (.cells #[.int .i64 0] 3 (0, 0)) := hm.blockAt (at_old (at_old (at_new' _ _ (by simp)))) (by omega)
  have g2 : w1.heap[w.heap.size + 2]? = some (.cells #[.int .i64 0] 32 (0, 0)) := hm.blockAt (at_old (at_new' _ _ (by simp))) (by omega)
  have hbw : Below w.heap.size w w1 := HB0.out.trans ((hm.below (by simp)).mono (by omega))
  have hkl := hr.at'
  obtain ⟨d0, d1, d2, e1⟩ := hr.cells
  obtain ⟨m0, m1, m2, m3, m4, m5, m6, m7⟩ := tok_cells g0
  have fr0 := tok_free g0
  have cc1 := cell_of_one g1
  have cc2 := cell_of_one g2
  have ff1 := free_of_one g1
  have ff2 := free_of_one g2
  have HBW := hide hbw
  have HR := hide hR
  have HG1 := hide g1
  have HG2 := hide g2
  clear hm HT hr hbw hR
  simp only [tokV]
  go_wp2
  go_region
  go_wp2
  refine leave_ok (N := w.heap.size) (t := t) (k := (k : Int)) rfl rfl rfl ?_ ?_ ?_ ?_
  ·rw [drew_heap]; exact peel (peel (tok_set (tok_set g0 t) t) (by show w.heap.size ≠ w.heap.size + 1; omega)) (by show w.heap.size ≠ w.heap.size + 1 + 1; omega)
  ·rw [drew_heap]; exact peel (one_setCell (peelTok (peelTok HG1.out (by omega) _ _ _ _ _ _ _ _) (by omega) _ _ _ _ _ _ _ _)) (by show w.heap.size + 1 ≠ w.heap.size + 1 + 1; omega)
  ·rw [drew_heap]; exact one_setCell (peel (peelTok (peelTok HG2.out (by omega) _ _ _ _ _ _ _ _) (by omega) _ _ _ _ _ _ _ _) (by show w.heap.size + 1 + 1 ≠ w.heap.size + 1; omega))
  ·refine .inl ⟨t, k, HR.out, rfl, hkl, ?_⟩
   refine Below.drew ?_
   repeat refine Below.setCell ?_ (by first | exact Nat.le_refl _ | exact Nat.le_succ _ | exact Nat.le_add_right _ 2) _
   exact HBW.out
 ·have g0 : w1.heap[w.heap.size]? = some (tokO {}) := hm.blockAt (at_old (at_old (at_old (at_new _ _)))) (by omega)
  have g1 : w1.heap[w.heap.size + 1]? = some (.cells #[.int .i64 0] 3 (0, 0)) := hm.blockAt (at_old (at_old (at_new' _ _ (by simp)))) (by omega)
  have g2 : w1.heap[w.heap.size + 2]? = some (.cells #[.int .i64 0] 32 (0, 0)) := hm.blockAt (at_old (at_new' _ _ (by simp))) (by omega)
  have hbw : Below w.heap.size w w1 := HB0.out.trans ((hm.below (by simp)).mono (by omega))
  simp only [gives]
  clear hm HT
  go_wp2
  refine leaves_cons (f := 35) (args := #[.pointer (some ⟨w.heap.size, 0, none⟩), .pointer (some ⟨w.heap.size + 1, 0, none⟩), .pointer (some ⟨w.heap.size + 1 + 1, 0, none⟩)]) (by simp) (by simp [go_sem]) ?_
  refine (catch_some w.heap.size (w.heap.size + 1) (w.heap.size + 1 + 1) z w1 (by omega) (by omega) g0 g1 g2).mono ?_
  rintro e u' w2 ⟨rfl, rfl, k0, k1, k2, hb⟩
  obtain ⟨m0, m1, m2, m3, m4, m5, m6, m7⟩ := tok_cells k0
  have c1 := cell_of_one k1
  have c2 := cell_of_one k2
  have hF : ReadE d l i w (.returned (.tuple #[tokV {}, .int .i64 0, .int .i64 z])) w2 := .inr ⟨z, hR, rfl, hbw.trans hb⟩
  simp only [tokV] at hF
  simp [Leaves, settle, results, Tryz.results31, go_sem, m0, m1, m2, m3, m4, m5, m6, m7, c1, c2]
  exact hF
end Go.Proofs.YtaccofiegkdlgaaGreatDoor.TK
