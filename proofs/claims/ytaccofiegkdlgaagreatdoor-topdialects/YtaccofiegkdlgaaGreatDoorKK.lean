import Derived.Test.YtaccofiegkdlgaaGreatDoorKJ
import Derived.Shelf.Abstract
namespace Go.Proofs.YtaccofiegkdlgaaGreatDoor.TK
set_option maxHeartbeats 2000000
open Go.RowKit
set_option linter.unusedVariables false
set_option maxRecDepth 100000
def PatV (w : World) (v : Value) (l : List Int) : Prop := (v = .slice none 0 0 ∧ l = []) ∨ ∃ x c, v = .slice (some x) l.length c ∧ l.length ≤ c ∧ ReadsI w x l
theorem ReadsI.below {w w' : World} {x : Addr} {l : List Int} (h : ReadsI w x l) (hb : Below w.heap.size w w') : ReadsI w' x l := fun j hj => by
 rw [hb.cell (World.block_lt_of_cell? _ _ (h j hj))]; exact h j hj
theorem PatV.below {w w' : World} {v : Value} {l : List Int} (h : PatV w v l) (hb : Below w.heap.size w w') : PatV w' v l := by
 rcases h with h | ⟨x, c, h1, h2, h3⟩
 ·exact .inl h
 ·exact .inr ⟨x, c, h1, h2, h3.below hb⟩
theorem PatV.shape {w : World} {v : Value} {l : List Int} (h : PatV w v l) : ∃ ao c, v = .slice ao l.length c := by
 rcases h with ⟨rfl, rfl⟩ | ⟨x, c, h1, _⟩
 ·exact ⟨none, 0, rfl⟩
 ·exact ⟨some x, c, h1⟩
theorem PatV.some {w : World} {v : Value} {l : List Int} (h : PatV w v l) (hl : 0 < l.length) : ∃ x c, v = .slice (some x) l.length c ∧ l.length ≤ c ∧ ReadsI w x l := by
 rcases h with ⟨rfl, rfl⟩ | h
 ·simp at hl
 ·exact h
theorem is_point (p : Int) (w : World) : Calls Tryz.prog 16 #[.int .i64 p] w fun e w' => e = .returned (.bool (pointB p)) ∧ w = w' := by
 go_enter Tryz.func16, Tryz.ntmps16
 go_wp2
 all_goals go_ret
 all_goals exact ⟨ret_bool (by unfold pointB; rw [Bool.eq_iff_iff]; simp <;> omega), rfl⟩
theorem no_point (p : Int) (w : World) : Calls Tryz.prog 15 #[.int .i64 p] w fun e w' => e = .returned (.bool (!pointB p)) ∧ w = w' := by
 have H := hide (is_point p w)
 obtain ⟨z, hz⟩ : ∃ z, z = pointB p := ⟨_, rfl⟩
 rw [← hz] at H ⊢
 clear hz
 go_enter Tryz.func15, Tryz.ntmps15
 go_wp2_with fail
 refine H.out.mono ?_
 rintro e w' ⟨rfl, rfl⟩
 go_wp2
 go_ret
 exact ⟨rfl, rfl⟩
theorem enters25 (args : Array Value) (w : World) : (callFunc 15 args).run Tryz.prog w = .ok (.enter 15 args) w := Go.Proofs.enters_of Tryz.func15 (by kernel_rfl) rfl args w
def badB (l : List Int) : Bool := !l.all pointB
theorem indexFunc_any (v : Value) (l : List Int) (w : World) (h : PatV w v l) (hl : l.length ≤ 300) :
  Calls Tryz.prog 20 #[v, .func (.func 15) #[] #[]] w fun e w' => ∃ z : Int, e = .returned (.int .i64 z) ∧ (0 ≤ z ↔ badB l = true) ∧ w = w' := by
 obtain ⟨ao, c, hv⟩ := h.shape
 have H := hide h
 obtain ⟨n, hn⟩ : ∃ n, n = l.length := ⟨_, rfl⟩
 have HN := hide hn
 rw [← hn] at hv hl
 rw [hv] at H ⊢
 clear h hv hn
 have eg := enters25
 go_enter Tryz.func20, Tryz.ntmps20
 go_wp2
 go_loop [8] (fun i => ∃ k : Nat, k ≤ n ∧ i = .int .i64 k ∧ (l.take k).all pointB = true) (fun i => n - (intOf i).toNat)
 case atStart => exact ⟨0, Nat.zero_le _, rfl, by simp⟩
 case round =>
  obtain ⟨k, hk, rfl, ha⟩ := hrel
  have HA := hide ha
  clear ha
  by_cases hlt : k < n
  ·have hkl : k < l.length := by have := HN.out; omega
   obtain ⟨x, cx, hx, hcap, hrd⟩ := H.out.some (by omega)
   obtain ⟨rfl⟩ : ao = some x := by cases hx; rfl
   have hc := hrd k hkl
   obtain ⟨p, hp⟩ : ∃ p, p = l[k] := ⟨_, rfl⟩
   rw [← hp] at hc
   have HP := hide hp
   have HF := hide (fun w => no_point p w)
   have e1 : (k : Int) < (n : Int) := by omega
   clear hp hx hcap hrd
   cases hb : pointB p with
   | true =>
    rw [hb] at HF
    have hnx : Hid ((l.take (k + 1)).all pointB = true) := by
     show _ = _
     rw [List.take_succ_eq_append_getElem hkl, List.all_append, HA.out, ← HP.out]
     simp [hb]
    clear hb
    go_wp2_with (go_at_fn 15; refine (HF.out _).mono ?_; rintro e w' ⟨rfl, rfl⟩)
    go_round
    case rel => exact ⟨k + 1, by omega, by go_num, hnx.out⟩
    case measure => simp [intOf]; omega
   | false =>
    rw [hb] at HF
    have hno : Hid (badB l = true) := by
     show _ = _
     unfold badB
     rw [Bool.not_eq_true']
     rw [List.all_eq_false]
     exact ⟨l[k], List.getElem_mem _, by rw [← HP.out, hb]; simp⟩
    clear hb
    go_wp2_with (go_at_fn 15; refine (HF.out _).mono ?_; rintro e w' ⟨rfl, rfl⟩)
    go_ret
    exact ⟨k, rfl, ⟨fun _ => hno.out, fun _ => Int.natCast_nonneg k⟩, rfl⟩
  ·have hall : Hid (badB l = false) := by
    show _ = _
    unfold badB
    rw [Bool.not_eq_false']
    have := HA.out
    rw [List.take_of_length_le (by have := HN.out; omega)] at this
    exact this
   go_wp2
   go_ret
   refine ⟨-1, rfl, ⟨fun h => absurd h (by decide), fun h => ?_⟩, rfl⟩
   rw [hall.out] at h
   cases h
theorem containsFunc_any (v : Value) (l : List Int) (w : World) (h : PatV w v l) (hl : l.length ≤ 300) :
  Calls Tryz.prog 14 #[v, .func (.func 15) #[] #[]] w fun e w' => e = .returned (.bool (badB l)) ∧ w = w' := by
 have HI := hide (indexFunc_any v l w h hl)
 obtain ⟨ao, c, hv⟩ := h.shape
 rw [hv] at HI ⊢
 clear h hv
 go_enter Tryz.func14, Tryz.ntmps14
 go_wp2_with fail
 refine HI.out.mono ?_
 rintro e w' ⟨z, rfl, hz, rfl⟩
 have HZ := hide hz
 clear hz
 go_wp2
 go_ret
 refine ⟨ret_bool ?_, rfl⟩
 rw [Bool.eq_iff_iff]
 simp only [decide_eq_true_eq, HZ.out]
theorem checkPattern_any (d : Int) (v : Value) (l : List Int) (w : World) (h : PatV w v l) : Calls Tryz.prog 10 #[.int .i64 d, v] w fun e w' => e = .returned (.int .i64 (patE d l)) ∧ w = w' := by
 obtain ⟨ao, c, hv⟩ := h.shape
 by_cases hd : d = 1 ∨ d = 2 ∨ d = 3
 ·by_cases hl : 300 < l.length
  ·have hE : Hid (patE d l = 2) := by show _ = _; unfold patE; rw [if_neg (by omega), if_pos hl]
   have hli : (300 : Int) < (l.length : Int) := by omega
   rw [hv]
   clear h hv
   rcases hd with rfl | rfl | rfl
   all_goals
    go_enter Tryz.func10, Tryz.ntmps10
    go_wp2
    go_ret
    exact ⟨ret_int hE.out.symm, rfl⟩
  ·have HC := hide (containsFunc_any v l w h (by omega))
   have hE0 : Hid (patE d l = if l.all pointB then 0 else 3) := by show _ = _; unfold patE; rw [if_neg (by omega), if_neg hl]
   have hli : ¬ (300 : Int) < (l.length : Int) := by omega
   rw [hv] at HC ⊢
   clear h hv
   cases ha : l.all pointB with
   | true =>
    have hE : Hid (patE d l = 0) := by show _ = _; rw [hE0.out, ha]; rfl
    have hbd : badB l = false := by unfold badB; rw [ha]; rfl
    rw [hbd] at HC
    clear hbd
    clear ha hE0
    rcases hd with rfl | rfl | rfl
    all_goals
     go_enter Tryz.func10, Tryz.ntmps10
     go_wp2_with fail
     refine HC.out.mono ?_
     rintro e w' ⟨rfl, rfl⟩
     go_wp2
     go_ret
     exact ⟨ret_int hE.out.symm, rfl⟩
   | false =>
    have hE : Hid (patE d l = 3) := by show _ = _; rw [hE0.out, ha]; rfl
    have hbd : badB l = true := by unfold badB; rw [ha]; rfl
    rw [hbd] at HC
    clear hbd
    clear ha hE0
    rcases hd with rfl | rfl | rfl
    all_goals
     go_enter Tryz.func10, Tryz.ntmps10
     go_wp2_with fail
     refine HC.out.mono ?_
     rintro e w' ⟨rfl, rfl⟩
     go_wp2
     go_ret
     exact ⟨ret_int hE.out.symm, rfl⟩
 ·have hE : Hid (patE d l = 7) := by show _ = _; unfold patE; rw [if_pos (by omega)]
  have b1 : (d != 1) = true := by simp; omega
  have b2 : (d != 2) = true := by simp; omega
  have b3 : (d != 3) = true := by simp; omega
  rw [hv]
  clear h hv hd
  go_enter Tryz.func10, Tryz.ntmps10
  go_wp2
  go_ret
  exact ⟨ret_int hE.out.symm, rfl⟩
end Go.Proofs.YtaccofiegkdlgaaGreatDoor.TK
namespace Go.Proofs.YtaccofiegkdlgaaGreatDoor.TK
open Go.RowKit
set_option linter.unusedVariables false
set_option maxRecDepth 100000
theorem below_tok {B : Nat} {w w1 : World} (h : Below B w w1) {k : Nat} (hk : B ≤ k) (v0 v1 v2 v3 v4 v5 v6 v7 : Value) :
  Below B w ((((((((w1.setCell ⟨k, 0, none⟩ v0).setCell ⟨k, 1, none⟩ v1).setCell ⟨k, 2, none⟩ v2).setCell ⟨k, 3, none⟩ v3).setCell ⟨k, 4, none⟩ v4).setCell ⟨k, 5, none⟩ v5).setCell ⟨k, 6, none⟩ v6).setCell ⟨k, 7, none⟩ v7) :=
 (((((((h.setCell (p := ⟨k, 0, none⟩) hk v0).setCell (p := ⟨k, 1, none⟩) hk v1).setCell (p := ⟨k, 2, none⟩) hk v2).setCell (p := ⟨k, 3, none⟩) hk v3).setCell (p := ⟨k, 4, none⟩) hk v4).setCell (p := ⟨k, 5, none⟩) hk v5).setCell (p := ⟨k, 6, none⟩) hk v6).setCell (p := ⟨k, 7, none⟩) hk v7
def nextR (d : Int) (l : List Int) (a : Int) : RT := if patE d l ≠ 0 then .error (patE d l) else if a < 0 ∨ (l.length : Int) ≤ a then .error 3 else nextT d l a.toNat
theorem patE_ok {d : Int} {l : List Int} (h : patE d l = 0) : (d = 1 ∨ d = 2 ∨ d = 3) ∧ l.length ≤ 300 ∧ ∀ p ∈ l, 0 ≤ p ∧ p ≤ 1114111 := by
 unfold patE at h
 split at h
 ·cases h
 ·split at h
  ·cases h
  ·split at h
   ·rename_i h1 h2 h3
    refine ⟨by omega, by omega, fun p hp => ?_⟩
    have := List.all_eq_true.1 h3 p hp
    simpa [pointB] using this
   ·cases h
theorem ret_next {tmps : Array Value} {W : World} {N : Nat} {t : Tok} {k z : Int} {R : Ending → World → Prop} (h6 : tmps[6]? = some (.pointer (some ⟨N, 0, none⟩))) (h7 : tmps[7]? = some (.int .i64 k)) (h8 : tmps[8]? = some (.int .i64 z)) (q0 : W.heap[N]? = some (tokO t)) (hF : R (.returned (.tuple #[tokV t, .int .i64 k, .int .i64 z])) W) :
  bodyPost Tryz.prog Tryz.f27 R Exit.ret { tmps := tmps, defers := [] } W := by
 obtain ⟨m0, m1, m2, m3, m4, m5, m6, m7⟩ := tok_cells q0
 refine bodyPost_ret (v := .tuple #[tokV t, .int .i64 k, .int .i64 z]) ?_ rfl hF
 simp [results, Tryz.results27, go_sem, h6, h7, h8, m0, m1, m2, m3, m4, m5, m6, m7, tokV]
end Go.Proofs.YtaccofiegkdlgaaGreatDoor.TK
namespace Go.Proofs.YtaccofiegkdlgaaGreatDoor.TK
set_option maxHeartbeats 4000000
open Go.RowKit
set_option linter.unusedVariables false
set_option maxRecDepth 100000
def NextE2 (l : List Int) (R : RT) (w : World) (e : Ending) (w' : World) : Prop :=
 (∃ t k, R = .ok (t, k) ∧ e = .returned (.tuple #[tokV t, .int .i64 (k : Nat), .int .i64 0]) ∧ k ≤ l.length ∧ Below w.heap.size w w') ∨
 (∃ z, R = .error z ∧ e = .returned (.tuple #[tokV {}, .int .i64 0, .int .i64 z]) ∧ Below w.heap.size w w')
theorem next_any2 (d a : Int) (v : Value) (l : List Int) (w : World) (h : PatV w v l) : Calls Tryz.prog 27 #[.int .i64 d, v, .int .i64 a] w fun e w' => NextE2 l (nextR d l a) w e w' := by
 have hb0 : Below w.heap.size w (w.alloc (tokO {})) := (Below.refl _ w).alloc (Nat.le_refl _) _
 have HC := hide (checkPattern_any d v l _ (h.below hb0))
 obtain ⟨ao, c, hv⟩ := h.shape
 by_cases hz : patE d l = 0
 ·obtain ⟨hd, hsm, hpts⟩ := patE_ok hz
  rw [hz] at HC
  by_cases ha : a < 0
  ·have hE : Hid (nextR d l a = .error 3) := by show _ = _; unfold nextR; rw [if_neg (by simp [hz]), if_pos (Or.inl ha)]
   simp only [tokO] at HC
   have HB := hide hb0
   rw [hv] at HC ⊢
   clear h hv hz hpts hb0
   go_enter Tryz.func27, Tryz.ntmps27
   go_wp2_with fail
   refine HC.out.mono ?_
   rintro e w' ⟨rfl, rfl⟩
   go_wp21
   go_wp21
   exact ret_next (N := w.heap.size) (t := {}) rfl rfl rfl (at_new _ _) (.inr ⟨3, hE.out, rfl, HB.out⟩)
  ·by_cases hb : (l.length : Int) ≤ a
   ·have hE : Hid (nextR d l a = .error 3) := by show _ = _; unfold nextR; rw [if_neg (by simp [hz]), if_pos (Or.inr hb)]
    simp only [tokO] at HC
    have HB := hide hb0
    rw [hv] at HC ⊢
    clear h hv hz hpts hb0
    go_enter Tryz.func27, Tryz.ntmps27
    go_wp2_with fail
    refine HC.out.mono ?_
    rintro e w' ⟨rfl, rfl⟩
    go_wp21
    go_wp21
    exact ret_next (N := w.heap.size) (t := {}) rfl rfl rfl (at_new _ _) (.inr ⟨3, hE.out, rfl, HB.out⟩)
   ·obtain ⟨i, rfl⟩ : ∃ i : Nat, a = i := ⟨a.toNat, by omega⟩
    have hi : i < l.length := by omega
    obtain ⟨x, cx, hx, hcap, hrd⟩ := h.some (by omega)
    have hE : Hid (nextR d l (i : Int) = nextT d l i) := by show _ = _; unfold nextR; rw [if_neg (by simp [hz]), if_neg (by omega)]; simp
    have HR := hide (read_any d x cx l i _ ⟨hrd.below hb0, hcap, hsm, hpts⟩ hi)
    have hli : ¬ ((l.length : Int) ≤ (i : Int)) := by omega
    have hli2 : (i : Int) < (l.length : Int) := by omega
    simp only [tokO] at HC HR
    have HB := hide hb0
    rw [hx] at HC ⊢
    clear h hv hz hpts hb0 hrd hx ha hb
    go_enter Tryz.func27, Tryz.ntmps27
    go_wp2_with fail
    refine HC.out.mono ?_
    rintro e w' ⟨rfl, rfl⟩
    go_wp2_with fail
    refine HR.out.mono ?_
    rintro e w2 (⟨t, k, hR, rfl, hkl, hb2⟩ | ⟨z, hR, rfl, hb2⟩)
    ·have hN : w2.heap[w.heap.size]? = some (tokO {}) := by rw [hb2.block _ (by simp)]; exact at_new _ _
     obtain ⟨m0, m1, m2, m3, m4, m5, m6, m7⟩ := tok_cells hN
     have fr0 := tok_free hN
     have HE := hide (hE.out.trans hR)
     have HKL := hide hkl
     have HB2 := hide (HB.out.trans (hb2.mono HB.out.size))
     clear hb2 hR hE hkl
     simp only [tokV]
     go_wp21
     exact ret_next (N := w.heap.size) (t := t) rfl rfl rfl (tok_set hN t) (.inl ⟨t, k, HE.out, rfl, HKL.out, below_tok HB2.out (Nat.le_refl _) _ _ _ _ _ _ _ _⟩)
    ·have hN : w2.heap[w.heap.size]? = some (tokO {}) := by rw [hb2.block _ (by simp)]; exact at_new _ _
     obtain ⟨m0, m1, m2, m3, m4, m5, m6, m7⟩ := tok_cells hN
     have fr0 := tok_free hN
     have HE := hide (hE.out.trans hR)
     have HB2 := hide (HB.out.trans (hb2.mono HB.out.size))
     clear hb2 hR hE
     simp only [tokV]
     go_wp21
     exact ret_next (N := w.heap.size) (t := {}) rfl rfl rfl (tok_set hN {}) (.inr ⟨z, HE.out, rfl, below_tok HB2.out (Nat.le_refl _) _ _ _ _ _ _ _ _⟩)
 ·have hE : Hid (nextR d l a = .error (patE d l)) := by show _ = _; unfold nextR; rw [if_pos hz]
  simp only [tokO] at HC
  have HB := hide hb0
  obtain ⟨z, hzz⟩ : ∃ z, z = patE d l := ⟨_, rfl⟩
  rw [← hzz] at HC hE hz
  rw [hv] at HC ⊢
  have hzb : (z != 0) = true := by simpa using hz
  clear h hv hb0 hzz hz
  go_enter Tryz.func27, Tryz.ntmps27
  go_wp2_with fail
  refine HC.out.mono ?_
  rintro e w' ⟨rfl, rfl⟩
  go_wp21
  go_wp21
  exact ret_next (N := w.heap.size) (t := {}) rfl rfl rfl (at_new _ _) (.inr ⟨z, hE.out, rfl, HB.out⟩)
end Go.Proofs.YtaccofiegkdlgaaGreatDoor.TK
