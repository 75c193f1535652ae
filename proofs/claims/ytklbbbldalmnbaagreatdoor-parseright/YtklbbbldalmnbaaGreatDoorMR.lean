import Derived.Test.YtklbbbldalmnbaaGreatDoorMB
import Derived.Test.YtklbbbldalmnbaaGreatDoorKQ
namespace Go.Proofs.YtklbbbldalmnbaaGreatDoor.TR
set_option maxHeartbeats 4000000
set_option maxRecDepth 100000
open Go.RowKit
set_option linter.unusedVariables false
def gives (k : Int) : Ending := .panicked [{ v := .iface 29 (.int .i64 k), recovered := false }]
theorem must_any (b : Bool) (k : Int) (w : World) : Calls Tryz.prog 53 #[.bool b, .int .i64 k] w fun e w' => e = (if b then .returned (.tuple #[]) else gives k) ∧ w = w' := by
 cases b with
 | true =>
  simp only [if_true]
  go_enter Tryz.func53, Tryz.ntmps53
  go_wp2
  go_end0
  exact ⟨rfl, rfl⟩
 | false =>
  simp only [gives, Bool.false_eq_true, if_false]
  go_enter Tryz.func53, Tryz.ntmps53
  go_wp2
  exact ⟨rfl, rfl, rfl⟩
def kidL (ts : List Tr) (k : Int) : Bool := ts.any (fun u => u.kind == k)
theorem kidL_drop {ts : List Tr} {j : Nat} {k : Int} (hj : j < ts.length) : kidL (ts.drop j) k = ((ts[j].kind == k) || kidL (ts.drop (j + 1)) k) := by
 rw [List.drop_eq_getElem_cons hj]; rfl
theorem hasKid_any (n : NV) (t : Tr) (k : Int) (w : World) (h : NodeC w n t) : Calls Tryz.prog 68 #[nvV n, .int .i64 k] w fun e w' => e = .returned (.bool (kidL t.kids k)) ∧ Below w.heap.size w w' := by
 obtain ⟨-, -, -, -, -, -, -, vs, hk, hkids⟩ := h.open
 obtain ⟨ks, hks⟩ : ∃ ks, ks = t.kids := ⟨_, rfl⟩
 have HK : Hid (KidsC w n.ka n.kl n.kc ks.length vs) := by show KidsC _ _ _ _ _ _; rw [hks]; exact hk
 have HKL : Hid (n.kl = ks.length) := HK.out.len
 have HKd : Hid (∀ j (hj : j < ks.length), (vs j).kind = ks[j].kind) := by subst hks; exact fun j hj => (hkids j hj).open.1.symm
 rw [← hks]
 have hb : Below w.heap.size w (w.alloc (nvO n)) := (Below.refl _ _).alloc (Nat.le_refl _) _
 obtain ⟨w1, hw1⟩ : ∃ w1, w1 = w.alloc (nvO n) := ⟨_, rfl⟩
 have hbox : w1.heap[w.heap.size]? = some (nvO n) := by rw [hw1]; exact at_new _ _
 rw [← hw1] at hb
 have HB := hide hb
 obtain ⟨d0, d1, d2, d3, d4, d5, d6, d7⟩ := nv_cells hbox
 simp only [nvO] at hw1
 obtain ⟨A, hA⟩ : ∃ A, A = kidL ks k := ⟨_, rfl⟩
 have HA := hide hA
 rw [← hA]
 clear h hk hkids hks hbox hb hA
 go_enter Tryz.func68, Tryz.ntmps68
 go_wp2
 rw [← hw1]
 clear hw1 d0 d1 d2 d3 d4 d5 d6 d7
 go_loopw [10] (fun t wr => ∃ (j : Nat), j ≤ ks.length ∧ t = .int .i64 j ∧ kidL (ks.drop j) k = A ∧ Below w.heap.size w wr) (fun t _ => ks.length - (intOf t).toNat)
 case atStart => exact ⟨0, Nat.zero_le _, rfl, HA.out.symm, HB.out⟩
 case round =>
  obtain ⟨j, hj, rfl, hE, hb⟩ := hrel
  have HE := hide hE
  have HB2 := hide hb
  obtain ⟨w2, hw2⟩ : ∃ w2, w2 = wr := ⟨_, rfl⟩
  subst hw2
  clear hb HB hE
  by_cases hlt : j < ks.length
  ·have e2 : (j : Int) < (n.kl : Int) := by have := HKL.out; omega
   have e4 : (0 : Int) ≤ (j : Int) := by omega
   rcases HK.out with ⟨_, _, _, h0⟩ | ⟨x, hx, hkk, hmx, hcl⟩
   ·exact absurd h0 (by omega)
   ·obtain ⟨d0, d1, d2, d3, d4, d5, d6, d7⟩ := (hcl j hlt).below HB2.out
    have HD := hide (kidL_drop (k := k) hlt)
    have hkj := HKd.out j hlt
    have HB3 : Hid (Below w.heap.size w (w2.alloc (nvO (vs j)))) := HB2.out.alloc HB2.out.size _
    have hjw : IntKind.i64.wrap ((j : Int) + 1) = (j : Int) + 1 := by rw [IntKind.wrap_i64]; omega
    rw [hx]
    cases hq : ((vs j).kind == k) with
    | true =>
     have hF : Hid (A = true) := by show _ = _; rw [← HE.out, HD.out, ← hkj, hq]; rfl
     clear hcl hx hkk hkj
     go_wp2
     go_ret
     exact ⟨by rw [hF.out]; rfl, HB3.out⟩
    | false =>
     have hF : Hid (kidL (ks.drop (j + 1)) k = A) := by show _ = _; rw [← HE.out, HD.out, ← hkj, hq]; rfl
     clear hcl hx hkk hkj
     go_wp2
     go_roundw
     case rel => exact ⟨j + 1, by omega, by go_num, hF.out, HB3.out⟩
     case measure => simp [intOf]; omega
  ·have e2 : ¬ (j : Int) < (n.kl : Int) := by have := HKL.out; omega
   have hF : Hid (A = false) := by
    show _ = _
    rw [← HE.out, List.drop_eq_nil_of_le (by omega)]; rfl
   go_wp2
   go_ret
   exact ⟨by rw [hF.out]; rfl, HB2.out⟩
def kidsB (t : Tr) : Bool :=
 if t.kind = 9 then (decide (2 ≤ t.kids.length) && !kidL t.kids 9) && !kidL t.kids 1
 else if t.kind = 10 then decide (2 ≤ t.kids.length) && !kidL t.kids 10
 else if 11 ≤ t.kind ∧ t.kind ≤ 17 then decide (t.kids.length = 1)
 else decide (t.kids.length = 0)
theorem hasItsKids_any (n : NV) (t : Tr) (w : World) (h : NodeC w n t) : Calls Tryz.prog 54 #[nvV n] w fun e w' => e = .returned (.bool (kidsB t)) ∧ Below w.heap.size w w' := by
 obtain ⟨hk0, -, -, -, -, -, -, vs, hk, -⟩ := h.open
 have hkl := hk.len
 have hb : Below w.heap.size w (w.alloc (nvO n)) := (Below.refl _ _).alloc (Nat.le_refl _) _
 have HC := hide (fun W (hW : Below w.heap.size w W) k => hasKid_any n t k W (h.keep hW))
 obtain ⟨w1, hw1⟩ : ∃ w1, w1 = w.alloc (nvO n) := ⟨_, rfl⟩
 have hbox : w1.heap[w.heap.size]? = some (nvO n) := by rw [hw1]; exact at_new _ _
 rw [← hw1] at hb
 have HB := hide hb
 have HX := hide hbox
 obtain ⟨d0, d1, d2, d3, d4, d5, d6, d7⟩ := nv_cells hbox
 simp only [nvO] at hw1
 have hE : kidsB t = (if n.kind = 9 then (decide (2 ≤ n.kl) && !kidL t.kids 9) && !kidL t.kids 1 else if n.kind = 10 then decide (2 ≤ n.kl) && !kidL t.kids 10 else if 11 ≤ n.kind ∧ n.kind ≤ 17 then decide (n.kl = 1) else decide (n.kl = 0)) := by unfold kidsB; rw [hk0, hkl]
 have HE := hide hE
 obtain ⟨A, hA⟩ : ∃ A, A = kidsB t := ⟨_, rfl⟩
 have HA := hide hA
 rw [← hA]
 obtain ⟨f9, hf9⟩ : ∃ f, f = kidL t.kids 9 := ⟨_, rfl⟩
 obtain ⟨f1, hf1⟩ : ∃ f, f = kidL t.kids 1 := ⟨_, rfl⟩
 obtain ⟨f10, hf10⟩ : ∃ f, f = kidL t.kids 10 := ⟨_, rfl⟩
 have HC9 : Hid (∀ W, Below w.heap.size w W → Calls Tryz.prog 68 #[nvV n, .int .i64 9] W fun e w' => e = .returned (.bool f9) ∧ Below W.heap.size W w') := fun W hW => by rw [hf9]; exact HC.out W hW 9
 have HC1 : Hid (∀ W, Below w.heap.size w W → Calls Tryz.prog 68 #[nvV n, .int .i64 1] W fun e w' => e = .returned (.bool f1) ∧ Below W.heap.size W w') := fun W hW => by rw [hf1]; exact HC.out W hW 1
 have HC10 : Hid (∀ W, Below w.heap.size w W → Calls Tryz.prog 68 #[nvV n, .int .i64 10] W fun e w' => e = .returned (.bool f10) ∧ Below W.heap.size W w') := fun W hW => by rw [hf10]; exact HC.out W hW 10
 rw [← hf9, ← hf1, ← hf10] at HE
 clear h hk hkl hk0 hE hA hbox hb HC hf9 hf1 hf10
 by_cases h9 : n.kind = 9
 ·have hb9 : (n.kind == 9) = true := by simpa using h9
  by_cases hl : 2 ≤ n.kl
  ·have e1 : (2 : Int) ≤ (n.kl : Int) := by omega
   have hF : Hid (A = (!f9 && !f1)) := by show _ = _; rw [HA.out, HE.out, if_pos h9, decide_eq_true hl]; rfl
   clear h9 hl
   cases f9 with
   | true =>
    go_enter Tryz.func54, Tryz.ntmps54
    go_wp2_with fail
    rw [← hw1]
    clear hw1
    refine (HC9.out w1 HB.out).mono ?_
    rintro e w2 ⟨rfl, hb2⟩
    have HB2 := hide (HB.out.trans (hb2.mono HB.out.size))
    clear hb2 d0 d1 d2 d3 d4 d5 d6 d7
    go_wp2
    go_ret
    exact ⟨by rw [hF.out]; rfl, HB2.out⟩
   | false =>
    go_enter Tryz.func54, Tryz.ntmps54
    go_wp2_with fail
    rw [← hw1]
    clear hw1
    refine (HC9.out w1 HB.out).mono ?_
    rintro e w2 ⟨rfl, hb2⟩
    have HB2 := hide (HB.out.trans (hb2.mono HB.out.size))
    obtain ⟨b0, b1, b2, b3, b4, b5, b6, b7⟩ := (nv_cells HX.out).below hb2
    clear hb2 d0 d1 d2 d3 d4 d5 d6 d7
    go_wp2_with fail
    refine (HC1.out w2 HB2.out).mono ?_
    rintro e w3 ⟨rfl, hb3⟩
    have HB3 := hide (HB2.out.trans (hb3.mono HB2.out.size))
    clear hb3 b0 b1 b2 b3 b4 b5 b6 b7
    go_wp2
    go_ret
    exact ⟨by rw [hF.out]; cases f1 <;> rfl, HB3.out⟩
  ·have e1 : ¬ (2 : Int) ≤ (n.kl : Int) := by omega
   have hF : Hid (A = false) := by show _ = _; rw [HA.out, HE.out, if_pos h9, decide_eq_false hl]; rfl
   clear h9 hl
   go_enter Tryz.func54, Tryz.ntmps54
   go_wp2
   go_ret
   exact ⟨by rw [hF.out]; rfl, by rw [← hw1]; exact HB.out⟩
 ·have hb9 : (n.kind == 9) = false := by simpa using h9
  by_cases h10 : n.kind = 10
  ·have hb10 : (n.kind == 10) = true := by simpa using h10
   by_cases hl : 2 ≤ n.kl
   ·have e1 : (2 : Int) ≤ (n.kl : Int) := by omega
    have hF : Hid (A = !f10) := by show _ = _; rw [HA.out, HE.out, if_neg h9, if_pos h10, decide_eq_true hl]; rfl
    clear h9 hl h10
    go_enter Tryz.func54, Tryz.ntmps54
    go_wp2_with fail
    rw [← hw1]
    clear hw1
    refine (HC10.out w1 HB.out).mono ?_
    rintro e w2 ⟨rfl, hb2⟩
    have HB2 := hide (HB.out.trans (hb2.mono HB.out.size))
    clear hb2 d0 d1 d2 d3 d4 d5 d6 d7
    go_wp2
    go_ret
    exact ⟨by rw [hF.out]; cases f10 <;> rfl, HB2.out⟩
   ·have e1 : ¬ (2 : Int) ≤ (n.kl : Int) := by omega
    have hF : Hid (A = false) := by show _ = _; rw [HA.out, HE.out, if_neg h9, if_pos h10, decide_eq_false hl]; rfl
    clear h9 hl h10
    go_enter Tryz.func54, Tryz.ntmps54
    go_wp2
    go_ret
    exact ⟨by rw [hF.out]; rfl, by rw [← hw1]; exact HB.out⟩
  ·have hb10 : (n.kind == 10) = false := by simpa using h10
   by_cases h11 : 11 ≤ n.kind ∧ n.kind ≤ 17
   ·have hF : Hid (A = decide (n.kl = 1)) := by show _ = _; rw [HA.out, HE.out, if_neg h9, if_neg h10, if_pos h11]
    obtain ⟨g1, g2⟩ := h11
    clear h9 h10
    go_enter Tryz.func54, Tryz.ntmps54
    go_wp2
    all_goals go_ret
    all_goals exact ⟨by rw [hF.out]; exact ret_bool (by rw [Bool.eq_iff_iff]; simp <;> omega), by rw [← hw1]; exact HB.out⟩
   ·have hF : Hid (A = decide (n.kl = 0)) := by show _ = _; rw [HA.out, HE.out, if_neg h9, if_neg h10, if_neg h11]
    by_cases g1 : 11 ≤ n.kind
    ·have g2 : ¬ n.kind ≤ 17 := by omega
     clear h9 h10 h11
     go_enter Tryz.func54, Tryz.ntmps54
     go_wp2
     all_goals go_ret
     all_goals exact ⟨by rw [hF.out]; exact ret_bool (by rw [Bool.eq_iff_iff]; simp <;> omega), by rw [← hw1]; exact HB.out⟩
    ·clear h9 h10 h11
     go_enter Tryz.func54, Tryz.ntmps54
     go_wp2
     all_goals go_ret
     all_goals exact ⟨by rw [hF.out]; exact ret_bool (by rw [Bool.eq_iff_iff]; simp <;> omega), by rw [← hw1]; exact HB.out⟩
end Go.Proofs.YtklbbbldalmnbaaGreatDoor.TR
namespace Go.Proofs.YtklbbbldalmnbaaGreatDoor.TR
set_option maxHeartbeats 8000000
set_option maxRecDepth 100000
open Go.RowKit
set_option linter.unusedVariables false
def fieldsB (t : Tr) : Bool :=
 (decide (t.kind = 2) || decide (t.set.length = 0)) && (decide (t.kind = 11) || decide (t.kind = 18) || decide (t.num = 0)) && (decide (t.kind = 12) || decide (t.least = 0)) && (decide (t.kind = 12) || decide (t.most = 0)) && (decide (t.kind = 12) || decide (t.way = 0)) && (decide (t.kind = 18) || !t.fold)
theorem _root_.Go.Proofs.YtklbbbldalmnbaaGreatDoor.Reads.len {w : World} {a : Option Addr} {l c : Nat} {L : RL} (h : Reads w (.slice a l c) L) : l = L.length := by
 rcases h with ⟨h1, rfl⟩ | ⟨x, c, h1, h2⟩
 ·cases h1; rfl
 ·cases h1; rfl
theorem hasItsFields_any (n : NV) (t : Tr) (w : World) (h : NodeC w n t) : Calls Tryz.prog 55 #[nvV n] w fun e w' => e = .returned (.bool (fieldsB t)) ∧ Below w.heap.size w w' := by
 obtain ⟨hk0, k1, k2, k3, k4, k5, hr, -⟩ := h.open
 have hsl := hr.len
 have hb : Below w.heap.size w (w.alloc (nvO n)) := (Below.refl _ _).alloc (Nat.le_refl _) _
 obtain ⟨w1, hw1⟩ : ∃ w1, w1 = w.alloc (nvO n) := ⟨_, rfl⟩
 have hbox : w1.heap[w.heap.size]? = some (nvO n) := by rw [hw1]; exact at_new _ _
 rw [← hw1] at hb
 have HB := hide hb
 obtain ⟨d0, d1, d2, d3, d4, d5, d6, d7⟩ := nv_cells hbox
 have fz : ∀ o, w1.frozen? ⟨w.heap.size, o, none⟩ = false := fun o => by simp [World.frozen?, hbox]
 simp only [nvO] at hw1
 have HE : Hid (fieldsB t = ((decide (n.kind = 2) || decide (n.sl = 0)) && (decide (n.kind = 11) || decide (n.kind = 18) || decide (n.num = 0)) && (decide (n.kind = 12) || decide (n.least = 0)) && (decide (n.kind = 12) || decide (n.most = 0)) && (decide (n.kind = 12) || decide (n.way = 0)) && (decide (n.kind = 18) || !n.fold))) := by show _ = _; unfold fieldsB; rw [hk0, k1, k2, k3, k4, k5, hsl]
 obtain ⟨A, hA⟩ : ∃ A, A = fieldsB t := ⟨_, rfl⟩
 rw [← hA] at HE ⊢
 obtain ⟨fo, hfo⟩ : ∃ fo, fo = n.fold := ⟨_, rfl⟩
 rw [← hfo] at d7 HE hw1
 have hvn : nvV n = .agg #[.int .i64 n.kind, .slice n.sa n.sl n.sc, .slice n.ka n.kl n.kc, .int .i64 n.num, .int .i64 n.least, .int .i64 n.most, .int .i64 n.way, .bool fo] := by rw [hfo]
 rw [hvn]
 clear h hr hsl hk0 k1 k2 k3 k4 k5 hA hbox hb hfo hvn
 by_cases h2 : n.kind = 2
 ·have hF : Hid (A = (decide (n.num = 0) && decide (n.least = 0) && decide (n.most = 0) && decide (n.way = 0) && !fo)) := by
   show _ = _
   rw [HE.out]
   simp only [decide_eq_true h2, (decide_eq_false (by omega) : decide (n.kind = 11) = false), (decide_eq_false (by omega) : decide (n.kind = 12) = false), (decide_eq_false (by omega) : decide (n.kind = 18) = false), Bool.true_or, Bool.false_or, Bool.true_and, Bool.or_false]
  have b2 : (n.kind == 2) = true := by simpa using h2
  clear h2 HE
  cases fo with
  | true =>
   go_enter Tryz.func55, Tryz.ntmps55
   go_wp2
   all_goals go_ret
   all_goals exact ⟨by rw [hF.out]; exact ret_bool (by rw [Bool.eq_iff_iff]; simp <;> omega), (Below.refl _ _).alloc (Nat.le_refl _) _⟩
  | false =>
   go_enter Tryz.func55, Tryz.ntmps55
   go_wp2
   all_goals go_ret
   all_goals exact ⟨by rw [hF.out]; exact ret_bool (by rw [Bool.eq_iff_iff]; simp <;> omega), (Below.refl _ _).alloc (Nat.le_refl _) _⟩
 ·by_cases h11 : n.kind = 11
  ·have hF : Hid (A = (decide (n.sl = 0) && decide (n.least = 0) && decide (n.most = 0) && decide (n.way = 0) && !fo)) := by
    show _ = _
    rw [HE.out]
    simp only [decide_eq_false h2, decide_eq_true h11, (decide_eq_false (by omega) : decide (n.kind = 12) = false), (decide_eq_false (by omega) : decide (n.kind = 18) = false), Bool.true_or, Bool.false_or, Bool.and_true, Bool.or_false]
   have b2 : (n.kind == 2) = false := by simpa using h2
   have b11 : (n.kind == 11) = true := by simpa using h11
   clear h2 h11 HE
   cases fo with
   | true =>
    go_enter Tryz.func55, Tryz.ntmps55
    go_wp2
    all_goals go_ret
    all_goals exact ⟨by rw [hF.out]; exact ret_bool (by rw [Bool.eq_iff_iff]; simp <;> omega), (Below.refl _ _).alloc (Nat.le_refl _) _⟩
   | false =>
    go_enter Tryz.func55, Tryz.ntmps55
    go_wp2
    all_goals go_ret
    all_goals exact ⟨by rw [hF.out]; exact ret_bool (by rw [Bool.eq_iff_iff]; simp <;> omega), (Below.refl _ _).alloc (Nat.le_refl _) _⟩
  ·by_cases h12 : n.kind = 12
   ·have hF : Hid (A = (decide (n.sl = 0) && decide (n.num = 0) && !fo)) := by
     show _ = _
     rw [HE.out]
     simp only [decide_eq_false h2, decide_eq_false h11, decide_eq_true h12, (decide_eq_false (by omega) : decide (n.kind = 18) = false), Bool.true_or, Bool.false_or, Bool.and_true, Bool.or_false]
    have b2 : (n.kind == 2) = false := by simpa using h2
    have b11 : (n.kind == 11) = false := by simpa using h11
    have b12 : (n.kind == 12) = true := by simpa using h12
    clear h2 h11 h12 HE
    cases fo with
    | true =>
     go_enter Tryz.func55, Tryz.ntmps55
     go_wp2
     all_goals go_ret
     all_goals exact ⟨by rw [hF.out]; exact ret_bool (by rw [Bool.eq_iff_iff]; simp <;> omega), (Below.refl _ _).alloc (Nat.le_refl _) _⟩
    | false =>
     go_enter Tryz.func55, Tryz.ntmps55
     go_wp2
     all_goals go_ret
     all_goals exact ⟨by rw [hF.out]; exact ret_bool (by rw [Bool.eq_iff_iff]; simp <;> omega), (Below.refl _ _).alloc (Nat.le_refl _) _⟩
   ·by_cases h18 : n.kind = 18
    ·have hF : Hid (A = (decide (n.sl = 0) && decide (n.least = 0) && decide (n.most = 0) && decide (n.way = 0))) := by
      show _ = _
      rw [HE.out]
      simp only [decide_eq_false h2, decide_eq_false h11, decide_eq_false h12, decide_eq_true h18, Bool.true_or, Bool.false_or, Bool.and_true, Bool.or_true]
     have b2 : (n.kind == 2) = false := by simpa using h2
     have b11 : (n.kind == 11) = false := by simpa using h11
     have b12 : (n.kind == 12) = false := by simpa using h12
     have b18 : (n.kind == 18) = true := by simpa using h18
     clear h2 h11 h12 h18 HE
     cases fo with
     | true =>
      go_enter Tryz.func55, Tryz.ntmps55
      go_wp2
      all_goals go_ret
      all_goals exact ⟨by rw [hF.out]; exact ret_bool (by rw [Bool.eq_iff_iff]; simp <;> omega), (Below.refl _ _).alloc (Nat.le_refl _) _⟩
     | false =>
      go_enter Tryz.func55, Tryz.ntmps55
      go_wp2
      all_goals go_ret
      all_goals exact ⟨by rw [hF.out]; exact ret_bool (by rw [Bool.eq_iff_iff]; simp <;> omega), (Below.refl _ _).alloc (Nat.le_refl _) _⟩
    ·have hF : Hid (A = (decide (n.sl = 0) && decide (n.num = 0) && decide (n.least = 0) && decide (n.most = 0) && decide (n.way = 0) && !fo)) := by
      show _ = _
      rw [HE.out]
      simp only [decide_eq_false h2, decide_eq_false h11, decide_eq_false h12, decide_eq_false h18, Bool.false_or, Bool.or_false]
     have b2 : (n.kind == 2) = false := by simpa using h2
     have b11 : (n.kind == 11) = false := by simpa using h11
     have b12 : (n.kind == 12) = false := by simpa using h12
     have b18 : (n.kind == 18) = false := by simpa using h18
     clear h2 h11 h12 h18 HE
     cases fo with
     | true =>
      go_enter Tryz.func55, Tryz.ntmps55
      go_wp2
      all_goals go_ret
      all_goals exact ⟨by rw [hF.out]; exact ret_bool (by rw [Bool.eq_iff_iff]; simp <;> omega), (Below.refl _ _).alloc (Nat.le_refl _) _⟩
     | false =>
      go_enter Tryz.func55, Tryz.ntmps55
      go_wp2
      all_goals go_ret
      all_goals exact ⟨by rw [hF.out]; exact ret_bool (by rw [Bool.eq_iff_iff]; simp <;> omega), (Below.refl _ _).alloc (Nat.le_refl _) _⟩
def repE (t : Tr) : Int := if ¬ (0 ≤ t.least ∧ t.least ≤ 100) then 3 else if ¬ (t.most = -1 ∨ (t.least ≤ t.most ∧ t.most ≤ 100)) then 3 else if ¬ (1 ≤ t.way ∧ t.way ≤ 3) then 7 else 0
def mustE (z : Int) : Ending := if z = 0 then .returned (.tuple #[]) else gives z
end Go.Proofs.YtklbbbldalmnbaaGreatDoor.TR
namespace Go.Proofs.YtklbbbldalmnbaaGreatDoor.TR
set_option maxHeartbeats 4000000
set_option maxRecDepth 100000
open Go.RowKit
set_option linter.unusedVariables false
theorem must_yes (k : Int) (w : World) : Calls Tryz.prog 53 #[.bool true, .int .i64 k] w fun e w' => e = .returned (.tuple #[]) ∧ w = w' := must_any true k w
theorem must_no (k : Int) (w : World) : Calls Tryz.prog 53 #[.bool false, .int .i64 k] w fun e w' => e = gives k ∧ w = w' := must_any false k w
theorem checkRepeat_any (n : NV) (t : Tr) (w : World) (h : NodeC w n t) : Calls Tryz.prog 57 #[nvV n] w fun e w' => e = mustE (repE t) ∧ Below w.heap.size w w' := by
 obtain ⟨-, -, k2, k3, k4, -⟩ := h.open
 have hb : Below w.heap.size w (w.alloc (nvO n)) := (Below.refl _ _).alloc (Nat.le_refl _) _
 obtain ⟨w1, hw1⟩ : ∃ w1, w1 = w.alloc (nvO n) := ⟨_, rfl⟩
 have hbox : w1.heap[w.heap.size]? = some (nvO n) := by rw [hw1]; exact at_new _ _
 rw [← hw1] at hb
 have HB := hide hb
 obtain ⟨d0, d1, d2, d3, d4, d5, d6, d7⟩ := nv_cells hbox
 simp only [nvO] at hw1
 have HE : Hid (repE t = if ¬ (0 ≤ n.least ∧ n.least ≤ 100) then 3 else if ¬ (n.most = -1 ∨ (n.least ≤ n.most ∧ n.most ≤ 100)) then 3 else if ¬ (1 ≤ n.way ∧ n.way ≤ 3) then 7 else 0) := by show _ = _; unfold repE; rw [k2, k3, k4]
 have HY := hide (fun k => must_yes k w1)
 have HN : Hid (∀ k, Calls Tryz.prog 53 #[.bool false, .int .i64 k] w1 fun e w' => e = .panicked [{ v := .iface 29 (.int .i64 k), recovered := false }] ∧ w1 = w') := fun k => must_no k w1
 obtain ⟨A, hA⟩ : ∃ A, A = repE t := ⟨_, rfl⟩
 rw [← hA] at HE ⊢
 clear h k2 k3 k4 hA hbox hb
 by_cases h1 : 0 ≤ n.least ∧ n.least ≤ 100
 ·obtain ⟨a1, a2⟩ := h1
  by_cases h2 : n.most = -1 ∨ (n.least ≤ n.most ∧ n.most ≤ 100)
  ·by_cases h3 : 1 ≤ n.way ∧ n.way ≤ 3
   ·have hF : Hid (A = 0) := by show _ = _; rw [HE.out, if_neg (by omega), if_neg (by omega), if_neg (by omega)]
    obtain ⟨c1, c2⟩ := h3
    rw [hF.out]
    simp only [mustE, if_true]
    by_cases h4 : n.most = -1
    ·have b4 : (n.most == -1) = true := by simpa using h4
     clear h2 h4
     go_enter Tryz.func57, Tryz.ntmps57
     go_wp2_with fail
     rw [← hw1]
     clear hw1
     refine (HY.out 3).mono ?_
     rintro e w' ⟨rfl, rfl⟩
     go_wp2_with fail
     refine (HY.out 3).mono ?_
     rintro e w' ⟨rfl, rfl⟩
     go_wp2_with fail
     refine (HY.out 7).mono ?_
     rintro e w' ⟨rfl, rfl⟩
     go_wp2
     go_end0
     exact ⟨rfl, HB.out⟩
    ·have b4 : (n.most == -1) = false := by simpa using h4
     have c3 : n.least ≤ n.most := by omega
     have c4 : n.most ≤ 100 := by omega
     clear h2 h4
     go_enter Tryz.func57, Tryz.ntmps57
     go_wp2_with fail
     rw [← hw1]
     clear hw1
     refine (HY.out 3).mono ?_
     rintro e w' ⟨rfl, rfl⟩
     go_wp2_with fail
     refine (HY.out 3).mono ?_
     rintro e w' ⟨rfl, rfl⟩
     go_wp2_with fail
     refine (HY.out 7).mono ?_
     rintro e w' ⟨rfl, rfl⟩
     go_wp2
     go_end0
     exact ⟨rfl, HB.out⟩
   ·have hF : Hid (A = 7) := by show _ = _; rw [HE.out, if_neg (by omega), if_neg (by omega), if_pos h3]
    rw [hF.out]
    simp only [mustE, gives]
    rw [if_neg (by decide)]
    by_cases h4 : n.most = -1
    ·have b4 : (n.most == -1) = true := by simpa using h4
     clear h2 h4
     by_cases g1 : 1 ≤ n.way
     ·have g2 : decide (n.way ≤ 3) = false := decide_eq_false (by omega)
      clear h3
      go_enter Tryz.func57, Tryz.ntmps57
      go_wp2_with fail
      rw [← hw1]
      clear hw1
      refine (HY.out 3).mono ?_
      rintro e w' ⟨rfl, rfl⟩
      go_wp2_with fail
      refine (HY.out 3).mono ?_
      rintro e w' ⟨rfl, rfl⟩
      go_wp2_with fail
      refine (HN.out 7).mono ?_
      rintro e w' ⟨rfl, rfl⟩
      go_wp2
      exact ⟨rfl, rfl, HB.out⟩
     ·clear h3
      go_enter Tryz.func57, Tryz.ntmps57
      go_wp2_with fail
      rw [← hw1]
      clear hw1
      refine (HY.out 3).mono ?_
      rintro e w' ⟨rfl, rfl⟩
      go_wp2_with fail
      refine (HY.out 3).mono ?_
      rintro e w' ⟨rfl, rfl⟩
      go_wp2_with fail
      refine (HN.out 7).mono ?_
      rintro e w' ⟨rfl, rfl⟩
      go_wp2
      exact ⟨rfl, rfl, HB.out⟩
    ·have b4 : (n.most == -1) = false := by simpa using h4
     have c3 : n.least ≤ n.most := by omega
     have c4 : n.most ≤ 100 := by omega
     clear h2 h4
     by_cases g1 : 1 ≤ n.way
     ·have g2 : decide (n.way ≤ 3) = false := decide_eq_false (by omega)
      clear h3
      go_enter Tryz.func57, Tryz.ntmps57
      go_wp2_with fail
      rw [← hw1]
      clear hw1
      refine (HY.out 3).mono ?_
      rintro e w' ⟨rfl, rfl⟩
      go_wp2_with fail
      refine (HY.out 3).mono ?_
      rintro e w' ⟨rfl, rfl⟩
      go_wp2_with fail
      refine (HN.out 7).mono ?_
      rintro e w' ⟨rfl, rfl⟩
      go_wp2
      exact ⟨rfl, rfl, HB.out⟩
     ·clear h3
      go_enter Tryz.func57, Tryz.ntmps57
      go_wp2_with fail
      rw [← hw1]
      clear hw1
      refine (HY.out 3).mono ?_
      rintro e w' ⟨rfl, rfl⟩
      go_wp2_with fail
      refine (HY.out 3).mono ?_
      rintro e w' ⟨rfl, rfl⟩
      go_wp2_with fail
      refine (HN.out 7).mono ?_
      rintro e w' ⟨rfl, rfl⟩
      go_wp2
      exact ⟨rfl, rfl, HB.out⟩
  ·have hF : Hid (A = 3) := by show _ = _; rw [HE.out, if_neg (by omega), if_pos h2]
   rw [hF.out]
   simp only [mustE, gives]
   rw [if_neg (by decide)]
   have b4 : (n.most == -1) = false := by simp only [beq_eq_false_iff_ne, ne_eq]; omega
   by_cases g1 : n.least ≤ n.most
   ·have g2 : decide (n.most ≤ 100) = false := decide_eq_false (by omega)
    clear h2
    go_enter Tryz.func57, Tryz.ntmps57
    go_wp2_with fail
    rw [← hw1]
    clear hw1
    refine (HY.out 3).mono ?_
    rintro e w' ⟨rfl, rfl⟩
    go_wp2_with fail
    refine (HN.out 3).mono ?_
    rintro e w' ⟨rfl, rfl⟩
    go_wp2
    exact ⟨rfl, rfl, HB.out⟩
   ·clear h2
    go_enter Tryz.func57, Tryz.ntmps57
    go_wp2_with fail
    rw [← hw1]
    clear hw1
    refine (HY.out 3).mono ?_
    rintro e w' ⟨rfl, rfl⟩
    go_wp2_with fail
    refine (HN.out 3).mono ?_
    rintro e w' ⟨rfl, rfl⟩
    go_wp2
    exact ⟨rfl, rfl, HB.out⟩
 ·have hF : Hid (A = 3) := by show _ = _; rw [HE.out, if_pos h1]
  rw [hF.out]
  simp only [mustE, gives]
  rw [if_neg (by decide)]
  by_cases g1 : 0 ≤ n.least
  ·have g2 : decide (n.least ≤ 100) = false := decide_eq_false (by omega)
   clear h1
   go_enter Tryz.func57, Tryz.ntmps57
   go_wp2_with fail
   rw [← hw1]
   clear hw1
   refine (HN.out 3).mono ?_
   rintro e w' ⟨rfl, rfl⟩
   go_wp2
   exact ⟨rfl, rfl, HB.out⟩
  ·clear h1
   go_enter Tryz.func57, Tryz.ntmps57
   go_wp2_with fail
   rw [← hw1]
   clear hw1
   refine (HN.out 3).mono ?_
   rintro e w' ⟨rfl, rfl⟩
   go_wp2
   exact ⟨rfl, rfl, HB.out⟩
end Go.Proofs.YtklbbbldalmnbaaGreatDoor.TR
namespace Go.Proofs.YtklbbbldalmnbaaGreatDoor.TR
open Go.RowKit
set_option linter.unusedVariables false
mutual
def szT : Tr → Nat
 | .mk _ _ _ _ _ _ _ kids => 1 + szL kids
def szL : List Tr → Nat
 | [] => 0
 | t :: ts => szT t + szL ts
end
theorem szL_drop {ts : List Tr} {j : Nat} (hj : j < ts.length) : szL (ts.drop j) = szT ts[j] + szL (ts.drop (j + 1)) := by
 rw [List.drop_eq_getElem_cons hj, szL]
theorem szT_kids (t : Tr) : szT t = 1 + szL t.kids := by cases t; rfl
theorem cntL_sz {step : Tr → Nat → Nat} (hs : ∀ t c, c < 1001 → step t c < 1001 → step t c = c + szT t) (hle : ∀ t c, c ≤ 1000 → step t c ≤ 1001) : ∀ (ts : List Tr) (c : Nat), c < 1001 → cntL step ts c < 1001 → cntL step ts c = c + szL ts := by
 intro ts
 induction ts with
 | nil => intro c _ _; rfl
 | cons t ts ih =>
  intro c hc h
  unfold cntL at h ⊢
  rw [if_pos hc] at h ⊢
  have h1 : step t c < 1001 := by
   by_cases hh : step t c < 1001
   ·exact hh
   ·rw [cntL_stop hh] at h; exact absurd h hh
  rw [ih _ h1 h, hs t c hc h1, szL]; omega
theorem cntT_sz : ∀ (f : Nat) (t : Tr) (c : Nat), c < 1001 → cntT f t c < 1001 → cntT f t c = c + szT t := by
 intro f
 induction f with
 | zero => intro t c _ h; exact absurd h (by unfold cntT; omega)
 | succ f ih =>
  intro t c hc h
  unfold cntT at h ⊢
  by_cases h1 : c + 1 < 1001
  ·rw [cntL_sz ih (cntT_le f) _ _ h1 h, szT_kids]; omega
  ·rw [cntL_stop h1] at h; omega
theorem cntA_sz {t : Tr} (h : cntA t < 1001) : szT t ≤ 1000 := by
 have := cntT_sz 201 t 0 (by omega) h
 unfold cntA at h
 omega
abbrev St : Type := Int × List Int
def nodeS (t : Tr) (s : St) : Except Int St :=
 if ¬ (1 ≤ t.kind ∧ t.kind ≤ 18) then .error 7
 else if (kidsB t && fieldsB t) = false then .error 1
 else if checkE t.set ≠ 0 then .error (checkE t.set)
 else if t.kind = 12 then (if repE t = 0 then .ok s else .error (repE t))
 else if t.kind = 11 then (if t.num = s.1 + 1 then .ok (s.1 + 1, s.2) else .error 4)
 else if t.kind = 18 then .ok (s.1, s.2 ++ [t.num])
 else .ok s
mutual
def chkT : Tr → St → Except Int St
 | .mk k a b c d e f kids, s => match nodeS (.mk k a b c d e f kids) s with
  | .ok s' => chkL kids s'
  | .error z => .error z
def chkL : List Tr → St → Except Int St
 | [], s => .ok s
 | t :: ts, s => match chkT t s with
  | .ok s' => chkL ts s'
  | .error z => .error z
end
theorem chkT_kids (t : Tr) (s : St) : chkT t s = match nodeS t s with | .ok s' => chkL t.kids s' | .error z => .error z := by
 cases t; rfl
theorem chkL_drop {ts : List Tr} {j : Nat} (hj : j < ts.length) (s : St) : chkL (ts.drop j) s = match chkT ts[j] s with | .ok s' => chkL (ts.drop (j + 1)) s' | .error z => .error z := by
 rw [List.drop_eq_getElem_cons hj]; rfl
theorem nodeS_grow {t : Tr} {s s' : St} (h : nodeS t s = .ok s') : s.1 ≤ s'.1 ∧ s'.1 ≤ s.1 + 1 ∧ s'.2.length ≤ s.2.length + 1 := by
 unfold nodeS at h
 split at h
 ·cases h
 ·split at h
  ·cases h
  ·split at h
   ·cases h
   ·split at h
    ·split at h
     ·cases h; omega
     ·cases h
    ·split at h
     ·split at h
      ·cases h; simp; omega
      ·cases h
     ·split at h
      ·cases h; simp <;> omega
      ·cases h; omega
mutual
theorem chkT_grow : ∀ (t : Tr) (s s' : St), chkT t s = .ok s' → s.1 ≤ s'.1 ∧ s'.1 ≤ s.1 + szT t ∧ s'.2.length ≤ s.2.length + szT t
 | .mk k a b c d e f kids, s, s', h => by
  rw [chkT_kids] at h
  cases hn : nodeS (.mk k a b c d e f kids) s with
  | error z => rw [hn] at h; cases h
  | ok s1 =>
   rw [hn] at h
   have h1 := nodeS_grow hn
   have h2 := chkL_grow kids s1 s' h
   rw [szT]
   omega
theorem chkL_grow : ∀ (ts : List Tr) (s s' : St), chkL ts s = .ok s' → s.1 ≤ s'.1 ∧ s'.1 ≤ s.1 + szL ts ∧ s'.2.length ≤ s.2.length + szL ts
 | [], s, s', h => by cases h; simp [szL]
 | t :: ts, s, s', h => by
  unfold chkL at h
  cases hn : chkT t s with
  | error z => rw [hn] at h; cases h
  | ok s1 =>
   rw [hn] at h
   have h1 := chkT_grow t s s1 hn
   have h2 := chkL_grow ts s1 s' h
   rw [szL]
   omega
end
def CK (B : Nat) (w : World) (cb : Nat) (s : St) : Prop :=
 B ≤ cb ∧ ∃ v, w.heap[cb]? = some (.cells #[.int .i64 s.1, v] 79 (0, 0)) ∧ w.ownsRow B 3 1 v s.2.length (i64s s.2) ∧ v.ownBlock ≠ some cb
def NodeE (B : Nat) (R : Except Int St) (cb : Nat) (w : World) (e : Ending) (w' : World) : Prop :=
 Below B w w' ∧ ((∃ s', R = .ok s' ∧ e = .returned (.tuple #[]) ∧ CK B w' cb s') ∨ (∃ z, R = .error z ∧ e = .panicked [{ v := .iface 29 (.int .i64 z), recovered := false }]))
theorem own_keep {B e k n : Nat} {w w' : World} {v : Value} {xs : List Value} (h : w.ownsRow B e k v n xs) (hb : Below w.heap.size w w') : w'.ownsRow B e k v n xs := by
 rcases h with ⟨h0, h1⟩
 refine ⟨h0, ?_⟩
 rcases h1 with h1 | ⟨g, cap, cur, h1, h2, h3, h4⟩
 ·exact .inl h1
 ·exact .inr ⟨g, cap, cur, h1, h2, by rw [hb.block g (lt_of_block h3)]; exact h3, h4⟩
theorem CK.keep {B : Nat} {w w' : World} {cb : Nat} {s : St} (h : CK B w cb s) (hb : Below w.heap.size w w') : CK B w' cb s := by
 obtain ⟨h1, v, h2, h3, h4⟩ := h
 exact ⟨h1, v, by rw [hb.block cb (lt_of_block h2)]; exact h2, own_keep h3 hb, h4⟩
end Go.Proofs.YtklbbbldalmnbaaGreatDoor.TR
