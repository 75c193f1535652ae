/- What a node must have: its kids and its fields. -/
import Derived.Test.YtpcohmbipbiglaaDoorNbase
namespace Go.Proofs.YtpcohmbipbiglaaDoor
open Go.RowKit
set_option linter.unusedVariables false

/-- a panic with an error. -/
def gives (k : Int) : Ending := .panicked [{ v := .iface 26 (.int .i64 k), recovered := false }]
set_option maxHeartbeats 400000 in
theorem must_any (b : Bool) (k : Int) (w : World) : Calls Tryd.prog 42 #[.bool b, .int .i64 k] w fun e w' => e = (if b then .returned (.tuple #[]) else gives k) ∧ w = w' := by
  cases b with
  | true =>
    simp only [if_true]
    go_enter Tryd.func42, Tryd.ntmps42
    go_wp2
    go_end0
    exact ⟨rfl, rfl⟩
  | false =>
    simp only [gives, Bool.false_eq_true, if_false]
    go_enter Tryd.func42, Tryd.ntmps42
    go_wp2
    exact ⟨rfl, rfl, rfl⟩

/-- has a node a kid of a kind. -/
def kidL (ts : List Tr) (k : Int) : Bool := ts.any (fun u => u.kind == k)
theorem kidL_drop {ts : List Tr} {j : Nat} {k : Int} (hj : j < ts.length) : kidL (ts.drop j) k = ((ts[j].kind == k) || kidL (ts.drop (j + 1)) k) := by
  rw [List.drop_eq_getElem_cons hj]; rfl
set_option maxRecDepth 100000 in
set_option maxHeartbeats 2000000 in
theorem hasKid_any (n : NV) (t : Tr) (k : Int) (w : World) (h : NodeC w n t) : Calls Tryd.prog 58 #[nvV n, .int .i64 k] w fun e w' => e = .returned (.bool (kidL t.kids k)) ∧ Below w.heap.size w w' := by
  obtain ⟨-, -, -, -, -, -, -, vs, hk, hkids⟩ := h.open
  obtain ⟨ks, hks⟩ : ∃ ks, ks = t.kids := ⟨_, rfl⟩
  have HK : Hid (KidsC w n.ka n.kl n.kc ks.length vs) := by show KidsC _ _ _ _ _ _; rw [hks]; exact hk
  have HKL : Hid (n.kl = ks.length) := HK.out.len
  have HKd : Hid (∀ j (hj : j < ks.length), (vs j).kind = ks[j].kind) := by subst hks; exact fun j hj => (hkids j hj).open.1.symm
  rw [← hks]
  have hb : Below w.heap.size w (w.alloc (nvO n)) := (Below.refl _ _).alloc (Nat.le_refl _) _
  obtain ⟨w1, hw1⟩ : ∃ w1, w1 = w.alloc (nvO n) := ⟨_, rfl⟩
  have hbox : w1.heap[w.heap.size]? = some (nvO n) := by rw [hw1]; exact at_new _ _
  rw [← hw1] at hb
  have HB := hide hb
  obtain ⟨d0, d1, d2, d3, d4, d5, d6, d7⟩ := nv_cells hbox
  simp only [nvO] at hw1
  obtain ⟨A, hA⟩ : ∃ A, A = kidL ks k := ⟨_, rfl⟩
  have HA := hide hA
  rw [← hA]
  clear h hk hkids hks hbox hb hA
  go_enter Tryd.func58, Tryd.ntmps58
  go_wp2
  rw [← hw1]
  clear hw1 d0 d1 d2 d3 d4 d5 d6 d7
  go_loopw [10] (fun t wr => ∃ (j : Nat), j ≤ ks.length ∧ t = .int .i64 j ∧ kidL (ks.drop j) k = A ∧ Below w.heap.size w wr) (fun t _ => ks.length - (intOf t).toNat)
  case atStart => exact ⟨0, Nat.zero_le _, rfl, HA.out.symm, HB.out⟩
  case round =>
    obtain ⟨j, hj, rfl, hE, hb⟩ := hrel
    have HE := hide hE
    have HB2 := hide hb
    obtain ⟨w2, hw2⟩ : ∃ w2, w2 = wr := ⟨_, rfl⟩
    subst hw2
    clear hb HB hE
    by_cases hlt : j < ks.length
    · have e2 : (j : Int) < (n.kl : Int) := by have := HKL.out; omega
      have e4 : (0 : Int) ≤ (j : Int) := by omega
      rcases HK.out with ⟨_, _, _, h0⟩ | ⟨x, hx, hkk, hmx, hcl⟩
      · exact absurd h0 (by omega)
      · obtain ⟨d0, d1, d2, d3, d4, d5, d6, d7⟩ := (hcl j hlt).below HB2.out
        have HD := hide (kidL_drop (k := k) hlt)
        have hkj := HKd.out j hlt
        have HB3 : Hid (Below w.heap.size w (w2.alloc (nvO (vs j)))) := HB2.out.alloc HB2.out.size _
        have hjw : IntKind.i64.wrap ((j : Int) + 1) = (j : Int) + 1 := by rw [IntKind.wrap_i64]; omega
        rw [hx]
        cases hq : ((vs j).kind == k) with
        | true =>
          have hF : Hid (A = true) := by show _ = _; rw [← HE.out, HD.out, ← hkj, hq]; rfl
          clear hcl hx hkk hkj
          go_wp2
          go_ret
          exact ⟨by rw [hF.out]; rfl, HB3.out⟩
        | false =>
          have hF : Hid (kidL (ks.drop (j + 1)) k = A) := by show _ = _; rw [← HE.out, HD.out, ← hkj, hq]; rfl
          clear hcl hx hkk hkj
          go_wp2
          go_roundw
          case rel => exact ⟨j + 1, by omega, by go_num, hF.out, HB3.out⟩
          case measure => simp [intOf]; omega
    · have e2 : ¬ (j : Int) < (n.kl : Int) := by have := HKL.out; omega
      have hF : Hid (A = false) := by
        show _ = _
        rw [← HE.out, List.drop_eq_nil_of_le (by omega)]; rfl
      go_wp2
      go_ret
      exact ⟨by rw [hF.out]; rfl, HB2.out⟩

/-- has a node the kids that its kind asks for. -/
def kidsB (t : Tr) : Bool :=
  if t.kind = 9 then (decide (2 ≤ t.kids.length) && !kidL t.kids 9) && !kidL t.kids 1
  else if t.kind = 10 then decide (2 ≤ t.kids.length) && !kidL t.kids 10
  else if 11 ≤ t.kind ∧ t.kind ≤ 17 then decide (t.kids.length = 1)
  else decide (t.kids.length = 0)
set_option maxRecDepth 100000 in
set_option maxHeartbeats 4000000 in
theorem hasItsKids_any (n : NV) (t : Tr) (w : World) (h : NodeC w n t) : Calls Tryd.prog 43 #[nvV n] w fun e w' => e = .returned (.bool (kidsB t)) ∧ Below w.heap.size w w' := by
  obtain ⟨hk0, -, -, -, -, -, -, vs, hk, -⟩ := h.open
  have hkl := hk.len
  have hb : Below w.heap.size w (w.alloc (nvO n)) := (Below.refl _ _).alloc (Nat.le_refl _) _
  have HC := hide (fun W (hW : Below w.heap.size w W) k => hasKid_any n t k W (h.keep hW))
  obtain ⟨w1, hw1⟩ : ∃ w1, w1 = w.alloc (nvO n) := ⟨_, rfl⟩
  have hbox : w1.heap[w.heap.size]? = some (nvO n) := by rw [hw1]; exact at_new _ _
  rw [← hw1] at hb
  have HB := hide hb
  have HX := hide hbox
  obtain ⟨d0, d1, d2, d3, d4, d5, d6, d7⟩ := nv_cells hbox
  simp only [nvO] at hw1
  have hE : kidsB t = (if n.kind = 9 then (decide (2 ≤ n.kl) && !kidL t.kids 9) && !kidL t.kids 1 else if n.kind = 10 then decide (2 ≤ n.kl) && !kidL t.kids 10 else if 11 ≤ n.kind ∧ n.kind ≤ 17 then decide (n.kl = 1) else decide (n.kl = 0)) := by unfold kidsB; rw [hk0, hkl]
  have HE := hide hE
  obtain ⟨A, hA⟩ : ∃ A, A = kidsB t := ⟨_, rfl⟩
  have HA := hide hA
  rw [← hA]
  obtain ⟨f9, hf9⟩ : ∃ f, f = kidL t.kids 9 := ⟨_, rfl⟩
  obtain ⟨f1, hf1⟩ : ∃ f, f = kidL t.kids 1 := ⟨_, rfl⟩
  obtain ⟨f10, hf10⟩ : ∃ f, f = kidL t.kids 10 := ⟨_, rfl⟩
  have HC9 : Hid (∀ W, Below w.heap.size w W → Calls Tryd.prog 58 #[nvV n, .int .i64 9] W fun e w' => e = .returned (.bool f9) ∧ Below W.heap.size W w') := fun W hW => by rw [hf9]; exact HC.out W hW 9
  have HC1 : Hid (∀ W, Below w.heap.size w W → Calls Tryd.prog 58 #[nvV n, .int .i64 1] W fun e w' => e = .returned (.bool f1) ∧ Below W.heap.size W w') := fun W hW => by rw [hf1]; exact HC.out W hW 1
  have HC10 : Hid (∀ W, Below w.heap.size w W → Calls Tryd.prog 58 #[nvV n, .int .i64 10] W fun e w' => e = .returned (.bool f10) ∧ Below W.heap.size W w') := fun W hW => by rw [hf10]; exact HC.out W hW 10
  rw [← hf9, ← hf1, ← hf10] at HE
  clear h hk hkl hk0 hE hA hbox hb HC hf9 hf1 hf10
  by_cases h9 : n.kind = 9
  · have hb9 : (n.kind == 9) = true := by simpa using h9
    by_cases hl : 2 ≤ n.kl
    · have e1 : (2 : Int) ≤ (n.kl : Int) := by omega
      have hF : Hid (A = (!f9 && !f1)) := by show _ = _; rw [HA.out, HE.out, if_pos h9, decide_eq_true hl]; rfl
      clear h9 hl
      cases f9 with
      | true =>
        go_enter Tryd.func43, Tryd.ntmps43
        go_wp2_with fail
        rw [← hw1]
        clear hw1
        refine (HC9.out w1 HB.out).mono ?_
        rintro e w2 ⟨rfl, hb2⟩
        have HB2 := hide (HB.out.trans (hb2.mono HB.out.size))
        clear hb2 d0 d1 d2 d3 d4 d5 d6 d7
        go_wp2
        go_ret
        exact ⟨by rw [hF.out]; rfl, HB2.out⟩
      | false =>
        go_enter Tryd.func43, Tryd.ntmps43
        go_wp2_with fail
        rw [← hw1]
        clear hw1
        refine (HC9.out w1 HB.out).mono ?_
        rintro e w2 ⟨rfl, hb2⟩
        have HB2 := hide (HB.out.trans (hb2.mono HB.out.size))
        obtain ⟨b0, b1, b2, b3, b4, b5, b6, b7⟩ := (nv_cells HX.out).below hb2
        clear hb2 d0 d1 d2 d3 d4 d5 d6 d7
        go_wp2_with fail
        refine (HC1.out w2 HB2.out).mono ?_
        rintro e w3 ⟨rfl, hb3⟩
        have HB3 := hide (HB2.out.trans (hb3.mono HB2.out.size))
        clear hb3 b0 b1 b2 b3 b4 b5 b6 b7
        go_wp2
        go_ret
        exact ⟨by rw [hF.out]; cases f1 <;> rfl, HB3.out⟩
    · have e1 : ¬ (2 : Int) ≤ (n.kl : Int) := by omega
      have hF : Hid (A = false) := by show _ = _; rw [HA.out, HE.out, if_pos h9, decide_eq_false hl]; rfl
      clear h9 hl
      go_enter Tryd.func43, Tryd.ntmps43
      go_wp2
      go_ret
      exact ⟨by rw [hF.out]; rfl, by rw [← hw1]; exact HB.out⟩
  · have hb9 : (n.kind == 9) = false := by simpa using h9
    by_cases h10 : n.kind = 10
    · have hb10 : (n.kind == 10) = true := by simpa using h10
      by_cases hl : 2 ≤ n.kl
      · have e1 : (2 : Int) ≤ (n.kl : Int) := by omega
        have hF : Hid (A = !f10) := by show _ = _; rw [HA.out, HE.out, if_neg h9, if_pos h10, decide_eq_true hl]; rfl
        clear h9 hl h10
        go_enter Tryd.func43, Tryd.ntmps43
        go_wp2_with fail
        rw [← hw1]
        clear hw1
        refine (HC10.out w1 HB.out).mono ?_
        rintro e w2 ⟨rfl, hb2⟩
        have HB2 := hide (HB.out.trans (hb2.mono HB.out.size))
        clear hb2 d0 d1 d2 d3 d4 d5 d6 d7
        go_wp2
        go_ret
        exact ⟨by rw [hF.out]; cases f10 <;> rfl, HB2.out⟩
      · have e1 : ¬ (2 : Int) ≤ (n.kl : Int) := by omega
        have hF : Hid (A = false) := by show _ = _; rw [HA.out, HE.out, if_neg h9, if_pos h10, decide_eq_false hl]; rfl
        clear h9 hl h10
        go_enter Tryd.func43, Tryd.ntmps43
        go_wp2
        go_ret
        exact ⟨by rw [hF.out]; rfl, by rw [← hw1]; exact HB.out⟩
    · have hb10 : (n.kind == 10) = false := by simpa using h10
      by_cases h11 : 11 ≤ n.kind ∧ n.kind ≤ 17
      · have hF : Hid (A = decide (n.kl = 1)) := by show _ = _; rw [HA.out, HE.out, if_neg h9, if_neg h10, if_pos h11]
        obtain ⟨g1, g2⟩ := h11
        clear h9 h10
        go_enter Tryd.func43, Tryd.ntmps43
        go_wp2
        all_goals go_ret
        all_goals exact ⟨by rw [hF.out]; exact ret_bool (by rw [Bool.eq_iff_iff]; simp <;> omega), by rw [← hw1]; exact HB.out⟩
      · have hF : Hid (A = decide (n.kl = 0)) := by show _ = _; rw [HA.out, HE.out, if_neg h9, if_neg h10, if_neg h11]
        by_cases g1 : 11 ≤ n.kind
        · have g2 : ¬ n.kind ≤ 17 := by omega
          clear h9 h10 h11
          go_enter Tryd.func43, Tryd.ntmps43
          go_wp2
          all_goals go_ret
          all_goals exact ⟨by rw [hF.out]; exact ret_bool (by rw [Bool.eq_iff_iff]; simp <;> omega), by rw [← hw1]; exact HB.out⟩
        · clear h9 h10 h11
          go_enter Tryd.func43, Tryd.ntmps43
          go_wp2
          all_goals go_ret
          all_goals exact ⟨by rw [hF.out]; exact ret_bool (by rw [Bool.eq_iff_iff]; simp <;> omega), by rw [← hw1]; exact HB.out⟩

end Go.Proofs.YtpcohmbipbiglaaDoor
