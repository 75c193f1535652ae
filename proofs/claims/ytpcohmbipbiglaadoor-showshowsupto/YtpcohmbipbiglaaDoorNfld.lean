/- What a node must have: its fields; how often. -/
import Derived.Test.YtpcohmbipbiglaaDoorNkid
namespace Go.Proofs.YtpcohmbipbiglaaDoor
open Go.RowKit
set_option linter.unusedVariables false

/-- are all fields zero that the kind of a node does not name. -/
def fieldsB (t : Tr) : Bool :=
  (decide (t.kind = 2) || decide (t.set.length = 0)) && (decide (t.kind = 11) || decide (t.kind = 18) || decide (t.num = 0)) && (decide (t.kind = 12) || decide (t.least = 0)) && (decide (t.kind = 12) || decide (t.most = 0)) && (decide (t.kind = 12) || decide (t.way = 0)) && (decide (t.kind = 18) || !t.fold)
theorem Reads.len {w : World} {a : Option Addr} {l c : Nat} {L : RL} (h : Reads w (.slice a l c) L) : l = L.length := by
  rcases h with ⟨h1, rfl⟩ | ⟨x, c, h1, h2⟩
  · cases h1; rfl
  · cases h1; rfl

set_option maxRecDepth 100000 in
set_option maxHeartbeats 8000000 in
theorem hasItsFields_any (n : NV) (t : Tr) (w : World) (h : NodeC w n t) : Calls Tryd.prog 44 #[nvV n] w fun e w' => e = .returned (.bool (fieldsB t)) ∧ Below w.heap.size w w' := by
  obtain ⟨hk0, k1, k2, k3, k4, k5, hr, -⟩ := h.open
  have hsl := hr.len
  have hb : Below w.heap.size w (w.alloc (nvO n)) := (Below.refl _ _).alloc (Nat.le_refl _) _
  obtain ⟨w1, hw1⟩ : ∃ w1, w1 = w.alloc (nvO n) := ⟨_, rfl⟩
  have hbox : w1.heap[w.heap.size]? = some (nvO n) := by rw [hw1]; exact at_new _ _
  rw [← hw1] at hb
  have HB := hide hb
  obtain ⟨d0, d1, d2, d3, d4, d5, d6, d7⟩ := nv_cells hbox
  have fz : ∀ o, w1.frozen? ⟨w.heap.size, o, none⟩ = false := fun o => by simp [World.frozen?, hbox]
  simp only [nvO] at hw1
  have HE : Hid (fieldsB t = ((decide (n.kind = 2) || decide (n.sl = 0)) && (decide (n.kind = 11) || decide (n.kind = 18) || decide (n.num = 0)) && (decide (n.kind = 12) || decide (n.least = 0)) && (decide (n.kind = 12) || decide (n.most = 0)) && (decide (n.kind = 12) || decide (n.way = 0)) && (decide (n.kind = 18) || !n.fold))) := by show _ = _; unfold fieldsB; rw [hk0, k1, k2, k3, k4, k5, hsl]
  obtain ⟨A, hA⟩ : ∃ A, A = fieldsB t := ⟨_, rfl⟩
  rw [← hA] at HE ⊢
  obtain ⟨fo, hfo⟩ : ∃ fo, fo = n.fold := ⟨_, rfl⟩
  rw [← hfo] at d7 HE hw1
  have hvn : nvV n = .agg #[.int .i64 n.kind, .slice n.sa n.sl n.sc, .slice n.ka n.kl n.kc, .int .i64 n.num, .int .i64 n.least, .int .i64 n.most, .int .i64 n.way, .bool fo] := by rw [hfo]
  rw [hvn]
  clear h hr hsl hk0 k1 k2 k3 k4 k5 hA hbox hb hfo hvn
  by_cases h2 : n.kind = 2
  · have hF : Hid (A = (decide (n.num = 0) && decide (n.least = 0) && decide (n.most = 0) && decide (n.way = 0) && !fo)) := by
      show _ = _
      rw [HE.out]
      simp only [decide_eq_true h2, (decide_eq_false (by omega) : decide (n.kind = 11) = false), (decide_eq_false (by omega) : decide (n.kind = 12) = false), (decide_eq_false (by omega) : decide (n.kind = 18) = false), Bool.true_or, Bool.false_or, Bool.true_and, Bool.or_false]
    have b2 : (n.kind == 2) = true := by simpa using h2
    clear h2 HE
    cases fo with
    | true =>
      go_enter Tryd.func44, Tryd.ntmps44
      go_wp2
      all_goals go_ret
      all_goals exact ⟨by rw [hF.out]; exact ret_bool (by rw [Bool.eq_iff_iff]; simp <;> omega), (Below.refl _ _).alloc (Nat.le_refl _) _⟩
    | false =>
      go_enter Tryd.func44, Tryd.ntmps44
      go_wp2
      all_goals go_ret
      all_goals exact ⟨by rw [hF.out]; exact ret_bool (by rw [Bool.eq_iff_iff]; simp <;> omega), (Below.refl _ _).alloc (Nat.le_refl _) _⟩
  · by_cases h11 : n.kind = 11
    · have hF : Hid (A = (decide (n.sl = 0) && decide (n.least = 0) && decide (n.most = 0) && decide (n.way = 0) && !fo)) := by
        show _ = _
        rw [HE.out]
        simp only [decide_eq_false h2, decide_eq_true h11, (decide_eq_false (by omega) : decide (n.kind = 12) = false), (decide_eq_false (by omega) : decide (n.kind = 18) = false), Bool.true_or, Bool.false_or, Bool.and_true, Bool.or_false]
      have b2 : (n.kind == 2) = false := by simpa using h2
      have b11 : (n.kind == 11) = true := by simpa using h11
      clear h2 h11 HE
      cases fo with
      | true =>
        go_enter Tryd.func44, Tryd.ntmps44
        go_wp2
        all_goals go_ret
        all_goals exact ⟨by rw [hF.out]; exact ret_bool (by rw [Bool.eq_iff_iff]; simp <;> omega), (Below.refl _ _).alloc (Nat.le_refl _) _⟩
      | false =>
        go_enter Tryd.func44, Tryd.ntmps44
        go_wp2
        all_goals go_ret
        all_goals exact ⟨by rw [hF.out]; exact ret_bool (by rw [Bool.eq_iff_iff]; simp <;> omega), (Below.refl _ _).alloc (Nat.le_refl _) _⟩
    · by_cases h12 : n.kind = 12
      · have hF : Hid (A = (decide (n.sl = 0) && decide (n.num = 0) && !fo)) := by
          show _ = _
          rw [HE.out]
          simp only [decide_eq_false h2, decide_eq_false h11, decide_eq_true h12, (decide_eq_false (by omega) : decide (n.kind = 18) = false), Bool.true_or, Bool.false_or, Bool.and_true, Bool.or_false]
        have b2 : (n.kind == 2) = false := by simpa using h2
        have b11 : (n.kind == 11) = false := by simpa using h11
        have b12 : (n.kind == 12) = true := by simpa using h12
        clear h2 h11 h12 HE
        cases fo with
        | true =>
          go_enter Tryd.func44, Tryd.ntmps44
          go_wp2
          all_goals go_ret
          all_goals exact ⟨by rw [hF.out]; exact ret_bool (by rw [Bool.eq_iff_iff]; simp <;> omega), (Below.refl _ _).alloc (Nat.le_refl _) _⟩
        | false =>
          go_enter Tryd.func44, Tryd.ntmps44
          go_wp2
          all_goals go_ret
          all_goals exact ⟨by rw [hF.out]; exact ret_bool (by rw [Bool.eq_iff_iff]; simp <;> omega), (Below.refl _ _).alloc (Nat.le_refl _) _⟩
      · by_cases h18 : n.kind = 18
        · have hF : Hid (A = (decide (n.sl = 0) && decide (n.least = 0) && decide (n.most = 0) && decide (n.way = 0))) := by
            show _ = _
            rw [HE.out]
            simp only [decide_eq_false h2, decide_eq_false h11, decide_eq_false h12, decide_eq_true h18, Bool.true_or, Bool.false_or, Bool.and_true, Bool.or_true]
          have b2 : (n.kind == 2) = false := by simpa using h2
          have b11 : (n.kind == 11) = false := by simpa using h11
          have b12 : (n.kind == 12) = false := by simpa using h12
          have b18 : (n.kind == 18) = true := by simpa using h18
          clear h2 h11 h12 h18 HE
          cases fo with
          | true =>
            go_enter Tryd.func44, Tryd.ntmps44
            go_wp2
            all_goals go_ret
            all_goals exact ⟨by rw [hF.out]; exact ret_bool (by rw [Bool.eq_iff_iff]; simp <;> omega), (Below.refl _ _).alloc (Nat.le_refl _) _⟩
          | false =>
            go_enter Tryd.func44, Tryd.ntmps44
            go_wp2
            all_goals go_ret
            all_goals exact ⟨by rw [hF.out]; exact ret_bool (by rw [Bool.eq_iff_iff]; simp <;> omega), (Below.refl _ _).alloc (Nat.le_refl _) _⟩
        · have hF : Hid (A = (decide (n.sl = 0) && decide (n.num = 0) && decide (n.least = 0) && decide (n.most = 0) && decide (n.way = 0) && !fo)) := by
            show _ = _
            rw [HE.out]
            simp only [decide_eq_false h2, decide_eq_false h11, decide_eq_false h12, decide_eq_false h18, Bool.false_or, Bool.or_false]
          have b2 : (n.kind == 2) = false := by simpa using h2
          have b11 : (n.kind == 11) = false := by simpa using h11
          have b12 : (n.kind == 12) = false := by simpa using h12
          have b18 : (n.kind == 18) = false := by simpa using h18
          clear h2 h11 h12 h18 HE
          cases fo with
          | true =>
            go_enter Tryd.func44, Tryd.ntmps44
            go_wp2
            all_goals go_ret
            all_goals exact ⟨by rw [hF.out]; exact ret_bool (by rw [Bool.eq_iff_iff]; simp <;> omega), (Below.refl _ _).alloc (Nat.le_refl _) _⟩
          | false =>
            go_enter Tryd.func44, Tryd.ntmps44
            go_wp2
            all_goals go_ret
            all_goals exact ⟨by rw [hF.out]; exact ret_bool (by rw [Bool.eq_iff_iff]; simp <;> omega), (Below.refl _ _).alloc (Nat.le_refl _) _⟩

/-- what is wrong with how often. -/
def repE (t : Tr) : Int := if ¬ (0 ≤ t.least ∧ t.least ≤ 100) then 3 else if ¬ (t.most = -1 ∨ (t.least ≤ t.most ∧ t.most ≤ 100)) then 3 else if ¬ (1 ≤ t.way ∧ t.way ≤ 3) then 7 else 0
def mustE (z : Int) : Ending := if z = 0 then .returned (.tuple #[]) else gives z

end Go.Proofs.YtpcohmbipbiglaaDoor
