/- What counts, number, numbers and checkNames answer, where there are no names. -/
import Derived.Test.YtpcohmbipbiglaaDoorNa1
import Derived.StillTailTactics
namespace Go.Proofs.YtpcohmbipbiglaaDoor
open Go.RowKit
set_option linter.unusedVariables false

theorem own_some {B e : Nat} {w : World} {v : Value} {n k : Nat} {xs : List Value} (h : w.ownsRow B e k v n xs) (hn : 1 ≤ n) : ∃ g cap, v = .slice (some ⟨g, 0, none⟩) n cap := by
  rcases h.2 with ⟨rfl, rfl⟩ | ⟨g, cap, cur, rfl, _⟩
  · omega
  · exact ⟨_, _, rfl⟩
def panE (z : Int) : Ending := if z = 0 then .returned (.tuple #[]) else .panicked [{ v := .iface 26 (.int .i64 z), recovered := false }]
theorem panE_yes : panE 0 = .returned (.tuple #[]) := rfl
theorem panE_no {z : Int} (h : z ≠ 0) : panE z = .panicked [{ v := .iface 26 (.int .i64 z), recovered := false }] := if_neg h
def countsE (s : St) (g : Int) : Int := if 20 < s.1 then 2 else if s.1 = g then 0 else 4
theorem HMust (k : Int) (W : World) : Calls Tryd.prog 42 #[.bool false, .int .i64 k] W fun e w' => e = .panicked [{ v := .iface 26 (.int .i64 k), recovered := false }] ∧ W = w' := must_no k W

set_option maxRecDepth 100000 in
set_option maxHeartbeats 2000000 in
theorem counts_any (B : Nat) (cb : Nat) (s : St) (g : Int) (w : World) (h : CK B w cb s) : Calls Tryd.prog 28 #[.pointer (some ⟨cb, 0, none⟩), .int .i64 g] w fun e w' => e = panE (countsE s g) ∧ w = w' := by
  obtain ⟨v, c0, c1, -, -, cf, clt⟩ := h.cells
  clear h
  by_cases h1 : 20 < s.1
  · have hE : countsE s g = 2 := by unfold countsE; rw [if_pos h1]
    rw [hE, panE_no (by decide)]
    have h2 : decide (s.1 ≤ 20) = false := decide_eq_false (by omega)
    clear hE
    go_enter Tryd.func28, Tryd.ntmps28
    go_wp2_with fail
    refine (HMust 2 w).mono ?_
    rintro e w' ⟨rfl, rfl⟩
    go_wp2
    exact ⟨rfl, rfl, rfl⟩
  · have h2 : s.1 ≤ 20 := by omega
    by_cases h3 : s.1 = g
    · have hE : countsE s g = 0 := by unfold countsE; rw [if_neg h1, if_pos h3]
      rw [hE, panE_yes]
      have h4 : (s.1 == g) = true := by simpa using h3
      clear hE h1 h3
      go_enter Tryd.func28, Tryd.ntmps28
      go_wp2_with fail
      refine (must_yes 2 w).mono ?_
      rintro e w' ⟨rfl, rfl⟩
      go_wp2_with fail
      refine (must_yes 4 w).mono ?_
      rintro e w' ⟨rfl, rfl⟩
      go_wp2
      go_end0
      exact ⟨rfl, rfl⟩
    · have hE : countsE s g = 4 := by unfold countsE; rw [if_neg h1, if_neg h3]
      rw [hE, panE_no (by decide)]
      have h4 : (s.1 == g) = false := by simpa using h3
      clear hE h1 h3
      go_enter Tryd.func28, Tryd.ntmps28
      go_wp2_with fail
      refine (must_yes 2 w).mono ?_
      rintro e w' ⟨rfl, rfl⟩
      go_wp2_with fail
      refine (HMust 4 w).mono ?_
      rintro e w' ⟨rfl, rfl⟩
      go_wp2
      exact ⟨rfl, rfl, rfl⟩
def numE (g a : Int) : Int := if 1 ≤ a ∧ a ≤ g then 0 else 5
set_option maxRecDepth 100000 in
set_option maxHeartbeats 2000000 in
theorem number_any (B : Nat) (cb : Nat) (s : St) (a : Int) (w : World) (h : CK B w cb s) : Calls Tryd.prog 47 #[.pointer (some ⟨cb, 0, none⟩), .int .i64 a] w fun e w' => e = panE (numE s.1 a) ∧ w = w' := by
  obtain ⟨v, c0, c1, -, -, cf, clt⟩ := h.cells
  clear h
  by_cases h1 : 1 ≤ a
  · by_cases h2 : a ≤ s.1
    · have hE : numE s.1 a = 0 := by unfold numE; rw [if_pos ⟨h1, h2⟩]
      rw [hE, panE_yes]
      clear hE
      go_enter Tryd.func47, Tryd.ntmps47
      go_wp2_with fail
      refine (must_yes 5 w).mono ?_
      rintro e w' ⟨rfl, rfl⟩
      go_wp2
      go_end0
      exact ⟨rfl, rfl⟩
    · have hE : numE s.1 a = 5 := by unfold numE; rw [if_neg (by omega)]
      rw [hE, panE_no (by decide)]
      have h4 : decide (a ≤ s.1) = false := decide_eq_false (by omega)
      clear hE h2
      go_enter Tryd.func47, Tryd.ntmps47
      go_wp2_with fail
      refine (HMust 5 w).mono ?_
      rintro e w' ⟨rfl, rfl⟩
      go_wp2
      exact ⟨rfl, rfl, rfl⟩
  · have hE : numE s.1 a = 5 := by unfold numE; rw [if_neg (by omega)]
    rw [hE, panE_no (by decide)]
    clear hE
    go_enter Tryd.func47, Tryd.ntmps47
    go_wp2_with fail
    refine (HMust 5 w).mono ?_
    rintro e w' ⟨rfl, rfl⟩
    go_wp2
    exact ⟨rfl, rfl, rfl⟩
def numsE (g : Int) : List Int → Int
  | [] => 0
  | a :: l => if numE g a = 0 then numsE g l else 5
theorem numsE_drop {g : Int} {l : List Int} {j : Nat} (hj : j < l.length) : numsE g (l.drop j) = if numE g l[j] = 0 then numsE g (l.drop (j + 1)) else 5 := by
  rw [List.drop_eq_getElem_cons hj, numsE]
theorem own_cell {B n c g : Nat} {w : World} {L : List Int} (h : w.ownsRow B 3 1 (.slice (some ⟨g, 0, none⟩) n c) n (i64s L)) {j : Nat} (hj : j < L.length) : w.cell? ⟨g, j, none⟩ = some (.int .i64 L[j]) := by
  have := h.cellAt j (by rw [← h.1]; simp [i64s]; omega)
  rw [this]
  unfold i64s
  rw [List.getElem?_map, List.getElem?_eq_getElem hj]
  rfl
set_option maxRecDepth 100000 in
set_option maxHeartbeats 2000000 in
theorem numbers_nil (B : Nat) (cb : Nat) (s : St) (w : World) (h : CK B w cb s) (hl : s.2.length ≤ 1000000) : Calls Tryd.prog 29 #[.pointer (some ⟨cb, 0, none⟩), .slice none 0 0] w fun e w' => e = panE (numsE s.1 s.2) ∧ w = w' := by
  obtain ⟨v, c0, c1, ho, -, cf, clt⟩ := h.cells
  obtain ⟨ro, rc, rfl⟩ := own_shape ho
  have HNm := hide (fun a => number_any B cb s a w h)
  have HO := hide ho
  obtain ⟨q, hq⟩ : ∃ q, q = s.2.length := ⟨_, rfl⟩
  have HQ := hide hq
  rw [← hq] at c1 hl
  obtain ⟨A, hA⟩ : ∃ A, A = numsE s.1 s.2 := ⟨_, rfl⟩
  have HA := hide hA
  rw [← hA]
  clear h ho hq hA
  by_cases hz : A = 0
  · rw [hz, panE_yes]
    have HZ := hide hz
    clear hz
    go_enter Tryd.func29, Tryd.ntmps29
    go_wp2
    go_loopw [13] (fun t wr => ∃ (j : Nat), j ≤ q ∧ t = .int .i64 j ∧ numsE s.1 (s.2.drop j) = A ∧ wr = w) (fun t _ => q - (intOf t).toNat)
    case atStart => exact ⟨0, Nat.zero_le _, rfl, HA.out.symm, rfl⟩
    case round =>
      obtain ⟨j, hj, rfl, hE, hwr⟩ := hrel
      have hwr2 := hwr.symm
      subst hwr2
      have HE := hide hE
      clear hE
      by_cases hlt : j < q
      · have hjl : j < s.2.length := by have := HQ.out; omega
        have e1 : (j : Int) < (q : Int) := by omega
        have e0 : (0 : Int) ≤ (j : Int) := by omega
        have hD := numsE_drop (g := s.1) hjl
        have hn0 : numE s.1 s.2[j] = 0 := by
          by_cases hh : numE s.1 s.2[j] = 0
          · exact hh
          · exfalso
            have h1 := HE.out
            rw [hD, if_neg hh, HZ.out] at h1
            exact absurd h1 (by decide)
        have HNx : Hid (numsE s.1 (s.2.drop (j + 1)) = A) := by show _ = _; rw [← HE.out, hD, if_pos hn0]
        have hrow := HO.out
        rw [← HQ.out] at hrow
        obtain ⟨gg, cap, hv⟩ := own_some hrow (by omega)
        obtain ⟨rfl⟩ : ro = some ⟨gg, 0, none⟩ := by cases hv; rfl
        have cj := own_cell hrow hjl
        have HC := hide (HNm.out s.2[j])
        rw [hn0, panE_yes] at HC
        obtain ⟨a, ha⟩ : ∃ a, a = s.2[j] := ⟨_, rfl⟩
        rw [← ha] at cj HC
        have hjw : IntKind.i64.wrap ((j : Int) + 1) = (j : Int) + 1 := by rw [IntKind.wrap_i64]; omega
        clear hD hn0 hrow hv ha hjl
        go_wp2_with fail
        refine HC.out.mono ?_
        rintro e w' ⟨rfl, rfl⟩
        go_wp2
        go_roundw
        case rel => exact ⟨j + 1, by omega, by go_num, HNx.out, by first | rfl | trivial⟩
        case measure => simp [intOf]; omega
      · have e1 : ¬ (j : Int) < (q : Int) := by omega
        go_wp2
        go_loop [23] (fun i => i = .int .i64 0) (fun _ => 0)
        case atStart => rfl
        case round =>
          obtain rfl := hrel
          go_wp2
          go_end0
          exact ⟨rfl, rfl⟩
  · have HZ := hide hz
    have h5 : A = 5 := by
      have key : ∀ l : List Int, numsE s.1 l = 0 ∨ numsE s.1 l = 5 := by
        intro l
        induction l with
        | nil => exact .inl rfl
        | cons a l ih => rw [numsE]; split; exact ih; exact .inr rfl
      have := key s.2
      rw [← HA.out] at this
      omega
    have H5 := hide h5
    rw [h5, panE_no (by decide)]
    clear hz h5
    go_enter Tryd.func29, Tryd.ntmps29
    go_wp2
    go_loopw [13] (fun t wr => ∃ (j : Nat), j ≤ q ∧ t = .int .i64 j ∧ numsE s.1 (s.2.drop j) = A ∧ wr = w) (fun t _ => q - (intOf t).toNat)
    case atStart => exact ⟨0, Nat.zero_le _, rfl, HA.out.symm, rfl⟩
    case round =>
      obtain ⟨j, hj, rfl, hE, hwr⟩ := hrel
      have hwr2 := hwr.symm
      subst hwr2
      have HE := hide hE
      clear hE
      by_cases hlt : j < q
      · have hjl : j < s.2.length := by have := HQ.out; omega
        have e1 : (j : Int) < (q : Int) := by omega
        have e0 : (0 : Int) ≤ (j : Int) := by omega
        have HD := hide (numsE_drop (g := s.1) hjl)
        have hrow := HO.out
        rw [← HQ.out] at hrow
        obtain ⟨gg, cap, hv⟩ := own_some hrow (by omega)
        obtain ⟨rfl⟩ : ro = some ⟨gg, 0, none⟩ := by cases hv; rfl
        have cj := own_cell hrow hjl
        have HC := hide (HNm.out s.2[j])
        have hjw : IntKind.i64.wrap ((j : Int) + 1) = (j : Int) + 1 := by rw [IntKind.wrap_i64]; omega
        by_cases hn0 : numE s.1 s.2[j] = 0
        · have HNx : Hid (numsE s.1 (s.2.drop (j + 1)) = A) := by show _ = _; rw [← HE.out, HD.out, if_pos hn0]
          rw [hn0, panE_yes] at HC
          obtain ⟨a, ha⟩ : ∃ a, a = s.2[j] := ⟨_, rfl⟩
          rw [← ha] at cj HC
          clear hn0 hrow hv ha hjl HD
          go_wp2_with fail
          refine HC.out.mono ?_
          rintro e w' ⟨rfl, rfl⟩
          go_wp2
          go_roundw
          case rel => exact ⟨j + 1, by omega, by go_num, HNx.out, by first | rfl | trivial⟩
          case measure => simp [intOf]; omega
        · have hn5 : numE s.1 s.2[j] = 5 := by unfold numE at hn0 ⊢; split; rename_i h; rw [if_pos h] at hn0; exact absurd rfl hn0; rfl
          rw [hn5, panE_no (by decide)] at HC
          obtain ⟨a, ha⟩ : ∃ a, a = s.2[j] := ⟨_, rfl⟩
          rw [← ha] at cj HC
          clear hn0 hn5 hrow hv ha hjl HD
          go_wp2_with fail
          refine HC.out.mono ?_
          rintro e w' ⟨rfl, rfl⟩
          go_wp2
          exact ⟨rfl, rfl, rfl⟩
      · exfalso
        have h1 := HE.out
        rw [List.drop_eq_nil_of_le (by have := HQ.out; omega)] at h1
        exact HZ.out h1.symm
set_option maxRecDepth 100000 in
set_option maxHeartbeats 2000000 in
theorem checkNames_nil (w : World) : Calls Tryd.prog 30 #[.slice none 0 0] w fun e w' => e = .returned (.tuple #[]) ∧ w = w' := by
  go_enter Tryd.func30, Tryd.ntmps30
  go_wp2
  go_loop [11] (fun i => i = .int .i64 0) (fun _ => 0)
  case atStart => rfl
  case round =>
    obtain rfl := hrel
    go_wp2
    go_loop [22] (fun i => i = .int .i64 0) (fun _ => 0)
    case atStart => rfl
    case round =>
      obtain rfl := hrel
      go_wp2
      go_loop [8] (fun i => i = .int .i64 1) (fun _ => 0)
      case atStart => rfl
      case round =>
        obtain rfl := hrel
        go_wp2
        go_end0
        exact ⟨rfl, rfl⟩

end Go.Proofs.YtpcohmbipbiglaaDoor
