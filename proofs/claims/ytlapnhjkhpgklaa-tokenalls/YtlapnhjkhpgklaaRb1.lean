/- The reference's small readers: between, IsDigit, IsLetter, HexOf, PointAt, pointToken, Says. -/
import Derived.Test.YtlapnhjkhpgklaaTret
namespace Go.Proofs.Ytlapnhjkhpgklaa
open Go.RowKit
set_option linter.unusedVariables false

set_option maxHeartbeats 400000 in
theorem betw_any (p a b : Int) (w : World) : Calls Try.prog 32 #[.int .i64 p, .int .i64 a, .int .i64 b] w fun e w' => e = .returned (.bool (decide (a ≤ p) && decide (p ≤ b))) ∧ w = w' := by
  go_enter Try.func32, Try.ntmps32
  go_wp2
  all_goals go_ret
  all_goals exact ⟨ret_bool (by rw [Bool.eq_iff_iff]; simp <;> omega), rfl⟩
set_option maxHeartbeats 400000 in
theorem isDigit_any (p : Int) (w : World) : Calls Try.prog 44 #[.int .i64 p] w fun e w' => e = .returned (.bool (decide (48 ≤ p) && decide (p ≤ 57))) ∧ w = w' := by
  have HB := hide (betw_any p 48 57 w)
  obtain ⟨z, hz⟩ : ∃ z, z = (decide (48 ≤ p) && decide (p ≤ 57)) := ⟨_, rfl⟩
  rw [← hz] at HB ⊢
  clear hz
  go_enter Try.func44, Try.ntmps44
  go_wp2_with fail
  refine HB.out.mono ?_
  rintro e w' ⟨rfl, rfl⟩
  go_wp2
  go_ret
  exact ⟨rfl, rfl⟩
set_option maxHeartbeats 400000 in
theorem isLetR_any (p : Int) (w : World) : Calls Try.prog 36 #[.int .i64 p] w fun e w' => e = .returned (.bool (letB p)) ∧ w = w' := by
  have HB := hide (betw_any p 65 90 w)
  have HC := hide (betw_any p 97 122 w)
  have hl : letB p = ((decide (65 ≤ p) && decide (p ≤ 90)) || (decide (97 ≤ p) && decide (p ≤ 122))) := by unfold letB; rw [Bool.or_comm]
  rw [hl]
  obtain ⟨z, hz⟩ : ∃ z, z = (decide (65 ≤ p) && decide (p ≤ 90)) := ⟨_, rfl⟩
  obtain ⟨y, hy⟩ : ∃ y, y = (decide (97 ≤ p) && decide (p ≤ 122)) := ⟨_, rfl⟩
  rw [← hz] at HB ⊢
  rw [← hy] at HC ⊢
  clear hz hy hl
  cases z with
  | true =>
    go_enter Try.func36, Try.ntmps36
    go_wp2_with fail
    refine HB.out.mono ?_
    rintro e w' ⟨rfl, rfl⟩
    go_wp2
    go_ret
    exact ⟨rfl, rfl⟩
  | false =>
    go_enter Try.func36, Try.ntmps36
    go_wp2_with fail
    refine HB.out.mono ?_
    rintro e w' ⟨rfl, rfl⟩
    go_wp2_with fail
    refine HC.out.mono ?_
    rintro e w' ⟨rfl, rfl⟩
    go_wp2
    go_ret
    exact ⟨rfl, rfl⟩
/-- what a digit of sixteen counts. -/
def hexV (p : Int) : Int := if digV p < 16 then digV p else -1
set_option maxHeartbeats 1000000 in
theorem hexOf_any (p : Int) (w : World) (h0 : -1 ≤ p) (h1 : p ≤ 1114111) : Calls Try.prog 34 #[.int .i64 p] w fun e w' => e = .returned (.int .i64 (hexV p)) ∧ w = w' := by
  have HA := hide (isDigit_any p w)
  have HB := hide (betw_any p 97 102 w)
  have HC := hide (betw_any p 65 70 w)
  have hE : Hid (hexV p = if (decide (48 ≤ p) && decide (p ≤ 57)) then p - 48 else if (decide (97 ≤ p) && decide (p ≤ 102)) then p - 87 else if (decide (65 ≤ p) && decide (p ≤ 70)) then p - 55 else -1) := by
    show _ = _
    unfold hexV digV
    simp only [Bool.and_eq_true, decide_eq_true_eq]
    repeat (first | omega | split)
  obtain ⟨x, hx⟩ : ∃ x, x = (decide (48 ≤ p) && decide (p ≤ 57)) := ⟨_, rfl⟩
  obtain ⟨z, hz⟩ : ∃ z, z = (decide (97 ≤ p) && decide (p ≤ 102)) := ⟨_, rfl⟩
  obtain ⟨y, hy⟩ : ∃ y, y = (decide (65 ≤ p) && decide (p ≤ 70)) := ⟨_, rfl⟩
  rw [← hx] at HA hE
  rw [← hz] at HB hE
  rw [← hy] at HC hE
  have w1 : IntKind.i64.wrap (p - 48) = p - 48 := by rw [IntKind.wrap_i64]; omega
  have w2 : IntKind.i64.wrap (p - 87) = p - 87 := by rw [IntKind.wrap_i64]; omega
  have w3 : IntKind.i64.wrap (p - 55) = p - 55 := by rw [IntKind.wrap_i64]; omega
  clear hx hz hy h0 h1
  cases x with
  | true =>
    go_enter Try.func34, Try.ntmps34
    go_wp2_with fail
    refine HA.out.mono ?_
    rintro e w' ⟨rfl, rfl⟩
    go_wp2
    go_ret
    exact ⟨ret_int (by rw [hE.out]; rfl), rfl⟩
  | false =>
    cases z with
    | true =>
      go_enter Try.func34, Try.ntmps34
      go_wp2_with fail
      refine HA.out.mono ?_
      rintro e w' ⟨rfl, rfl⟩
      go_wp2_with fail
      refine HB.out.mono ?_
      rintro e w' ⟨rfl, rfl⟩
      go_wp2
      go_ret
      exact ⟨ret_int (by rw [hE.out]; rfl), rfl⟩
    | false =>
      cases y with
      | true =>
        go_enter Try.func34, Try.ntmps34
        go_wp2_with fail
        refine HA.out.mono ?_
        rintro e w' ⟨rfl, rfl⟩
        go_wp2_with fail
        refine HB.out.mono ?_
        rintro e w' ⟨rfl, rfl⟩
        go_wp2_with fail
        refine HC.out.mono ?_
        rintro e w' ⟨rfl, rfl⟩
        go_wp2
        go_ret
        exact ⟨ret_int (by rw [hE.out]; rfl), rfl⟩
      | false =>
        go_enter Try.func34, Try.ntmps34
        go_wp2_with fail
        refine HA.out.mono ?_
        rintro e w' ⟨rfl, rfl⟩
        go_wp2_with fail
        refine HB.out.mono ?_
        rintro e w' ⟨rfl, rfl⟩
        go_wp2_with fail
        refine HC.out.mono ?_
        rintro e w' ⟨rfl, rfl⟩
        go_wp2
        go_ret
        exact ⟨ret_int (by rw [hE.out]; rfl), rfl⟩

/-- the point at a place; none: -1. -/
def ptA (l : List Int) (i : Nat) : Int := (l[i]?).getD (-1)
theorem ptA_in {l : List Int} {i : Nat} (h : i < l.length) : ptA l i = l[i] := by simp [ptA, h]
theorem ptA_out {l : List Int} {i : Nat} (h : ¬ i < l.length) : ptA l i = -1 := by simp [ptA, List.getElem?_eq_none (Nat.le_of_not_lt h)]
set_option maxHeartbeats 1000000 in
theorem pointAt_any (x : Addr) (c : Nat) (l : List Int) (i : Nat) (w : World) (h : ReadsI w x l) : Calls Try.prog 29 #[.slice (some x) l.length c, .int .i64 i] w fun e w' => e = .returned (.int .i64 (ptA l i)) ∧ w' = w := by
  by_cases hi : i < l.length
  · have hc := h i hi
    rw [ptA_in hi]
    obtain ⟨p, hp⟩ : ∃ p, p = l[i] := ⟨_, rfl⟩
    obtain ⟨n, hn⟩ : ∃ n, n = l.length := ⟨_, rfl⟩
    rw [← hp] at hc ⊢
    rw [← hn] at hi ⊢
    clear h hp hn
    have e1 : (i : Int) < (n : Int) := by omega
    have e0 : (0 : Int) ≤ (i : Int) := by omega
    go_enter Try.func29, Try.ntmps29
    go_wp2
    go_ret
    exact ⟨rfl, rfl⟩
  · rw [ptA_out hi]
    obtain ⟨n, hn⟩ : ∃ n, n = l.length := ⟨_, rfl⟩
    rw [← hn] at hi ⊢
    clear h hn
    have e1 : ¬ (i : Int) < (n : Int) := by omega
    have e0 : (0 : Int) ≤ (i : Int) := by omega
    go_enter Try.func29, Try.ntmps29
    go_wp2
    go_ret
    exact ⟨rfl, rfl⟩
set_option maxHeartbeats 1000000 in
theorem ptok_any (p : Int) (w : World) : Calls Try.prog 23 #[.int .i64 p] w fun e w' => e = .returned (tokV (pointT p)) ∧ Below w.heap.size w w' := by
  go_enter Try.func23, Try.ntmps23
  go_wp2
  exact bodyPost_ret (v := tokV (pointT p)) (by simp [results, Try.results23, go_sem, tokV, pointT]) rfl ⟨rfl, (Below.refl _ _).alloc (Nat.le_refl _) _⟩

theorem says_pt (l : List Int) (i : Nat) (p : Int) (hp : 0 ≤ p) : says l i [p] = decide (ptA l i = p) := by
  rw [says_one]
  unfold ptA
  cases h : l[i]? with
  | none =>
    simp
    omega
  | some q => simp only [Option.getD_some]; rw [Bool.eq_iff_iff]; simp
theorem says_two (l : List Int) (i : Nat) (p q : Int) : says l i [p, q] = (says l i [p] && says l (i + 1) [q]) := by
  unfold says
  rw [← List.drop_drop]
  cases l.drop i with
  | nil => simp [List.isPrefixOf]
  | cons a t =>
    simp only [List.isPrefixOf, Bool.and_true, List.drop_succ_cons, List.drop_zero]


end Go.Proofs.Ytlapnhjkhpgklaa
