/- Whether nothing is looked at: both tell the same. -/
import Derived.Test.YtdipfaahlofmgaaQck
import Derived.Test.YtdipfaahlofmgaaNfact
namespace Go.Proofs.Ytdipfaahlofmgaa
open Go.RowKit
set_option linter.unusedVariables false

theorem foldl_plain {op : FT → FT → FT} (hop : ∀ a b, (op a b).plain = (a.plain && b.plain)) : ∀ (l : List FT) (a : FT), (l.foldl op a).plain = (a.plain && l.all (·.plain))
  | [], a => by simp
  | b :: l, a => by rw [List.foldl_cons, foldl_plain hop l, hop, List.all_cons, Bool.and_assoc]
theorem foldF_plain {op : FT → FT → FT} (hop : ∀ a b, (op a b).plain = (a.plain && b.plain)) {l : List FT} (hl : l ≠ []) : (foldF op l).plain = l.all (·.plain) := by
  cases l with
  | nil => exact absurd rfl hl
  | cons a l => rw [List.all_cons]; exact foldl_plain hop l a
theorem plB_append (a b : List Tr) : plB (a ++ b) = (plB a && plB b) := by simp [plB]
theorem plB_cons (t : Tr) (l : List Tr) : plB (t :: l) = (!lookB t.kind && plB l) := by simp [plB]
mutual
theorem plain_flat : ∀ t : Tr, good t → (factT t).plain = plB (flatT t)
  | .mk k a b c d e f kids, h => by
    have hgn := good_node h
    have hkids := plain_flatL kids (fun j hj => good_kids h j hj)
    have hk1 : 1 ≤ k ∧ k ≤ 18 := hgn.1
    have hkb := hgn.2.1
    unfold kidsB at hkb
    have hkb' : (if k = 9 then (decide (2 ≤ kids.length) && !kidL kids 9) && !kidL kids 1 else if k = 10 then decide (2 ≤ kids.length) && !kidL kids 10 else if 11 ≤ k ∧ k ≤ 17 then decide (kids.length = 1) else decide (kids.length = 0)) = true := hkb
    rw [factT, flatT, plB_cons, ← hkids]
    show (factK k b c (factL kids)).plain = (!lookB k && (factL kids).all (·.plain))
    have hnil : kids.length = 0 → factL kids = [] := fun h0 => List.eq_nil_of_length_eq_zero (by rw [factL_len]; exact h0)
    have hone : kids.length = 1 → ∃ x, factL kids = [x] := fun h1 => by
      have : (factL kids).length = 1 := by rw [factL_len]; exact h1
      exact List.length_eq_one_iff.1 this
    have hne : 2 ≤ kids.length → factL kids ≠ [] := fun h2 e => by
      have : (factL kids).length = 0 := by rw [e]; rfl
      rw [factL_len] at this
      omega
    unfold factK lookB
    by_cases h1 : k = 1
    · subst h1; simp at hkb'; simp [hnil (by simpa using hkb')]
    · by_cases h2 : k = 2
      · subst h2; simp at hkb'; simp [hnil (by simpa using hkb')]
      · by_cases h9 : k = 9
        · subst h9; simp at hkb'; simp; exact foldF_plain (fun a b => rfl) (hne hkb'.1.1)
        · by_cases h10 : k = 10
          · subst h10; simp at hkb'; simp; exact foldF_plain (fun a b => rfl) (hne hkb'.1)
          · rw [if_neg h9, if_neg h10] at hkb'
            by_cases h11 : 11 ≤ k ∧ k ≤ 17
            · rw [if_pos h11] at hkb'
              obtain ⟨x, hx⟩ := hone (by simpa using hkb')
              rw [hx, if_neg h1, if_neg h2, if_neg h9, if_neg h10]
              by_cases h13 : k = 11 ∨ k = 13
              · rw [if_pos h13]
                have e1 : decide (3 ≤ k ∧ k ≤ 8) = false := by simp; omega
                have e2 : decide (14 ≤ k ∧ k ≤ 18) = false := by simp; omega
                rw [e1, e2]; simp [headF]
              · rw [if_neg h13]
                by_cases h12 : k = 12
                · rw [if_pos h12]
                  have e1 : decide (3 ≤ k ∧ k ≤ 8) = false := by simp; omega
                  have e2 : decide (14 ≤ k ∧ k ≤ 18) = false := by simp; omega
                  rw [e1, e2]; simp [headF, repF]
                · rw [if_neg h12, if_neg (by omega)]
                  have e2 : decide (14 ≤ k ∧ k ≤ 18) = true := by simp; omega
                  rw [e2]; simp
            · rw [if_neg h11] at hkb'
              rw [hnil (by simpa using hkb'), if_neg h1, if_neg h2, if_neg h9, if_neg h10, if_neg (by omega), if_neg (by omega)]
              by_cases h18 : k = 18
              · rw [if_pos h18]; subst h18; simp
              · rw [if_neg h18]
                have e1 : decide (3 ≤ k ∧ k ≤ 8) = true := by simp; omega
                rw [e1]; simp
theorem plain_flatL : ∀ ts : List Tr, (∀ j (hj : j < ts.length), good ts[j]) → (factL ts).all (·.plain) = plB (flatL ts)
  | [], _ => rfl
  | t :: ts, h => by
    rw [factL, flatL, plB_append, List.all_cons, plain_flat t (h 0 (by simp)), plain_flatL ts (fun j hj => h (j + 1) (by simpa using hj))]
end

end Go.Proofs.Ytdipfaahlofmgaa
