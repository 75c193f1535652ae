/- Checking a tree node by node, as the reference goes about it. -/
import Derived.Test.YtpcohmbipbiglaaDoorQnode3
import Derived.Test.YtpcohmbipbiglaaDoorNcheck
namespace Go.Proofs.YtpcohmbipbiglaaDoor
open Go.RowKit
set_option linter.unusedVariables false

/-- the nodes one by one, and the groups so far. -/
def ckF : List Tr → Int → Except Int Int
  | [], g => .ok g
  | t :: ts, g => if rnE t ≠ 0 then .error (rnE t) else if t.kind = 11 then (if t.num = g + 1 then ckF ts (g + 1) else .error 4) else ckF ts g
theorem ckF_cons (t : Tr) (ts : List Tr) (g : Int) : ckF (t :: ts) g = if rnE t ≠ 0 then .error (rnE t) else if t.kind = 11 then (if t.num = g + 1 then ckF ts (g + 1) else .error 4) else ckF ts g := rfl
theorem ckF_append : ∀ (a b : List Tr) (g : Int), ckF (a ++ b) g = match ckF a g with | .error z => .error z | .ok g' => ckF b g'
  | [], b, g => rfl
  | t :: a, b, g => by
    rw [List.cons_append, ckF_cons, ckF_cons]
    split
    · rfl
    · split
      · split
        · exact ckF_append a b _
        · rfl
      · exact ckF_append a b _
/-- what is spoken of again. -/
def agF (l : List Tr) : List Int := (l.filter (fun t => decide (t.kind = 18))).map Tr.num
theorem agF_append (a b : List Tr) : agF (a ++ b) = agF a ++ agF b := by simp [agF]
theorem nodeS_ck (t : Tr) (s : St) : nodeS t s = match ckF [t] s.1 with | .error z => .error z | .ok g' => .ok (g', s.2 ++ agF [t]) := by
  rw [ckF_cons]
  unfold nodeS
  by_cases h1 : 1 ≤ t.kind ∧ t.kind ≤ 18
  · rw [if_neg (fun hh => hh h1)]
    by_cases h2 : (kidsB t && fieldsB t) = false
    · have hr : rnE t = 1 := by unfold rnE; rw [if_neg (fun hh => hh h1), if_pos h2]
      rw [if_pos h2, hr]; rfl
    · rw [if_neg h2]
      by_cases h3 : checkE t.set ≠ 0
      · have hr : rnE t = checkE t.set := by unfold rnE; rw [if_neg (fun hh => hh h1), if_neg h2, if_pos h3]
        rw [if_pos h3, hr, if_pos h3]
      · rw [if_neg h3]
        by_cases h4 : t.kind = 12
        · have hr : rnE t = repE t := by unfold rnE; rw [if_neg (fun hh => hh h1), if_neg h2, if_neg h3, if_pos h4]
          rw [if_pos h4, hr]
          by_cases h5 : repE t = 0
          · rw [if_pos h5, if_neg (fun hh => hh h5), if_neg (by omega)]
            simp [ckF, agF, h4]
          · rw [if_neg h5, if_pos h5]
        · have hr : rnE t = 0 := by unfold rnE; rw [if_neg (fun hh => hh h1), if_neg h2, if_neg h3, if_neg h4]
          rw [if_neg h4, hr, if_neg (show ¬ ((0 : Int) ≠ 0) from fun hh => hh rfl)]
          by_cases h5 : t.kind = 11
          · rw [if_pos h5, if_pos h5]
            by_cases h6 : t.num = s.1 + 1
            · rw [if_pos h6, if_pos h6]; simp [ckF, agF, h5]
            · rw [if_neg h6, if_neg h6]
          · rw [if_neg h5, if_neg h5]
            by_cases h6 : t.kind = 18
            · rw [if_pos h6]; simp [ckF, agF, h6]
            · rw [if_neg h6]; simp [ckF, agF, h6]
  · have hr : rnE t = 7 := by unfold rnE; rw [if_pos h1]
    rw [if_pos h1, hr]; rfl
mutual
theorem chkT_ck : ∀ (t : Tr) (s : St), chkT t s = match ckF (flatT t) s.1 with | .error z => .error z | .ok g' => .ok (g', s.2 ++ agF (flatT t))
  | .mk k a b c d e f kids, s => by
    obtain ⟨T, hT⟩ : ∃ T, T = Tr.mk k a b c d e f kids := ⟨_, rfl⟩
    have e1 : flatT (Tr.mk k a b c d e f kids) = [T] ++ flatL kids := by rw [hT]; rfl
    rw [chkT_kids, nodeS_ck, e1, ckF_append, ← hT]
    cases hc : ckF [T] s.1 with
    | error z => rfl
    | ok g =>
      have e2 : T.kids = kids := by rw [hT]; rfl
      simp only
      rw [e2, chkL_ck kids, agF_append, List.append_assoc]
theorem chkL_ck : ∀ (ts : List Tr) (s : St), chkL ts s = match ckF (flatL ts) s.1 with | .error z => .error z | .ok g' => .ok (g', s.2 ++ agF (flatL ts))
  | [], s => by simp [chkL, flatL, ckF, agF]
  | t :: ts, s => by
    unfold chkL
    rw [chkT_ck t s, flatL, ckF_append]
    cases hc : ckF (flatT t) s.1 with
    | error z => rfl
    | ok g => simp only; rw [chkL_ck ts, agF_append, List.append_assoc]
end
/-- what CheckPattern answers, where there are no names. -/
def patR (x : Except Int Int) (g : Int) (A : List Int) : Int := match x with
  | .error z => z
  | .ok k => if 20 < k then 2 else if k = g then numsE k A else 4
theorem treeE_ck (t : Tr) (g : Int) : treeE t g = patR (ckF (flatT t) 0) g (agF (flatT t)) := by
  unfold treeE patR
  rw [chkT_ck]
  cases hc : ckF (flatT t) ((0, []) : St).1 with
  | error z => rfl
  | ok k =>
    simp only [countsE, List.nil_append]
    by_cases h1 : 20 < k
    · simp [h1]
    · by_cases h2 : k = g
      · subst h2; simp [h1]
      · simp [h1, h2]
theorem ckF_rng : ∀ (l : List Tr) (g k : Int), ckF l g = .ok k → g ≤ k ∧ k ≤ g + l.length
  | [], g, k, h => by injection h with h; simp; omega
  | t :: l, g, k, h => by
    unfold ckF at h
    split at h
    · cases h
    · split at h
      · split at h
        · have := ckF_rng l _ _ h; simp; omega
        · cases h
      · have := ckF_rng l _ _ h; simp; omega
mutual
theorem sm_flat : ∀ t : Tr, smT t → ∀ u ∈ flatT t, smT u
  | .mk k a b c d e f kids, h, u, hu => by
    rw [flatT] at hu
    rcases List.mem_cons.1 hu with rfl | hu
    · exact h
    · exact sm_flatL kids (by rw [smT_kids] at h; exact h.2) u hu
theorem sm_flatL : ∀ ts : List Tr, smL ts → ∀ u ∈ flatL ts, smT u
  | [], h, u, hu => by cases hu
  | t :: ts, h, u, hu => by
    rw [flatL] at hu
    rcases List.mem_append.1 hu with hu | hu
    · exact sm_flat t h.1 u hu
    · exact sm_flatL ts h.2 u hu
end
/-- whether nothing is looked at but the points taken. -/
def lookB (k : Int) : Bool := decide (3 ≤ k ∧ k ≤ 8) || decide (14 ≤ k ∧ k ≤ 18)
def plB (l : List Tr) : Bool := l.all (fun u => !lookB u.kind)

end Go.Proofs.YtpcohmbipbiglaaDoor
