/- Checking a tree, as a function. -/
import Derived.Test.YtpcohmbipbiglaaDoorNrep
import Derived.Test.YtpcohmbipbiglaaDoorNcnt
import Derived.Test.YtpcohmbipbiglaaDoorSchkc
namespace Go.Proofs.YtpcohmbipbiglaaDoor
open Go.RowKit
set_option linter.unusedVariables false

mutual
/-- how many nodes a tree has. -/
def szT : Tr → Nat
  | .mk _ _ _ _ _ _ _ kids => 1 + szL kids
def szL : List Tr → Nat
  | [] => 0
  | t :: ts => szT t + szL ts
end
theorem szL_drop {ts : List Tr} {j : Nat} (hj : j < ts.length) : szL (ts.drop j) = szT ts[j] + szL (ts.drop (j + 1)) := by
  rw [List.drop_eq_getElem_cons hj, szL]
theorem szL_le (ts : List Tr) (j : Nat) : szL (ts.drop j) ≤ szL ts := by
  induction ts generalizing j with
  | nil => simp
  | cons t ts ih =>
    cases j with
    | zero => exact Nat.le_refl _
    | succ j => rw [List.drop_succ_cons, szL]; have := ih j; omega
theorem szT_kids (t : Tr) : szT t = 1 + szL t.kids := by cases t; rfl
theorem cntL_sz {step : Tr → Nat → Nat} (hs : ∀ t c, c < 1001 → step t c < 1001 → step t c = c + szT t) (hle : ∀ t c, c ≤ 1000 → step t c ≤ 1001) : ∀ (ts : List Tr) (c : Nat), c < 1001 → cntL step ts c < 1001 → cntL step ts c = c + szL ts := by
  intro ts
  induction ts with
  | nil => intro c _ _; rfl
  | cons t ts ih =>
    intro c hc h
    unfold cntL at h ⊢
    rw [if_pos hc] at h ⊢
    have h1 : step t c < 1001 := by
      by_cases hh : step t c < 1001
      · exact hh
      · rw [cntL_stop hh] at h; exact absurd h hh
    rw [ih _ h1 h, hs t c hc h1, szL]; omega
theorem cntT_sz : ∀ (f : Nat) (t : Tr) (c : Nat), c < 1001 → cntT f t c < 1001 → cntT f t c = c + szT t := by
  intro f
  induction f with
  | zero => intro t c _ h; exact absurd h (by unfold cntT; omega)
  | succ f ih =>
    intro t c hc h
    unfold cntT at h ⊢
    by_cases h1 : c + 1 < 1001
    · rw [cntL_sz ih (cntT_le f) _ _ h1 h, szT_kids]; omega
    · rw [cntL_stop h1] at h; omega
theorem cntA_sz {t : Tr} (h : cntA t < 1001) : szT t ≤ 1000 := by
  have := cntT_sz 201 t 0 (by omega) h
  unfold cntA at h
  omega

abbrev St : Type := Int × List Int
/-- what a node does with what is known, its kids left out. -/
def nodeS (t : Tr) (s : St) : Except Int St :=
  if ¬ (1 ≤ t.kind ∧ t.kind ≤ 18) then .error 7
  else if (kidsB t && fieldsB t) = false then .error 1
  else if checkE t.set ≠ 0 then .error (checkE t.set)
  else if t.kind = 12 then (if repE t = 0 then .ok s else .error (repE t))
  else if t.kind = 11 then (if t.num = s.1 + 1 then .ok (s.1 + 1, s.2) else .error 4)
  else if t.kind = 18 then .ok (s.1, s.2 ++ [t.num])
  else .ok s
mutual
/-- a node and those in it. -/
def chkT : Tr → St → Except Int St
  | .mk k a b c d e f kids, s => match nodeS (.mk k a b c d e f kids) s with
    | .ok s' => chkL kids s'
    | .error z => .error z
def chkL : List Tr → St → Except Int St
  | [], s => .ok s
  | t :: ts, s => match chkT t s with
    | .ok s' => chkL ts s'
    | .error z => .error z
end
theorem chkT_kids (t : Tr) (s : St) : chkT t s = match nodeS t s with | .ok s' => chkL t.kids s' | .error z => .error z := by
  cases t; rfl
theorem chkL_drop {ts : List Tr} {j : Nat} (hj : j < ts.length) (s : St) : chkL (ts.drop j) s = match chkT ts[j] s with | .ok s' => chkL (ts.drop (j + 1)) s' | .error z => .error z := by
  rw [List.drop_eq_getElem_cons hj]; rfl
theorem nodeS_grow {t : Tr} {s s' : St} (h : nodeS t s = .ok s') : s.1 ≤ s'.1 ∧ s'.1 ≤ s.1 + 1 ∧ s'.2.length ≤ s.2.length + 1 := by
  unfold nodeS at h
  split at h
  · cases h
  · split at h
    · cases h
    · split at h
      · cases h
      · split at h
        · split at h
          · cases h; omega
          · cases h
        · split at h
          · split at h
            · cases h; simp; omega
            · cases h
          · split at h
            · cases h; simp <;> omega
            · cases h; omega
mutual
theorem chkT_grow : ∀ (t : Tr) (s s' : St), chkT t s = .ok s' → s.1 ≤ s'.1 ∧ s'.1 ≤ s.1 + szT t ∧ s'.2.length ≤ s.2.length + szT t
  | .mk k a b c d e f kids, s, s', h => by
    rw [chkT_kids] at h
    cases hn : nodeS (.mk k a b c d e f kids) s with
    | error z => rw [hn] at h; cases h
    | ok s1 =>
      rw [hn] at h
      have h1 := nodeS_grow hn
      have h2 := chkL_grow kids s1 s' h
      rw [szT]
      omega
theorem chkL_grow : ∀ (ts : List Tr) (s s' : St), chkL ts s = .ok s' → s.1 ≤ s'.1 ∧ s'.1 ≤ s.1 + szL ts ∧ s'.2.length ≤ s.2.length + szL ts
  | [], s, s', h => by cases h; simp [szL]
  | t :: ts, s, s', h => by
    unfold chkL at h
    cases hn : chkT t s with
    | error z => rw [hn] at h; cases h
    | ok s1 =>
      rw [hn] at h
      have h1 := chkT_grow t s s1 hn
      have h2 := chkL_grow ts s1 s' h
      rw [szL]
      omega
end

/-- a checker: its groups, and what is spoken of. -/
def CK (B : Nat) (w : World) (cb : Nat) (s : St) : Prop :=
  B ≤ cb ∧ ∃ v, w.heap[cb]? = some (.cells #[.int .i64 s.1, v] 64 (0, 0)) ∧ w.ownsRow B 3 1 v s.2.length (i64s s.2) ∧ v.ownBlock ≠ some cb
/-- what node answers. -/
def NodeE (B : Nat) (R : Except Int St) (cb : Nat) (w : World) (e : Ending) (w' : World) : Prop :=
  Below B w w' ∧ ((∃ s', R = .ok s' ∧ e = .returned (.tuple #[]) ∧ CK B w' cb s') ∨ (∃ z, R = .error z ∧ e = .panicked [{ v := .iface 26 (.int .i64 z), recovered := false }]))
theorem own_keep {B e k n : Nat} {w w' : World} {v : Value} {xs : List Value} (h : w.ownsRow B e k v n xs) (hb : Below w.heap.size w w') : w'.ownsRow B e k v n xs := by
  rcases h with ⟨h0, h1⟩
  refine ⟨h0, ?_⟩
  rcases h1 with h1 | ⟨g, cap, cur, h1, h2, h3, h4⟩
  · exact .inl h1
  · exact .inr ⟨g, cap, cur, h1, h2, by rw [hb.block g (lt_of_block h3)]; exact h3, h4⟩
theorem CK.keep {B : Nat} {w w' : World} {cb : Nat} {s : St} (h : CK B w cb s) (hb : Below w.heap.size w w') : CK B w' cb s := by
  obtain ⟨h1, v, h2, h3, h4⟩ := h
  exact ⟨h1, v, by rw [hb.block cb (lt_of_block h2)]; exact h2, own_keep h3 hb, h4⟩

end Go.Proofs.YtpcohmbipbiglaaDoor
