/- Widths of trees, as functions. -/
import Derived.Test.YtdipfaahlofmgaaNchk
import Derived.Test.YtdipfaahlofmgaaNfun
namespace Go.Proofs.Ytdipfaahlofmgaa
open Go.RowKit
set_option linter.unusedVariables false

structure FT where
  least : Int
  most : Int
  plain : Bool
abbrev ftV (f : FT) : Value := .agg #[.int .i64 f.least, .int .i64 f.most, .bool f.plain]
abbrev ftO (f : FT) : Obj := .cells #[.int .i64 f.least, .int .i64 f.most, .bool f.plain] 27
def addF (a b : FT) : FT := ⟨leastF (a.least + b.least), addM a.most b.most, a.plain && b.plain⟩
def orF (a b : FT) : FT := ⟨if a.least < b.least then a.least else b.least, maxM a.most b.most, a.plain && b.plain⟩
def repF (f : FT) (least most : Int) : FT := ⟨leastF (f.least * least), timM f.most most, f.plain⟩
def foldF (op : FT → FT → FT) : List FT → FT
  | [] => ⟨0, 0, false⟩
  | f :: fs => fs.foldl op f
def headF : List FT → FT
  | [] => ⟨0, 0, false⟩
  | f :: _ => f
def factK (k least most : Int) (l : List FT) : FT :=
  if k = 1 then ⟨0, 0, true⟩
  else if k = 2 then ⟨1, 1, true⟩
  else if k = 9 then foldF addF l
  else if k = 10 then foldF orF l
  else if k = 11 ∨ k = 13 then headF l
  else if k = 12 then repF (headF l) least most
  else if k = 18 then ⟨0, -1, false⟩
  else ⟨0, 0, false⟩
mutual
/-- what a tree takes. -/
def factT : Tr → FT
  | .mk k _ least most _ _ _ kids => factK k least most (factL kids)
def factL : List Tr → List FT
  | [] => []
  | t :: ts => factT t :: factL ts
end
theorem factL_len : ∀ ts : List Tr, (factL ts).length = ts.length
  | [] => rfl
  | t :: ts => by rw [factL, List.length_cons, List.length_cons, factL_len ts]
theorem factL_get : ∀ (ts : List Tr) (j : Nat) (hj : j < ts.length), (factL ts)[j]? = some (factT ts[j])
  | t :: ts, 0, _ => by rw [factL]; rfl
  | t :: ts, j + 1, hj => by rw [factL, List.getElem?_cons_succ]; exact factL_get ts j (by simpa using hj)

/-- numbers that fit. -/
def okF (f : FT) : Prop := 0 ≤ f.least ∧ f.least ≤ 1000000 ∧ -1 ≤ f.most ∧ f.most ≤ 1000000
theorem addF_ok {a b : FT} (ha : okF a) (hb : okF b) : okF (addF a b) := by
  unfold okF at *
  simp only [addF, leastF, addM, mostF]
  refine ⟨?_, ?_, ?_, ?_⟩ <;> (repeat' split) <;> omega
theorem orF_ok {a b : FT} (ha : okF a) (hb : okF b) : okF (orF a b) := by
  unfold okF at *
  simp only [orF, maxM]
  refine ⟨?_, ?_, ?_, ?_⟩ <;> (repeat' split) <;> omega
theorem repF_ok {f : FT} {l m : Int} (hf : okF f) (hl : 0 ≤ l ∧ l ≤ 100) (hm : -1 ≤ m ∧ m ≤ 100) : okF (repF f l m) := by
  obtain ⟨f0, f1, f2, f3⟩ := hf
  have h1 := mul_small f0 f1 hl.1 hl.2
  have h2 : ¬ (f.most = 0 ∨ m = 0) → ¬ (f.most < 0 ∨ m < 0) → 0 ≤ f.most * m := fun a b => Int.mul_nonneg (by omega) (by omega)
  unfold okF
  simp only [repF, leastF, timM, mostF]
  refine ⟨?_, ?_, ?_, ?_⟩
  · split <;> omega
  · split <;> omega
  · split
    · omega
    · split
      · omega
      · rename_i a b
        have := h2 a b
        split <;> omega
  · split
    · omega
    · split
      · omega
      · split <;> omega

/-- a tree that was checked. -/
def good (t : Tr) : Prop := ∃ s s' : St, chkT t s = .ok s'
theorem good_node {t : Tr} (h : good t) : (1 ≤ t.kind ∧ t.kind ≤ 18) ∧ kidsB t = true ∧ (t.kind = 12 → repE t = 0) := by
  obtain ⟨s, s', h⟩ := h
  rw [chkT_kids] at h
  cases hn : nodeS t s with
  | error z => rw [hn] at h; cases h
  | ok s1 =>
    unfold nodeS at hn
    split at hn
    · cases hn
    · rename_i h1
      split at hn
      · cases hn
      · rename_i h2
        have h2' : (kidsB t && fieldsB t) = true := by simpa using h2
        rw [Bool.and_eq_true] at h2'
        split at hn
        · cases hn
        · refine ⟨by omega, h2'.1, fun hk => ?_⟩
          rw [if_pos hk] at hn
          split at hn
          · rename_i h4; exact h4
          · cases hn
theorem chkL_kids : ∀ (ts : List Tr) (s s' : St), chkL ts s = .ok s' → ∀ j (hj : j < ts.length), good ts[j]
  | t :: ts, s, s', h, j, hj => by
    unfold chkL at h
    cases hn : chkT t s with
    | error z => rw [hn] at h; cases h
    | ok s1 =>
      rw [hn] at h
      cases j with
      | zero => exact ⟨s, s1, hn⟩
      | succ j => exact chkL_kids ts s1 s' h j (by simpa using hj)
theorem good_kids {t : Tr} (h : good t) : ∀ j (hj : j < t.kids.length), good t.kids[j] := by
  obtain ⟨s, s', h⟩ := h
  rw [chkT_kids] at h
  cases hn : nodeS t s with
  | error z => rw [hn] at h; cases h
  | ok s1 => rw [hn] at h; exact chkL_kids _ _ _ h
theorem foldl_ok {op : FT → FT → FT} (hop : ∀ a b, okF a → okF b → okF (op a b)) : ∀ (l : List FT) (a : FT), okF a → (∀ f ∈ l, okF f) → okF (l.foldl op a) := by
  intro l
  induction l with
  | nil => intro a ha _; exact ha
  | cons f l ih => intro a ha h; exact ih _ (hop _ _ ha (h f (by simp))) (fun x hx => h x (by simp [hx]))
theorem foldF_ok {op : FT → FT → FT} (hop : ∀ a b, okF a → okF b → okF (op a b)) {l : List FT} (h : ∀ f ∈ l, okF f) : okF (foldF op l) := by
  cases l with
  | nil => unfold okF foldF; simp
  | cons f l => exact foldl_ok hop l f (h f (by simp)) (fun x hx => h x (by simp [hx]))
theorem headF_ok {l : List FT} (h : ∀ f ∈ l, okF f) : okF (headF l) := by
  cases l with
  | nil => unfold okF headF; simp
  | cons f l => exact h f (by simp)
theorem factK_ok {t : Tr} (h : good t) {l : List FT} (hl : ∀ f ∈ l, okF f) : okF (factK t.kind t.least t.most l) := by
  have hg := good_node h
  unfold factK
  split
  · unfold okF; simp
  · split
    · unfold okF; simp
    · split
      · exact foldF_ok (fun a b => addF_ok) hl
      · split
        · exact foldF_ok (fun a b => orF_ok) hl
        · split
          · exact headF_ok hl
          · split
            · rename_i h12
              have hr := hg.2.2 h12
              unfold repE at hr
              split at hr
              · omega
              · split at hr
                · omega
                · exact repF_ok (headF_ok hl) (by omega) (by omega)
            · split
              · unfold okF; simp
              · unfold okF; simp
mutual
theorem factT_ok : ∀ t : Tr, good t → okF (factT t)
  | .mk k a b c d e f kids, h => by
    rw [factT]
    exact factK_ok (t := .mk k a b c d e f kids) h (fun x hx => by
      obtain ⟨j, hj, rfl⟩ := List.getElem_of_mem hx
      rw [factL_len] at hj
      exact factL_ok kids (fun j hj => good_kids h j hj) _ hx)
theorem factL_ok : ∀ ts : List Tr, (∀ j (hj : j < ts.length), good ts[j]) → ∀ f ∈ factL ts, okF f
  | [], _, f, hf => by cases hf
  | t :: ts, h, f, hf => by
    rw [factL] at hf
    rcases List.mem_cons.1 hf with rfl | hf
    · exact factT_ok t (h 0 (by simp))
    · exact factL_ok ts (fun j hj => h (j + 1) (by simpa using hj)) f hf
end

end Go.Proofs.Ytdipfaahlofmgaa
