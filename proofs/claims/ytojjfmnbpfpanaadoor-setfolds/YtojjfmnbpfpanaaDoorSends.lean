/- Ends in their order, and the set of what is so between them. No program. -/
import Derived.Test.YtojjfmnbpfpanaaDoorSpure
namespace Go.Proofs.YtojjfmnbpfpanaaDoor
set_option linter.unusedVariables false

/-- how many stand below. -/
def atL (l : List Int) (e : Int) : Nat := (l.takeWhile fun x => decide (x < e)).length
/-- an end put where it belongs, if it is a point and not there. -/
def endIns (l : List Int) (e : Int) : List Int :=
  if (0 ≤ e ∧ e ≤ 1114111) ∧ l[atL l e]? ≠ some e then l.take (atL l e) ++ e :: l.drop (atL l e) else l
theorem atL_le (l : List Int) (e : Int) : atL l e ≤ l.length := (List.takeWhile_prefix _).length_le
theorem atL_below (l : List Int) (e : Int) : ∀ x ∈ l.take (atL l e), x < e := by
  unfold atL
  intro x hx
  rw [← List.prefix_iff_eq_take.1 (List.takeWhile_prefix _)] at hx
  have := List.all_takeWhile (p := fun x => decide (x < e)) (l := l)
  rw [List.all_eq_true] at this
  simpa using this x hx
theorem atL_at (l : List Int) (e : Int) (h : atL l e < l.length) : e ≤ l[atL l e] := by
  induction l with
  | nil => simp at h
  | cons x l ih =>
    by_cases hx : x < e
    · have e1 : atL (x :: l) e = atL l e + 1 := by simp [atL, hx]
      have h' : atL l e < l.length := by rw [e1] at h; simpa using h
      have := ih h'
      simpa [e1] using this
    · have e1 : atL (x :: l) e = 0 := by simp [atL, hx]
      simp [e1]; omega
/-- found by going on: all before are below, this one is not. -/
theorem atL_is {l : List Int} {e : Int} {k : Nat} (hk : k ≤ l.length) (hb : ∀ (j : Nat) (h : j < k), l[j]'(by omega) < e) (ha : ∀ h : k < l.length, ¬ l[k] < e) : atL l e = k := by
  induction l generalizing k with
  | nil => simp at hk; subst hk; rfl
  | cons x l ih =>
    match k with
    | 0 =>
      have := ha (by simp)
      simp at this
      simp [atL, show ¬ x < e by omega]
    | k + 1 =>
      have h0 := hb 0 (by omega)
      simp at h0
      have := ih (k := k) (by simpa using hk) (fun j hj => by simpa using hb (j + 1) (by omega)) (fun h => by have := ha (by simpa using h); rw [List.getElem_cons_succ] at this; exact this)
      simp [atL, h0] at this ⊢
      exact this
/-- ends that rise, from 0 on. -/
def Ends (l : List Int) : Prop := l.Pairwise (· < ·) ∧ l[0]? = some 0 ∧ ∀ x ∈ l, 0 ≤ x ∧ x ≤ 1114111
theorem ends_zero : Ends [0] := ⟨List.pairwise_singleton _ _, rfl, by simp⟩
theorem mem_endIns (l : List Int) (e x : Int) : x ∈ endIns l e ↔ x ∈ l ∨ (x = e ∧ 0 ≤ e ∧ e ≤ 1114111) := by
  unfold endIns
  split
  · rename_i h
    simp only [List.mem_append, List.mem_cons]
    have : x ∈ l ↔ x ∈ l.take (atL l e) ∨ x ∈ l.drop (atL l e) := by rw [← List.mem_append, List.take_append_drop]
    rw [this]
    constructor
    · rintro (h1 | rfl | h1)
      · exact .inl (.inl h1)
      · exact .inr ⟨rfl, h.1⟩
      · exact .inl (.inr h1)
    · rintro ((h1 | h1) | ⟨rfl, _⟩)
      · exact .inl h1
      · exact .inr (.inr h1)
      · exact .inr (.inl rfl)
  · rename_i h
    constructor
    · exact .inl
    · rintro (h1 | ⟨rfl, h2⟩)
      · exact h1
      · by_cases h3 : l[atL l x]? = some x
        · exact List.mem_of_getElem? h3
        · exact absurd ⟨h2, h3⟩ h
theorem ends_ins {l : List Int} (h : Ends l) (e : Int) : Ends (endIns l e) := by
  obtain ⟨h1, h2, h3⟩ := h
  refine ⟨?_, ?_, ?_⟩
  · unfold endIns
    split
    · rename_i hc
      have hs : (l.take (atL l e) ++ l.drop (atL l e)).Pairwise (· < ·) := by rw [List.take_append_drop]; exact h1
      rw [List.pairwise_append] at hs
      have hd : ∀ y ∈ l.drop (atL l e), e < y := by
        intro y hy
        obtain ⟨j, hj, rfl⟩ := List.mem_iff_getElem.1 hy
        rw [List.getElem_drop]
        rw [List.length_drop] at hj
        have ha := atL_at l e (by omega)
        rw [List.pairwise_iff_getElem] at h1
        by_cases hj0 : j = 0
        · subst hj0
          have : l[atL l e]? ≠ some e := hc.2
          rw [List.getElem?_eq_getElem (by omega)] at this
          simp at this ⊢
          omega
        · have := h1 (atL l e) (atL l e + j) (by omega) (by omega) (by omega)
          omega
      rw [List.pairwise_append]
      refine ⟨hs.1, List.pairwise_cons.2 ⟨hd, hs.2.1⟩, fun x hx y hy => ?_⟩
      have hxe := atL_below l e x hx
      rcases List.mem_cons.1 hy with rfl | hy
      · exact hxe
      · have := hd y hy; omega
    · exact h1
  · unfold endIns
    split
    · rename_i hc
      have hp : 0 < atL l e := by
        rcases Nat.eq_zero_or_pos (atL l e) with h0 | h0
        · exfalso
          have hl : 0 < l.length := by
            rcases Nat.eq_zero_or_pos l.length with h | h
            · rw [List.getElem?_eq_none (by omega)] at h2; cases h2
            · exact h
          have ha := atL_at l e (by omega)
          have e0 : l[0] = 0 := by rw [List.getElem?_eq_getElem hl] at h2; simpa using h2
          have : l[atL l e] = 0 := by simp only [h0]; exact e0
          have hne := hc.2
          rw [List.getElem?_eq_getElem (by omega), this] at hne
          simp at hne
          omega
        · exact h0
      rw [List.getElem?_append_left (by rw [List.length_take]; have := atL_le l e; omega), List.getElem?_take_of_lt hp]
      exact h2
    · exact h2
  · intro x hx
    rcases (mem_endIns l e x).1 hx with hx | ⟨rfl, hx⟩
    · exact h3 x hx
    · exact hx
theorem ends_fold (es : List Int) : ∀ l, Ends l → Ends (es.foldl endIns l) ∧ ∀ x, x ∈ es.foldl endIns l ↔ x ∈ l ∨ (x ∈ es ∧ 0 ≤ x ∧ x ≤ 1114111) := by
  induction es with
  | nil => intro l h; exact ⟨h, by simp⟩
  | cons e es ih =>
    intro l h
    obtain ⟨h1, h2⟩ := ih (endIns l e) (ends_ins h e)
    refine ⟨h1, fun x => ?_⟩
    rw [List.foldl_cons, h2, mem_endIns, List.mem_cons]
    constructor
    · rintro ((h3 | ⟨rfl, h3⟩) | ⟨h3, h4⟩)
      · exact .inl h3
      · exact .inr ⟨.inl rfl, h3⟩
      · exact .inr ⟨.inr h3, h4⟩
    · rintro (h3 | ⟨rfl | h3, h4⟩)
      · exact .inl (.inl h3)
      · exact .inl (.inr ⟨rfl, h4⟩)
      · exact .inr ⟨h3, h4⟩
theorem endIns_len (l : List Int) (e : Int) : (endIns l e).length ≤ l.length + 1 := by
  unfold endIns
  have := atL_le l e
  split
  · simp; omega
  · omega
theorem ends_len (es : List Int) : ∀ l : List Int, (es.foldl endIns l).length ≤ l.length + es.length := by
  induction es with
  | nil => intro l; simp
  | cons e es ih =>
    intro l
    have := ih (endIns l e)
    have := endIns_len l e
    simp only [List.foldl_cons, List.length_cons]
    omega

def endsL (A : RL) : List Int := A.flatMap fun r => [r.1, r.2 + 1]
theorem endsL_len (A : RL) : (endsL A).length = A.length * 2 := by
  induction A with
  | nil => rfl
  | cons r A ih => simp [endsL] at ih ⊢; omega
theorem endsL_append (A B : RL) : endsL (A ++ B) = endsL A ++ endsL B := by simp [endsL]
/-- nothing changes where there is no end. -/
theorem ins_stays {A : RL} {p q : Int} (hpq : p ≤ q) (h : ∀ e ∈ endsL A, ¬ (p < e ∧ e ≤ q)) : ins A q = ins A p := by
  induction A with
  | nil => rfl
  | cons r A ih =>
    rw [ins_cons, ins_cons, ih (fun e he => h e (by simp [endsL] at he ⊢; right; right; exact he))]
    have h1 := h r.1 (by simp [endsL])
    have h2 := h (r.2 + 1) (by simp [endsL])
    congr 1
    rw [Bool.eq_iff_iff]
    simp
    omega
/-- the place behind the k-th end. -/
def nextE (l : List Int) (k : Nat) : Int := match l[k + 1]? with | some x => x | none => 1114112
theorem nextE_in {l : List Int} {k : Nat} (h : k + 1 < l.length) : nextE l k = l[k + 1] := by simp [nextE, h]
theorem nextE_out {l : List Int} {k : Nat} (h : ¬ k + 1 < l.length) : nextE l k = 1114112 := by
  unfold nextE; rw [List.getElem?_eq_none (by omega)]
theorem nextE_gt {l : List Int} (hl : Ends l) {k : Nat} (hk : k < l.length) : l[k] < nextE l k ∧ nextE l k ≤ 1114112 := by
  obtain ⟨h1, _, h3⟩ := hl
  have h4 := h3 l[k] (List.getElem_mem _)
  by_cases h : k + 1 < l.length
  · rw [nextE_in h]
    rw [List.pairwise_iff_getElem] at h1
    have := h3 l[k + 1] (List.getElem_mem _)
    exact ⟨h1 k (k + 1) hk h (by omega), by omega⟩
  · rw [nextE_out h]; omega
theorem no_between {l : List Int} (hl : Ends l) {k : Nat} (hk : k < l.length) {x : Int} (hx : x ∈ l) : ¬ (l[k] < x ∧ x < nextE l k) := by
  rintro ⟨h1, h2⟩
  obtain ⟨j, hj, rfl⟩ := List.mem_iff_getElem.1 hx
  have hp := hl.1
  rw [List.pairwise_iff_getElem] at hp
  rcases Nat.lt_trichotomy j k with h | h | h
  · have := hp j k hj hk h; omega
  · subst h; omega
  · by_cases hk1 : k + 1 < l.length
    · rw [nextE_in hk1] at h2
      by_cases hj1 : j = k + 1
      · subst hj1; omega
      · have := hp (k + 1) j hk1 hj (by omega); omega
    · omega
/-- what is said of two sets stays as it is between ends. -/
theorem stays_two {A B : RL} (g : Bool → Bool → Bool) {l : List Int} (hl : Ends l) (hm : ∀ x, x ∈ endsL A ∨ x ∈ endsL B → 0 ≤ x → x ≤ 1114111 → x ∈ l) {k : Nat} (hk : k < l.length) : ∀ q, l[k] ≤ q → q < nextE l k → g (ins A q) (ins B q) = g (ins A l[k]) (ins B l[k]) := by
  intro q h1 h2
  have h3 := hl.2.2 l[k] (List.getElem_mem _)
  have h4 := nextE_gt hl hk
  rw [ins_stays (A := A) h1 (fun e he hc => no_between hl hk (hm e (.inl he) (by omega) (by omega)) ⟨hc.1, by omega⟩), ins_stays (A := B) h1 (fun e he hc => no_between hl hk (hm e (.inr he) (by omega) (by omega)) ⟨hc.1, by omega⟩)]

/-- a round of what is built. -/
def setStep (f : Int → Bool) (l : List Int) (O : RL) (k : Nat) : RL := if f (l[k]?.getD 0) then joinStep O (l[k]?.getD 0, nextE l k - 1) else O
def Stays (f : Int → Bool) (l : List Int) : Prop := ∀ k (h : k < l.length) q, l[k] ≤ q → q < nextE l k → f q = f l[k]
/-- up to the k-th end. -/
def endAt (l : List Int) (k : Nat) : Int := match l[k]? with | some x => x | none => 1114112
theorem endAt_in {l : List Int} {k : Nat} (h : k < l.length) : endAt l k = l[k] := by simp [endAt, h]
theorem endAt_next (l : List Int) (k : Nat) : endAt l (k + 1) = nextE l k := rfl
theorem endAt_zero {l : List Int} (hl : Ends l) : endAt l 0 = 0 := by unfold endAt; rw [hl.2.1]
theorem upto_step {f : Int → Bool} {l : List Int} (hl : Ends l) (hs : Stays f l) {O : RL} {k : Nat} (hk : k < l.length) (h : Upto f O (endAt l k)) : Upto f (if f l[k] then joinStep O (l[k], nextE l k - 1) else O) (endAt l (k + 1)) := by
  rw [endAt_in hk] at h
  rw [endAt_next]
  have h1 := nextE_gt hl hk
  have h2 := hl.2.2 l[k] (List.getElem_mem _)
  have e : nextE l k = nextE l k - 1 + 1 := by omega
  by_cases hf : f l[k] = true
  · rw [if_pos hf, e]
    have e' : nextE l k - 1 + 1 - 1 = nextE l k - 1 := by omega
    rw [e']
    exact upto_yes h h2.1 (by omega) (by omega) (fun q hq hq2 => by rw [hs k hk q hq (by omega), hf])
  · rw [if_neg hf, e]
    exact upto_no h (by omega) (fun q hq hq2 => by rw [hs k hk q hq (by omega)]; simpa using hf)
/-- made one just where the last one ends. -/
theorem joinStep_eq {f : Int → Bool} {O : RL} {a b p t : Int} (h : Upto f (O ++ [(a, b)]) p) (ht : p ≤ t) : joinStep (O ++ [(a, b)]) (p, t) = if b = p - 1 then O ++ [(a, t)] else O ++ [(a, b)] ++ [(p, t)] := by
  have := h.2.1 (a, b) (by simp)
  simp only at this
  by_cases hb : b = p - 1
  · rw [if_pos hb, joinStep_in _ _ _ _ (by simp only; omega)]
    simp only
    rw [show max b t = t by omega]
  · rw [if_neg hb, joinStep_out _ _ _ _ (by simp only; omega)]

end Go.Proofs.YtojjfmnbpfpanaaDoor
