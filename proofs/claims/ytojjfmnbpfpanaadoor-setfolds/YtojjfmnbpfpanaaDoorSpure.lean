/- Sets of points as lists of ranges: what they have, when they are one; ranges that touch made one; stretches; what is between ends. No program. -/
import Derived.WalkKit
namespace Go.Proofs.YtojjfmnbpfpanaaDoor
set_option linter.unusedVariables false

abbrev RL : Type := List (Int × Int)
/-- has it a point. -/
def ins (L : RL) (p : Int) : Bool := L.any fun r => decide (r.1 ≤ p) && decide (p ≤ r.2)
def okR (r : Int × Int) : Prop := 0 ≤ r.1 ∧ r.1 ≤ r.2 ∧ r.2 ≤ 1114111
def Canon (L : RL) : Prop := (∀ r ∈ L, okR r) ∧ L.Pairwise (fun a b => a.2 + 1 < b.1)

theorem ins_nil (p : Int) : ins [] p = false := rfl
theorem ins_cons (r : Int × Int) (L : RL) (p : Int) : ins (r :: L) p = ((decide (r.1 ≤ p) && decide (p ≤ r.2)) || ins L p) := rfl
theorem ins_append (L M : RL) (p : Int) : ins (L ++ M) p = (ins L p || ins M p) := by simp [ins]
theorem ins_iff (L : RL) (p : Int) : ins L p = true ↔ ∃ r ∈ L, r.1 ≤ p ∧ p ≤ r.2 := by simp [ins]
theorem ins_false (L : RL) (p : Int) : ins L p = false ↔ ∀ r ∈ L, ¬ (r.1 ≤ p ∧ p ≤ r.2) := by
  rw [← Bool.not_eq_true, ins_iff]; simp
theorem canon_nil : Canon [] := ⟨by simp, List.Pairwise.nil⟩
theorem canon_cons {r : Int × Int} {L : RL} : Canon (r :: L) ↔ okR r ∧ (∀ x ∈ L, r.2 + 1 < x.1) ∧ Canon L := by
  unfold Canon
  rw [List.pairwise_cons]
  constructor
  · rintro ⟨h1, h2, h3⟩
    exact ⟨h1 r (by simp), h2, fun x hx => h1 x (by simp [hx]), h3⟩
  · rintro ⟨h1, h2, h3, h4⟩
    exact ⟨fun x hx => by rcases List.mem_cons.1 hx with rfl | hx; exact h1; exact h3 x hx, h2, h4⟩

/-- a set is what it has. -/
theorem canon_ext : ∀ {L M : RL}, Canon L → Canon M → (∀ p, ins L p = ins M p) → L = M := by
  intro L
  induction L with
  | nil =>
    intro M _ hM h
    cases M with
    | nil => rfl
    | cons r M =>
      have h1 := h r.1
      obtain ⟨ho, _, _⟩ := canon_cons.1 hM
      unfold okR at ho
      simp [ins_nil, ins_cons] at h1
      omega
  | cons r L ih =>
    intro M hL hM h
    obtain ⟨ho, ha, hc⟩ := canon_cons.1 hL
    unfold okR at ho
    cases M with
    | nil =>
      have h1 := h r.1
      simp [ins_nil, ins_cons] at h1
      omega
    | cons s M =>
      obtain ⟨so, sa, sc⟩ := canon_cons.1 hM
      unfold okR at so
      have low : ∀ {x : Int × Int} {K : RL}, (∀ y ∈ K, x.2 + 1 < y.1) → ∀ p, p ≤ x.2 + 1 → ins K p = false := by
        intro x K hx p hp
        rw [ins_false]
        intro y hy
        have := hx y hy
        omega
      have e1 : r.1 = s.1 := by
        have h1 := h r.1
        have h2 := h s.1
        rw [ins_cons, ins_cons] at h1 h2
        by_cases hlt : r.1 < s.1
        · have : ins M r.1 = false := low sa _ (by omega)
          have hd : (decide (r.1 ≤ r.1) && decide (r.1 ≤ r.2)) = true := by simp; omega
          rw [this, hd] at h1
          simp at h1
          omega
        · by_cases hgt : s.1 < r.1
          · have : ins L s.1 = false := low ha _ (by omega)
            have hd : (decide (s.1 ≤ s.1) && decide (s.1 ≤ s.2)) = true := by simp; omega
            rw [this, hd] at h2
            simp at h2
            omega
          · omega
      have e2 : r.2 = s.2 := by
        have h1 := h (r.2 + 1)
        have h2 := h (s.2 + 1)
        rw [ins_cons, ins_cons] at h1 h2
        by_cases hlt : r.2 < s.2
        · have : ins L (r.2 + 1) = false := low ha _ (by omega)
          have hd : (decide (s.1 ≤ r.2 + 1) && decide (r.2 + 1 ≤ s.2)) = true := by simp; omega
          rw [this, hd] at h1
          simp at h1
          omega
        · by_cases hgt : s.2 < r.2
          · have : ins M (s.2 + 1) = false := low sa _ (by omega)
            have hd : (decide (r.1 ≤ s.2 + 1) && decide (s.2 + 1 ≤ r.2)) = true := by simp; omega
            rw [this, hd] at h2
            simp at h2
            omega
          · omega
      have e : r = s := Prod.ext e1 e2
      subst e
      congr 1
      refine ih hc sc fun p => ?_
      have hp := h p
      rw [ins_cons, ins_cons] at hp
      by_cases hle : p ≤ r.2 + 1
      · rw [low ha p hle, low sa p hle]
      · have : (decide (r.1 ≤ p) && decide (p ≤ r.2)) = false := by simp; omega
        simpa [this] using hp

/-- all that it has is below p: no more ranges than p. -/
theorem canon_len_from : ∀ {L : RL} (b : Int), Canon L → 0 ≤ b → (∀ x ∈ L, b ≤ x.1) → ∀ p, b ≤ p → (∀ x ∈ L, x.2 < p) → (L.length : Int) ≤ p - b := by
  intro L
  induction L with
  | nil => intro b _ _ _ p hp _; simp; omega
  | cons r L ih =>
    intro b hL hb hlo p hp hhi
    obtain ⟨ho, ha, hc⟩ := canon_cons.1 hL
    unfold okR at ho
    have h1 := hlo r (by simp)
    have h2 := hhi r (by simp)
    have := ih (r.2 + 1) hc (by omega) (fun x hx => by have := ha x hx; omega) p (by omega) (fun x hx => hhi x (by simp [hx]))
    simp only [List.length_cons]
    omega
theorem canon_len {L : RL} (h : Canon L) (p : Int) (h0 : 0 ≤ p) (hp : ∀ x ∈ L, x.2 < p) : (L.length : Int) ≤ p := by
  have := canon_len_from 0 h (by omega) (fun x hx => (h.1 x hx).1) p h0 hp
  omega

/-- a range put behind: made one with the last, if they touch. -/
def joinStep (O : RL) (r : Int × Int) : RL :=
  match O.getLast? with
  | some last => if r.1 ≤ last.2 + 1 then O.dropLast ++ [(last.1, max last.2 r.2)] else O ++ [r]
  | none => O ++ [r]
def joinL (l : RL) : RL := l.foldl joinStep []
theorem joinStep_nil (r : Int × Int) : joinStep [] r = [r] := rfl
theorem joinStep_in (O : RL) (a b : Int) (r : Int × Int) (h : r.1 ≤ b + 1) : joinStep (O ++ [(a, b)]) r = O ++ [(a, max b r.2)] := by
  simp [joinStep, h]
theorem joinStep_out (O : RL) (a b : Int) (r : Int × Int) (h : ¬ r.1 ≤ b + 1) : joinStep (O ++ [(a, b)]) r = O ++ [(a, b)] ++ [r] := by
  simp [joinStep, h]
theorem joinStep_len (O : RL) (r : Int × Int) : (joinStep O r).length ≤ O.length + 1 := by
  unfold joinStep
  split
  · split
    · simp <;> omega
    · simp
  · simp

theorem canon_snoc {O : RL} {r : Int × Int} : Canon (O ++ [r]) ↔ Canon O ∧ okR r ∧ ∀ x ∈ O, x.2 + 1 < r.1 := by
  unfold Canon
  rw [List.pairwise_append]
  constructor
  · rintro ⟨h1, h2, _, h4⟩
    exact ⟨⟨fun x hx => h1 x (by simp [hx]), h2⟩, h1 r (by simp), fun x hx => h4 x hx r (by simp)⟩
  · rintro ⟨⟨h1, h2⟩, h3, h4⟩
    refine ⟨fun x hx => ?_, h2, List.pairwise_singleton _ _, fun x hx y hy => ?_⟩
    · rcases List.mem_append.1 hx with hx | hx
      · exact h1 x hx
      · simp at hx; subst hx; exact h3
    · simp at hy; subst hy; exact h4 x hx

theorem joinStep_spec {O : RL} {r : Int × Int} (hO : Canon O) (hr : okR r) (hlo : ∀ x ∈ O, x.1 ≤ r.1) :
    Canon (joinStep O r) ∧ (∀ x ∈ joinStep O r, x.1 ≤ r.1) ∧ (∀ p, ins (joinStep O r) p = (ins O p || (decide (r.1 ≤ p) && decide (p ≤ r.2)))) ∧ ∀ t, (∀ x ∈ O, x.2 ≤ t) → r.2 ≤ t → ∀ x ∈ joinStep O r, x.2 ≤ t := by
  rcases List.eq_nil_or_concat O with rfl | ⟨O', y, rfl⟩
  · rw [joinStep_nil]
    refine ⟨canon_cons.2 ⟨hr, by simp, canon_nil⟩, by simp, fun p => by simp [ins], by simp⟩
  · obtain ⟨a, b⟩ := y
    rw [List.concat_eq_append] at hO hlo ⊢
    obtain ⟨h1, h2, h3⟩ := canon_snoc.1 hO
    have hab := hlo (a, b) (by simp)
    unfold okR at hr h2
    simp only at hab h2 h3
    by_cases h : r.1 ≤ b + 1
    · rw [joinStep_in _ _ _ _ h]
      refine ⟨canon_snoc.2 ⟨h1, ⟨h2.1, by simp only; omega, by simp only; omega⟩, h3⟩, ?_, ?_, ?_⟩
      · intro x hx
        rcases List.mem_append.1 hx with hx | hx
        · exact hlo x (by simp [hx])
        · simp at hx; subst hx; exact hab
      · intro p
        rw [ins_append, ins_append, Bool.or_assoc]
        congr 1
        rw [ins_cons, ins_cons, ins_nil, Bool.eq_iff_iff]
        simp
        omega
      · intro t ht hrt x hx
        rcases List.mem_append.1 hx with hx | hx
        · exact ht x (by simp [hx])
        · have := ht (a, b) (by simp)
          simp at hx; subst hx; simp only at this ⊢; omega
    · rw [joinStep_out _ _ _ _ h]
      refine ⟨canon_snoc.2 ⟨hO, hr, ?_⟩, ?_, ?_, ?_⟩
      · intro x hx
        rcases List.mem_append.1 hx with hx | hx
        · have := h3 x hx; omega
        · simp at hx; subst hx; simp only; omega
      · intro x hx
        rcases List.mem_append.1 hx with hx | hx
        · exact hlo x hx
        · simp at hx; subst hx; exact Int.le_refl _
      · intro p
        rw [ins_append (O' ++ [(a, b)])]
        congr 1
        simp [ins]
      · intro t ht hrt x hx
        rcases List.mem_append.1 hx with hx | hx
        · exact ht x hx
        · simp at hx; subst hx; exact hrt

theorem join_from : ∀ (S O : RL), Canon O → (∀ r ∈ S, okR r) → S.Pairwise (fun a b => a.1 ≤ b.1) → (∀ x ∈ O, ∀ r ∈ S, x.1 ≤ r.1) → Canon (S.foldl joinStep O) ∧ ∀ p, ins (S.foldl joinStep O) p = (ins O p || ins S p) := by
  intro S
  induction S with
  | nil => intro O hO _ _ _; exact ⟨hO, fun p => by simp [ins]⟩
  | cons r S ih =>
    intro O hO hok hs hlo
    rw [List.pairwise_cons] at hs
    obtain ⟨h1, h2, h3, _⟩ := joinStep_spec hO (hok r (by simp)) (fun x hx => hlo x hx r (by simp))
    obtain ⟨h4, h5⟩ := ih (joinStep O r) h1 (fun x hx => hok x (by simp [hx])) hs.2 (fun x hx y hy => Int.le_trans (h2 x hx) (hs.1 y hy))
    refine ⟨h4, fun p => ?_⟩
    rw [List.foldl_cons, h5, h3, ins_cons, Bool.or_assoc]
theorem join_spec {S : RL} (hok : ∀ r ∈ S, okR r) (hs : S.Pairwise (fun a b => a.1 ≤ b.1)) : Canon (joinL S) ∧ ∀ p, ins (joinL S) p = ins S p := by
  obtain ⟨h1, h2⟩ := join_from S [] canon_nil hok hs (by simp)
  exact ⟨h1, fun p => by rw [joinL, h2]; simp [ins_nil]⟩
theorem ins_perm {S L : RL} (h : S.Perm L) (p : Int) : ins S p = ins L p := by
  rw [Bool.eq_iff_iff, ins_iff, ins_iff]
  simp [h.mem_iff]

/-- whether a point is in a set, and up to where that stays so. -/
def stretchL : RL → Int → Bool × Int
  | [], _ => (false, 1114111)
  | r :: L, p => if r.2 < p then stretchL L p else if p < r.1 then (false, r.1 - 1) else (true, r.2)
theorem stretch_spec : ∀ {L : RL} {p : Int}, Canon L → 0 ≤ p → p ≤ 1114111 → p ≤ (stretchL L p).2 ∧ (stretchL L p).2 ≤ 1114111 ∧ ∀ q, p ≤ q → q ≤ (stretchL L p).2 → ins L q = (stretchL L p).1 := by
  intro L p
  induction L with
  | nil => intro _ h0 h1; simp [stretchL, ins]; omega
  | cons r L ih =>
    intro hL h0 h1
    obtain ⟨ho, ha, hc⟩ := canon_cons.1 hL
    unfold okR at ho
    unfold stretchL
    split
    · rename_i hlt
      obtain ⟨h2, h3, h4⟩ := ih hc h0 h1
      refine ⟨h2, h3, fun q hq hq2 => ?_⟩
      rw [ins_cons, h4 q hq hq2]
      have : (decide (r.1 ≤ q) && decide (q ≤ r.2)) = false := by simp; omega
      simp [this]
    · rename_i hge
      split
      · rename_i hlt
        refine ⟨by simp only; omega, by simp only; omega, fun q hq hq2 => ?_⟩
        simp only at hq2 ⊢
        rw [ins_false]
        intro x hx
        rcases List.mem_cons.1 hx with rfl | hx
        · omega
        · have := ha x hx; omega
      · refine ⟨by simp only; omega, by simp only; omega, fun q hq hq2 => ?_⟩
        simp only at hq2 ⊢
        rw [ins_cons]
        have : (decide (r.1 ≤ q) && decide (q ≤ r.2)) = true := by simp; omega
        simp [this]
theorem stretch_ins {L : RL} {p : Int} (hL : Canon L) (h0 : 0 ≤ p) (h1 : p ≤ 1114111) : (stretchL L p).1 = ins L p := by
  obtain ⟨h2, _, h3⟩ := stretch_spec hL h0 h1
  exact (h3 p (Int.le_refl _) h2).symm
/-- by the place of the first range that does not end before the point. -/
theorem stretch_at : ∀ (L : RL) (p : Int), ∀ k, k = L.countP (fun r => decide (r.2 < p)) → Canon L → (k = L.length → stretchL L p = (false, 1114111)) ∧ ∀ (h : k < L.length), stretchL L p = if p < L[k].1 then (false, L[k].1 - 1) else (true, L[k].2) := by
  intro L
  induction L with
  | nil => intro p k hk _; simp at hk; subst hk; exact ⟨fun _ => rfl, fun h => by simp at h⟩
  | cons r L ih =>
    intro p k hk hL
    obtain ⟨ho, ha, hc⟩ := canon_cons.1 hL
    unfold okR at ho
    rw [List.countP_cons] at hk
    by_cases hlt : r.2 < p
    · simp only [hlt, decide_true, if_true] at hk
      subst hk
      obtain ⟨h1, h2⟩ := ih p _ rfl hc
      constructor
      · intro he
        unfold stretchL
        rw [if_pos hlt]
        exact h1 (by simpa using he)
      · intro h
        unfold stretchL
        rw [if_pos hlt, h2 (by simpa using h)]
        simp
    · have hz : L.countP (fun r => decide (r.2 < p)) = 0 := by
        rw [List.countP_eq_zero]
        intro x hx
        have := ha x hx
        have := hc.1 x hx
        unfold okR at this
        simp; omega
      simp only [hlt, decide_false, Bool.false_eq_true, if_false, hz] at hk
      subst hk
      constructor
      · intro he; simp at he
      · intro _
        unfold stretchL
        rw [if_neg hlt]
        simp

/-- what is kept up to a point. -/
def Upto (f : Int → Bool) (O : RL) (p : Int) : Prop := Canon O ∧ (∀ x ∈ O, x.2 < p) ∧ ∀ q, ins O q = (decide (0 ≤ q) && decide (q < p) && f q)
theorem upto_zero (f : Int → Bool) : Upto f [] 0 := by
  refine ⟨canon_nil, by simp, fun q => ?_⟩
  rw [ins_nil]
  by_cases h : q < 0 <;> simp [h] <;> omega
theorem upto_yes {f : Int → Bool} {O : RL} {p t : Int} (h : Upto f O p) (h0 : 0 ≤ p) (ht : p ≤ t) (hm : t ≤ 1114111) (hf : ∀ q, p ≤ q → q ≤ t → f q = true) : Upto f (joinStep O (p, t)) (t + 1) := by
  obtain ⟨h1, h2, h3⟩ := h
  obtain ⟨j1, j2, j3, j4⟩ := joinStep_spec (r := (p, t)) h1 ⟨h0, ht, hm⟩ (fun x hx => by have := h2 x hx; have := h1.1 x hx; unfold okR at this; simp only; omega)
  refine ⟨j1, fun x hx => ?_, fun q => ?_⟩
  · have := j4 t (fun x hx => by have := h2 x hx; omega) (Int.le_refl _) x hx
    omega
  · rw [j3, h3]
    simp only
    by_cases hq : p ≤ q ∧ q ≤ t
    · rw [hf q hq.1 hq.2]
      simp [hq, show 0 ≤ q by omega, show q < t + 1 by omega]
    · by_cases hq2 : q < p
      · simp [show ¬ p ≤ q by omega, hq2, show q < t + 1 by omega]
      · simp [hq2, show ¬ q ≤ t by omega, show ¬ q < t + 1 by omega]
theorem upto_no {f : Int → Bool} {O : RL} {p t : Int} (h : Upto f O p) (ht : p ≤ t) (hf : ∀ q, p ≤ q → q ≤ t → f q = false) : Upto f O (t + 1) := by
  obtain ⟨h1, h2, h3⟩ := h
  refine ⟨h1, fun x hx => by have := h2 x hx; omega, fun q => ?_⟩
  rw [h3]
  by_cases hq : p ≤ q ∧ q ≤ t
  · rw [hf q hq.1 hq.2]; simp
  · by_cases hq2 : q < p
    · simp [hq2, show q < t + 1 by omega]
    · simp [hq2, show ¬ q < t + 1 by omega]
/-- the set of all points of which f says yes. -/
def IsSet (f : Int → Bool) (O : RL) : Prop := Canon O ∧ ∀ q, ins O q = (decide (0 ≤ q) && decide (q ≤ 1114111) && f q)
theorem upto_all {f : Int → Bool} {O : RL} {p : Int} (h : Upto f O p) (hp : p = 1114112) : IsSet f O := by
  subst hp
  refine ⟨h.1, fun q => ?_⟩
  rw [h.2.2 q]
  by_cases hq : q ≤ 1114111
  · simp [hq, show q < 1114112 by omega]
  · simp [hq, show ¬ q < 1114112 by omega]
theorem isSet_one {f : Int → Bool} {O O' : RL} (h : IsSet f O) (h' : IsSet f O') : O = O' :=
  canon_ext h.1 h'.1 fun p => by rw [h.2, h'.2]
theorem canon_pt {L : RL} (h : Canon L) (q : Int) (hq : ins L q = true) : 0 ≤ q ∧ q ≤ 1114111 := by
  obtain ⟨r, hr, h1, h2⟩ := (ins_iff _ _).1 hq
  have := h.1 r hr
  unfold okR at this
  omega
theorem isSet_self {L : RL} (h : Canon L) : IsSet (ins L) L := by
  refine ⟨h, fun q => ?_⟩
  by_cases hq : ins L q = true
  · have := canon_pt h q hq
    simp [hq, this]
  · simp [hq]
theorem isSet_congr {f g : Int → Bool} {L : RL} (h : IsSet f L) (hfg : ∀ q, 0 ≤ q → q ≤ 1114111 → f q = g q) : IsSet g L := by
  refine ⟨h.1, fun q => ?_⟩
  rw [h.2]
  by_cases hq : 0 ≤ q ∧ q ≤ 1114111
  · rw [hfg q hq.1 hq.2]
  · have : (decide (0 ≤ q) && decide (q ≤ 1114111)) = false := by simp; omega
    rw [this]; rfl

end Go.Proofs.YtojjfmnbpfpanaaDoor
