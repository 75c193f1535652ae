/- Sets of points as lists of ranges: what they have, when they are one; ranges that touch made one; stretches; what is between ends. No program. -/
import Derived.WalkKit
import Derived.Test.YtklbbbldalmnbaaGreatDoorProg
import Derived.WalkLawsBesides
import Derived.Handy
import Derived.BigQuiet
import Derived.Deep.QuietTactic
import Derived.OneCell
namespace Go.Proofs.YtklbbbldalmnbaaGreatDoor
set_option linter.unusedVariables false

abbrev RL : Type := List (Int × Int)
/-- has it a point. -/
def ins (L : RL) (p : Int) : Bool := L.any fun r => decide (r.1 ≤ p) && decide (p ≤ r.2)
def okR (r : Int × Int) : Prop := 0 ≤ r.1 ∧ r.1 ≤ r.2 ∧ r.2 ≤ 1114111
def Canon (L : RL) : Prop := (∀ r ∈ L, okR r) ∧ L.Pairwise (fun a b => a.2 + 1 < b.1)

theorem ins_nil (p : Int) : ins [] p = false := rfl
theorem ins_cons (r : Int × Int) (L : RL) (p : Int) : ins (r :: L) p = ((decide (r.1 ≤ p) && decide (p ≤ r.2)) || ins L p) := rfl
theorem ins_append (L M : RL) (p : Int) : ins (L ++ M) p = (ins L p || ins M p) := by simp [ins]
theorem ins_iff (L : RL) (p : Int) : ins L p = true ↔ ∃ r ∈ L, r.1 ≤ p ∧ p ≤ r.2 := by simp [ins]
theorem ins_false (L : RL) (p : Int) : ins L p = false ↔ ∀ r ∈ L, ¬ (r.1 ≤ p ∧ p ≤ r.2) := by
  rw [← Bool.not_eq_true, ins_iff]; simp
theorem canon_nil : Canon [] := ⟨by simp, List.Pairwise.nil⟩
theorem canon_cons {r : Int × Int} {L : RL} : Canon (r :: L) ↔ okR r ∧ (∀ x ∈ L, r.2 + 1 < x.1) ∧ Canon L := by
  unfold Canon
  rw [List.pairwise_cons]
  constructor
  · rintro ⟨h1, h2, h3⟩
    exact ⟨h1 r (by simp), h2, fun x hx => h1 x (by simp [hx]), h3⟩
  · rintro ⟨h1, h2, h3, h4⟩
    exact ⟨fun x hx => by rcases List.mem_cons.1 hx with rfl | hx; exact h1; exact h3 x hx, h2, h4⟩

/-- a set is what it has. -/
theorem canon_ext : ∀ {L M : RL}, Canon L → Canon M → (∀ p, ins L p = ins M p) → L = M := by
  intro L
  induction L with
  | nil =>
    intro M _ hM h
    cases M with
    | nil => rfl
    | cons r M =>
      have h1 := h r.1
      obtain ⟨ho, _, _⟩ := canon_cons.1 hM
      unfold okR at ho
      simp [ins_nil, ins_cons] at h1
      omega
  | cons r L ih =>
    intro M hL hM h
    obtain ⟨ho, ha, hc⟩ := canon_cons.1 hL
    unfold okR at ho
    cases M with
    | nil =>
      have h1 := h r.1
      simp [ins_nil, ins_cons] at h1
      omega
    | cons s M =>
      obtain ⟨so, sa, sc⟩ := canon_cons.1 hM
      unfold okR at so
      have low : ∀ {x : Int × Int} {K : RL}, (∀ y ∈ K, x.2 + 1 < y.1) → ∀ p, p ≤ x.2 + 1 → ins K p = false := by
        intro x K hx p hp
        rw [ins_false]
        intro y hy
        have := hx y hy
        omega
      have e1 : r.1 = s.1 := by
        have h1 := h r.1
        have h2 := h s.1
        rw [ins_cons, ins_cons] at h1 h2
        by_cases hlt : r.1 < s.1
        · have : ins M r.1 = false := low sa _ (by omega)
          have hd : (decide (r.1 ≤ r.1) && decide (r.1 ≤ r.2)) = true := by simp; omega
          rw [this, hd] at h1
          simp at h1
          omega
        · by_cases hgt : s.1 < r.1
          · have : ins L s.1 = false := low ha _ (by omega)
            have hd : (decide (s.1 ≤ s.1) && decide (s.1 ≤ s.2)) = true := by simp; omega
            rw [this, hd] at h2
            simp at h2
            omega
          · omega
      have e2 : r.2 = s.2 := by
        have h1 := h (r.2 + 1)
        have h2 := h (s.2 + 1)
        rw [ins_cons, ins_cons] at h1 h2
        by_cases hlt : r.2 < s.2
        · have : ins L (r.2 + 1) = false := low ha _ (by omega)
          have hd : (decide (s.1 ≤ r.2 + 1) && decide (r.2 + 1 ≤ s.2)) = true := by simp; omega
          rw [this, hd] at h1
          simp at h1
          omega
        · by_cases hgt : s.2 < r.2
          · have : ins M (s.2 + 1) = false := low sa _ (by omega)
            have hd : (decide (r.1 ≤ s.2 + 1) && decide (s.2 + 1 ≤ r.2)) = true := by simp; omega
            rw [this, hd] at h2
            simp at h2
            omega
          · omega
      have e : r = s := Prod.ext e1 e2
      subst e
      congr 1
      refine ih hc sc fun p => ?_
      have hp := h p
      rw [ins_cons, ins_cons] at hp
      by_cases hle : p ≤ r.2 + 1
      · rw [low ha p hle, low sa p hle]
      · have : (decide (r.1 ≤ p) && decide (p ≤ r.2)) = false := by simp; omega
        simpa [this] using hp

/-- all that it has is below p: no more ranges than p. -/
theorem canon_len_from : ∀ {L : RL} (b : Int), Canon L → 0 ≤ b → (∀ x ∈ L, b ≤ x.1) → ∀ p, b ≤ p → (∀ x ∈ L, x.2 < p) → (L.length : Int) ≤ p - b := by
  intro L
  induction L with
  | nil => intro b _ _ _ p hp _; simp; omega
  | cons r L ih =>
    intro b hL hb hlo p hp hhi
    obtain ⟨ho, ha, hc⟩ := canon_cons.1 hL
    unfold okR at ho
    have h1 := hlo r (by simp)
    have h2 := hhi r (by simp)
    have := ih (r.2 + 1) hc (by omega) (fun x hx => by have := ha x hx; omega) p (by omega) (fun x hx => hhi x (by simp [hx]))
    simp only [List.length_cons]
    omega
theorem canon_len {L : RL} (h : Canon L) (p : Int) (h0 : 0 ≤ p) (hp : ∀ x ∈ L, x.2 < p) : (L.length : Int) ≤ p := by
  have := canon_len_from 0 h (by omega) (fun x hx => (h.1 x hx).1) p h0 hp
  omega

/-- a range put behind: made one with the last, if they touch. -/
def joinStep (O : RL) (r : Int × Int) : RL :=
  match O.getLast? with
  | some last => if r.1 ≤ last.2 + 1 then O.dropLast ++ [(last.1, max last.2 r.2)] else O ++ [r]
  | none => O ++ [r]
def joinL (l : RL) : RL := l.foldl joinStep []
theorem joinStep_nil (r : Int × Int) : joinStep [] r = [r] := rfl
theorem joinStep_in (O : RL) (a b : Int) (r : Int × Int) (h : r.1 ≤ b + 1) : joinStep (O ++ [(a, b)]) r = O ++ [(a, max b r.2)] := by
  simp [joinStep, h]
theorem joinStep_out (O : RL) (a b : Int) (r : Int × Int) (h : ¬ r.1 ≤ b + 1) : joinStep (O ++ [(a, b)]) r = O ++ [(a, b)] ++ [r] := by
  simp [joinStep, h]
theorem joinStep_len (O : RL) (r : Int × Int) : (joinStep O r).length ≤ O.length + 1 := by
  unfold joinStep
  split
  · split
    · simp <;> omega
    · simp
  · simp

theorem canon_snoc {O : RL} {r : Int × Int} : Canon (O ++ [r]) ↔ Canon O ∧ okR r ∧ ∀ x ∈ O, x.2 + 1 < r.1 := by
  unfold Canon
  rw [List.pairwise_append]
  constructor
  · rintro ⟨h1, h2, _, h4⟩
    exact ⟨⟨fun x hx => h1 x (by simp [hx]), h2⟩, h1 r (by simp), fun x hx => h4 x hx r (by simp)⟩
  · rintro ⟨⟨h1, h2⟩, h3, h4⟩
    refine ⟨fun x hx => ?_, h2, List.pairwise_singleton _ _, fun x hx y hy => ?_⟩
    · rcases List.mem_append.1 hx with hx | hx
      · exact h1 x hx
      · simp at hx; subst hx; exact h3
    · simp at hy; subst hy; exact h4 x hx

theorem joinStep_spec {O : RL} {r : Int × Int} (hO : Canon O) (hr : okR r) (hlo : ∀ x ∈ O, x.1 ≤ r.1) :
    Canon (joinStep O r) ∧ (∀ x ∈ joinStep O r, x.1 ≤ r.1) ∧ (∀ p, ins (joinStep O r) p = (ins O p || (decide (r.1 ≤ p) && decide (p ≤ r.2)))) ∧ ∀ t, (∀ x ∈ O, x.2 ≤ t) → r.2 ≤ t → ∀ x ∈ joinStep O r, x.2 ≤ t := by
  rcases List.eq_nil_or_concat O with rfl | ⟨O', y, rfl⟩
  · rw [joinStep_nil]
    refine ⟨canon_cons.2 ⟨hr, by simp, canon_nil⟩, by simp, fun p => by simp [ins], by simp⟩
  · obtain ⟨a, b⟩ := y
    rw [List.concat_eq_append] at hO hlo ⊢
    obtain ⟨h1, h2, h3⟩ := canon_snoc.1 hO
    have hab := hlo (a, b) (by simp)
    unfold okR at hr h2
    simp only at hab h2 h3
    by_cases h : r.1 ≤ b + 1
    · rw [joinStep_in _ _ _ _ h]
      refine ⟨canon_snoc.2 ⟨h1, ⟨h2.1, by simp only; omega, by simp only; omega⟩, h3⟩, ?_, ?_, ?_⟩
      · intro x hx
        rcases List.mem_append.1 hx with hx | hx
        · exact hlo x (by simp [hx])
        · simp at hx; subst hx; exact hab
      · intro p
        rw [ins_append, ins_append, Bool.or_assoc]
        congr 1
        rw [ins_cons, ins_cons, ins_nil, Bool.eq_iff_iff]
        simp
        omega
      · intro t ht hrt x hx
        rcases List.mem_append.1 hx with hx | hx
        · exact ht x (by simp [hx])
        · have := ht (a, b) (by simp)
          simp at hx; subst hx; simp only at this ⊢; omega
    · rw [joinStep_out _ _ _ _ h]
      refine ⟨canon_snoc.2 ⟨hO, hr, ?_⟩, ?_, ?_, ?_⟩
      · intro x hx
        rcases List.mem_append.1 hx with hx | hx
        · have := h3 x hx; omega
        · simp at hx; subst hx; simp only; omega
      · intro x hx
        rcases List.mem_append.1 hx with hx | hx
        · exact hlo x hx
        · simp at hx; subst hx; exact Int.le_refl _
      · intro p
        rw [ins_append (O' ++ [(a, b)])]
        congr 1
        simp [ins]
      · intro t ht hrt x hx
        rcases List.mem_append.1 hx with hx | hx
        · exact ht x hx
        · simp at hx; subst hx; exact hrt

theorem join_from : ∀ (S O : RL), Canon O → (∀ r ∈ S, okR r) → S.Pairwise (fun a b => a.1 ≤ b.1) → (∀ x ∈ O, ∀ r ∈ S, x.1 ≤ r.1) → Canon (S.foldl joinStep O) ∧ ∀ p, ins (S.foldl joinStep O) p = (ins O p || ins S p) := by
  intro S
  induction S with
  | nil => intro O hO _ _ _; exact ⟨hO, fun p => by simp [ins]⟩
  | cons r S ih =>
    intro O hO hok hs hlo
    rw [List.pairwise_cons] at hs
    obtain ⟨h1, h2, h3, _⟩ := joinStep_spec hO (hok r (by simp)) (fun x hx => hlo x hx r (by simp))
    obtain ⟨h4, h5⟩ := ih (joinStep O r) h1 (fun x hx => hok x (by simp [hx])) hs.2 (fun x hx y hy => Int.le_trans (h2 x hx) (hs.1 y hy))
    refine ⟨h4, fun p => ?_⟩
    rw [List.foldl_cons, h5, h3, ins_cons, Bool.or_assoc]
theorem join_spec {S : RL} (hok : ∀ r ∈ S, okR r) (hs : S.Pairwise (fun a b => a.1 ≤ b.1)) : Canon (joinL S) ∧ ∀ p, ins (joinL S) p = ins S p := by
  obtain ⟨h1, h2⟩ := join_from S [] canon_nil hok hs (by simp)
  exact ⟨h1, fun p => by rw [joinL, h2]; simp [ins_nil]⟩
theorem ins_perm {S L : RL} (h : S.Perm L) (p : Int) : ins S p = ins L p := by
  rw [Bool.eq_iff_iff, ins_iff, ins_iff]
  simp [h.mem_iff]

/-- whether a point is in a set, and up to where that stays so. -/
def stretchL : RL → Int → Bool × Int
  | [], _ => (false, 1114111)
  | r :: L, p => if r.2 < p then stretchL L p else if p < r.1 then (false, r.1 - 1) else (true, r.2)
theorem stretch_spec : ∀ {L : RL} {p : Int}, Canon L → 0 ≤ p → p ≤ 1114111 → p ≤ (stretchL L p).2 ∧ (stretchL L p).2 ≤ 1114111 ∧ ∀ q, p ≤ q → q ≤ (stretchL L p).2 → ins L q = (stretchL L p).1 := by
  intro L p
  induction L with
  | nil => intro _ h0 h1; simp [stretchL, ins]; omega
  | cons r L ih =>
    intro hL h0 h1
    obtain ⟨ho, ha, hc⟩ := canon_cons.1 hL
    unfold okR at ho
    unfold stretchL
    split
    · rename_i hlt
      obtain ⟨h2, h3, h4⟩ := ih hc h0 h1
      refine ⟨h2, h3, fun q hq hq2 => ?_⟩
      rw [ins_cons, h4 q hq hq2]
      have : (decide (r.1 ≤ q) && decide (q ≤ r.2)) = false := by simp; omega
      simp [this]
    · rename_i hge
      split
      · rename_i hlt
        refine ⟨by simp only; omega, by simp only; omega, fun q hq hq2 => ?_⟩
        simp only at hq2 ⊢
        rw [ins_false]
        intro x hx
        rcases List.mem_cons.1 hx with rfl | hx
        · omega
        · have := ha x hx; omega
      · refine ⟨by simp only; omega, by simp only; omega, fun q hq hq2 => ?_⟩
        simp only at hq2 ⊢
        rw [ins_cons]
        have : (decide (r.1 ≤ q) && decide (q ≤ r.2)) = true := by simp; omega
        simp [this]
theorem stretch_ins {L : RL} {p : Int} (hL : Canon L) (h0 : 0 ≤ p) (h1 : p ≤ 1114111) : (stretchL L p).1 = ins L p := by
  obtain ⟨h2, _, h3⟩ := stretch_spec hL h0 h1
  exact (h3 p (Int.le_refl _) h2).symm
/-- by the place of the first range that does not end before the point. -/
theorem stretch_at : ∀ (L : RL) (p : Int), ∀ k, k = L.countP (fun r => decide (r.2 < p)) → Canon L → (k = L.length → stretchL L p = (false, 1114111)) ∧ ∀ (h : k < L.length), stretchL L p = if p < L[k].1 then (false, L[k].1 - 1) else (true, L[k].2) := by
  intro L
  induction L with
  | nil => intro p k hk _; simp at hk; subst hk; exact ⟨fun _ => rfl, fun h => by simp at h⟩
  | cons r L ih =>
    intro p k hk hL
    obtain ⟨ho, ha, hc⟩ := canon_cons.1 hL
    unfold okR at ho
    rw [List.countP_cons] at hk
    by_cases hlt : r.2 < p
    · simp only [hlt, decide_true, if_true] at hk
      subst hk
      obtain ⟨h1, h2⟩ := ih p _ rfl hc
      constructor
      · intro he
        unfold stretchL
        rw [if_pos hlt]
        exact h1 (by simpa using he)
      · intro h
        unfold stretchL
        rw [if_pos hlt, h2 (by simpa using h)]
        simp
    · have hz : L.countP (fun r => decide (r.2 < p)) = 0 := by
        rw [List.countP_eq_zero]
        intro x hx
        have := ha x hx
        have := hc.1 x hx
        unfold okR at this
        simp; omega
      simp only [hlt, decide_false, Bool.false_eq_true, if_false, hz] at hk
      subst hk
      constructor
      · intro he; simp at he
      · intro _
        unfold stretchL
        rw [if_neg hlt]
        simp

/-- what is kept up to a point. -/
def Upto (f : Int → Bool) (O : RL) (p : Int) : Prop := Canon O ∧ (∀ x ∈ O, x.2 < p) ∧ ∀ q, ins O q = (decide (0 ≤ q) && decide (q < p) && f q)
theorem upto_zero (f : Int → Bool) : Upto f [] 0 := by
  refine ⟨canon_nil, by simp, fun q => ?_⟩
  rw [ins_nil]
  by_cases h : q < 0 <;> simp [h] <;> omega
theorem upto_yes {f : Int → Bool} {O : RL} {p t : Int} (h : Upto f O p) (h0 : 0 ≤ p) (ht : p ≤ t) (hm : t ≤ 1114111) (hf : ∀ q, p ≤ q → q ≤ t → f q = true) : Upto f (joinStep O (p, t)) (t + 1) := by
  obtain ⟨h1, h2, h3⟩ := h
  obtain ⟨j1, j2, j3, j4⟩ := joinStep_spec (r := (p, t)) h1 ⟨h0, ht, hm⟩ (fun x hx => by have := h2 x hx; have := h1.1 x hx; unfold okR at this; simp only; omega)
  refine ⟨j1, fun x hx => ?_, fun q => ?_⟩
  · have := j4 t (fun x hx => by have := h2 x hx; omega) (Int.le_refl _) x hx
    omega
  · rw [j3, h3]
    simp only
    by_cases hq : p ≤ q ∧ q ≤ t
    · rw [hf q hq.1 hq.2]
      simp [hq, show 0 ≤ q by omega, show q < t + 1 by omega]
    · by_cases hq2 : q < p
      · simp [show ¬ p ≤ q by omega, hq2, show q < t + 1 by omega]
      · simp [hq2, show ¬ q ≤ t by omega, show ¬ q < t + 1 by omega]
theorem upto_no {f : Int → Bool} {O : RL} {p t : Int} (h : Upto f O p) (ht : p ≤ t) (hf : ∀ q, p ≤ q → q ≤ t → f q = false) : Upto f O (t + 1) := by
  obtain ⟨h1, h2, h3⟩ := h
  refine ⟨h1, fun x hx => by have := h2 x hx; omega, fun q => ?_⟩
  rw [h3]
  by_cases hq : p ≤ q ∧ q ≤ t
  · rw [hf q hq.1 hq.2]; simp
  · by_cases hq2 : q < p
    · simp [hq2, show q < t + 1 by omega]
    · simp [hq2, show ¬ q < t + 1 by omega]
/-- the set of all points of which f says yes. -/
def IsSet (f : Int → Bool) (O : RL) : Prop := Canon O ∧ ∀ q, ins O q = (decide (0 ≤ q) && decide (q ≤ 1114111) && f q)
theorem upto_all {f : Int → Bool} {O : RL} {p : Int} (h : Upto f O p) (hp : p = 1114112) : IsSet f O := by
  subst hp
  refine ⟨h.1, fun q => ?_⟩
  rw [h.2.2 q]
  by_cases hq : q ≤ 1114111
  · simp [hq, show q < 1114112 by omega]
  · simp [hq, show ¬ q < 1114112 by omega]
theorem isSet_one {f : Int → Bool} {O O' : RL} (h : IsSet f O) (h' : IsSet f O') : O = O' :=
  canon_ext h.1 h'.1 fun p => by rw [h.2, h'.2]
theorem canon_pt {L : RL} (h : Canon L) (q : Int) (hq : ins L q = true) : 0 ≤ q ∧ q ≤ 1114111 := by
  obtain ⟨r, hr, h1, h2⟩ := (ins_iff _ _).1 hq
  have := h.1 r hr
  unfold okR at this
  omega
theorem isSet_self {L : RL} (h : Canon L) : IsSet (ins L) L := by
  refine ⟨h, fun q => ?_⟩
  by_cases hq : ins L q = true
  · have := canon_pt h q hq
    simp [hq, this]
  · simp [hq]
theorem isSet_congr {f g : Int → Bool} {L : RL} (h : IsSet f L) (hfg : ∀ q, 0 ≤ q → q ≤ 1114111 → f q = g q) : IsSet g L := by
  refine ⟨h.1, fun q => ?_⟩
  rw [h.2]
  by_cases hq : 0 ≤ q ∧ q ≤ 1114111
  · rw [hfg q hq.1 hq.2]
  · have : (decide (0 ≤ q) && decide (q ≤ 1114111)) = false := by simp; omega
    rw [this]; rfl

end Go.Proofs.YtklbbbldalmnbaaGreatDoor
/- Ends in their order, and the set of what is so between them. No program. -/
namespace Go.Proofs.YtklbbbldalmnbaaGreatDoor
set_option linter.unusedVariables false

/-- how many stand below. -/
def atL (l : List Int) (e : Int) : Nat := (l.takeWhile fun x => decide (x < e)).length
/-- an end put where it belongs, if it is a point and not there. -/
def endIns (l : List Int) (e : Int) : List Int :=
  if (0 ≤ e ∧ e ≤ 1114111) ∧ l[atL l e]? ≠ some e then l.take (atL l e) ++ e :: l.drop (atL l e) else l
theorem atL_le (l : List Int) (e : Int) : atL l e ≤ l.length := (List.takeWhile_prefix _).length_le
theorem atL_below (l : List Int) (e : Int) : ∀ x ∈ l.take (atL l e), x < e := by
  unfold atL
  intro x hx
  rw [← List.prefix_iff_eq_take.1 (List.takeWhile_prefix _)] at hx
  have := List.all_takeWhile (p := fun x => decide (x < e)) (l := l)
  rw [List.all_eq_true] at this
  simpa using this x hx
theorem atL_at (l : List Int) (e : Int) (h : atL l e < l.length) : e ≤ l[atL l e] := by
  induction l with
  | nil => simp at h
  | cons x l ih =>
    by_cases hx : x < e
    · have e1 : atL (x :: l) e = atL l e + 1 := by simp [atL, hx]
      have h' : atL l e < l.length := by rw [e1] at h; simpa using h
      have := ih h'
      simpa [e1] using this
    · have e1 : atL (x :: l) e = 0 := by simp [atL, hx]
      simp [e1]; omega
/-- found by going on: all before are below, this one is not. -/
theorem atL_is {l : List Int} {e : Int} {k : Nat} (hk : k ≤ l.length) (hb : ∀ (j : Nat) (h : j < k), l[j]'(by omega) < e) (ha : ∀ h : k < l.length, ¬ l[k] < e) : atL l e = k := by
  induction l generalizing k with
  | nil => simp at hk; subst hk; rfl
  | cons x l ih =>
    match k with
    | 0 =>
      have := ha (by simp)
      simp at this
      simp [atL, show ¬ x < e by omega]
    | k + 1 =>
      have h0 := hb 0 (by omega)
      simp at h0
      have := ih (k := k) (by simpa using hk) (fun j hj => by simpa using hb (j + 1) (by omega)) (fun h => by have := ha (by simpa using h); rw [List.getElem_cons_succ] at this; exact this)
      simp [atL, h0] at this ⊢
      exact this
/-- ends that rise, from 0 on. -/
def Ends (l : List Int) : Prop := l.Pairwise (· < ·) ∧ l[0]? = some 0 ∧ ∀ x ∈ l, 0 ≤ x ∧ x ≤ 1114111
theorem ends_zero : Ends [0] := ⟨List.pairwise_singleton _ _, rfl, by simp⟩
theorem mem_endIns (l : List Int) (e x : Int) : x ∈ endIns l e ↔ x ∈ l ∨ (x = e ∧ 0 ≤ e ∧ e ≤ 1114111) := by
  unfold endIns
  split
  · rename_i h
    simp only [List.mem_append, List.mem_cons]
    have : x ∈ l ↔ x ∈ l.take (atL l e) ∨ x ∈ l.drop (atL l e) := by rw [← List.mem_append, List.take_append_drop]
    rw [this]
    constructor
    · rintro (h1 | rfl | h1)
      · exact .inl (.inl h1)
      · exact .inr ⟨rfl, h.1⟩
      · exact .inl (.inr h1)
    · rintro ((h1 | h1) | ⟨rfl, _⟩)
      · exact .inl h1
      · exact .inr (.inr h1)
      · exact .inr (.inl rfl)
  · rename_i h
    constructor
    · exact .inl
    · rintro (h1 | ⟨rfl, h2⟩)
      · exact h1
      · by_cases h3 : l[atL l x]? = some x
        · exact List.mem_of_getElem? h3
        · exact absurd ⟨h2, h3⟩ h
theorem ends_ins {l : List Int} (h : Ends l) (e : Int) : Ends (endIns l e) := by
  obtain ⟨h1, h2, h3⟩ := h
  refine ⟨?_, ?_, ?_⟩
  · unfold endIns
    split
    · rename_i hc
      have hs : (l.take (atL l e) ++ l.drop (atL l e)).Pairwise (· < ·) := by rw [List.take_append_drop]; exact h1
      rw [List.pairwise_append] at hs
      have hd : ∀ y ∈ l.drop (atL l e), e < y := by
        intro y hy
        obtain ⟨j, hj, rfl⟩ := List.mem_iff_getElem.1 hy
        rw [List.getElem_drop]
        rw [List.length_drop] at hj
        have ha := atL_at l e (by omega)
        rw [List.pairwise_iff_getElem] at h1
        by_cases hj0 : j = 0
        · subst hj0
          have : l[atL l e]? ≠ some e := hc.2
          rw [List.getElem?_eq_getElem (by omega)] at this
          simp at this ⊢
          omega
        · have := h1 (atL l e) (atL l e + j) (by omega) (by omega) (by omega)
          omega
      rw [List.pairwise_append]
      refine ⟨hs.1, List.pairwise_cons.2 ⟨hd, hs.2.1⟩, fun x hx y hy => ?_⟩
      have hxe := atL_below l e x hx
      rcases List.mem_cons.1 hy with rfl | hy
      · exact hxe
      · have := hd y hy; omega
    · exact h1
  · unfold endIns
    split
    · rename_i hc
      have hp : 0 < atL l e := by
        rcases Nat.eq_zero_or_pos (atL l e) with h0 | h0
        · exfalso
          have hl : 0 < l.length := by
            rcases Nat.eq_zero_or_pos l.length with h | h
            · rw [List.getElem?_eq_none (by omega)] at h2; cases h2
            · exact h
          have ha := atL_at l e (by omega)
          have e0 : l[0] = 0 := by rw [List.getElem?_eq_getElem hl] at h2; simpa using h2
          have : l[atL l e] = 0 := by simp only [h0]; exact e0
          have hne := hc.2
          rw [List.getElem?_eq_getElem (by omega), this] at hne
          simp at hne
          omega
        · exact h0
      rw [List.getElem?_append_left (by rw [List.length_take]; have := atL_le l e; omega), List.getElem?_take_of_lt hp]
      exact h2
    · exact h2
  · intro x hx
    rcases (mem_endIns l e x).1 hx with hx | ⟨rfl, hx⟩
    · exact h3 x hx
    · exact hx
theorem ends_fold (es : List Int) : ∀ l, Ends l → Ends (es.foldl endIns l) ∧ ∀ x, x ∈ es.foldl endIns l ↔ x ∈ l ∨ (x ∈ es ∧ 0 ≤ x ∧ x ≤ 1114111) := by
  induction es with
  | nil => intro l h; exact ⟨h, by simp⟩
  | cons e es ih =>
    intro l h
    obtain ⟨h1, h2⟩ := ih (endIns l e) (ends_ins h e)
    refine ⟨h1, fun x => ?_⟩
    rw [List.foldl_cons, h2, mem_endIns, List.mem_cons]
    constructor
    · rintro ((h3 | ⟨rfl, h3⟩) | ⟨h3, h4⟩)
      · exact .inl h3
      · exact .inr ⟨.inl rfl, h3⟩
      · exact .inr ⟨.inr h3, h4⟩
    · rintro (h3 | ⟨rfl | h3, h4⟩)
      · exact .inl (.inl h3)
      · exact .inl (.inr ⟨rfl, h4⟩)
      · exact .inr ⟨h3, h4⟩
theorem endIns_len (l : List Int) (e : Int) : (endIns l e).length ≤ l.length + 1 := by
  unfold endIns
  have := atL_le l e
  split
  · simp; omega
  · omega
theorem ends_len (es : List Int) : ∀ l : List Int, (es.foldl endIns l).length ≤ l.length + es.length := by
  induction es with
  | nil => intro l; simp
  | cons e es ih =>
    intro l
    have := ih (endIns l e)
    have := endIns_len l e
    simp only [List.foldl_cons, List.length_cons]
    omega

def endsL (A : RL) : List Int := A.flatMap fun r => [r.1, r.2 + 1]
theorem endsL_len (A : RL) : (endsL A).length = A.length * 2 := by
  induction A with
  | nil => rfl
  | cons r A ih => simp [endsL] at ih ⊢; omega
theorem endsL_append (A B : RL) : endsL (A ++ B) = endsL A ++ endsL B := by simp [endsL]
/-- nothing changes where there is no end. -/
theorem ins_stays {A : RL} {p q : Int} (hpq : p ≤ q) (h : ∀ e ∈ endsL A, ¬ (p < e ∧ e ≤ q)) : ins A q = ins A p := by
  induction A with
  | nil => rfl
  | cons r A ih =>
    rw [ins_cons, ins_cons, ih (fun e he => h e (by simp [endsL] at he ⊢; right; right; exact he))]
    have h1 := h r.1 (by simp [endsL])
    have h2 := h (r.2 + 1) (by simp [endsL])
    congr 1
    rw [Bool.eq_iff_iff]
    simp
    omega
/-- the place behind the k-th end. -/
def nextE (l : List Int) (k : Nat) : Int := match l[k + 1]? with | some x => x | none => 1114112
theorem nextE_in {l : List Int} {k : Nat} (h : k + 1 < l.length) : nextE l k = l[k + 1] := by simp [nextE, h]
theorem nextE_out {l : List Int} {k : Nat} (h : ¬ k + 1 < l.length) : nextE l k = 1114112 := by
  unfold nextE; rw [List.getElem?_eq_none (by omega)]
theorem nextE_gt {l : List Int} (hl : Ends l) {k : Nat} (hk : k < l.length) : l[k] < nextE l k ∧ nextE l k ≤ 1114112 := by
  obtain ⟨h1, _, h3⟩ := hl
  have h4 := h3 l[k] (List.getElem_mem _)
  by_cases h : k + 1 < l.length
  · rw [nextE_in h]
    rw [List.pairwise_iff_getElem] at h1
    have := h3 l[k + 1] (List.getElem_mem _)
    exact ⟨h1 k (k + 1) hk h (by omega), by omega⟩
  · rw [nextE_out h]; omega
theorem no_between {l : List Int} (hl : Ends l) {k : Nat} (hk : k < l.length) {x : Int} (hx : x ∈ l) : ¬ (l[k] < x ∧ x < nextE l k) := by
  rintro ⟨h1, h2⟩
  obtain ⟨j, hj, rfl⟩ := List.mem_iff_getElem.1 hx
  have hp := hl.1
  rw [List.pairwise_iff_getElem] at hp
  rcases Nat.lt_trichotomy j k with h | h | h
  · have := hp j k hj hk h; omega
  · subst h; omega
  · by_cases hk1 : k + 1 < l.length
    · rw [nextE_in hk1] at h2
      by_cases hj1 : j = k + 1
      · subst hj1; omega
      · have := hp (k + 1) j hk1 hj (by omega); omega
    · omega
/-- what is said of two sets stays as it is between ends. -/
theorem stays_two {A B : RL} (g : Bool → Bool → Bool) {l : List Int} (hl : Ends l) (hm : ∀ x, x ∈ endsL A ∨ x ∈ endsL B → 0 ≤ x → x ≤ 1114111 → x ∈ l) {k : Nat} (hk : k < l.length) : ∀ q, l[k] ≤ q → q < nextE l k → g (ins A q) (ins B q) = g (ins A l[k]) (ins B l[k]) := by
  intro q h1 h2
  have h3 := hl.2.2 l[k] (List.getElem_mem _)
  have h4 := nextE_gt hl hk
  rw [ins_stays (A := A) h1 (fun e he hc => no_between hl hk (hm e (.inl he) (by omega) (by omega)) ⟨hc.1, by omega⟩), ins_stays (A := B) h1 (fun e he hc => no_between hl hk (hm e (.inr he) (by omega) (by omega)) ⟨hc.1, by omega⟩)]

/-- a round of what is built. -/
def setStep (f : Int → Bool) (l : List Int) (O : RL) (k : Nat) : RL := if f (l[k]?.getD 0) then joinStep O (l[k]?.getD 0, nextE l k - 1) else O
def Stays (f : Int → Bool) (l : List Int) : Prop := ∀ k (h : k < l.length) q, l[k] ≤ q → q < nextE l k → f q = f l[k]
/-- up to the k-th end. -/
def endAt (l : List Int) (k : Nat) : Int := match l[k]? with | some x => x | none => 1114112
theorem endAt_in {l : List Int} {k : Nat} (h : k < l.length) : endAt l k = l[k] := by simp [endAt, h]
theorem endAt_next (l : List Int) (k : Nat) : endAt l (k + 1) = nextE l k := rfl
theorem endAt_zero {l : List Int} (hl : Ends l) : endAt l 0 = 0 := by unfold endAt; rw [hl.2.1]
theorem upto_step {f : Int → Bool} {l : List Int} (hl : Ends l) (hs : Stays f l) {O : RL} {k : Nat} (hk : k < l.length) (h : Upto f O (endAt l k)) : Upto f (if f l[k] then joinStep O (l[k], nextE l k - 1) else O) (endAt l (k + 1)) := by
  rw [endAt_in hk] at h
  rw [endAt_next]
  have h1 := nextE_gt hl hk
  have h2 := hl.2.2 l[k] (List.getElem_mem _)
  have e : nextE l k = nextE l k - 1 + 1 := by omega
  by_cases hf : f l[k] = true
  · rw [if_pos hf, e]
    have e' : nextE l k - 1 + 1 - 1 = nextE l k - 1 := by omega
    rw [e']
    exact upto_yes h h2.1 (by omega) (by omega) (fun q hq hq2 => by rw [hs k hk q hq (by omega), hf])
  · rw [if_neg hf, e]
    exact upto_no h (by omega) (fun q hq hq2 => by rw [hs k hk q hq (by omega)]; simpa using hf)
/-- made one just where the last one ends. -/
theorem joinStep_eq {f : Int → Bool} {O : RL} {a b p t : Int} (h : Upto f (O ++ [(a, b)]) p) (ht : p ≤ t) : joinStep (O ++ [(a, b)]) (p, t) = if b = p - 1 then O ++ [(a, t)] else O ++ [(a, b)] ++ [(p, t)] := by
  have := h.2.1 (a, b) (by simp)
  simp only at this
  by_cases hb : b = p - 1
  · rw [if_pos hb, joinStep_in _ _ _ _ (by simp only; omega)]
    simp only
    rw [show max b t = t by omega]
  · rw [if_neg hb, joinStep_out _ _ _ _ (by simp only; omega)]

end Go.Proofs.YtklbbbldalmnbaaGreatDoor
/- Small tools; rows of ranges that are read; what Is, between, IsPoint and the checks answer. -/
namespace Go.Proofs.YtklbbbldalmnbaaGreatDoor
open Go.RowKit
set_option linter.unusedVariables false

theorem hide {p : Prop} (h : p) : Hid p := h
theorem unhide {p : Prop} (h : Hid p) : p := h
theorem ret_bool {a b : Bool} (h : a = b) : Ending.returned (.bool a) = .returned (.bool b) := by rw [h]
theorem ret_int {k : IntKind} {a b : Int} (h : a = b) : Ending.returned (.int k a) = .returned (.int k b) := by rw [h]
def i64s (l : List Int) : List Value := l.map (Value.int .i64)

/-- a slice of ranges that can be read: nil, or a place with the cells. -/
def Cells2 (w : World) (x : Addr) (L : RL) : Prop := ∀ j (h : j < L.length), w.cell? (x.add (j * 2)) = some (.int .i64 L[j].1) ∧ w.cell? ⟨(x.add (j * 2)).block, (x.add (j * 2)).off + 1, none⟩ = some (.int .i64 L[j].2)
def Reads (w : World) (v : Value) (L : RL) : Prop := (v = .slice none 0 0 ∧ L = []) ∨ ∃ x c, v = .slice (some x) L.length c ∧ Cells2 w x L
theorem lt_of_cell {w : World} {a : Addr} {v : Value} (h : w.cell? a = some v) : a.block < w.heap.size := World.block_lt_of_cell? _ _ h
theorem below_cell {B : Nat} {w w' : World} (hb : Below B w w') {a : Addr} {v : Value} (ha : a.block < B) (h : w.cell? a = some v) : w'.cell? a = some v := by
  rw [← h]
  unfold World.cell?
  rw [hb.block a.block ha]
theorem Cells2.below {w w' : World} {x : Addr} {L : RL} (h : Cells2 w x L) (hb : Below w.heap.size w w') : Cells2 w' x L := fun j hj =>
  ⟨below_cell hb (lt_of_cell (h j hj).1) (h j hj).1, below_cell hb (lt_of_cell (h j hj).2) (h j hj).2⟩
theorem Reads.below {w w' : World} {v : Value} {L : RL} (h : Reads w v L) (hb : Below w.heap.size w w') : Reads w' v L := by
  rcases h with h | ⟨x, c, h1, h2⟩
  · exact .inl h
  · exact .inr ⟨x, c, h1, h2.below hb⟩
theorem Reads.shape {w : World} {v : Value} {L : RL} (h : Reads w v L) : ∃ ao c, v = .slice ao L.length c := by
  rcases h with ⟨rfl, rfl⟩ | ⟨x, c, h1, h2⟩
  · exact ⟨none, 0, rfl⟩
  · exact ⟨some x, c, h1⟩
theorem Reads.some {w : World} {v : Value} {L : RL} (h : Reads w v L) (hl : 0 < L.length) : ∃ x c, v = .slice (some x) L.length c ∧ Cells2 w x L := by
  rcases h with ⟨rfl, rfl⟩ | h
  · simp at hl
  · exact h
theorem below_drewN {B : Nat} {w w' : World} (h : Below B w w') (q : Nat) : Below B w (w'.drewN q) := ⟨h.1, h.2, h.3, h.4, h.5⟩
theorem reads_nil (w : World) : Reads w (.slice none 0 0) [] := .inl ⟨rfl, rfl⟩

set_option maxHeartbeats 400000 in
theorem is_any (p : Int) (w : World) : Calls Tryz.prog 29 #[.int .i64 p] w fun e w' => e = .returned (.bool (decide (0 ≤ p ∧ p ≤ 1114111))) ∧ w = w' := by
  go_enter Tryz.func29, Tryz.ntmps29
  go_wp2
  all_goals go_ret
  all_goals exact ⟨ret_bool (by rw [Bool.eq_iff_iff]; simp <;> omega), rfl⟩
/-- a range that is right. -/
def okB (r : Int × Int) : Bool := decide (0 ≤ r.1) && decide (r.1 ≤ r.2) && decide (r.2 ≤ 1114111)
theorem okB_iff (r : Int × Int) : okB r = true ↔ okR r := by simp [okB, okR]; omega
/-- what is wrong with some ranges. -/
def rightE (L : RL) : Int := if 400 < L.length then 2 else if L.all okB then 0 else 3
def chainB : RL → Bool
  | [] => true
  | [_] => true
  | a :: b :: L => decide (a.2 + 1 < b.1) && chainB (b :: L)
def checkE (L : RL) : Int := if rightE L = 0 then (if chainB L then 0 else 4) else rightE L
theorem chainB_iff (L : RL) : chainB L = true ↔ ∀ j (h : j + 1 < L.length), L[j].2 + 1 < L[j + 1].1 := by
  induction L with
  | nil => simp [chainB]
  | cons a L ih =>
    cases L with
    | nil => simp [chainB]
    | cons b L =>
      simp only [chainB, Bool.and_eq_true, decide_eq_true_eq, ih]
      constructor
      · rintro ⟨h1, h2⟩ j hj
        match j with
        | 0 => exact h1
        | j + 1 => exact h2 j (by simpa using hj)
      · intro h
        exact ⟨h 0 (by simp), fun j hj => h (j + 1) (by simpa using hj)⟩
theorem rightE_ok {L : RL} : rightE L = 0 ↔ L.length ≤ 400 ∧ ∀ r ∈ L, okR r := by
  unfold rightE
  split
  · simp; omega
  · split
    · rename_i h1 h2
      rw [List.all_eq_true] at h2
      simp only [true_iff]
      exact ⟨by omega, fun r hr => (okB_iff r).1 (h2 r hr)⟩
    · rename_i h1 h2
      simp only [show (3 : Int) = 0 ↔ False from by simp, false_iff]
      rintro ⟨_, h3⟩
      exact h2 (List.all_eq_true.2 fun r hr => (okB_iff r).2 (h3 r hr))
theorem chain_pairwise : ∀ {L : RL}, (∀ r ∈ L, okR r) → chainB L = true → L.Pairwise (fun a b => a.2 + 1 < b.1) := by
  intro L
  induction L with
  | nil => intro _ _; exact List.Pairwise.nil
  | cons a L ih =>
    intro hok h
    cases L with
    | nil => exact List.pairwise_singleton _ _
    | cons b L =>
      simp only [chainB, Bool.and_eq_true, decide_eq_true_eq] at h
      have hp := ih (fun r hr => hok r (by simp [hr])) h.2
      refine List.pairwise_cons.2 ⟨fun x hx => ?_, hp⟩
      rcases List.mem_cons.1 hx with rfl | hx
      · exact h.1
      · have h1 := (List.pairwise_cons.1 hp).1 x hx
        have h2 := hok b (by simp)
        unfold okR at h2
        omega
theorem pairwise_chain : ∀ {L : RL}, L.Pairwise (fun a b => a.2 + 1 < b.1) → chainB L = true := by
  intro L
  induction L with
  | nil => intro _; rfl
  | cons a L ih =>
    intro h
    cases L with
    | nil => rfl
    | cons b L =>
      rw [List.pairwise_cons] at h
      simp only [chainB, Bool.and_eq_true, decide_eq_true_eq]
      exact ⟨h.1 b (by simp), ih h.2⟩
theorem checkE_ok {L : RL} : checkE L = 0 ↔ L.length ≤ 400 ∧ Canon L := by
  unfold checkE
  constructor
  · intro h
    split at h
    · rename_i h1
      split at h
      · rename_i h2
        obtain ⟨h3, h4⟩ := rightE_ok.1 h1
        exact ⟨h3, h4, chain_pairwise h4 h2⟩
      · simp at h
    · rename_i h1; exact absurd h h1
  · rintro ⟨h1, h2, h3⟩
    rw [if_pos (rightE_ok.2 ⟨h1, h2⟩), if_pos (pairwise_chain h3)]

end Go.Proofs.YtklbbbldalmnbaaGreatDoor
