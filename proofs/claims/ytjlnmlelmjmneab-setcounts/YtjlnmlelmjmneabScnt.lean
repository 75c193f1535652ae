/- How many points a set has. No program. -/
import Derived.Test.YtjlnmlelmjmneabSpure
namespace Go.Proofs.Ytjlnmlelmjmneab
set_option linter.unusedVariables false

def cntL (L : RL) : Int := (L.map fun r => r.2 - r.1 + 1).sum
theorem cntL_cons (r : Int × Int) (L : RL) : cntL (r :: L) = (r.2 - r.1 + 1) + cntL L := by simp [cntL]
def NP : Nat := 1114112
theorem NP_eq : NP = 1114112 := rfl
def card (f : Int → Bool) : Nat := (List.range NP).countP fun (n : Nat) => f (n : Int)
theorem countP_or_and {α : Type} (l : List α) (p q : α → Bool) : l.countP (fun x => p x || q x) + l.countP (fun x => p x && q x) = l.countP p + l.countP q := by
  induction l with
  | nil => rfl
  | cons x l ih =>
    simp only [List.countP_cons]
    cases hp : p x <;> cases hq : q x <;> simp <;> omega
theorem card_or_and (f g : Int → Bool) : card (fun q => f q || g q) + card (fun q => f q && g q) = card f + card g := countP_or_and _ _ _
theorem countP_between (a b : Int) (h0 : 0 ≤ a) (h1 : a ≤ b) : ∀ N : Nat, ((List.range N).countP (fun (n : Nat) => decide (a ≤ (n : Int)) && decide ((n : Int) ≤ b)) : Int) = max 0 (min b ((N : Int) - 1) - a + 1) := by
  intro N
  induction N with
  | zero => simp; omega
  | succ N ih =>
    rw [List.range_succ, List.countP_append]
    simp only [List.countP_cons, List.countP_nil]
    by_cases h : a ≤ (N : Int) ∧ (N : Int) ≤ b
    · simp only [h.1, h.2, decide_true, Bool.and_self, if_true]
      push_cast
      omega
    · have : (decide (a ≤ (N : Int)) && decide ((N : Int) ≤ b)) = false := by simp; omega
      simp only [this, Bool.false_eq_true, if_false]
      push_cast
      omega
theorem card_congr {f g : Int → Bool} (h : ∀ q, 0 ≤ q → q ≤ 1114111 → f q = g q) : card f = card g := by
  unfold card
  apply List.countP_congr
  intro n hn
  rw [List.mem_range] at hn
  have := NP_eq
  rw [h n (by omega) (by omega)]
theorem cnt_card : ∀ {L : RL}, Canon L → cntL L = card (ins L) := by
  intro L
  induction L with
  | nil =>
    intro _
    have : card (ins []) = 0 := by unfold card; rw [List.countP_eq_zero]; simp [ins]
    rw [this]; rfl
  | cons r L ih =>
    intro h
    obtain ⟨ho, ha, hc⟩ := canon_cons.1 h
    unfold okR at ho
    have h1 := card_or_and (fun q => decide (r.1 ≤ q) && decide (q ≤ r.2)) (ins L)
    have h2 : card (fun q => (decide (r.1 ≤ q) && decide (q ≤ r.2)) && ins L q) = 0 := by
      unfold card
      rw [List.countP_eq_zero]
      intro n _ hn
      simp only [Bool.and_eq_true, decide_eq_true_eq] at hn
      obtain ⟨x, hx, hx1, hx2⟩ := (ins_iff _ _).1 hn.2
      have := ha x hx
      omega
    have h3 : ((card (fun q => decide (r.1 ≤ q) && decide (q ≤ r.2)) : Nat) : Int) = r.2 - r.1 + 1 := by
      unfold card
      rw [countP_between r.1 r.2 ho.1 ho.2.1 NP]
      have := NP_eq
      omega
    have h4 : card (ins (r :: L)) = card (fun q => (decide (r.1 ≤ q) && decide (q ≤ r.2)) || ins L q) := rfl
    rw [cntL_cons, ih hc, h4]
    omega
theorem cnt_isSet {f : Int → Bool} {O : RL} (h : IsSet f O) : cntL O = card f := by
  rw [cnt_card h.1, card_congr (g := f) fun q h0 h1 => by rw [h.2]; simp [h0, h1]]
theorem card_le (f : Int → Bool) : card f ≤ 1114112 := by
  have := List.countP_le_length (p := fun n : Nat => f (n : Int)) (l := List.range NP)
  rw [List.length_range] at this
  have h := NP_eq
  unfold card
  omega
theorem cnt_rng {L : RL} (h : Canon L) : 0 ≤ cntL L ∧ cntL L ≤ 1114112 := by
  rw [cnt_card h]
  have := card_le (ins L)
  omega
theorem cnt_take {L : RL} {k : Nat} (hk : k < L.length) : cntL (L.take (k + 1)) = cntL (L.take k) + (L[k].2 - L[k].1 + 1) := by
  rw [List.take_add_one, List.getElem?_eq_getElem hk]
  unfold cntL
  rw [List.map_append, List.sum_append]
  simp
theorem canon_take {L : RL} (h : Canon L) (k : Nat) : Canon (L.take k) := ⟨fun r hr => h.1 r (List.mem_of_mem_take hr), h.2.sublist (List.take_sublist k L)⟩
theorem card_one (p : Int) (h0 : 0 ≤ p) (h1 : p ≤ 1114111) : card (fun q => decide (p ≤ q) && decide (q ≤ p)) = 1 := by
  have h := countP_between p p h0 (Int.le_refl _) NP
  have hN := NP_eq
  have e : ((card (fun q => decide (p ≤ q) && decide (q ≤ p)) : Nat) : Int) = 1 := by
    unfold card; rw [h]; omega
  omega

end Go.Proofs.Ytjlnmlelmjmneab
