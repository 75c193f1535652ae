/- Ranges that are built point by point: what stands after each point is the part of the right ranges up to it. -/
import Derived.Test.YtjhombfcbfhinaaDoorAlike
namespace Go.Proofs.YtjhombfcbfhinaaDoor
set_option linter.unusedVariables false

def stepR (O : List (Int × Int)) (k : Int) : List (Int × Int) :=
  match O.getLast? with
  | some l => if l.2 = k - 1 then O.dropLast ++ [(l.1, k)] else O ++ [(k, k)]
  | none => O ++ [(k, k)]
theorem stepR_nil (k : Int) : stepR [] k = [(k, k)] := rfl
theorem stepR_in (O : List (Int × Int)) (a b k : Int) (h : b = k - 1) : stepR (O ++ [(a, b)]) k = O ++ [(a, k)] := by simp [stepR, h]
theorem stepR_out (O : List (Int × Int)) (a b k : Int) (h : ¬ b = k - 1) : stepR (O ++ [(a, b)]) k = O ++ [(a, b)] ++ [(k, k)] := by simp [stepR, h]
def finR (O : List (Int × Int)) : List (Int × Int) :=
  match O.getLast? with
  | some l => if l.2 = 13000 then O.dropLast ++ [(l.1, 1114111)] else O
  | none => O
theorem finR_in (O : List (Int × Int)) (a b : Int) (h : b = 13000) : finR (O ++ [(a, b)]) = O ++ [(a, 1114111)] := by simp [finR, h]
theorem finR_out (O : List (Int × Int)) (a b : Int) (h : ¬ b = 13000) : finR (O ++ [(a, b)]) = O ++ [(a, b)] := by simp [finR, h]

structure Right (C : List (Int × Int)) : Prop where
  apart : C.Pairwise fun x y => x.2 + 1 < y.1
  each : ∀ x ∈ C, 0 ≤ x.1 ∧ x.1 ≤ x.2 ∧ x.1 ≤ 13000 ∧ (x.2 < 13000 ∨ x.2 = 1114111)

def InvR (C O : List (Int × Int)) (k : Int) : Prop :=
  (∃ C2, C = O ++ C2 ∧ (∀ x ∈ C2, k ≤ x.1) ∧ (∀ x ∈ O, x.2 < k)) ∨ (∃ D a b C2, C = D ++ (a, b) :: C2 ∧ O = D ++ [(a, k - 1)] ∧ a < k ∧ k ≤ b)

theorem invR_start {C : List (Int × Int)} (h : Right C) : InvR C [] 0 := Or.inl ⟨C, rfl, fun x hx => (h.each x hx).1, fun x hx => by cases hx⟩

theorem invR_len {C O : List (Int × Int)} {k : Int} (h : InvR C O k) : O.length ≤ C.length := by
  rcases h with ⟨C2, rfl, _⟩ | ⟨D, a, b, C2, rfl, rfl, _⟩
  · simp
  · simp

theorem inP_mem {p : Int} {C : List (Int × Int)} : inP p C = true ↔ ∃ x ∈ C, x.1 ≤ p ∧ p ≤ x.2 := by
  simp [inP, List.any_eq_true]

theorem invR_step {C O : List (Int × Int)} {k : Int} (hC : Right C) (h : InvR C O k) : InvR C (if inP k C = true then stepR O k else O) (k + 1) := by
  rcases h with ⟨C2, rfl, h2, h1⟩ | ⟨D, a, b, C2, rfl, rfl, ha, hb⟩
  · have hap := hC.apart
    rw [List.pairwise_append] at hap
    obtain ⟨_, hap2, hap3⟩ := hap
    match C2, h2, hap2, hap3, hC with
    | [], _, _, _, _ =>
      have hf : ¬ inP k (O ++ []) = true := by
        rw [inP_mem]
        rintro ⟨x, hx, _, hx2⟩
        have := h1 x (by simpa using hx)
        omega
      rw [if_neg hf]
      exact Or.inl ⟨[], rfl, by simp, fun x hx => by have := h1 x hx; omega⟩
    | (a, b) :: C2, h2, hap2, hap3, hC =>
      rw [List.pairwise_cons] at hap2
      have hab := hC.each (a, b) (by simp)
      have hka := h2 (a, b) (by simp)
      simp only at hab hka
      by_cases hk : a = k
      · subst hk
        have hf : inP a (O ++ (a, b) :: C2) = true := by
          rw [inP_mem]
          exact ⟨(a, b), by simp, Int.le_refl _, hab.2.1⟩
        rw [if_pos hf]
        have hs : stepR O a = O ++ [(a, a)] := by
          rcases List.eq_nil_or_concat O with rfl | ⟨O', y, rfl⟩
          · rfl
          · obtain ⟨c, d⟩ := y
            rw [List.concat_eq_append]
            refine stepR_out O' c d a fun e => ?_
            have := hap3 (c, d) (by simp) (a, b) (by simp)
            simp only at this
            omega
        rw [hs]
        by_cases hb : b = a
        · subst hb
          exact Or.inl ⟨C2, by simp, fun x hx => by have := hap2.1 x hx; simp only at this; omega, fun x hx => by
            rcases List.mem_append.1 hx with hx | hx
            · have := h1 x hx; omega
            · simp at hx; rw [hx]; simp only; omega⟩
        · exact Or.inr ⟨O, a, b, C2, rfl, by rw [show a + 1 - 1 = a from by omega], by omega, by omega⟩
      · have hf : ¬ inP k (O ++ (a, b) :: C2) = true := by
          rw [inP_mem]
          rintro ⟨x, hx, hx1, hx2⟩
          rcases List.mem_append.1 hx with hx | hx
          · have := h1 x hx; omega
          · rcases List.mem_cons.1 hx with rfl | hx
            · simp only at hx1; omega
            · have := hap2.1 x hx; simp only at this; omega
        rw [if_neg hf]
        exact Or.inl ⟨(a, b) :: C2, rfl, fun x hx => by
          rcases List.mem_cons.1 hx with rfl | hx
          · simp only; omega
          · have := hap2.1 x hx; simp only at this; omega, fun x hx => by have := h1 x hx; omega⟩
  · have hf : inP k (D ++ (a, b) :: C2) = true := by
      rw [inP_mem]
      exact ⟨(a, b), by simp, by simp only; omega, hb⟩
    rw [if_pos hf, stepR_in D a (k - 1) k rfl]
    have hap := hC.apart
    rw [List.pairwise_append] at hap
    obtain ⟨_, hap2, hap3⟩ := hap
    rw [List.pairwise_cons] at hap2
    by_cases hbk : b = k
    · subst hbk
      exact Or.inl ⟨C2, by simp, fun x hx => by have := hap2.1 x hx; simp only at this; omega, fun x hx => by
        rcases List.mem_append.1 hx with hx | hx
        · have := hap3 x hx (a, b) (by simp); simp only at this; omega
        · simp at hx; rw [hx]; simp only; omega⟩
    · exact Or.inr ⟨D, a, b, C2, rfl, by rw [show k + 1 - 1 = k from by omega], by omega, by omega⟩

theorem invR_fin {C O : List (Int × Int)} (hC : Right C) (h : InvR C O 13001) : finR O = C := by
  rcases h with ⟨C2, rfl, h2, h1⟩ | ⟨D, a, b, C2, rfl, rfl, ha, hb⟩
  · have : C2 = [] := by
      match C2, h2, hC with
      | [], _, _ => rfl
      | x :: C2, h2, hC =>
        have e1 := (hC.each x (by simp)).2.2.1
        have e2 := h2 x (by simp)
        omega
    subst this
    rw [List.append_nil] at hC ⊢
    rcases List.eq_nil_or_concat O with rfl | ⟨O', y, rfl⟩
    · rfl
    · obtain ⟨c, d⟩ := y
      rw [List.concat_eq_append] at hC h1 ⊢
      have e1 := h1 (c, d) (by simp)
      have e2 := (hC.each (c, d) (by simp)).2.2.2
      simp only at e1 e2
      exact finR_out O' c d (by omega)
  · have : C2 = [] := by
      match C2, hC with
      | [], _ => rfl
      | x :: C2, hC =>
        have e1 := (hC.each x (by simp)).2.2.1
        have hap := hC.apart
        rw [List.pairwise_append, List.pairwise_cons] at hap
        have e2 := hap.2.1.1 x (by simp)
        simp only at e2
        omega
    subst this
    have e2 := (hC.each (a, b) (by simp)).2.2.2
    simp only at e2
    rw [finR_in D a (13001 - 1) (by omega)]
    rw [show b = 1114111 from by omega]

theorem cls_right (s : ByteArray) (hs : s ∈ names) : Right (clsOf s) := by
  have h : ∀ s ∈ names, ((clsOf s).Pairwise fun x y => x.2 + 1 < y.1) ∧ ∀ x ∈ clsOf s, 0 ≤ x.1 ∧ x.1 ≤ x.2 ∧ x.1 ≤ 13000 ∧ (x.2 < 13000 ∨ x.2 = 1114111) := by decide +kernel
  exact ⟨(h s hs).1, (h s hs).2⟩

end Go.Proofs.YtjhombfcbfhinaaDoor
