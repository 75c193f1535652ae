/- The reference's Escaped: k, as functions of lists. -/
import Derived.Test.YtlapnhjkhpgklaaRc6
import Derived.Test.YtlapnhjkhpgklaaRb6
namespace Go.Proofs.Ytlapnhjkhpgklaa
open Go.RowKit
set_option linter.unusedVariables false

theorem wp_abs {P : Program} {c : Code} {Q : Exit → Act → World → Prop} {tmps : Array Value} {ds : List Deferred} {w : World} (h : ∀ A : Array Value, A = tmps → c.wp P Q ⟨A, ds⟩ w) : c.wp P Q ⟨tmps, ds⟩ w := h _ rfl
theorem name_first {l : List Int} {j : Nat} (h : nameL l j ≠ []) : says l j [45] = false ∧ (digs 10 3 l j).2 = 0 := by
  unfold nameL at h
  unfold digs
  rw [says_one]
  by_cases hj : j < l.length
  · rw [List.drop_eq_getElem_cons hj] at h ⊢
    rw [List.getElem?_eq_getElem hj]
    simp only [takeN] at h
    by_cases hn : nameB l[j] true = true
    · have h1 : letB l[j] = true ∨ l[j] = 95 := by
        unfold nameB at hn
        simp at hn
        exact hn
      have h2 : l[j] = 95 ∨ (97 ≤ l[j] ∧ l[j] ≤ 122) ∨ (65 ≤ l[j] ∧ l[j] ≤ 90) := by
        rcases h1 with h1 | h1
        · unfold letB at h1; simp at h1; exact .inr h1
        · exact .inl h1
      refine ⟨?_, ?_⟩
      · simp only [Option.some_beq_some, beq_eq_false_iff_ne, ne_eq]; omega
      · simp only [digsS]
        rw [if_neg (by unfold digV; repeat (first | omega | split))]
    · rw [if_neg hn] at h; exact absurd rfl h
  · rw [List.drop_eq_nil_of_le (by omega)] at h
    exact absurd rfl h
theorem agb_none {l : List Int} {i : Nat} (h : says l i [60] = false) : agbT l i = .error 1 := by unfold agbT; rw [if_pos h]
theorem agb_name {l : List Int} {i : Nat} (h : says l i [60] = true) (hn : nameL l (i + 1) ≠ []) : agbT l i = if says l (i + 1 + (nameL l (i + 1)).length) [62] = false then .error 1 else .ok ({ kind := 10, text := byteA (nameL l (i + 1)) }, i + 1 + (nameL l (i + 1)).length + 1) := by
  obtain ⟨h1, h2⟩ := name_first hn
  unfold agbT
  rw [if_neg (by rw [h]; decide)]
  simp only [h1, if_false, Bool.false_eq_true]
  rw [if_neg (by omega), if_neg hn]
theorem agb_num {l : List Int} {i j : Nat} {b : Bool} (h : says l i [60] = true) (hn : nameL l (i + 1) = []) (hb : says l (i + 1) [45] = b) (hj : j = if b then i + 2 else i + 1) : agbT l i = if (digs 10 3 l j).2 = 0 then .error 1 else if says l (j + (digs 10 3 l j).2) [62] = false then .error 1 else if (digs 10 3 l j).1 = 0 then .error 3 else .ok (againT (if b then -(digs 10 3 l j).1 else (digs 10 3 l j).1), j + (digs 10 3 l j).2 + 1) := by
  subst hj
  unfold agbT
  rw [if_neg (by rw [h]; decide)]
  simp only [hb]
  by_cases h0 : (digs 10 3 l (if b = true then i + 2 else i + 1)).2 = 0
  · rw [if_neg (by omega), if_pos h0]
    cases b with
    | true => simp
    | false => simp [hn]
  · rw [if_pos (by omega), if_neg h0]

/-- another block is stored into. -/
theorem EscC.setAt {w : World} {x : Addr} {n c : Nat} {i k : Int} {W : World} (h : EscC w x n c i k W) {M : Nat} (hM : w.heap.size + 5 ≤ M) (o : Nat) (v : Value) : EscC w x n c i k (W.setCell ⟨M, o, none⟩ v) := by
  have hne : ∀ b, b ≠ M → (W.setCell ⟨M, o, none⟩ v).heap[b]? = W.heap[b]? := fun b hb => Below.heap_setCell _ _ _ _ (fun e => hb e)
  refine ⟨⟨h.a.below.setCell (by show w.heap.size ≤ M; omega) _, ?_, ?_, ?_, ?_⟩, ?_⟩
  · rw [World.cell?, hne _ (by show w.heap.size ≠ _; omega)]; exact h.a.sl
  · rw [World.cell?, hne _ (by show w.heap.size + 1 ≠ _; omega)]; exact h.a.at_
  · rw [hne _ (by omega)]; exact h.a.tok
  · rw [hne _ (by omega)]; exact h.a.nxt
  · rw [hne _ (by omega)]; exact h.cls


end Go.Proofs.Ytlapnhjkhpgklaa
