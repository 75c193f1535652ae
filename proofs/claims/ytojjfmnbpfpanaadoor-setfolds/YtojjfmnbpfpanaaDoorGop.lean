/- Folding twice is folding once. -/
import Derived.Test.YtojjfmnbpfpanaaDoorGfold
import Derived.Test.YtojjfmnbpfpanaaDoorSbegun
import Derived.Test.YtojjfmnbpfpanaaDoorSref
namespace Go.Proofs.YtojjfmnbpfpanaaDoor
open Go.RowKit
set_option linter.unusedVariables false

theorem orb_trans_all : ((pts Fo.ps_alpha).all fun p => (Fo.orb p).all fun q => (Fo.orb q).all fun r => decide (r ∈ Fo.orb p)) = true := by decide +kernel
theorem orb_trans {p q r : Int} (hp : ins Fo.ps_alpha p = true) (hq : q ∈ Fo.orb p) (hr : r ∈ Fo.orb q) : r ∈ Fo.orb p := by
  have h1 := List.all_eq_true.1 orb_trans_all p (mem_pts.2 hp)
  have h2 := List.all_eq_true.1 h1 q hq
  exact of_decide_eq_true (List.all_eq_true.1 h2 r hr)
theorem foldF_iff {A : RL} {q : Int} : foldF A q = true ↔ ins A q = true ∨ ∃ p, ins A p = true ∧ ins Fo.ps_alpha p = true ∧ q ∈ Fo.orb p := by
  unfold foldF
  simp only [Bool.or_eq_true, List.any_eq_true, Bool.and_eq_true, decide_eq_true_eq]
  constructor
  · rintro (h | ⟨p, h1, h2, h3⟩)
    · exact .inl h
    · exact .inr ⟨p, mem_pts.1 h1, h2, h3⟩
  · rintro (h | ⟨p, h1, h2, h3⟩)
    · exact .inl h
    · exact .inr ⟨p, mem_pts.2 h1, h2, h3⟩
theorem fold_twice {A S : RL} (h : IsSet (foldF A) S) : IsSet (foldF S) S := by
  refine isSet_congr (isSet_self h.1) fun q q0 q1 => ?_
  rw [Bool.eq_iff_iff, foldF_iff]
  constructor
  · intro hq; exact .inl hq
  · rintro (hq | ⟨p, hp, ha, hq⟩)
    · exact hq
    · rw [h.2 p] at hp
      simp only [Bool.and_eq_true, decide_eq_true_eq] at hp
      rw [h.2 q]
      simp only [Bool.and_eq_true, decide_eq_true_eq]
      refine ⟨⟨q0, q1⟩, foldF_iff.2 (.inr ?_)⟩
      rcases foldF_iff.1 hp.2 with h1 | ⟨p', h1, h2, h3⟩
      · exact ⟨p, h1, ha, hq⟩
      · exact ⟨p', h1, h2, orb_trans h2 h3 hq⟩
theorem fold_less {A S : RL} (h : IsSet (foldF A) S) (hA : Canon A) : IsSet (fun q => ins A q && !ins S q) [] := by
  refine ⟨canon_nil, fun q => ?_⟩
  have e : ins A q = true → ins S q = true := fun hq => by
    obtain ⟨q0, q1⟩ := pts_ok hA q (mem_pts.2 hq)
    rw [h.2 q]
    simp only [Bool.and_eq_true, decide_eq_true_eq]
    exact ⟨⟨q0, q1⟩, foldF_iff.2 (.inl hq)⟩
  simp only
  cases h1 : ins A q with
  | false => rw [show ins [] q = false from rfl, Bool.false_and, Bool.and_false]
  | true => rw [e h1, show ins [] q = false from rfl, Bool.not_true, Bool.and_false, Bool.and_false]

end Go.Proofs.YtojjfmnbpfpanaaDoor
