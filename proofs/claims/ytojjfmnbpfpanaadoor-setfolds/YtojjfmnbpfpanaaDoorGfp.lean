/- Folding, as the reference goes about it. -/
import Derived.Test.YtojjfmnbpfpanaaDoorGop
import Derived.Test.YtojjfmnbpfpanaaDoorFOpure
namespace Go.Proofs.YtojjfmnbpfpanaaDoor
set_option linter.unusedVariables false

theorem there_all : ((pts Fo.ps_alpha).all fun x => decide (Fo.orb x = [x]) || (Fo.orb x).any fun p => !(Fo.besL p).isEmpty && decide (0 ≤ p) && decide (p < 8500) && decide (x ∈ Fo.orb p) && (Fo.orb x).all fun q => decide (q ∈ Fo.orb p)) = true := by decide +kernel
theorem back_all : (Fo.rels.all fun p => (Fo.besL p).isEmpty || (Fo.orb p).all fun x => ins Fo.ps_alpha x && (Fo.orb p).all fun q => decide (q ∈ Fo.orb x)) = true := by decide +kernel
theorem foldF_ref {A : RL} {q : Int} : foldF A q = true ↔ ins A q = true ∨ ∃ p, 0 ≤ p ∧ p < 8500 ∧ Fo.besL p ≠ [] ∧ q ∈ Fo.orb p ∧ ∃ x ∈ Fo.orb p, ins A x = true := by
  rw [foldF_iff]
  constructor
  · rintro (h | ⟨x, hx, ha, hq⟩)
    · exact .inl h
    · have h1 := List.all_eq_true.1 there_all x (mem_pts.2 ha)
      simp only [Bool.or_eq_true, decide_eq_true_eq] at h1
      rcases h1 with h1 | h1
      · rw [h1] at hq
        rw [List.mem_singleton.1 hq]
        exact .inl hx
      · obtain ⟨p, hp, h2⟩ := List.any_eq_true.1 h1
        simp only [Bool.and_eq_true, decide_eq_true_eq, Bool.not_eq_true'] at h2
        obtain ⟨⟨⟨⟨b, p0⟩, p1⟩, hxp⟩, hall⟩ := h2
        refine .inr ⟨p, p0, p1, ?_, of_decide_eq_true (List.all_eq_true.1 hall q hq), x, hxp, hx⟩
        intro e
        rw [e] at b
        exact absurd b (by decide)
  · rintro (h | ⟨p, p0, p1, hb, hq, x, hx, hA⟩)
    · exact .inl h
    · have hr : Fo.relB p = true := by
        cases h : Fo.relB p with
        | true => rfl
        | false => exact absurd (Fo.bes_no h) hb
      have h1 := List.all_eq_true.1 back_all p (Fo.mem_rels hr)
      simp only [Bool.or_eq_true] at h1
      rcases h1 with h1 | h1
      · exact absurd (List.isEmpty_iff.1 h1) hb
      · have h2 := List.all_eq_true.1 h1 x hx
        simp only [Bool.and_eq_true] at h2
        exact .inr ⟨x, hA, h2.1, of_decide_eq_true (List.all_eq_true.1 h2.2 q hq)⟩

end Go.Proofs.YtojjfmnbpfpanaaDoor
