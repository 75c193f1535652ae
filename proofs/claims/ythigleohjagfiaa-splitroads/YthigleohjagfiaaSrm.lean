/- SplitRoads: the walk, whatever it is handed. -/
import Derived.Test.YthigleohjagfiaaSrl
namespace Go.Proofs.Ythigleohjagfiaa
open Go.RowKit Go.PlainAid
set_option linter.unusedVariables false

theorem RRow.len {S : ShP} {A : RL} {M : List RL} (h : RRow S A M) : (∀ r ∈ A, okR r) → M.length ≤ A.length * 1114112 := by
  induction h with
  | nil => simp
  | snoc h1 h2 ih =>
    intro hA
    have l1 := ih (fun r hr => hA r (by simp [hr]))
    have hr := hA _ (List.mem_append_right _ (List.mem_singleton.2 rfl))
    have l2 := h2.len ⟨hr.1, hr.2.2⟩
    simp only [List.length_append, List.length_cons, List.length_nil]
    omega
theorem RAll.len {A : RL} {Ss : List ShP} {LL : List RL} (h : RAll A Ss LL) (hA : A.length ≤ 400 ∧ ∀ r ∈ A, okR r) : LL.length ≤ Ss.length * (400 * 1114112) := by
  induction h with
  | nil => simp
  | snoc h1 h2 ih =>
    have l2 := h2.len hA.2
    have : A.length * 1114112 ≤ 400 * 1114112 := Nat.mul_le_mul_right _ hA.1
    simp only [List.length_append, List.length_cons, List.length_nil]
    omega
theorem RAll.big {enc : Int} (he : isEnc enc) {A : RL} {LL : List RL} (h : RAll A (shapesP enc) LL) (hC : A.length ≤ 400 ∧ Canon A) : LL.length ≤ 2228224000 := by
  have h1 := h.len ⟨hC.1, hC.2.1⟩
  have h2 : (shapesP enc).length ≤ 5 := by rcases he with rfl | rfl | rfl | rfl <;> simp [shapesP, paired]
  have : (shapesP enc).length * (400 * 1114112) ≤ 5 * (400 * 1114112) := Nat.mul_le_mul_right _ h2
  omega
theorem splitRoads_walk (enc : Int) (v : Value) (A : RL) (p : Int) (s : ByteArray) (w : World) (hv : Reads w v A) (hs : s.size ≤ 1000000000000000) :
    Calls Try.prog 4 #[.int .i64 enc, v, .int .i64 p, .string s] w fun e w' => e = .returned (.bool true) ∧ Below w.heap.size w w' := by
  have hcs : ∀ W, Below w.heap.size w W → Calls Try.prog 11 #[v] W fun e w' => e = .returned (.int .i64 (checkE A)) ∧ Below W.heap.size W w' := fun W hW => checkSet_any v A W (hv.below hW)
  have hck : ∀ W, Below w.heap.size w W → Calls Try.prog 24 #[v] W fun e w' => e = .returned (.int .i64 (checkE A)) ∧ Below W.heap.size W w' := fun W hW => check_any v A W (hv.below hW)
  by_cases he : isEnc enc
  · by_cases hz : checkE A = 0
    · have hC := checkE_ok.1 hz
      rw [hz] at hck hcs
      refine roads_law_good w enc he v A hv hC p s hs ?_ hcs (fun LL MM h1 h2 => by rw [h2.length_eq]; have := h1.big he hC; omega)
      obtain ⟨ao, c, rfl⟩ := hv.shape
      refine roads_main enc he ao A.length c A rfl w (fun h => ?_) hck hC
      obtain ⟨x, c', e, hc⟩ := hv.some h
      injection e with e _ _
      exact ⟨x, e, hc⟩
    · exact roads_law_bad enc v (checkE A) hz p s w (roads_bad enc he v (checkE A) hz w hck) (.inr ⟨he, hcs⟩)
  · exact roads_law_bad enc v 7 (by decide) p s w (roads_kind enc he v w) (.inl ⟨he, rfl⟩)

end Go.Proofs.Ythigleohjagfiaa
