/- SplitCounts: the walk, whatever it is handed. -/
import Derived.Test.YthigleohjagfiaaSrp
import Derived.Test.YthigleohjagfiaaSrk
namespace Go.Proofs.Ythigleohjagfiaa
open Go.RowKit Go.PlainAid
set_option linter.unusedVariables false

theorem splitCounts_walk (enc : Int) (v : Value) (A : RL) (w : World) (hv : Reads w v A) :
    Calls Try.prog 5 #[.int .i64 enc, v] w fun e w' => e = .returned (.bool true) ∧ Below w.heap.size w w' := by
  have hck : ∀ W, Below w.heap.size w W → Calls Try.prog 24 #[v] W fun e w' => e = .returned (.int .i64 (checkE A)) ∧ Below W.heap.size W w' := fun W hW => check_any v A W (hv.below hW)
  by_cases he : isEnc enc
  · by_cases hz : checkE A = 0
    · have hC := checkE_ok.1 hz
      rw [hz] at hck
      refine counts_good w enc he v A hv hC (fun W hW => ?_) (fun LL MM h1 h2 => by rw [h2.length_eq]; have := h1.big he hC; omega)
      have hvW := hv.below hW
      obtain ⟨ao, c, rfl⟩ := hv.shape
      refine roads_main enc he ao A.length c A rfl W (fun h => ?_) (fun W2 hW2 => hck W2 (below_tr hW hW2)) hC
      obtain ⟨x, c', e, hc⟩ := hvW.some h
      injection e with e _ _
      exact ⟨x, e, hc⟩
    · exact counts_bad enc v (checkE A) hz w (fun W hW => roads_bad enc he v (checkE A) hz W (fun W2 hW2 => hck W2 (below_tr hW hW2)))
  · exact counts_bad enc v 7 (by decide) w (fun W hW => roads_kind enc he v W)

end Go.Proofs.Ythigleohjagfiaa
