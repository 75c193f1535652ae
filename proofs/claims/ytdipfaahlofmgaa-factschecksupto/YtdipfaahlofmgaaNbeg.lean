/- What factsBegun answers. -/
import Derived.Test.YtdipfaahlofmgaaNof
namespace Go.Proofs.Ytdipfaahlofmgaa
open Go.RowKit
set_option linter.unusedVariables false

abbrev begV (b : Nat) : NV := ⟨2, some ⟨b, 0, none⟩, 1, 1, none, 0, 0, 0, 0, 0, 0, false⟩
abbrev begT : Tr := .mk 2 0 0 0 0 false [(1, 2)] []
theorem begN (w : World) : NodeC (w.alloc (.cells #[.int .i64 1, .int .i64 2] 51)) (begV w.heap.size) begT := by
  have hb : (w.alloc (.cells #[.int .i64 1, .int .i64 2] 51)).heap[w.heap.size]? = some (.cells #[.int .i64 1, .int .i64 2] 51) := at_new _ _
  obtain ⟨W, hW⟩ : ∃ W, W = w.alloc (.cells #[.int .i64 1, .int .i64 2] 51) := ⟨_, rfl⟩
  rw [← hW] at hb ⊢
  refine .mk (begV w.heap.size) [(1, 2)] [] (fun _ => begV 0) (.inr ⟨⟨w.heap.size, 0, none⟩, 1, rfl, fun j hj => ?_⟩) (.inl ⟨rfl, rfl, rfl, rfl⟩) (fun j hj => by simp at hj)
  have : j = 0 := by simpa using hj
  subst this
  simp [World.cell?, hb, Addr.add]
theorem begE : aloneE begT = 0 := by decide
theorem begF : ofF begT = ⟨1, 1, true⟩ := by unfold ofF; rw [if_pos begE]; rfl
set_option maxRecDepth 100000 in
set_option maxHeartbeats 1000000 in
theorem factsBegun_any (w : World) : Calls Try.prog 11 #[] w fun e w' => e = .returned (.bool true) ∧ Below w.heap.size w w' := by
  have hb1 : Below w.heap.size w (w.alloc (.cells #[.int .i64 1, .int .i64 2] 51)) := (Below.refl _ w).alloc (Nat.le_refl _) _
  have HC := hide (of_any _ _ _ (begN w))
  rw [begE, begF] at HC
  obtain ⟨w1, hw1⟩ : ∃ w1, w1 = w.alloc (.cells #[.int .i64 1, .int .i64 2] 51) := ⟨_, rfl⟩
  rw [← hw1] at HC hb1
  have HB1 := hide hb1
  clear hb1
  simp only [nvV, ftV] at HC
  go_enter Try.func11, Try.ntmps11
  go_wp2_with fail
  rw [← hw1]
  clear hw1
  refine HC.out.mono ?_
  rintro e w2 ⟨rfl, hb2⟩
  have HB2 := hide (HB1.out.trans (hb2.mono HB1.out.size))
  clear hb2 HC HB1
  go_wp2
  go_ret
  exact ⟨rfl, HB2.out.alloc HB2.out.size _⟩

end Go.Proofs.Ytdipfaahlofmgaa
