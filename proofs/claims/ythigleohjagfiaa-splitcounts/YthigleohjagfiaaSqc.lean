/- What splitBegun answers. -/
import Derived.Test.YthigleohjagfiaaSqb
namespace Go.Proofs.Ythigleohjagfiaa
open Go.RowKit Go.PlainAid
set_option linter.unusedVariables false

abbrev twoL : List RL := [[(65, 66)], [(195, 195), (169, 169)]]
theorem rdReads {w : World} {g : Nat} {L : RL} (h : w.heap[g]? = some (rdO L 0)) : Reads w (.slice (some ⟨g, 0, none⟩) L.length L.length) L := by
  refine .inr ⟨_, _, rfl, fun j hj => ?_⟩
  have hadd : (⟨g, 0, none⟩ : Addr).add (j * 2) = ⟨g, j * 2, none⟩ := by unfold Addr.add; split <;> simp_all
  rw [hadd]
  have hl : ∀ (L : RL) (j : Nat) (hj : j < L.length), (rowR L)[j * 2]? = some (.int .i64 L[j].1) ∧ (rowR L)[j * 2 + 1]? = some (.int .i64 L[j].2) := by
    intro L
    induction L with
    | nil => intro j hj; simp at hj
    | cons r L ih =>
      intro j hj
      have e : rowR (r :: L) = .int .i64 r.1 :: .int .i64 r.2 :: rowR L := by unfold rowR; rw [List.flatMap_cons]; rfl
      rw [e]
      cases j with
      | zero => exact ⟨rfl, rfl⟩
      | succ j =>
        have := ih j (by simpa using hj)
        rw [show (j + 1) * 2 = j * 2 + 1 + 1 by omega]
        simpa using this
  have := hl L j hj
  constructor
  · simp only [World.cell?, h, rdO]
    simpa using this.1
  · simp only [World.cell?, h, rdO]
    simpa using this.2
theorem Row2.rdC {w : World} {gr g0 g1 c : Nat} (h : Row2 w gr g0 g1) (hc : 2 ≤ c ∧ c ≤ 9223372036854775807) : RdC w (.slice (some ⟨gr, 0, none⟩) 2 c) twoL := by
  refine .inr ⟨_, _, rfl, hc, fun j hj => ?_⟩
  rcases (by simp at hj; omega : j = 0 ∨ j = 1) with rfl | rfl
  · exact ⟨_, h.c0, rdReads h.two.r0, by decide +revert⟩
  · exact ⟨_, h.c1, rdReads h.two.r1, by decide +revert⟩
theorem begun_R {n z : Int} (h : AlongR 1 twoL ⟨#[120, 195, 169]⟩ 1 n z) : n = 2 ∧ z = 0 := by
  have hno : ¬ GoesAt [(65, 66)] ⟨#[120, 195, 169]⟩ 1 := fun hh => by
    have := (hh.2 0 (by decide)).2
    revert this
    decide
  have hyes : GoesAt [(195, 195), (169, 169)] ⟨#[120, 195, 169]⟩ 1 := by
    refine ⟨by decide, fun i hi => ?_⟩
    rcases (by simp at hi; omega : i = 0 ∨ i = 1) with rfl | rfl <;> decide +revert
  rcases h with ⟨h1, _⟩ | ⟨_, h1, _⟩ | ⟨_, _, h1, _⟩ | ⟨_, _, _, _, hz, h1⟩
  · exact absurd h1 (by decide)
  · exact absurd h1 (by decide)
  · rcases h1 with h1 | h1 <;> exact absurd h1 (by decide)
  · refine ⟨?_, hz⟩
    rcases h1 with ⟨j, hj, hg, _, hn⟩ | ⟨hall, _⟩
    · rcases (by simp at hj; omega : j = 0 ∨ j = 1) with rfl | rfl
      · exact absurd hg hno
      · rw [hn]; rfl
    · exact absurd hyes (hall 1 (by decide))
set_option maxRecDepth 100000 in
set_option maxHeartbeats 4000000 in
theorem splitBegun_any (w : World) : Calls Try.prog 9 #[] w fun e w' => e = .returned (.bool true) ∧ Below w.heap.size w w' := by
  obtain ⟨w1, hw1⟩ : ∃ w1, w1 = w.alloc (.cells #[.int .i64 65, .int .i64 66, .int .i64 233, .int .i64 233] 28) := ⟨_, rfl⟩
  have hX1 : w1.heap[w.heap.size]? = some (.cells #[.int .i64 65, .int .i64 66, .int .i64 233, .int .i64 233] 28) := by rw [hw1]; exact at_newS _ _
  have hb1 : Below w.heap.size w w1 := by rw [hw1]; exact (Below.refl _ w).alloc (Nat.le_refl _) _
  have hA : Cells2 w1 ⟨w.heap.size, 0, none⟩ setA := fun j hj => by
    rcases (by simp at hj; omega : j = 0 ∨ j = 1) with rfl | rfl
    · exact ⟨cells_at hX1 0, cells_at hX1 1⟩
    · exact ⟨cells_at hX1 2, cells_at hX1 3⟩
  have HRo := hide (roads_any ⟨w.heap.size, 0, none⟩ 2 w1 hA)
  have HB1 := hide hb1
  obtain ⟨bx, hbx⟩ : ∃ bx, bx = w.heap.size := ⟨_, rfl⟩
  rw [← hbx] at HRo
  clear hA hX1 hb1
  go_enter Try.func9, Try.ntmps9
  go_wp2_with fail
  rw [← hw1, ← hbx]
  clear hw1 hbx
  refine HRo.out.mono ?_
  rintro e w2 ⟨gr, c, g0, g1, rfl, hrow, hc, hb2⟩
  have HB2 := hide (HB1.out.trans (hb2.mono HB1.out.size))
  have HAl := hide (along_any 1 _ twoL ⟨#[120, 195, 169]⟩ 1 w2 (hrow.rdC hc) (by decide))
  clear hrow hb2 HRo
  go_wp2_with fail
  refine HAl.out.mono ?_
  rintro e w3 ⟨⟨n, z, rfl, hR⟩, hb3⟩
  obtain ⟨rfl, rfl⟩ := begun_R hR
  have HB3 := hide (HB2.out.trans (hb3.mono HB2.out.size))
  clear hR hb3 HAl hc
  go_wp2
  go_ret
  exact ⟨rfl, HB3.out⟩

end Go.Proofs.Ythigleohjagfiaa
