/- What must be in any case. -/
import Derived.Test.YtojjfmnbpfpanaaDoorSmake
import Derived.Test.YtojjfmnbpfpanaaDoorSopsg
namespace Go.Proofs.YtojjfmnbpfpanaaDoor
open Go.RowKit
set_option linter.unusedVariables false

theorem set_ab : IsSet (ins [(5, 9), (1, 4)]) [(1, 9)] := by
  refine ⟨canon_cons.2 ⟨by unfold okR; omega, by simp, canon_nil⟩, fun q => ?_⟩
  rw [Bool.eq_iff_iff]
  simp [ins]
  omega
theorem set_nab : IsSet (fun q => !ins [(1, 9)] q) [(0, 0), (10, 1114111)] := by
  refine ⟨canon_cons.2 ⟨by unfold okR; omega, by simp, canon_cons.2 ⟨by unfold okR; omega, by simp, canon_nil⟩⟩, fun q => ?_⟩
  rw [Bool.eq_iff_iff]
  simp [ins]
  omega
/-- a call that went well answered the set. -/
theorem made_is {f : Int → Bool} {err : Int} {O S : RL} (hm : Made f 0 err O) (hS : IsSet f S) (hl : S.length ≤ 400) : err = 0 ∧ O = S := by
  rcases hm with ⟨h, _⟩ | ⟨_, T, hT, h⟩
  · exact absurd rfl h
  · have : T = S := isSet_one hT hS
    subst this
    rcases h with ⟨_, h1, h2⟩ | ⟨h0, _⟩
    · exact ⟨h1, h2⟩
    · omega
theorem reads_ab (w : World) : Reads (w.alloc (.cells #[.int .i64 5, .int .i64 9, .int .i64 1, .int .i64 4] 35)) (.slice (some ⟨w.heap.size, 0, none⟩) 2 2) [(5, 9), (1, 4)] := by
  refine .inr ⟨_, 2, rfl, fun j hj => ?_⟩
  match j, hj with
  | 0, _ => exact ⟨World.cell?_alloc_at _ _ _ _ rfl, World.cell?_alloc_at _ _ _ _ rfl⟩
  | 1, _ => exact ⟨World.cell?_alloc_at _ _ _ _ rfl, World.cell?_alloc_at _ _ _ _ rfl⟩
  | (j + 2), hj => simp at hj; omega

set_option maxHeartbeats 1000000 in
theorem begun_any (w : World) : Calls Tryd.prog 8 #[] w fun e w' => e = .returned (.bool true) ∧ Below w.heap.size w w' := by
  have HM := hide (make_any _ _ _ (reads_ab w))
  rw [show rightE [(5, 9), (1, 4)] = 0 from by decide] at HM
  have hb0 : Hid (Below w.heap.size w (w.alloc (.cells #[.int .i64 5, .int .i64 9, .int .i64 1, .int .i64 4] 35))) := (Below.refl _ w).alloc (Nat.le_refl _) _
  go_enter Tryd.func8, Tryd.ntmps8
  go_wp2_with fail
  refine HM.out.mono ?_
  rintro e w1 ⟨v1, err, O, rfl, hr1, hm1, hb1⟩
  obtain ⟨rfl, rfl⟩ := made_is hm1 set_ab (by decide)
  have hc1 := hide (hb0.out.trans (hb1.mono hb0.out.size))
  have HN := hide (not_any v1 [(1, 9)] w1 hr1)
  rw [show checkE [(1, 9)] = 0 from by decide] at HN
  obtain ⟨x1, c1, rfl, _⟩ := hr1.some (by decide)
  clear HM hb1 hm1 hr1
  go_wp2_with fail
  refine HN.out.mono ?_
  rintro e w2 ⟨v2, err, O, rfl, hr2, hm2, hb2⟩
  obtain ⟨rfl, rfl⟩ := made_is hm2 set_nab (by decide)
  have hc2 := hide (hc1.out.trans (hb2.mono hc1.out.size))
  obtain ⟨x2, c2, rfl, hcx⟩ := hr2.some (by decide)
  obtain ⟨d1, d2⟩ := hcx 0 (by decide)
  simp [Addr.add] at d1 d2
  clear HN hb2 hm2 hr2 hcx
  go_wp2

  go_ret
  exact ⟨rfl, hc2.out⟩

end Go.Proofs.YtojjfmnbpfpanaaDoor
