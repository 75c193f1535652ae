/- What Not, Union, Meet and Less answer. -/
import Derived.Test.YtljankfhnmcbaaaGreatDoorSmade
import Derived.Test.YtljankfhnmcbaaaGreatDoorSmake
namespace Go.Proofs.YtljankfhnmcbaaaGreatDoor
open Go.RowKit Go.Shelf
set_option linter.unusedVariables false

theorem box_two (w : World) (va : Value) (o : Obj) : ((w.alloc (.cells #[va] 22)).alloc o).cell? ⟨w.heap.size, 0, none⟩ = some va := cell_alloc_sl _ (reads_one _ _)
theorem below_three (w : World) (o o' o2 : Obj) : Below w.heap.size w (((w.alloc o).alloc o').alloc o2) := (below_two w o o').alloc (by simp; omega) o2
theorem box_a (w : World) (va vb : Value) (o : Obj) : (((w.alloc (.cells #[va] 22)).alloc (.cells #[vb] 22)).alloc o).cell? ⟨w.heap.size, 0, none⟩ = some va := cell_alloc_sl _ (box_two _ _ _)
theorem box_b (w : World) (va vb : Value) (o : Obj) : (((w.alloc (.cells #[va] 22)).alloc (.cells #[vb] 22)).alloc o).cell? ⟨w.heap.size + 1, 0, none⟩ = some vb := by
  have := box_two (w.alloc (.cells #[va] 22)) vb o
  simpa using this
theorem row_two (w : World) (va vb : Value) (t : Nat) (j : Nat) (v : Value) (h : #[va, vb][j]? = some v) : (((w.alloc (.cells #[va] 22)).alloc (.cells #[vb] 22)).alloc (.cells #[va, vb] t)).cell? ⟨w.heap.size + 2, j, none⟩ = some v := by
  rw [World.cell?_alloc_at _ _ _ _ (by simp)]
  exact h
theorem chkL_one (va : Value) (A : RL) : chkL [(va, A)] = checkE A := by
  unfold chkL chkL
  split
  · rename_i h; exact h.symm
  · rfl
/-- the first fault of two. -/
def chk2 (A B : RL) : Int := if checkE A = 0 then checkE B else checkE A
theorem chkL_two (va vb : Value) (A B : RL) : chkL [(va, A), (vb, B)] = chk2 A B := by
  unfold chk2
  rw [chkL, chkL_one]
theorem chk_two {A B : RL} (h : chk2 A B = 0) : checkE A = 0 ∧ checkE B = 0 := by
  unfold chk2 at h
  split at h
  · exact ⟨by assumption, h⟩
  · exact absurd h (by assumption)

theorem saysNot : Says 26 (fun a b => !a) := by
  intro a b w
  cases a <;> cases b
  all_goals
    go_enter Tryz.func26, Tryz.ntmps26
    go_wp2
    go_ret
    exact ⟨rfl, rfl⟩
theorem entersNot11 (args : Array Value) (w : World) : (callFunc 26 args).run Tryz.prog w = .ok (.enter 26 args) w := enters_of Tryz.func26 (by kernel_rfl) rfl args w
theorem entersNot1 (args : Array Value) (w : World) : (callFunc 25 args).run Tryz.prog w = .ok (.enter 25 args) w := enters_of Tryz.func25 (by kernel_rfl) rfl args w

set_option maxHeartbeats 1000000 in
theorem makesNot (bx : Addr) (va : Value) (A : RL) (w : World) (hbx : w.cell? bx = some va) (hA : Reads w va A) (cA : Canon A) (lA : A.length ≤ 2000) : Makes 25 #[.pointer (some bx)] (fun q => !ins A q) w := by
  have HK := hide (kept_any 26 _ saysNot entersNot11 va (.slice none 0 0) A [] w hA (reads_nil w) cA canon_nil lA (by decide))
  clear hA cA lA
  unfold Makes
  go_enter Tryz.func25, Tryz.ntmps25
  go_wp2_with fail
  refine HK.out.mono ?_
  rintro e w1 ⟨v, O, rfl, ho, hs, hb⟩
  obtain ⟨ao, c, rfl⟩ := own_shape ho
  go_wp2
  go_ret
  exact ⟨_, _, _, rfl, ho, hs, hb⟩
set_option maxHeartbeats 1000000 in
theorem not_any (va : Value) (A : RL) (w : World) (hA : Reads w va A) : Calls Tryz.prog 8 #[va] w fun e w' => Res (fun q => !ins A q) (checkE A) w e w' := by
  obtain ⟨ao, ca, hva⟩ := hA.shape
  have hb2 := below_two w (.cells #[va] 22) (.cells #[va] 22)
  have HM := hide (made_any 25 #[.pointer (some ⟨w.heap.size, 0, none⟩)] (fun q => !ins A q) (w.heap.size + 1) [(va, A)] ((w.alloc (.cells #[va] 22)).alloc (.cells #[va] 22)) entersNot1 (by simp)
    (fun j hj => by
      obtain rfl : j = 0 := by simpa using hj
      exact ⟨by have := reads_one (w := w.alloc (.cells #[va] 22)) va 22; simp, hA.below hb2⟩)
    (fun h0 w' hb' => by
      rw [chkL_one] at h0
      obtain ⟨l, c⟩ := checkE_ok.1 h0
      exact makesNot _ va A w' (below_cell hb' (by simp; omega) (box_two w va _)) ((hA.below hb2).below hb') c (by omega)))
  rw [chkL_one] at HM
  have HB2 := hide hb2
  clear hA hb2
  rw [hva] at HM HB2 ⊢
  clear hva
  go_enter Tryz.func8, Tryz.ntmps8
  go_wp2_with fail
  refine HM.out.mono ?_
  rintro e w1 ⟨v, err, O, rfl, hr, hm, hb⟩
  go_wp2
  go_ret2
  exact ⟨_, _, O, rfl, own_low hr HB2.out.size, hm, HB2.out.trans (hb.mono HB2.out.size)⟩

theorem saysUnion : Says 21 (fun a b => a || b) := by
  intro a b w
  cases a <;> cases b
  all_goals
    go_enter Tryz.func21, Tryz.ntmps21
    go_wp2
    go_ret
    exact ⟨rfl, rfl⟩
theorem entersUnion11 (args : Array Value) (w : World) : (callFunc 21 args).run Tryz.prog w = .ok (.enter 21 args) w := enters_of Tryz.func21 (by kernel_rfl) rfl args w
theorem entersUnion1 (args : Array Value) (w : World) : (callFunc 19 args).run Tryz.prog w = .ok (.enter 19 args) w := enters_of Tryz.func19 (by kernel_rfl) rfl args w

set_option maxHeartbeats 1000000 in
theorem makesUnion (bx by' : Addr) (va vb : Value) (A B : RL) (w : World) (hbx : w.cell? bx = some va) (hby : w.cell? by' = some vb) (hA : Reads w va A) (hB : Reads w vb B) (cA : Canon A) (lA : A.length ≤ 2000) (cB : Canon B) (lB : B.length ≤ 2000) : Makes 19 #[.pointer (some bx), .pointer (some by')] (fun q => ins A q || ins B q) w := by
  have HK := hide (kept_any 21 _ saysUnion entersUnion11 va vb A B w hA hB cA cB lA lB)
  clear hA cA lA hB cB lB
  unfold Makes
  go_enter Tryz.func19, Tryz.ntmps19
  go_wp2_with fail
  refine HK.out.mono ?_
  rintro e w1 ⟨v, O, rfl, ho, hs, hb⟩
  obtain ⟨ao, c, rfl⟩ := own_shape ho
  go_wp2
  go_ret
  exact ⟨_, _, _, rfl, ho, hs, hb⟩
set_option maxHeartbeats 1000000 in
theorem union_any (va vb : Value) (A B : RL) (w : World) (hA : Reads w va A) (hB : Reads w vb B) : Calls Tryz.prog 6 #[va, vb] w fun e w' => Res (fun q => ins A q || ins B q) (chk2 A B) w e w' := by
  obtain ⟨ao, ca, hva⟩ := hA.shape
  obtain ⟨bo, cb, hvb⟩ := hB.shape
  have hb2 := below_three w (.cells #[va] 22) (.cells #[vb] 22) (.cells #[va, vb] 22)
  have HM := hide (made_any 19 #[.pointer (some ⟨w.heap.size, 0, none⟩), .pointer (some ⟨w.heap.size + 1, 0, none⟩)] (fun q => ins A q || ins B q) (w.heap.size + 2) [(va, A), (vb, B)] (((w.alloc (.cells #[va] 22)).alloc (.cells #[vb] 22)).alloc (.cells #[va, vb] 22)) entersUnion1 (by simp)
    (fun j hj => by
      match j, hj with
      | 0, _ => exact ⟨row_two w va vb _ 0 va rfl, hA.below hb2⟩
      | 1, _ => exact ⟨row_two w va vb _ 1 vb rfl, hB.below hb2⟩)
    (fun h0 w' hb' => by
      rw [chkL_two] at h0
      obtain ⟨h1, h2⟩ := chk_two h0
      obtain ⟨l, c⟩ := checkE_ok.1 h1
      obtain ⟨l', c'⟩ := checkE_ok.1 h2
      exact makesUnion _ _ va vb A B w' (below_cell hb' (by simp; omega) (box_a w va vb _)) (below_cell hb' (by simp) (box_b w va vb _)) ((hA.below hb2).below hb') ((hB.below hb2).below hb') c (by omega) c' (by omega)))
  rw [chkL_two] at HM
  have HB2 := hide hb2
  clear hA hB hb2
  rw [hva, hvb] at HM HB2 ⊢
  clear hva hvb
  go_enter Tryz.func6, Tryz.ntmps6
  go_wp2_with fail
  refine HM.out.mono ?_
  rintro e w1 ⟨v, err, O, rfl, hr, hm, hb⟩
  go_wp2
  go_ret2
  exact ⟨_, _, O, rfl, own_low hr HB2.out.size, hm, HB2.out.trans (hb.mono HB2.out.size)⟩


end Go.Proofs.YtljankfhnmcbaaaGreatDoor

namespace Go.Proofs.YtljankfhnmcbaaaGreatDoor
open Go.RowKit
set_option linter.unusedVariables false

theorem set_ab : IsSet (ins [(5, 9), (1, 4)]) [(1, 9)] := by
  refine ⟨canon_cons.2 ⟨by unfold okR; omega, by simp, canon_nil⟩, fun q => ?_⟩
  rw [Bool.eq_iff_iff]
  simp [ins]
  omega
theorem set_nab : IsSet (fun q => !ins [(1, 9)] q) [(0, 0), (10, 1114111)] := by
  refine ⟨canon_cons.2 ⟨by unfold okR; omega, by simp, canon_cons.2 ⟨by unfold okR; omega, by simp, canon_nil⟩⟩, fun q => ?_⟩
  rw [Bool.eq_iff_iff]
  simp [ins]
  omega
/-- a call that went well answered the set. -/
theorem made_is {f : Int → Bool} {err : Int} {O S : RL} (hm : Made f 0 err O) (hS : IsSet f S) (hl : S.length ≤ 400) : err = 0 ∧ O = S := by
  rcases hm with ⟨h, _⟩ | ⟨_, T, hT, h⟩
  · exact absurd rfl h
  · have : T = S := isSet_one hT hS
    subst this
    rcases h with ⟨_, h1, h2⟩ | ⟨h0, _⟩
    · exact ⟨h1, h2⟩
    · omega
theorem reads_ab (w : World) : Reads (w.alloc (.cells #[.int .i64 5, .int .i64 9, .int .i64 1, .int .i64 4] 25)) (.slice (some ⟨w.heap.size, 0, none⟩) 2 2) [(5, 9), (1, 4)] := by
  refine .inr ⟨_, 2, rfl, fun j hj => ?_⟩
  match j, hj with
  | 0, _ => exact ⟨World.cell?_alloc_at _ _ _ _ rfl, World.cell?_alloc_at _ _ _ _ rfl⟩
  | 1, _ => exact ⟨World.cell?_alloc_at _ _ _ _ rfl, World.cell?_alloc_at _ _ _ _ rfl⟩
  | (j + 2), hj => simp at hj; omega

set_option maxHeartbeats 1000000 in
theorem begun_any (w : World) : Calls Tryz.prog 4 #[] w fun e w' => e = .returned (.bool true) ∧ Below w.heap.size w w' := by
  have HM := hide (make_any _ _ _ (reads_ab w))
  rw [show rightE [(5, 9), (1, 4)] = 0 from by decide] at HM
  have hb0 : Hid (Below w.heap.size w (w.alloc (.cells #[.int .i64 5, .int .i64 9, .int .i64 1, .int .i64 4] 25))) := (Below.refl _ w).alloc (Nat.le_refl _) _
  go_enter Tryz.func4, Tryz.ntmps4
  go_wp2_with fail
  refine HM.out.mono ?_
  rintro e w1 ⟨v1, err, O, rfl, ho1, hm1, hb1⟩
  have hr1 := own_reads ho1
  clear ho1
  obtain ⟨rfl, rfl⟩ := made_is hm1 set_ab (by decide)
  have hc1 := hide (hb0.out.trans (hb1.mono hb0.out.size))
  have HN := hide (not_any v1 [(1, 9)] w1 hr1)
  rw [show checkE [(1, 9)] = 0 from by decide] at HN
  obtain ⟨x1, c1, rfl, _⟩ := hr1.some (by decide)
  clear HM hb1 hm1 hr1
  go_wp2_with fail
  refine HN.out.mono ?_
  rintro e w2 ⟨v2, err, O, rfl, ho2, hm2, hb2⟩
  have hr2 := own_reads ho2
  clear ho2
  obtain ⟨rfl, rfl⟩ := made_is hm2 set_nab (by decide)
  have hc2 := hide (hc1.out.trans (hb2.mono hc1.out.size))
  obtain ⟨x2, c2, rfl, hcx⟩ := hr2.some (by decide)
  obtain ⟨d1, d2⟩ := hcx 0 (by decide)
  simp [Addr.add] at d1 d2
  clear HN hb2 hm2 hr2 hcx
  go_wp2

  go_ret
  exact ⟨rfl, hc2.out⟩

end Go.Proofs.YtljankfhnmcbaaaGreatDoor
