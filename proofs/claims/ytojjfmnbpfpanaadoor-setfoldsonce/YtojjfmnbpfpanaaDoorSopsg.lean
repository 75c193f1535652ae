/- What Not, Union, Meet and Less answer. -/
import Derived.Test.YtojjfmnbpfpanaaDoorSmade
namespace Go.Proofs.YtojjfmnbpfpanaaDoor
open Go.RowKit Go.Shelf
set_option linter.unusedVariables false

theorem box_two (w : World) (va : Value) (o : Obj) : ((w.alloc (.cells #[va] 22)).alloc o).cell? ⟨w.heap.size, 0, none⟩ = some va := cell_alloc_sl _ (reads_one _ _)
theorem below_three (w : World) (o o' o2 : Obj) : Below w.heap.size w (((w.alloc o).alloc o').alloc o2) := (below_two w o o').alloc (by simp; omega) o2
theorem box_a (w : World) (va vb : Value) (o : Obj) : (((w.alloc (.cells #[va] 22)).alloc (.cells #[vb] 22)).alloc o).cell? ⟨w.heap.size, 0, none⟩ = some va := cell_alloc_sl _ (box_two _ _ _)
theorem box_b (w : World) (va vb : Value) (o : Obj) : (((w.alloc (.cells #[va] 22)).alloc (.cells #[vb] 22)).alloc o).cell? ⟨w.heap.size + 1, 0, none⟩ = some vb := by
  have := box_two (w.alloc (.cells #[va] 22)) vb o
  simpa using this
theorem row_two (w : World) (va vb : Value) (t : Nat) (j : Nat) (v : Value) (h : #[va, vb][j]? = some v) : (((w.alloc (.cells #[va] 22)).alloc (.cells #[vb] 22)).alloc (.cells #[va, vb] t)).cell? ⟨w.heap.size + 2, j, none⟩ = some v := by
  rw [World.cell?_alloc_at _ _ _ _ (by simp)]
  exact h
theorem chkL_one (va : Value) (A : RL) : chkL [(va, A)] = checkE A := by
  unfold chkL chkL
  split
  · rename_i h; exact h.symm
  · rfl
/-- the first fault of two. -/
def chk2 (A B : RL) : Int := if checkE A = 0 then checkE B else checkE A
theorem chkL_two (va vb : Value) (A B : RL) : chkL [(va, A), (vb, B)] = chk2 A B := by
  unfold chk2
  rw [chkL, chkL_one]
theorem chk_two {A B : RL} (h : chk2 A B = 0) : checkE A = 0 ∧ checkE B = 0 := by
  unfold chk2 at h
  split at h
  · exact ⟨by assumption, h⟩
  · exact absurd h (by assumption)

theorem saysNot : Says 48 (fun a b => !a) := by
  intro a b w
  cases a <;> cases b
  all_goals
    go_enter Tryd.func48, Tryd.ntmps48
    go_wp2
    go_ret
    exact ⟨rfl, rfl⟩
theorem entersNot11 (args : Array Value) (w : World) : (callFunc 48 args).run Tryd.prog w = .ok (.enter 48 args) w := enters_of Tryd.func48 (by kernel_rfl) rfl args w
theorem entersNot1 (args : Array Value) (w : World) : (callFunc 47 args).run Tryd.prog w = .ok (.enter 47 args) w := enters_of Tryd.func47 (by kernel_rfl) rfl args w

set_option maxHeartbeats 1000000 in
theorem makesNot (bx : Addr) (va : Value) (A : RL) (w : World) (hbx : w.cell? bx = some va) (hA : Reads w va A) (cA : Canon A) (lA : A.length ≤ 2000) : Makes 47 #[.pointer (some bx)] (fun q => !ins A q) w := by
  have HK := hide (kept_any 48 _ saysNot entersNot11 va (.slice none 0 0) A [] w hA (reads_nil w) cA canon_nil lA (by decide))
  clear hA cA lA
  unfold Makes
  go_enter Tryd.func47, Tryd.ntmps47
  go_wp2_with fail
  refine HK.out.mono ?_
  rintro e w1 ⟨v, O, rfl, ho, hs, hb⟩
  obtain ⟨ao, c, rfl⟩ := own_shape ho
  go_wp2
  go_ret
  exact ⟨_, _, _, rfl, ho, hs, hb⟩
set_option maxHeartbeats 1000000 in
theorem not_any (va : Value) (A : RL) (w : World) (hA : Reads w va A) : Calls Tryd.prog 25 #[va] w fun e w' => Res (fun q => !ins A q) (checkE A) w e w' := by
  obtain ⟨ao, ca, hva⟩ := hA.shape
  have hb2 := below_two w (.cells #[va] 22) (.cells #[va] 22)
  have HM := hide (made_any 47 #[.pointer (some ⟨w.heap.size, 0, none⟩)] (fun q => !ins A q) (w.heap.size + 1) [(va, A)] ((w.alloc (.cells #[va] 22)).alloc (.cells #[va] 22)) entersNot1 (by simp)
    (fun j hj => by
      obtain rfl : j = 0 := by simpa using hj
      exact ⟨by have := reads_one (w := w.alloc (.cells #[va] 22)) va 22; simp, hA.below hb2⟩)
    (fun h0 w' hb' => by
      rw [chkL_one] at h0
      obtain ⟨l, c⟩ := checkE_ok.1 h0
      exact makesNot _ va A w' (below_cell hb' (by simp; omega) (box_two w va _)) ((hA.below hb2).below hb') c (by omega)))
  rw [chkL_one] at HM
  have HB2 := hide hb2
  clear hA hb2
  rw [hva] at HM HB2 ⊢
  clear hva
  go_enter Tryd.func25, Tryd.ntmps25
  go_wp2_with fail
  refine HM.out.mono ?_
  rintro e w1 ⟨v, err, O, rfl, hr, hm, hb⟩
  go_wp2
  go_ret2
  exact ⟨_, _, O, rfl, hr, hm, HB2.out.trans (hb.mono HB2.out.size)⟩

theorem saysLess : Says 28 (fun a b => a && !b) := by
  intro a b w
  cases a <;> cases b
  all_goals
    go_enter Tryd.func28, Tryd.ntmps28
    go_wp2
    go_ret
    exact ⟨rfl, rfl⟩
theorem entersLess11 (args : Array Value) (w : World) : (callFunc 28 args).run Tryd.prog w = .ok (.enter 28 args) w := enters_of Tryd.func28 (by kernel_rfl) rfl args w
theorem entersLess1 (args : Array Value) (w : World) : (callFunc 26 args).run Tryd.prog w = .ok (.enter 26 args) w := enters_of Tryd.func26 (by kernel_rfl) rfl args w

set_option maxHeartbeats 1000000 in
theorem makesLess (bx by' : Addr) (va vb : Value) (A B : RL) (w : World) (hbx : w.cell? bx = some va) (hby : w.cell? by' = some vb) (hA : Reads w va A) (hB : Reads w vb B) (cA : Canon A) (lA : A.length ≤ 2000) (cB : Canon B) (lB : B.length ≤ 2000) : Makes 26 #[.pointer (some bx), .pointer (some by')] (fun q => ins A q && !ins B q) w := by
  have HK := hide (kept_any 28 _ saysLess entersLess11 va vb A B w hA hB cA cB lA lB)
  clear hA cA lA hB cB lB
  unfold Makes
  go_enter Tryd.func26, Tryd.ntmps26
  go_wp2_with fail
  refine HK.out.mono ?_
  rintro e w1 ⟨v, O, rfl, ho, hs, hb⟩
  obtain ⟨ao, c, rfl⟩ := own_shape ho
  go_wp2
  go_ret
  exact ⟨_, _, _, rfl, ho, hs, hb⟩
set_option maxHeartbeats 1000000 in
theorem less_any (va vb : Value) (A B : RL) (w : World) (hA : Reads w va A) (hB : Reads w vb B) : Calls Tryd.prog 10 #[va, vb] w fun e w' => Res (fun q => ins A q && !ins B q) (chk2 A B) w e w' := by
  obtain ⟨ao, ca, hva⟩ := hA.shape
  obtain ⟨bo, cb, hvb⟩ := hB.shape
  have hb2 := below_three w (.cells #[va] 22) (.cells #[vb] 22) (.cells #[va, vb] 22)
  have HM := hide (made_any 26 #[.pointer (some ⟨w.heap.size, 0, none⟩), .pointer (some ⟨w.heap.size + 1, 0, none⟩)] (fun q => ins A q && !ins B q) (w.heap.size + 2) [(va, A), (vb, B)] (((w.alloc (.cells #[va] 22)).alloc (.cells #[vb] 22)).alloc (.cells #[va, vb] 22)) entersLess1 (by simp)
    (fun j hj => by
      match j, hj with
      | 0, _ => exact ⟨row_two w va vb _ 0 va rfl, hA.below hb2⟩
      | 1, _ => exact ⟨row_two w va vb _ 1 vb rfl, hB.below hb2⟩)
    (fun h0 w' hb' => by
      rw [chkL_two] at h0
      obtain ⟨h1, h2⟩ := chk_two h0
      obtain ⟨l, c⟩ := checkE_ok.1 h1
      obtain ⟨l', c'⟩ := checkE_ok.1 h2
      exact makesLess _ _ va vb A B w' (below_cell hb' (by simp; omega) (box_a w va vb _)) (below_cell hb' (by simp) (box_b w va vb _)) ((hA.below hb2).below hb') ((hB.below hb2).below hb') c (by omega) c' (by omega)))
  rw [chkL_two] at HM
  have HB2 := hide hb2
  clear hA hB hb2
  rw [hva, hvb] at HM HB2 ⊢
  clear hva hvb
  go_enter Tryd.func10, Tryd.ntmps10
  go_wp2_with fail
  refine HM.out.mono ?_
  rintro e w1 ⟨v, err, O, rfl, hr, hm, hb⟩
  go_wp2
  go_ret2
  exact ⟨_, _, O, rfl, hr, hm, HB2.out.trans (hb.mono HB2.out.size)⟩

end Go.Proofs.YtojjfmnbpfpanaaDoor
