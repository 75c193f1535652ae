/- What the reference's MakeOf answers. -/
import Derived.Test.YtojjfmnbpfpanaaDoorSsetof
import Derived.Test.YtojjfmnbpfpanaaDoorSopsg
namespace Go.Proofs.YtojjfmnbpfpanaaDoor
open Go.RowKit Go.Shelf
set_option linter.unusedVariables false

theorem stays_of (A B : RL) (g : Bool → Bool → Bool) : Stays (fun q => g (ins A q) (ins B q)) ((endsL A ++ endsL B).foldl endIns [0]) := by
  obtain ⟨h1, h2⟩ := ends_fold (endsL A ++ endsL B) [0] ends_zero
  intro k hk q hq hq2
  exact stays_two (A := A) (B := B) g h1 (fun x hx h0 hm => (h2 x).2 (.inr ⟨by rw [List.mem_append]; exact hx, h0, hm⟩)) hk q hq hq2
theorem endsL_nil : endsL [] = [] := rfl
/-- a set that the reference makes. -/
def Refs (f : Int → Bool) (n : Nat) (w : World) (e : Ending) (w' : World) : Prop := ∃ v' O, e = .returned v' ∧ Reads w' v' O ∧ IsSet f O ∧ O.length ≤ n ∧ Below w.heap.size w w'
theorem entersMakeOf1 (args : Array Value) (w : World) : (callFunc 45 args).run Tryd.prog w = .ok (.enter 45 args) w := enters_of Tryd.func45 (by kernel_rfl) rfl args w

set_option maxHeartbeats 1000000 in
theorem tellsMakeOf (bx : Addr) (va : Value) (A : RL) (w : World) (hbx : w.cell? bx = some va) (hA : Reads w va A) (lA : A.length ≤ 1000000) : Tells 45 #[.pointer (some bx)] (fun q => ins A q) w := by
  intro p w' hb
  have hc := below_cell hb (lt_of_cell hbx) hbx
  have HW := hide (within_any va A p w' (hA.below hb) lA)
  obtain ⟨z, hz⟩ : ∃ z, z = ins A p := ⟨_, rfl⟩
  rw [← hz] at HW
  show Calls Tryd.prog 45 #[.int .i64 p, .pointer (some bx)] w' _
  simp only
  rw [← hz]
  clear hz hA hbx
  go_enter Tryd.func45, Tryd.ntmps45
  go_wp2_with fail
  refine HW.out.mono ?_
  rintro e w2 ⟨rfl, q, rfl⟩
  go_wp2
  go_ret
  exact ⟨rfl, q, rfl⟩
set_option maxRecDepth 100000 in
set_option maxHeartbeats 1000000 in
theorem makeOf_any (va : Value) (A : RL) (w : World) (hA : Reads w va A) (lA : A.length ≤ 40000) (oA : ∀ r ∈ A, okR r) : Calls Tryd.prog 23 #[va] w fun e w' => Refs (fun q => ins A q) (1 + 2 * A.length) w e w' := by
  have hb0 : Below w.heap.size w (w.alloc (.cells #[va] 22)) := (Below.refl _ w).alloc (Nat.le_refl _) _
  have HE := hide (endsOf_any va (.slice none 0 0) A [] (w.alloc (.cells #[va] 22)) (hA.below hb0) (reads_nil _) lA (by decide) oA (by simp))
  rw [endsL_nil, List.append_nil] at HE
  have hst := hide (stays_of A [] (fun a b => a))
  rw [endsL_nil, List.append_nil] at hst
  have HA := hide hA
  have HB0 := hide hb0
  have hel := hide (endsL_len A)
  obtain ⟨ao, ca, hva⟩ := hA.shape
  have hbx0 : Hid ((w.alloc (.cells #[va] 22)).cell? ⟨w.heap.size, 0, none⟩ = some va) := reads_one va _
  rw [hva] at HE HA HB0 hbx0 ⊢
  clear hA hb0 hva oA
  go_enter Tryd.func23, Tryd.ntmps23
  go_wp2_with fail
  refine HE.out.mono ?_
  rintro e w1 ⟨v1, rfl, ho1, hb1⟩
  have hb01 := HB0.out.trans (hb1.mono HB0.out.size)
  go_wp2_with fail
  refine (setOf_any 45 #[.pointer (some ⟨w.heap.size, 0, none⟩)] _ v1 (endsL A) w1 entersMakeOf1 (own_readsI ho1) (by rw [endsL_len]; omega) (tellsMakeOf _ _ A w1 (below_cell hb1 (lt_of_cell hbx0.out) hbx0.out) (HA.out.below hb01) (by omega)) hst.out).mono ?_
  rintro e w2 ⟨v2, O, rfl, ho2, hs2, hl2, hb2⟩
  go_wp2
  go_ret
  exact ⟨_, O, rfl, own_reads ho2, hs2, by have := hel.out; omega, hb01.trans (hb2.mono hb01.size)⟩

end Go.Proofs.YtojjfmnbpfpanaaDoor
