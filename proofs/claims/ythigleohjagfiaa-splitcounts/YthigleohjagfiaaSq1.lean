/- Roads: bytes of points, for the pattern that splitBegun tries. -/
import Derived.Test.YthigleohjagfiaaSp3
import Derived.Deep.QuietTactic
import Derived.BigQuiet
import Derived.Deep.RegionWith
import Derived.Laws.Bits
namespace Go.Proofs.Ythigleohjagfiaa
open Go.RowKit Go.PlainAid
set_option linter.unusedVariables false

/-- what is done with a part. -/
structure Pt where
  lead : Int
  shift : Int
  bits : Int
abbrev ptV (p : Pt) : Value := .agg #[.int .i64 p.lead, .int .i64 p.shift, .int .i64 p.bits]
abbrev ptO (p : Pt) : Obj := .cells #[.int .i64 p.lead, .int .i64 p.shift, .int .i64 p.bits] 75
def ByteOf (p : Pt) (n r : Int) : Prop := ∀ w, Calls Try.prog 50 #[ptV p, .int .i64 n] w fun e w' => e = .returned (.int .i64 r) ∧ Below w.heap.size w w'
theorem pt_cells {w : World} {k : Nat} {p : Pt} (h : w.heap[k]? = some (ptO p)) : w.cell? ⟨k, 0, none⟩ = some (.int .i64 p.lead) ∧ w.cell? ⟨k, 1, none⟩ = some (.int .i64 p.shift) ∧ w.cell? ⟨k, 2, none⟩ = some (.int .i64 p.bits) := by
  refine ⟨?_, ?_, ?_⟩ <;> simp [World.cell?, h]
set_option maxRecDepth 100000 in
set_option maxHeartbeats 1000000 in
theorem byteOf_a : ByteOf ⟨0, 0, 7⟩ 65 65 := fun w => by
  obtain ⟨w1, hw1⟩ : ∃ w1, w1 = w.alloc (ptO ⟨0, 0, 7⟩) := ⟨_, rfl⟩
  have hX1 : w1.heap[w.heap.size]? = some (ptO ⟨0, 0, 7⟩) := by rw [hw1]; exact at_newS _ _
  have HB1 : Hid (Below w.heap.size w w1.drew) := by show Below _ _ _; rw [hw1]; exact ((Below.refl _ w).alloc (Nat.le_refl _) _).trans ⟨rfl, rfl, rfl, Nat.le_refl _, fun _ _ => rfl⟩
  obtain ⟨d0, d1, d2⟩ := pt_cells hX1
  have hbb : bits BinOp.and IntKind.i64 65 127 = 65 := by decide
  simp only [ptO] at hw1
  simp only at d0 d1 d2
  clear hX1
  go_enter Try.func50, Try.ntmps50
  go_upto_region 1 with fail
  rw [← hw1]
  clear hw1
  go_region
  all_goals go_wp2
  all_goals go_ret
  all_goals exact ⟨rfl, HB1.out⟩
set_option maxRecDepth 100000 in
set_option maxHeartbeats 1000000 in
theorem byteOf_b : ByteOf ⟨0, 0, 7⟩ 66 66 := fun w => by
  obtain ⟨w1, hw1⟩ : ∃ w1, w1 = w.alloc (ptO ⟨0, 0, 7⟩) := ⟨_, rfl⟩
  have hX1 : w1.heap[w.heap.size]? = some (ptO ⟨0, 0, 7⟩) := by rw [hw1]; exact at_newS _ _
  have HB1 : Hid (Below w.heap.size w w1.drew) := by show Below _ _ _; rw [hw1]; exact ((Below.refl _ w).alloc (Nat.le_refl _) _).trans ⟨rfl, rfl, rfl, Nat.le_refl _, fun _ _ => rfl⟩
  obtain ⟨d0, d1, d2⟩ := pt_cells hX1
  have hbb : bits BinOp.and IntKind.i64 66 127 = 66 := by decide
  simp only [ptO] at hw1
  simp only at d0 d1 d2
  clear hX1
  go_enter Try.func50, Try.ntmps50
  go_upto_region 1 with fail
  rw [← hw1]
  clear hw1
  go_region
  all_goals go_wp2
  all_goals go_ret
  all_goals exact ⟨rfl, HB1.out⟩
set_option maxRecDepth 100000 in
set_option maxHeartbeats 1000000 in
theorem byteOf_c : ByteOf ⟨192, 6, 5⟩ 233 195 := fun w => by
  obtain ⟨w1, hw1⟩ : ∃ w1, w1 = w.alloc (ptO ⟨192, 6, 5⟩) := ⟨_, rfl⟩
  have hX1 : w1.heap[w.heap.size]? = some (ptO ⟨192, 6, 5⟩) := by rw [hw1]; exact at_newS _ _
  have HB1 : Hid (Below w.heap.size w w1.drew) := by show Below _ _ _; rw [hw1]; exact ((Below.refl _ w).alloc (Nat.le_refl _) _).trans ⟨rfl, rfl, rfl, Nat.le_refl _, fun _ _ => rfl⟩
  obtain ⟨d0, d1, d2⟩ := pt_cells hX1
  have hbb : bits BinOp.and IntKind.i64 3 31 = 3 := by decide
  simp only [ptO] at hw1
  simp only at d0 d1 d2
  clear hX1
  go_enter Try.func50, Try.ntmps50
  go_upto_region 1 with fail
  rw [← hw1]
  clear hw1
  go_region
  all_goals go_wp2
  all_goals go_ret
  all_goals exact ⟨rfl, HB1.out⟩
set_option maxRecDepth 100000 in
set_option maxHeartbeats 1000000 in
theorem byteOf_d : ByteOf ⟨128, 0, 6⟩ 233 169 := fun w => by
  obtain ⟨w1, hw1⟩ : ∃ w1, w1 = w.alloc (ptO ⟨128, 0, 6⟩) := ⟨_, rfl⟩
  have hX1 : w1.heap[w.heap.size]? = some (ptO ⟨128, 0, 6⟩) := by rw [hw1]; exact at_newS _ _
  have HB1 : Hid (Below w.heap.size w w1.drew) := by show Below _ _ _; rw [hw1]; exact ((Below.refl _ w).alloc (Nat.le_refl _) _).trans ⟨rfl, rfl, rfl, Nat.le_refl _, fun _ _ => rfl⟩
  obtain ⟨d0, d1, d2⟩ := pt_cells hX1
  have hbb : bits BinOp.and IntKind.i64 233 63 = 41 := by decide
  simp only [ptO] at hw1
  simp only at d0 d1 d2
  clear hX1
  go_enter Try.func50, Try.ntmps50
  go_upto_region 1 with fail
  rw [← hw1]
  clear hw1
  go_region
  all_goals go_wp2
  all_goals go_ret
  all_goals exact ⟨rfl, HB1.out⟩

end Go.Proofs.Ythigleohjagfiaa
