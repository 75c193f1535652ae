/- Roads: bytes of points, for the pattern that splitBegun tries. -/
import Derived.Test.YtljankfhnmcbaaaGreatDoorPSp3
import Derived.Deep.QuietTactic
import Derived.BigQuiet
import Derived.Deep.RegionWith
import Derived.Laws.Bits
namespace Go.Proofs.YtljankfhnmcbaaaGreatDoor.SP
open Go.RowKit Go.PlainAid
set_option linter.unusedVariables false

/-- what is done with a part. -/
structure Pt where
  lead : Int
  shift : Int
  bits : Int
abbrev ptV (p : Pt) : Value := .agg #[.int .i64 p.lead, .int .i64 p.shift, .int .i64 p.bits]
abbrev ptO (p : Pt) : Obj := .cells #[.int .i64 p.lead, .int .i64 p.shift, .int .i64 p.bits] 80
def ByteOf (p : Pt) (n r : Int) : Prop := ∀ w, Calls Tryz.prog 64 #[ptV p, .int .i64 n] w fun e w' => e = .returned (.int .i64 r) ∧ Below w.heap.size w w'
theorem pt_cells {w : World} {k : Nat} {p : Pt} (h : w.heap[k]? = some (ptO p)) : w.cell? ⟨k, 0, none⟩ = some (.int .i64 p.lead) ∧ w.cell? ⟨k, 1, none⟩ = some (.int .i64 p.shift) ∧ w.cell? ⟨k, 2, none⟩ = some (.int .i64 p.bits) := by
  refine ⟨?_, ?_, ?_⟩ <;> simp [World.cell?, h]
set_option maxRecDepth 100000 in
set_option maxHeartbeats 1000000 in
theorem byteOf_a : ByteOf ⟨0, 0, 7⟩ 65 65 := fun w => by
  obtain ⟨w1, hw1⟩ : ∃ w1, w1 = w.alloc (ptO ⟨0, 0, 7⟩) := ⟨_, rfl⟩
  have hX1 : w1.heap[w.heap.size]? = some (ptO ⟨0, 0, 7⟩) := by rw [hw1]; exact at_newS _ _
  have HB1 : Hid (Below w.heap.size w w1.drew) := by show Below _ _ _; rw [hw1]; exact ((Below.refl _ w).alloc (Nat.le_refl _) _).trans ⟨rfl, rfl, rfl, Nat.le_refl _, fun _ _ => rfl⟩
  obtain ⟨d0, d1, d2⟩ := pt_cells hX1
  have hbb : bits BinOp.and IntKind.i64 65 127 = 65 := by decide
  simp only [ptO] at hw1
  simp only at d0 d1 d2
  clear hX1
  go_enter Tryz.func64, Tryz.ntmps64
  go_upto_region 1 with fail
  rw [← hw1]
  clear hw1
  go_region
  all_goals go_wp2
  all_goals go_ret
  all_goals exact ⟨rfl, HB1.out⟩
set_option maxRecDepth 100000 in
set_option maxHeartbeats 1000000 in
theorem byteOf_b : ByteOf ⟨0, 0, 7⟩ 66 66 := fun w => by
  obtain ⟨w1, hw1⟩ : ∃ w1, w1 = w.alloc (ptO ⟨0, 0, 7⟩) := ⟨_, rfl⟩
  have hX1 : w1.heap[w.heap.size]? = some (ptO ⟨0, 0, 7⟩) := by rw [hw1]; exact at_newS _ _
  have HB1 : Hid (Below w.heap.size w w1.drew) := by show Below _ _ _; rw [hw1]; exact ((Below.refl _ w).alloc (Nat.le_refl _) _).trans ⟨rfl, rfl, rfl, Nat.le_refl _, fun _ _ => rfl⟩
  obtain ⟨d0, d1, d2⟩ := pt_cells hX1
  have hbb : bits BinOp.and IntKind.i64 66 127 = 66 := by decide
  simp only [ptO] at hw1
  simp only at d0 d1 d2
  clear hX1
  go_enter Tryz.func64, Tryz.ntmps64
  go_upto_region 1 with fail
  rw [← hw1]
  clear hw1
  go_region
  all_goals go_wp2
  all_goals go_ret
  all_goals exact ⟨rfl, HB1.out⟩
set_option maxRecDepth 100000 in
set_option maxHeartbeats 1000000 in
theorem byteOf_c : ByteOf ⟨192, 6, 5⟩ 233 195 := fun w => by
  obtain ⟨w1, hw1⟩ : ∃ w1, w1 = w.alloc (ptO ⟨192, 6, 5⟩) := ⟨_, rfl⟩
  have hX1 : w1.heap[w.heap.size]? = some (ptO ⟨192, 6, 5⟩) := by rw [hw1]; exact at_newS _ _
  have HB1 : Hid (Below w.heap.size w w1.drew) := by show Below _ _ _; rw [hw1]; exact ((Below.refl _ w).alloc (Nat.le_refl _) _).trans ⟨rfl, rfl, rfl, Nat.le_refl _, fun _ _ => rfl⟩
  obtain ⟨d0, d1, d2⟩ := pt_cells hX1
  have hbb : bits BinOp.and IntKind.i64 3 31 = 3 := by decide
  simp only [ptO] at hw1
  simp only at d0 d1 d2
  clear hX1
  go_enter Tryz.func64, Tryz.ntmps64
  go_upto_region 1 with fail
  rw [← hw1]
  clear hw1
  go_region
  all_goals go_wp2
  all_goals go_ret
  all_goals exact ⟨rfl, HB1.out⟩
set_option maxRecDepth 100000 in
set_option maxHeartbeats 1000000 in
theorem byteOf_d : ByteOf ⟨128, 0, 6⟩ 233 169 := fun w => by
  obtain ⟨w1, hw1⟩ : ∃ w1, w1 = w.alloc (ptO ⟨128, 0, 6⟩) := ⟨_, rfl⟩
  have hX1 : w1.heap[w.heap.size]? = some (ptO ⟨128, 0, 6⟩) := by rw [hw1]; exact at_newS _ _
  have HB1 : Hid (Below w.heap.size w w1.drew) := by show Below _ _ _; rw [hw1]; exact ((Below.refl _ w).alloc (Nat.le_refl _) _).trans ⟨rfl, rfl, rfl, Nat.le_refl _, fun _ _ => rfl⟩
  obtain ⟨d0, d1, d2⟩ := pt_cells hX1
  have hbb : bits BinOp.and IntKind.i64 233 63 = 41 := by decide
  simp only [ptO] at hw1
  simp only at d0 d1 d2
  clear hX1
  go_enter Tryz.func64, Tryz.ntmps64
  go_upto_region 1 with fail
  rw [← hw1]
  clear hw1
  go_region
  all_goals go_wp2
  all_goals go_ret
  all_goals exact ⟨rfl, HB1.out⟩

end Go.Proofs.YtljankfhnmcbaaaGreatDoor.SP

namespace Go.Proofs.YtljankfhnmcbaaaGreatDoor.SP
open Go.RowKit Go.PlainAid
set_option linter.unusedVariables false

/-- a shape's fields. -/
structure Shp where
  first : Int
  last : Int
  less : Int
  pa : Option Addr
  pl : Nat
  pc : Nat
abbrev shpV (s : Shp) : Value := .agg #[.int .i64 s.first, .int .i64 s.last, .int .i64 s.less, .slice s.pa s.pl s.pc]
abbrev shpO (s : Shp) : Obj := .cells #[.int .i64 s.first, .int .i64 s.last, .int .i64 s.less, .slice s.pa s.pl s.pc] 55
theorem shp_cells {w : World} {k : Nat} {s : Shp} (h : w.heap[k]? = some (shpO s)) : w.cell? ⟨k, 0, none⟩ = some (.int .i64 s.first) ∧ w.cell? ⟨k, 1, none⟩ = some (.int .i64 s.last) ∧ w.cell? ⟨k, 2, none⟩ = some (.int .i64 s.less) ∧ w.cell? ⟨k, 3, none⟩ = some (.slice s.pa s.pl s.pc) := by
  refine ⟨?_, ?_, ?_, ?_⟩ <;> simp [World.cell?, h]
/-- parts in memory. -/
def PtC (w : World) (x : Addr) (ps : List Pt) : Prop := ∀ j (h : j < ps.length), w.cell? (x.add (j * 3)) = some (.int .i64 ps[j].lead) ∧ w.cell? ⟨(x.add (j * 3)).block, (x.add (j * 3)).off + 1, none⟩ = some (.int .i64 ps[j].shift) ∧ w.cell? ⟨(x.add (j * 3)).block, (x.add (j * 3)).off + 2, none⟩ = some (.int .i64 ps[j].bits)
theorem PtC.below {w w' : World} {x : Addr} {ps : List Pt} (h : PtC w x ps) (hb : Below w.heap.size w w') : PtC w' x ps := fun j hj =>
  ⟨below_cell hb (lt_of_cell (h j hj).1) (h j hj).1, below_cell hb (lt_of_cell (h j hj).2.1) (h j hj).2.1, below_cell hb (lt_of_cell (h j hj).2.2) (h j hj).2.2⟩
def rowR (L : RL) : List Value := L.flatMap fun r => [.int .i64 r.1, .int .i64 r.2]
theorem rowR_len (L : RL) : (rowR L).length = 2 * L.length := by
  induction L with
  | nil => rfl
  | cons a L ih => unfold rowR at ih ⊢; rw [List.flatMap_cons, List.length_append, ih, List.length_cons]; simp; omega
/-- the block of a road that is being made. -/
def rdO (L : RL) (k : Nat) : Obj := .cells (rowR L ++ List.replicate (2 * k) (Value.int .i64 0)).toArray 25 (0, 0)
theorem rdO_at {w : World} {g : Nat} {L : RL} {k : Nat} (h : w.heap[g]? = some (rdO L (k + 1))) : w.cell? ⟨g, 2 * L.length, none⟩ = some (.int .i64 0) ∧ w.cell? ⟨g, 2 * L.length + 1, none⟩ = some (.int .i64 0) ∧ ∀ o, w.frozen? ⟨g, o, none⟩ = false := by
  have hl := rowR_len L
  refine ⟨?_, ?_, fun o => ?_⟩
  · simp only [World.cell?, h, rdO]
    simp [hl]
  · simp only [World.cell?, h, rdO]
    simp [List.getElem?_append_right, hl]
    rw [List.getElem?_replicate, if_pos (by omega)]
  · simp [World.frozen?, h, rdO]
theorem rdO_set {w : World} {g : Nat} {L : RL} {k : Nat} (h : w.heap[g]? = some (rdO L (k + 1))) (a b : Int) : ((w.setCell ⟨g, 2 * L.length, none⟩ (.int .i64 a)).setCell ⟨g, 2 * L.length + 1, none⟩ (.int .i64 b)).heap[g]? = some (rdO (L ++ [(a, b)]) k) := by
  have hl := rowR_len L
  have hset : ∀ (w : World) (cs : Array Value) (o : Nat) (v : Value), w.heap[g]? = some (.cells cs 25 (0, 0)) → (w.setCell ⟨g, o, none⟩ v).heap[g]? = some (.cells (cs.setIfInBounds o v) 25 (0, 0)) := fun w cs o v h => by
    have hlt : g < w.heap.size := (Array.getElem?_eq_some_iff.1 h).1
    have h' : w.heap[g] = .cells cs 25 (0, 0) := by simpa [Array.getElem?_eq_getElem hlt] using h
    show (w.heap.modify g _)[g]? = _
    rw [Array.getElem?_eq_getElem (by simpa using hlt), Array.getElem_modify_self, h']
    rfl
  rw [hset _ _ _ _ (hset _ _ _ _ h)]
  unfold rdO
  congr 2
  apply Array.ext'
  simp only [Array.toList_setIfInBounds]
  rw [← hl]
  show ((rowR L ++ List.replicate (2 * (k + 1)) (Value.int .i64 0)).set (rowR L).length (.int .i64 a)).set ((rowR L).length + 1) (.int .i64 b) = _
  rw [show 2 * (k + 1) = (2 * k) + 1 + 1 by omega, List.replicate_succ, List.replicate_succ, List.set_append_right _ _ (Nat.le_refl _), Nat.sub_self, List.set_cons_zero, List.set_append_right _ _ (by omega), show (rowR L).length + 1 - (rowR L).length = 1 by omega, List.set_cons_succ, List.set_cons_zero]
  unfold rowR
  rw [List.flatMap_append]
  simp
theorem rdO_keep {w w' : World} {g : Nat} {o : Obj} (h : w.heap[g]? = some o) (hb : Below w.heap.size w w') : w'.heap[g]? = some o := by
  rw [hb.block g (Array.getElem?_eq_some_iff.1 h).1]; exact h
/-- what road answers: a road of its own. -/
def RoadE (L : RL) (w : World) (e : Ending) (w' : World) : Prop := ∃ g, w.heap.size ≤ g ∧ e = .returned (.slice (some ⟨g, 0, none⟩) L.length L.length) ∧ w'.heap[g]? = some (rdO L 0) ∧ Below w.heap.size w w'

end Go.Proofs.YtljankfhnmcbaaaGreatDoor.SP
