/- Roads: what Roads answers for the set that splitBegun tries. -/
import Derived.Test.YthigleohjagfiaaSq8
import Derived.Test.YthigleohjagfiaaSchkc
namespace Go.Proofs.Ythigleohjagfiaa
open Go.RowKit Go.PlainAid
set_option linter.unusedVariables false

/-- the shapes of EncUTF8 in memory. -/
structure Shapes (w : World) (g p1 p2 p3 p5 : Nat) : Prop where
  g : w.heap[g]? = some (.cells #[.int .i64 0, .int .i64 127, .int .i64 0, .slice (some ⟨p1, 0, none⟩) 1 1, .int .i64 128, .int .i64 2047, .int .i64 0, .slice (some ⟨p2, 0, none⟩) 2 2, .int .i64 2048, .int .i64 55295, .int .i64 0, .slice (some ⟨p3, 0, none⟩) 3 3, .int .i64 57344, .int .i64 65535, .int .i64 0, .slice (some ⟨p3, 0, none⟩) 3 3, .int .i64 65536, .int .i64 1114111, .int .i64 0, .slice (some ⟨p5, 0, none⟩) 4 4] 57 (0, 0))
  a : w.heap[p1]? = some (.cells #[.int .i64 0, .int .i64 0, .int .i64 7] 75 (0, 0))
  b : w.heap[p2]? = some (.cells #[.int .i64 192, .int .i64 6, .int .i64 5, .int .i64 128, .int .i64 0, .int .i64 6] 75 (0, 0))
theorem Shapes.kr {w w' : World} {g p1 p2 p3 p5 b : Nat} (h : Shapes w g p1 p2 p3 p5) (hg : g ≠ b) (h1 : p1 ≠ b) (h2 : p2 ≠ b) (hk : Kr b w w') : Shapes w' g p1 p2 p3 p5 :=
  ⟨hk _ _ _ _ hg (by decide) h.g, hk _ _ _ _ h1 (by decide) h.a, hk _ _ _ _ h2 (by decide) h.b⟩
def ShE1 (w : World) (e : Ending) (w' : World) : Prop := ∃ g p1 p2 p3 p5, e = .returned (.tuple #[.slice (some ⟨g, 0, none⟩) 5 5, .bool true]) ∧ Shapes w' g p1 p2 p3 p5 ∧ Below w.heap.size w w'
theorem keepA {w : World} {k : Nat} {o o' : Obj} (h : w.heap[k]? = some o) : (w.alloc o').heap[k]? = some o := rdO_keep h ((Below.refl _ _).alloc (Nat.le_refl _) _)
set_option maxRecDepth 100000 in
set_option maxHeartbeats 4000000 in
theorem shapes1_any (w : World) : Calls Try.prog 20 #[.int .i64 1] w fun e w' => ShE1 w e w' := by
  go_enter Try.func20, Try.ntmps20
  go_wp2
  go_ret2
  refine ⟨w.heap.size + 4, w.heap.size + 1, w.heap.size + 2, w.heap.size, w.heap.size + 3, rfl, ⟨?_, ?_, ?_⟩, ?_⟩
  · have := at_newS ((((w.alloc (.cells #[.int .i64 224, .int .i64 12, .int .i64 4, .int .i64 128, .int .i64 6, .int .i64 6, .int .i64 128, .int .i64 0, .int .i64 6] 75)).alloc (.cells #[.int .i64 0, .int .i64 0, .int .i64 7] 75)).alloc (.cells #[.int .i64 192, .int .i64 6, .int .i64 5, .int .i64 128, .int .i64 0, .int .i64 6] 75)).alloc (.cells #[.int .i64 240, .int .i64 18, .int .i64 3, .int .i64 128, .int .i64 12, .int .i64 6, .int .i64 128, .int .i64 6, .int .i64 6, .int .i64 128, .int .i64 0, .int .i64 6] 75)) (.cells #[.int .i64 0, .int .i64 127, .int .i64 0, .slice (some ⟨w.heap.size + 1, 0, none⟩) 1 1, .int .i64 128, .int .i64 2047, .int .i64 0, .slice (some ⟨w.heap.size + 2, 0, none⟩) 2 2, .int .i64 2048, .int .i64 55295, .int .i64 0, .slice (some ⟨w.heap.size, 0, none⟩) 3 3, .int .i64 57344, .int .i64 65535, .int .i64 0, .slice (some ⟨w.heap.size, 0, none⟩) 3 3, .int .i64 65536, .int .i64 1114111, .int .i64 0, .slice (some ⟨w.heap.size + 3, 0, none⟩) 4 4] 57)
    simpa using this
  · refine keepA (keepA (keepA ?_))
    have := at_newS (w.alloc (.cells #[.int .i64 224, .int .i64 12, .int .i64 4, .int .i64 128, .int .i64 6, .int .i64 6, .int .i64 128, .int .i64 0, .int .i64 6] 75)) (.cells #[.int .i64 0, .int .i64 0, .int .i64 7] 75)
    simpa using this
  · refine keepA (keepA ?_)
    have := at_newS ((w.alloc (.cells #[.int .i64 224, .int .i64 12, .int .i64 4, .int .i64 128, .int .i64 6, .int .i64 6, .int .i64 128, .int .i64 0, .int .i64 6] 75)).alloc (.cells #[.int .i64 0, .int .i64 0, .int .i64 7] 75)) (.cells #[.int .i64 192, .int .i64 6, .int .i64 5, .int .i64 128, .int .i64 0, .int .i64 6] 75)
    simpa using this
  · repeat' first | exact Below.refl _ _ | refine Below.alloc ?_ (by simp <;> omega) _
def ff (k : Nat) : List RL := if k = 0 then [] else if k < 4 then [[(65, 66)]] else [[(65, 66)], [(195, 195), (169, 169)]]
/-- the roads so far. -/
def RdS (w w3 : World) (bR k : Nat) (wr : World) : Prop := (∃ v us, RBx w.heap.size wr bR (ff k) v us) ∧ Below w.heap.size w wr ∧ Kr bR w3 wr
theorem RdS.put {w w3 wr w' : World} {bR k : Nat} (h : RdS w w3 bR k wr) (hb : Below wr.heap.size wr w') (k' : Nat) (hk : ff k' = ff k) : RdS w w3 bR k' w' := by
  obtain ⟨⟨v, us, h1⟩, h2, h3⟩ := h
  exact ⟨⟨v, us, by rw [hk]; exact h1.keep hb⟩, h2.trans (hb.mono h2.size), h3.trans (Kr.below hb)⟩
theorem RdS.take {w w3 wr w' : World} {bR k k' : Nat} {e : Ending} (h : RdS w w3 bR k wr) (hT : TakeE w.heap.size bR (ff k') wr e w') : RdS w w3 bR k' w' := ⟨hT.2.1, h.2.1.trans hT.2.2.1, h.2.2.trans hT.2.2.2⟩
theorem cells_at {w : World} {g : Nat} {cs : Array Value} {t : TypeId} {fr : Nat × Nat} (h : w.heap[g]? = some (.cells cs t fr)) (o : Nat) : w.cell? ⟨g, o, none⟩ = cs[o]? := by simp [World.cell?, h]
theorem pt1 {w : World} {p : Nat} (h : w.heap[p]? = some (.cells #[.int .i64 0, .int .i64 0, .int .i64 7] 75 (0, 0))) : PtC w ⟨p, 0, none⟩ [⟨0, 0, 7⟩] := fun j hj => by
  have : j = 0 := by simp at hj; omega
  subst this
  exact ⟨cells_at h 0, cells_at h 1, cells_at h 2⟩
theorem pt2 {w : World} {p : Nat} (h : w.heap[p]? = some (.cells #[.int .i64 192, .int .i64 6, .int .i64 5, .int .i64 128, .int .i64 0, .int .i64 6] 75 (0, 0))) : PtC w ⟨p, 0, none⟩ [⟨192, 6, 5⟩, ⟨128, 0, 6⟩] := fun j hj => by
  rcases (by simp at hj; omega : j = 0 ∨ j = 1) with rfl | rfl
  · exact ⟨cells_at h 0, cells_at h 1, cells_at h 2⟩
  · exact ⟨cells_at h 3, cells_at h 4, cells_at h 5⟩

end Go.Proofs.Ythigleohjagfiaa
