/- Roads: what Roads answers for the set that splitBegun tries. -/
import Derived.Test.YtljankfhnmcbaaaGreatDoorKc
import Derived.Test.YtljankfhnmcbaaaGreatDoorKj
namespace Go.Proofs.YtljankfhnmcbaaaGreatDoor.SP
open Go.RowKit Go.PlainAid
set_option linter.unusedVariables false

/-- the shapes of EncUTF8 in memory. -/
structure Shapes (w : World) (g p1 p2 p3 p5 : Nat) : Prop where
  g : w.heap[g]? = some (.cells #[.int .i64 0, .int .i64 127, .int .i64 0, .slice (some ⟨p1, 0, none⟩) 1 1, .int .i64 128, .int .i64 2047, .int .i64 0, .slice (some ⟨p2, 0, none⟩) 2 2, .int .i64 2048, .int .i64 55295, .int .i64 0, .slice (some ⟨p3, 0, none⟩) 3 3, .int .i64 57344, .int .i64 65535, .int .i64 0, .slice (some ⟨p3, 0, none⟩) 3 3, .int .i64 65536, .int .i64 1114111, .int .i64 0, .slice (some ⟨p5, 0, none⟩) 4 4] 55 (0, 0))
  a : w.heap[p1]? = some (.cells #[.int .i64 0, .int .i64 0, .int .i64 7] 80 (0, 0))
  b : w.heap[p2]? = some (.cells #[.int .i64 192, .int .i64 6, .int .i64 5, .int .i64 128, .int .i64 0, .int .i64 6] 80 (0, 0))
theorem Shapes.kr {w w' : World} {g p1 p2 p3 p5 b : Nat} (h : Shapes w g p1 p2 p3 p5) (hg : g ≠ b) (h1 : p1 ≠ b) (h2 : p2 ≠ b) (hk : Kr b w w') : Shapes w' g p1 p2 p3 p5 :=
  ⟨hk _ _ _ _ hg (by decide) h.g, hk _ _ _ _ h1 (by decide) h.a, hk _ _ _ _ h2 (by decide) h.b⟩
def ShE1 (w : World) (e : Ending) (w' : World) : Prop := ∃ g p1 p2 p3 p5, e = .returned (.tuple #[.slice (some ⟨g, 0, none⟩) 5 5, .bool true]) ∧ Shapes w' g p1 p2 p3 p5 ∧ Below w.heap.size w w'
theorem keepA {w : World} {k : Nat} {o o' : Obj} (h : w.heap[k]? = some o) : (w.alloc o').heap[k]? = some o := rdO_keep h ((Below.refl _ _).alloc (Nat.le_refl _) _)
set_option maxRecDepth 100000 in
set_option maxHeartbeats 4000000 in
theorem shapes1_any (w : World) : Calls Tryz.prog 31 #[.int .i64 1] w fun e w' => ShE1 w e w' := by
  go_enter Tryz.func31, Tryz.ntmps31
  go_wp2
  go_ret2
  refine ⟨w.heap.size + 4, w.heap.size + 1, w.heap.size + 2, w.heap.size, w.heap.size + 3, rfl, ⟨?_, ?_, ?_⟩, ?_⟩
  · have := at_newS ((((w.alloc (.cells #[.int .i64 224, .int .i64 12, .int .i64 4, .int .i64 128, .int .i64 6, .int .i64 6, .int .i64 128, .int .i64 0, .int .i64 6] 80)).alloc (.cells #[.int .i64 0, .int .i64 0, .int .i64 7] 80)).alloc (.cells #[.int .i64 192, .int .i64 6, .int .i64 5, .int .i64 128, .int .i64 0, .int .i64 6] 80)).alloc (.cells #[.int .i64 240, .int .i64 18, .int .i64 3, .int .i64 128, .int .i64 12, .int .i64 6, .int .i64 128, .int .i64 6, .int .i64 6, .int .i64 128, .int .i64 0, .int .i64 6] 80)) (.cells #[.int .i64 0, .int .i64 127, .int .i64 0, .slice (some ⟨w.heap.size + 1, 0, none⟩) 1 1, .int .i64 128, .int .i64 2047, .int .i64 0, .slice (some ⟨w.heap.size + 2, 0, none⟩) 2 2, .int .i64 2048, .int .i64 55295, .int .i64 0, .slice (some ⟨w.heap.size, 0, none⟩) 3 3, .int .i64 57344, .int .i64 65535, .int .i64 0, .slice (some ⟨w.heap.size, 0, none⟩) 3 3, .int .i64 65536, .int .i64 1114111, .int .i64 0, .slice (some ⟨w.heap.size + 3, 0, none⟩) 4 4] 55)
    simpa using this
  · refine keepA (keepA (keepA ?_))
    have := at_newS (w.alloc (.cells #[.int .i64 224, .int .i64 12, .int .i64 4, .int .i64 128, .int .i64 6, .int .i64 6, .int .i64 128, .int .i64 0, .int .i64 6] 80)) (.cells #[.int .i64 0, .int .i64 0, .int .i64 7] 80)
    simpa using this
  · refine keepA (keepA ?_)
    have := at_newS ((w.alloc (.cells #[.int .i64 224, .int .i64 12, .int .i64 4, .int .i64 128, .int .i64 6, .int .i64 6, .int .i64 128, .int .i64 0, .int .i64 6] 80)).alloc (.cells #[.int .i64 0, .int .i64 0, .int .i64 7] 80)) (.cells #[.int .i64 192, .int .i64 6, .int .i64 5, .int .i64 128, .int .i64 0, .int .i64 6] 80)
    simpa using this
  · repeat' first | exact Below.refl _ _ | refine Below.alloc ?_ (by simp <;> omega) _
def ff (k : Nat) : List RL := if k = 0 then [] else if k < 4 then [[(65, 66)]] else [[(65, 66)], [(195, 195), (169, 169)]]
/-- the roads so far. -/
def RdS (w w3 : World) (bR k : Nat) (wr : World) : Prop := (∃ v us, RBx w.heap.size wr bR (ff k) v us) ∧ Below w.heap.size w wr ∧ Kr bR w3 wr
theorem RdS.put {w w3 wr w' : World} {bR k : Nat} (h : RdS w w3 bR k wr) (hb : Below wr.heap.size wr w') (k' : Nat) (hk : ff k' = ff k) : RdS w w3 bR k' w' := by
  obtain ⟨⟨v, us, h1⟩, h2, h3⟩ := h
  exact ⟨⟨v, us, by rw [hk]; exact h1.keep hb⟩, h2.trans (hb.mono h2.size), h3.trans (Kr.below hb)⟩
theorem RdS.take {w w3 wr w' : World} {bR k k' : Nat} {e : Ending} (h : RdS w w3 bR k wr) (hT : TakeE w.heap.size bR (ff k') wr e w') : RdS w w3 bR k' w' := ⟨hT.2.1, h.2.1.trans hT.2.2.1, h.2.2.trans hT.2.2.2⟩
theorem cells_at {w : World} {g : Nat} {cs : Array Value} {t : TypeId} {fr : Nat × Nat} (h : w.heap[g]? = some (.cells cs t fr)) (o : Nat) : w.cell? ⟨g, o, none⟩ = cs[o]? := by simp [World.cell?, h]
theorem pt1 {w : World} {p : Nat} (h : w.heap[p]? = some (.cells #[.int .i64 0, .int .i64 0, .int .i64 7] 80 (0, 0))) : PtC w ⟨p, 0, none⟩ [⟨0, 0, 7⟩] := fun j hj => by
  have : j = 0 := by simp at hj; omega
  subst this
  exact ⟨cells_at h 0, cells_at h 1, cells_at h 2⟩
theorem pt2 {w : World} {p : Nat} (h : w.heap[p]? = some (.cells #[.int .i64 192, .int .i64 6, .int .i64 5, .int .i64 128, .int .i64 0, .int .i64 6] 80 (0, 0))) : PtC w ⟨p, 0, none⟩ [⟨192, 6, 5⟩, ⟨128, 0, 6⟩] := fun j hj => by
  rcases (by simp at hj; omega : j = 0 ∨ j = 1) with rfl | rfl
  · exact ⟨cells_at h 0, cells_at h 1, cells_at h 2⟩
  · exact ⟨cells_at h 3, cells_at h 4, cells_at h 5⟩

end Go.Proofs.YtljankfhnmcbaaaGreatDoor.SP

namespace Go.Proofs.YtljankfhnmcbaaaGreatDoor.SP
open Go.RowKit Go.PlainAid
set_option linter.unusedVariables false

/-- what eachBlock does with the roads. -/
def BlkE (w w3 : World) (bR k : Nat) (wr : World) (e : Ending) (w' : World) : Prop := e = .returned (.tuple #[]) ∧ RdS w w3 bR k w' ∧ Kr bR wr w'
theorem below_tr {a b c : World} (h : Below a.heap.size a b) (h' : Below b.heap.size b c) : Below a.heap.size a c := h.trans (h'.mono h.size)
theorem blk_0_0 (w w3 : World) (bR bS g p1 p2 p3 p5 : Nat) (wr : World) (h : RdS w w3 bR 0 wr) (hs : Shapes wr g p1 p2 p3 p5) (hS : wr.heap[bS]? = some (shpO ⟨0, 127, 0, some ⟨p1, 0, none⟩, 1, 1⟩)) :
    Calls Tryz.prog 33 #[shpV ⟨0, 127, 0, some ⟨p1, 0, none⟩, 1, 1⟩, .agg #[.int .i64 65, .int .i64 66], takeF bR bS] wr fun e w' => BlkE w w3 bR 1 wr e w' := by
  obtain ⟨⟨v, us, h1⟩, h2, h3⟩ := id h
  refine (eb_0_0 w.heap.size bR bS (ff 1) _ _ _ wr h2.size (fun W hW => divide_1 w.heap.size bR bS (ff 1) _ ⟨p1, 0, none⟩ W (by have := h2.size; have := hW.size; omega) rfl rfl (pt1 (rdO_keep hs.a hW)) (fun W2 hW2 => ?_))).mono ?_
  · refine take_any w.heap.size bR bS (ff 0) v us ⟨0, 127, 0, some ⟨p1, 0, none⟩, 1, 1⟩ [(65, 66)] 65 66 W2 (h1.keep (below_tr hW hW2)) (rdO_keep hS (below_tr hW hW2)) (by have := h2.size; have := hW.size; have := hW2.size; omega) (by decide) (fun W3 hW3 => ?_)
    refine road_1 _ ⟨p1, 0, none⟩ [⟨0, 0, 7⟩] [(65, 66)] 65 66 W3 rfl rfl rfl rfl (pt1 (rdO_keep hs.a (below_tr (below_tr hW hW2) hW3))) (fun j hj hj' => ?_)
    · have : j = 0 := by simp at hj; omega
      subst this
      exact ⟨byteOf_a, byteOf_b⟩
  · intro e w' hT
    exact ⟨hT.1, h.take hT, hT.2.2.2⟩
theorem blk_0_1 (w w3 : World) (bR bS g p1 p2 p3 p5 : Nat) (wr : World) (h : RdS w w3 bR 1 wr) (hs : Shapes wr g p1 p2 p3 p5) (hS : wr.heap[bS]? = some (shpO ⟨0, 127, 0, some ⟨p1, 0, none⟩, 1, 1⟩)) :
    Calls Tryz.prog 33 #[shpV ⟨0, 127, 0, some ⟨p1, 0, none⟩, 1, 1⟩, .agg #[.int .i64 233, .int .i64 233], takeF bR bS] wr fun e w' => BlkE w w3 bR 2 wr e w' := by
  refine (eb_0_1 bR bS _ _ _ wr).mono ?_
  rintro e w' ⟨rfl, hb⟩
  exact ⟨rfl, h.put hb 2 rfl, Kr.below hb⟩
theorem blk_1_0 (w w3 : World) (bR bS g p1 p2 p3 p5 : Nat) (wr : World) (h : RdS w w3 bR 2 wr) (hs : Shapes wr g p1 p2 p3 p5) (hS : wr.heap[bS]? = some (shpO ⟨128, 2047, 0, some ⟨p2, 0, none⟩, 2, 2⟩)) :
    Calls Tryz.prog 33 #[shpV ⟨128, 2047, 0, some ⟨p2, 0, none⟩, 2, 2⟩, .agg #[.int .i64 65, .int .i64 66], takeF bR bS] wr fun e w' => BlkE w w3 bR 3 wr e w' := by
  refine (eb_1_0 bR bS _ _ _ wr).mono ?_
  rintro e w' ⟨rfl, hb⟩
  exact ⟨rfl, h.put hb 3 rfl, Kr.below hb⟩
theorem blk_1_1 (w w3 : World) (bR bS g p1 p2 p3 p5 : Nat) (wr : World) (h : RdS w w3 bR 3 wr) (hs : Shapes wr g p1 p2 p3 p5) (hS : wr.heap[bS]? = some (shpO ⟨128, 2047, 0, some ⟨p2, 0, none⟩, 2, 2⟩)) :
    Calls Tryz.prog 33 #[shpV ⟨128, 2047, 0, some ⟨p2, 0, none⟩, 2, 2⟩, .agg #[.int .i64 233, .int .i64 233], takeF bR bS] wr fun e w' => BlkE w w3 bR 4 wr e w' := by
  obtain ⟨⟨v, us, h1⟩, h2, h3⟩ := id h
  refine (eb_1_1 w.heap.size bR bS (ff 4) _ _ _ wr h2.size (fun W hW => divide_2 w.heap.size bR bS (ff 4) _ ⟨p2, 0, none⟩ W (by have := h2.size; have := hW.size; omega) rfl rfl (pt2 (rdO_keep hs.b hW)) (fun W2 hW2 => ?_))).mono ?_
  · refine take_any w.heap.size bR bS (ff 3) v us ⟨128, 2047, 0, some ⟨p2, 0, none⟩, 2, 2⟩ [(195, 195), (169, 169)] 233 233 W2 (h1.keep (below_tr hW hW2)) (rdO_keep hS (below_tr hW hW2)) (by have := h2.size; have := hW.size; have := hW2.size; omega) (by decide) (fun W3 hW3 => ?_)
    refine road_2 _ ⟨p2, 0, none⟩ [⟨192, 6, 5⟩, ⟨128, 0, 6⟩] [(195, 195), (169, 169)] 233 233 W3 rfl rfl rfl rfl (pt2 (rdO_keep hs.b (below_tr (below_tr hW hW2) hW3))) (fun j hj hj' => ?_)
    · rcases (by simp at hj; omega : j = 0 ∨ j = 1) with rfl | rfl
      · exact ⟨byteOf_c, byteOf_c⟩
      · exact ⟨byteOf_d, byteOf_d⟩
  · intro e w' hT
    exact ⟨hT.1, h.take hT, hT.2.2.2⟩
theorem blk_2_0 (w w3 : World) (bR bS g p1 p2 p3 p5 : Nat) (wr : World) (h : RdS w w3 bR 4 wr) (hs : Shapes wr g p1 p2 p3 p5) (hS : wr.heap[bS]? = some (shpO ⟨2048, 55295, 0, some ⟨p3, 0, none⟩, 3, 3⟩)) :
    Calls Tryz.prog 33 #[shpV ⟨2048, 55295, 0, some ⟨p3, 0, none⟩, 3, 3⟩, .agg #[.int .i64 65, .int .i64 66], takeF bR bS] wr fun e w' => BlkE w w3 bR 5 wr e w' := by
  refine (eb_2_0 bR bS _ _ _ wr).mono ?_
  rintro e w' ⟨rfl, hb⟩
  exact ⟨rfl, h.put hb 5 rfl, Kr.below hb⟩
theorem blk_2_1 (w w3 : World) (bR bS g p1 p2 p3 p5 : Nat) (wr : World) (h : RdS w w3 bR 5 wr) (hs : Shapes wr g p1 p2 p3 p5) (hS : wr.heap[bS]? = some (shpO ⟨2048, 55295, 0, some ⟨p3, 0, none⟩, 3, 3⟩)) :
    Calls Tryz.prog 33 #[shpV ⟨2048, 55295, 0, some ⟨p3, 0, none⟩, 3, 3⟩, .agg #[.int .i64 233, .int .i64 233], takeF bR bS] wr fun e w' => BlkE w w3 bR 6 wr e w' := by
  refine (eb_2_1 bR bS _ _ _ wr).mono ?_
  rintro e w' ⟨rfl, hb⟩
  exact ⟨rfl, h.put hb 6 rfl, Kr.below hb⟩
theorem blk_3_0 (w w3 : World) (bR bS g p1 p2 p3 p5 : Nat) (wr : World) (h : RdS w w3 bR 6 wr) (hs : Shapes wr g p1 p2 p3 p5) (hS : wr.heap[bS]? = some (shpO ⟨57344, 65535, 0, some ⟨p3, 0, none⟩, 3, 3⟩)) :
    Calls Tryz.prog 33 #[shpV ⟨57344, 65535, 0, some ⟨p3, 0, none⟩, 3, 3⟩, .agg #[.int .i64 65, .int .i64 66], takeF bR bS] wr fun e w' => BlkE w w3 bR 7 wr e w' := by
  refine (eb_3_0 bR bS _ _ _ wr).mono ?_
  rintro e w' ⟨rfl, hb⟩
  exact ⟨rfl, h.put hb 7 rfl, Kr.below hb⟩
theorem blk_3_1 (w w3 : World) (bR bS g p1 p2 p3 p5 : Nat) (wr : World) (h : RdS w w3 bR 7 wr) (hs : Shapes wr g p1 p2 p3 p5) (hS : wr.heap[bS]? = some (shpO ⟨57344, 65535, 0, some ⟨p3, 0, none⟩, 3, 3⟩)) :
    Calls Tryz.prog 33 #[shpV ⟨57344, 65535, 0, some ⟨p3, 0, none⟩, 3, 3⟩, .agg #[.int .i64 233, .int .i64 233], takeF bR bS] wr fun e w' => BlkE w w3 bR 8 wr e w' := by
  refine (eb_3_1 bR bS _ _ _ wr).mono ?_
  rintro e w' ⟨rfl, hb⟩
  exact ⟨rfl, h.put hb 8 rfl, Kr.below hb⟩
theorem blk_4_0 (w w3 : World) (bR bS g p1 p2 p3 p5 : Nat) (wr : World) (h : RdS w w3 bR 8 wr) (hs : Shapes wr g p1 p2 p3 p5) (hS : wr.heap[bS]? = some (shpO ⟨65536, 1114111, 0, some ⟨p5, 0, none⟩, 4, 4⟩)) :
    Calls Tryz.prog 33 #[shpV ⟨65536, 1114111, 0, some ⟨p5, 0, none⟩, 4, 4⟩, .agg #[.int .i64 65, .int .i64 66], takeF bR bS] wr fun e w' => BlkE w w3 bR 9 wr e w' := by
  refine (eb_4_0 bR bS _ _ _ wr).mono ?_
  rintro e w' ⟨rfl, hb⟩
  exact ⟨rfl, h.put hb 9 rfl, Kr.below hb⟩
theorem blk_4_1 (w w3 : World) (bR bS g p1 p2 p3 p5 : Nat) (wr : World) (h : RdS w w3 bR 9 wr) (hs : Shapes wr g p1 p2 p3 p5) (hS : wr.heap[bS]? = some (shpO ⟨65536, 1114111, 0, some ⟨p5, 0, none⟩, 4, 4⟩)) :
    Calls Tryz.prog 33 #[shpV ⟨65536, 1114111, 0, some ⟨p5, 0, none⟩, 4, 4⟩, .agg #[.int .i64 233, .int .i64 233], takeF bR bS] wr fun e w' => BlkE w w3 bR 10 wr e w' := by
  refine (eb_4_1 bR bS _ _ _ wr).mono ?_
  rintro e w' ⟨rfl, hb⟩
  exact ⟨rfl, h.put hb 10 rfl, Kr.below hb⟩

end Go.Proofs.YtljankfhnmcbaaaGreatDoor.SP

namespace Go.Proofs.YtljankfhnmcbaaaGreatDoor.SP
open Go.RowKit Go.PlainAid
set_option linter.unusedVariables false

abbrev setA : RL := [(65, 66), (233, 233)]
def RoadsE (w : World) (e : Ending) (w' : World) : Prop := ∃ gr c g0 g1, e = .returned (.tuple #[.slice (some ⟨gr, 0, none⟩) 2 c, .int .i64 0]) ∧ Row2 w' gr g0 g1 ∧ (2 ≤ c ∧ c ≤ 9223372036854775807) ∧ Below w.heap.size w w'
theorem checkA : checkE setA = 0 := by decide
theorem RdS.row {w w3 wr : World} {bR : Nat} (h : RdS w w3 bR 10 wr) : ∃ gr c g0 g1, wr.cell? ⟨bR, 0, none⟩ = some (.slice (some ⟨gr, 0, none⟩) 2 c) ∧ Row2 wr gr g0 g1 ∧ (2 ≤ c ∧ c ≤ 9223372036854775807) := by
  obtain ⟨⟨v, us, h1⟩, h2, h3⟩ := h
  have hlen : us.length = 2 := h1.len
  obtain ⟨g0, _, u0, r0⟩ := h1.rds 0 (by decide)
  obtain ⟨g1, _, u1, r1⟩ := h1.rds 1 (by decide)
  rcases h1.own.2 with ⟨_, hz⟩ | ⟨gr, cap, cur, rfl, hg, hh, hnc, hcm, hcs, htake⟩
  · exact absurd hz (by decide)
  · refine ⟨gr, cap, g0, g1, by simp [World.cell?, h1.box]; rfl, ⟨?_, ?_, ⟨r0, r1⟩⟩, ?_⟩
    · have := h1.own.cells (g := gr) rfl 0 _ u0
      exact this
    · have := h1.own.cells (g := gr) rfl 1 _ u1
      exact this
    · have e2 : (ff 10).length = 2 := rfl
      rw [e2] at hnc
      unfold maxLen at hcm
      omega
set_option maxRecDepth 100000 in
set_option maxHeartbeats 40000000 in
theorem roads_any (xA : Addr) (cA : Nat) (w : World) (hA : Cells2 w xA setA) : Calls Tryz.prog 10 #[.int .i64 1, .slice (some xA) 2 cA] w fun e w' => RoadsE w e w' := by
  have hmf : ∀ (fn : Fn) (first cap : Array Value) (w : World), (Instr.makeFunc fn first cap).run Tryz.prog w = .ok (.func fn first cap) w := fun _ _ _ _ => rfl
  have HSh := hide (shapes1_any w)
  have HCk : Hid (∀ W, Below w.heap.size w W → Calls Tryz.prog 32 #[.slice (some xA) 2 cA] W fun e w' => e = .returned (.int .i64 0) ∧ Below W.heap.size W w') := fun W hW => by
    have := check_any (.slice (some xA) 2 cA) setA W (.inr ⟨xA, cA, rfl, hA.below hW⟩)
    rw [checkA] at this
    exact this
  have HA : Hid (∀ W, Below w.heap.size w W → (W.cell? xA = some (.int .i64 65) ∧ W.cell? ⟨xA.block, xA.off + 1, none⟩ = some (.int .i64 66)) ∧ (W.cell? ⟨xA.block, xA.off + 2, none⟩ = some (.int .i64 233) ∧ W.cell? ⟨xA.block, xA.off + 2 + 1, none⟩ = some (.int .i64 233))) := fun W hW => by
    have h0 := hA.below hW 0 (by decide)
    have h1 := hA.below hW 1 (by decide)
    simp only [Nat.zero_mul, Nat.one_mul, addr0, List.getElem_cons_zero, List.getElem_cons_succ] at h0 h1
    simp [Addr.add] at h1
    exact ⟨h0, h1⟩
  clear hA
  go_enter Tryz.func10, Tryz.ntmps10
  go_wp2_with fail
  refine HSh.out.mono ?_
  rintro e w1 ⟨g, p1, p2, p3, p5, rfl, hSh, hb1⟩
  have HW1 := hide hb1
  have HS1 := hide hSh
  clear hb1 hSh HSh
  go_wp2_with fail
  refine (HCk.out w1 HW1.out).mono ?_
  rintro e w2 ⟨rfl, hb2⟩
  have hW2 := HW1.out.trans (hb2.mono HW1.out.size)
  have hS2 : Shapes w2 g p1 p2 p3 p5 := ⟨rdO_keep HS1.out.g hb2, rdO_keep HS1.out.a hb2, rdO_keep HS1.out.b hb2⟩
  obtain ⟨w3, hw3⟩ : ∃ w3, w3 = w2.alloc (.cells #[.slice none 0 0] 30) := ⟨_, rfl⟩
  have hX3 : w3.heap[w2.heap.size]? = some (.cells #[.slice none 0 0] 30) := by rw [hw3]; exact at_newS _ _
  have hb3 : Below w2.heap.size w2 w3 := by rw [hw3]; exact (Below.refl _ w2).alloc (Nat.le_refl _) _
  obtain ⟨bR, hbR⟩ : ∃ bR, bR = w2.heap.size := ⟨_, rfl⟩
  have hne : g ≠ bR ∧ p1 ≠ bR ∧ p2 ≠ bR := by
    have h1 := lt_blockS hS2.g
    have h2 := lt_blockS hS2.a
    have h3 := lt_blockS hS2.b
    omega
  have hR0 : RdS w w3 bR 0 w3 := by
    refine ⟨⟨.slice none 0 0, [], ⟨by rw [hbR]; exact hW2.size, by rw [hbR]; exact hX3, World.ownsRow_nil _ _ _ _, rfl, fun j hj => absurd hj (by simp [ff])⟩⟩, hW2.trans (hb3.mono hW2.size), Kr.refl _ _⟩
  have HSk : Hid (∀ W, Kr bR w3 W → Shapes W g p1 p2 p3 p5) := fun W hK => Shapes.kr ⟨rdO_keep hS2.g hb3, rdO_keep hS2.a hb3, rdO_keep hS2.b hb3⟩ hne.1 hne.2.1 hne.2.2 hK
  have HR0 := hide hR0
  clear hb2 hW2 hS2 hX3 hb3 hR0 hne HCk HW1 HS1
  go_upto_region 8 with fail
  rw [← hw3, ← hbR]
  clear hw3 hbR
  go_wp2
  go_loopw [28] (fun q wr => ∃ i : Nat, i ≤ 5 ∧ q = .int .i64 i ∧ RdS w w3 bR (2 * i) wr) (fun q _ => 5 - (intOf q).toNat)
  case atStart => exact ⟨0, Nat.zero_le _, rfl, HR0.out⟩
  case round =>
    obtain ⟨i, hi, rfl, hR⟩ := hrel
    obtain ⟨w4, hw4⟩ : ∃ w4, w4 = wr := ⟨_, rfl⟩
    subst hw4
    have HRi := hide hR
    clear hR HR0
    by_cases hlt : i < 5
    · have hSh4 := HSk.out _ HRi.out.2.2
      have e5 : (i : Int) < 5 := by omega
      rcases (by omega : i = 0 ∨ i = 1 ∨ i = 2 ∨ i = 3 ∨ i = 4) with rfl | rfl | rfl | rfl | rfl
      · have m0 : w4.cell? ⟨g, 0, none⟩ = some (.int .i64 0) := cells_at hSh4.g 0
        have m1 : w4.cell? ⟨g, 1, none⟩ = some (.int .i64 127) := cells_at hSh4.g 1
        have m2 : w4.cell? ⟨g, 2, none⟩ = some (.int .i64 0) := cells_at hSh4.g 2
        have m3 : w4.cell? ⟨g, 3, none⟩ = some (.slice (some ⟨p1, 0, none⟩) 1 1) := cells_at hSh4.g 3
        obtain ⟨w5, hw5⟩ : ∃ w5, w5 = w4.alloc (shpO ⟨0, 127, 0, some ⟨p1, 0, none⟩, 1, 1⟩) := ⟨_, rfl⟩
        have hX5 : w5.heap[w4.heap.size]? = some (shpO ⟨0, 127, 0, some ⟨p1, 0, none⟩, 1, 1⟩) := by rw [hw5]; exact at_newS _ _
        have hb5 : Below w4.heap.size w4 w5 := by rw [hw5]; exact (Below.refl _ w4).alloc (Nat.le_refl _) _
        obtain ⟨bS, hbS⟩ : ∃ bS, bS = w4.heap.size := ⟨_, rfl⟩
        have hSR : bS ≠ bR := by
          obtain ⟨⟨v, us, h1⟩, _, _⟩ := HRi.out
          have := lt_blockS h1.box
          omega
        rw [← hbS] at hX5
        have HX5 := hide hX5
        have HSR := hide hSR
        have HR5 := hide (HRi.out.put hb5 0 rfl)
        simp only [shpO] at hw5
        clear hX5 hb5 hSR hSh4 HRi hlt e5
        rw [show ((0 : Nat) : Int) = (0 : Int) from rfl]
        go_upto_region 11 with fail
        rw [← hw5, ← hbS]
        clear hw5 hbS m0 m1 m2 m3
        go_wp2
        go_loopw [34] (fun q wr => ∃ j : Nat, j ≤ 2 ∧ q = .int .i64 j ∧ RdS w w3 bR (0 + j) wr ∧ wr.heap[bS]? = some (shpO ⟨0, 127, 0, some ⟨p1, 0, none⟩, 1, 1⟩)) (fun q _ => 2 - (intOf q).toNat)
        case atStart => exact ⟨0, Nat.zero_le _, rfl, HR5.out, HX5.out⟩
        case round =>
          obtain ⟨j, hj, rfl, hRj, hXj⟩ := hrel
          obtain ⟨w6, hw6⟩ : ∃ w6, w6 = wr := ⟨_, rfl⟩
          subst hw6
          have HRj := hide hRj
          have HXj := hide hXj
          clear hRj hXj HR5 HX5
          by_cases hlt2 : j < 2
          · have e6 : (j : Int) < 2 := by omega
            have hA6 := HA.out _ HRj.out.2.1
            rcases (by omega : j = 0 ∨ j = 1) with rfl | rfl
            · obtain ⟨n0, n1⟩ := hA6.1
              obtain ⟨w7, hw7⟩ : ∃ w7, w7 = w6.alloc (rgOS 65 66) := ⟨_, rfl⟩
              have hX7 : w7.heap[w6.heap.size]? = some (rgOS 65 66) := by rw [hw7]; exact at_newS _ _
              have hb7 : Below w6.heap.size w6 w7 := by rw [hw7]; exact (Below.refl _ w6).alloc (Nat.le_refl _) _
              have hS7 := rdO_keep HXj.out hb7
              have HX7 := hide hS7
              have hR7 := HRj.out.put hb7 (0) rfl
              have HBk := hide (blk_0_0 w w3 bR bS g p1 p2 p3 p5 w7 hR7 (HSk.out _ hR7.2.2) hS7)
              obtain ⟨bx, hbx⟩ : ∃ bx, bx = w6.heap.size := ⟨_, rfl⟩
              rw [← hbx] at hX7
              obtain ⟨d0, d1, d2, d3⟩ := shp_cells hS7
              obtain ⟨f0, f1⟩ := rg_cellsS hX7
              simp only [rgOS] at hw7
              simp only at d0 d1 d2 d3
              simp only [shpV, takeF] at HBk
              clear hX7 hb7 hS7 hR7 hA6 HRj HXj hlt2
              go_upto_region 14 with fail
              rw [← hw7, ← hbx]
              clear hw7 hbx n0 n1
              go_wp2_with fail
              refine HBk.out.mono ?_
              rintro e w8 ⟨rfl, hR8, hK8⟩
              have HR8 := hide hR8
              have HX8 := hide (hK8 _ _ _ _ HSR.out (by decide) HX7.out)
              clear hR8 hK8 HBk d0 d1 d2 d3 f0 f1 HX7
              go_wp2
              go_roundw
              case rel => exact ⟨0 + 1, by omega, by go_num, HR8.out, HX8.out⟩
              case measure => simp [intOf]
            · obtain ⟨n0, n1⟩ := hA6.2
              obtain ⟨w7, hw7⟩ : ∃ w7, w7 = w6.alloc (rgOS 233 233) := ⟨_, rfl⟩
              have hX7 : w7.heap[w6.heap.size]? = some (rgOS 233 233) := by rw [hw7]; exact at_newS _ _
              have hb7 : Below w6.heap.size w6 w7 := by rw [hw7]; exact (Below.refl _ w6).alloc (Nat.le_refl _) _
              have hS7 := rdO_keep HXj.out hb7
              have HX7 := hide hS7
              have hR7 := HRj.out.put hb7 (1) rfl
              have HBk := hide (blk_0_1 w w3 bR bS g p1 p2 p3 p5 w7 hR7 (HSk.out _ hR7.2.2) hS7)
              obtain ⟨bx, hbx⟩ : ∃ bx, bx = w6.heap.size := ⟨_, rfl⟩
              rw [← hbx] at hX7
              obtain ⟨d0, d1, d2, d3⟩ := shp_cells hS7
              obtain ⟨f0, f1⟩ := rg_cellsS hX7
              simp only [rgOS] at hw7
              simp only at d0 d1 d2 d3
              simp only [shpV, takeF] at HBk
              clear hX7 hb7 hS7 hR7 hA6 HRj HXj hlt2
              go_upto_region 14 with fail
              rw [← hw7, ← hbx]
              clear hw7 hbx n0 n1
              go_wp2_with fail
              refine HBk.out.mono ?_
              rintro e w8 ⟨rfl, hR8, hK8⟩
              have HR8 := hide hR8
              have HX8 := hide (hK8 _ _ _ _ HSR.out (by decide) HX7.out)
              clear hR8 hK8 HBk d0 d1 d2 d3 f0 f1 HX7
              go_wp2
              go_roundw
              case rel => exact ⟨1 + 1, by omega, by go_num, HR8.out, HX8.out⟩
              case measure => simp [intOf]
          · have e6 : ¬ (j : Int) < 2 := by omega
            have hj2 : j = 2 := by omega
            subst hj2
            have HR9 : Hid (RdS w w3 bR (2 * (0 + 1)) w6) := HRj.out
            clear HRj HXj hlt2
            go_wp2
            go_roundw
            case rel => exact ⟨0 + 1, by omega, by go_num, HR9.out⟩
            case measure => simp [intOf]
      · have m0 : w4.cell? ⟨g, 4, none⟩ = some (.int .i64 128) := cells_at hSh4.g 4
        have m1 : w4.cell? ⟨g, 5, none⟩ = some (.int .i64 2047) := cells_at hSh4.g 5
        have m2 : w4.cell? ⟨g, 6, none⟩ = some (.int .i64 0) := cells_at hSh4.g 6
        have m3 : w4.cell? ⟨g, 7, none⟩ = some (.slice (some ⟨p2, 0, none⟩) 2 2) := cells_at hSh4.g 7
        obtain ⟨w5, hw5⟩ : ∃ w5, w5 = w4.alloc (shpO ⟨128, 2047, 0, some ⟨p2, 0, none⟩, 2, 2⟩) := ⟨_, rfl⟩
        have hX5 : w5.heap[w4.heap.size]? = some (shpO ⟨128, 2047, 0, some ⟨p2, 0, none⟩, 2, 2⟩) := by rw [hw5]; exact at_newS _ _
        have hb5 : Below w4.heap.size w4 w5 := by rw [hw5]; exact (Below.refl _ w4).alloc (Nat.le_refl _) _
        obtain ⟨bS, hbS⟩ : ∃ bS, bS = w4.heap.size := ⟨_, rfl⟩
        have hSR : bS ≠ bR := by
          obtain ⟨⟨v, us, h1⟩, _, _⟩ := HRi.out
          have := lt_blockS h1.box
          omega
        rw [← hbS] at hX5
        have HX5 := hide hX5
        have HSR := hide hSR
        have HR5 := hide (HRi.out.put hb5 2 rfl)
        simp only [shpO] at hw5
        clear hX5 hb5 hSR hSh4 HRi hlt e5
        rw [show ((1 : Nat) : Int) = (1 : Int) from rfl]
        go_upto_region 11 with fail
        rw [← hw5, ← hbS]
        clear hw5 hbS m0 m1 m2 m3
        go_wp2
        go_loopw [34] (fun q wr => ∃ j : Nat, j ≤ 2 ∧ q = .int .i64 j ∧ RdS w w3 bR (2 + j) wr ∧ wr.heap[bS]? = some (shpO ⟨128, 2047, 0, some ⟨p2, 0, none⟩, 2, 2⟩)) (fun q _ => 2 - (intOf q).toNat)
        case atStart => exact ⟨0, Nat.zero_le _, rfl, HR5.out, HX5.out⟩
        case round =>
          obtain ⟨j, hj, rfl, hRj, hXj⟩ := hrel
          obtain ⟨w6, hw6⟩ : ∃ w6, w6 = wr := ⟨_, rfl⟩
          subst hw6
          have HRj := hide hRj
          have HXj := hide hXj
          clear hRj hXj HR5 HX5
          by_cases hlt2 : j < 2
          · have e6 : (j : Int) < 2 := by omega
            have hA6 := HA.out _ HRj.out.2.1
            rcases (by omega : j = 0 ∨ j = 1) with rfl | rfl
            · obtain ⟨n0, n1⟩ := hA6.1
              obtain ⟨w7, hw7⟩ : ∃ w7, w7 = w6.alloc (rgOS 65 66) := ⟨_, rfl⟩
              have hX7 : w7.heap[w6.heap.size]? = some (rgOS 65 66) := by rw [hw7]; exact at_newS _ _
              have hb7 : Below w6.heap.size w6 w7 := by rw [hw7]; exact (Below.refl _ w6).alloc (Nat.le_refl _) _
              have hS7 := rdO_keep HXj.out hb7
              have HX7 := hide hS7
              have hR7 := HRj.out.put hb7 (2) rfl
              have HBk := hide (blk_1_0 w w3 bR bS g p1 p2 p3 p5 w7 hR7 (HSk.out _ hR7.2.2) hS7)
              obtain ⟨bx, hbx⟩ : ∃ bx, bx = w6.heap.size := ⟨_, rfl⟩
              rw [← hbx] at hX7
              obtain ⟨d0, d1, d2, d3⟩ := shp_cells hS7
              obtain ⟨f0, f1⟩ := rg_cellsS hX7
              simp only [rgOS] at hw7
              simp only at d0 d1 d2 d3
              simp only [shpV, takeF] at HBk
              clear hX7 hb7 hS7 hR7 hA6 HRj HXj hlt2
              go_upto_region 14 with fail
              rw [← hw7, ← hbx]
              clear hw7 hbx n0 n1
              go_wp2_with fail
              refine HBk.out.mono ?_
              rintro e w8 ⟨rfl, hR8, hK8⟩
              have HR8 := hide hR8
              have HX8 := hide (hK8 _ _ _ _ HSR.out (by decide) HX7.out)
              clear hR8 hK8 HBk d0 d1 d2 d3 f0 f1 HX7
              go_wp2
              go_roundw
              case rel => exact ⟨0 + 1, by omega, by go_num, HR8.out, HX8.out⟩
              case measure => simp [intOf]
            · obtain ⟨n0, n1⟩ := hA6.2
              obtain ⟨w7, hw7⟩ : ∃ w7, w7 = w6.alloc (rgOS 233 233) := ⟨_, rfl⟩
              have hX7 : w7.heap[w6.heap.size]? = some (rgOS 233 233) := by rw [hw7]; exact at_newS _ _
              have hb7 : Below w6.heap.size w6 w7 := by rw [hw7]; exact (Below.refl _ w6).alloc (Nat.le_refl _) _
              have hS7 := rdO_keep HXj.out hb7
              have HX7 := hide hS7
              have hR7 := HRj.out.put hb7 (3) rfl
              have HBk := hide (blk_1_1 w w3 bR bS g p1 p2 p3 p5 w7 hR7 (HSk.out _ hR7.2.2) hS7)
              obtain ⟨bx, hbx⟩ : ∃ bx, bx = w6.heap.size := ⟨_, rfl⟩
              rw [← hbx] at hX7
              obtain ⟨d0, d1, d2, d3⟩ := shp_cells hS7
              obtain ⟨f0, f1⟩ := rg_cellsS hX7
              simp only [rgOS] at hw7
              simp only at d0 d1 d2 d3
              simp only [shpV, takeF] at HBk
              clear hX7 hb7 hS7 hR7 hA6 HRj HXj hlt2
              go_upto_region 14 with fail
              rw [← hw7, ← hbx]
              clear hw7 hbx n0 n1
              go_wp2_with fail
              refine HBk.out.mono ?_
              rintro e w8 ⟨rfl, hR8, hK8⟩
              have HR8 := hide hR8
              have HX8 := hide (hK8 _ _ _ _ HSR.out (by decide) HX7.out)
              clear hR8 hK8 HBk d0 d1 d2 d3 f0 f1 HX7
              go_wp2
              go_roundw
              case rel => exact ⟨1 + 1, by omega, by go_num, HR8.out, HX8.out⟩
              case measure => simp [intOf]
          · have e6 : ¬ (j : Int) < 2 := by omega
            have hj2 : j = 2 := by omega
            subst hj2
            have HR9 : Hid (RdS w w3 bR (2 * (1 + 1)) w6) := HRj.out
            clear HRj HXj hlt2
            go_wp2
            go_roundw
            case rel => exact ⟨1 + 1, by omega, by go_num, HR9.out⟩
            case measure => simp [intOf]
      · have m0 : w4.cell? ⟨g, 8, none⟩ = some (.int .i64 2048) := cells_at hSh4.g 8
        have m1 : w4.cell? ⟨g, 9, none⟩ = some (.int .i64 55295) := cells_at hSh4.g 9
        have m2 : w4.cell? ⟨g, 10, none⟩ = some (.int .i64 0) := cells_at hSh4.g 10
        have m3 : w4.cell? ⟨g, 11, none⟩ = some (.slice (some ⟨p3, 0, none⟩) 3 3) := cells_at hSh4.g 11
        obtain ⟨w5, hw5⟩ : ∃ w5, w5 = w4.alloc (shpO ⟨2048, 55295, 0, some ⟨p3, 0, none⟩, 3, 3⟩) := ⟨_, rfl⟩
        have hX5 : w5.heap[w4.heap.size]? = some (shpO ⟨2048, 55295, 0, some ⟨p3, 0, none⟩, 3, 3⟩) := by rw [hw5]; exact at_newS _ _
        have hb5 : Below w4.heap.size w4 w5 := by rw [hw5]; exact (Below.refl _ w4).alloc (Nat.le_refl _) _
        obtain ⟨bS, hbS⟩ : ∃ bS, bS = w4.heap.size := ⟨_, rfl⟩
        have hSR : bS ≠ bR := by
          obtain ⟨⟨v, us, h1⟩, _, _⟩ := HRi.out
          have := lt_blockS h1.box
          omega
        rw [← hbS] at hX5
        have HX5 := hide hX5
        have HSR := hide hSR
        have HR5 := hide (HRi.out.put hb5 4 rfl)
        simp only [shpO] at hw5
        clear hX5 hb5 hSR hSh4 HRi hlt e5
        rw [show ((2 : Nat) : Int) = (2 : Int) from rfl]
        go_upto_region 11 with fail
        rw [← hw5, ← hbS]
        clear hw5 hbS m0 m1 m2 m3
        go_wp2
        go_loopw [34] (fun q wr => ∃ j : Nat, j ≤ 2 ∧ q = .int .i64 j ∧ RdS w w3 bR (4 + j) wr ∧ wr.heap[bS]? = some (shpO ⟨2048, 55295, 0, some ⟨p3, 0, none⟩, 3, 3⟩)) (fun q _ => 2 - (intOf q).toNat)
        case atStart => exact ⟨0, Nat.zero_le _, rfl, HR5.out, HX5.out⟩
        case round =>
          obtain ⟨j, hj, rfl, hRj, hXj⟩ := hrel
          obtain ⟨w6, hw6⟩ : ∃ w6, w6 = wr := ⟨_, rfl⟩
          subst hw6
          have HRj := hide hRj
          have HXj := hide hXj
          clear hRj hXj HR5 HX5
          by_cases hlt2 : j < 2
          · have e6 : (j : Int) < 2 := by omega
            have hA6 := HA.out _ HRj.out.2.1
            rcases (by omega : j = 0 ∨ j = 1) with rfl | rfl
            · obtain ⟨n0, n1⟩ := hA6.1
              obtain ⟨w7, hw7⟩ : ∃ w7, w7 = w6.alloc (rgOS 65 66) := ⟨_, rfl⟩
              have hX7 : w7.heap[w6.heap.size]? = some (rgOS 65 66) := by rw [hw7]; exact at_newS _ _
              have hb7 : Below w6.heap.size w6 w7 := by rw [hw7]; exact (Below.refl _ w6).alloc (Nat.le_refl _) _
              have hS7 := rdO_keep HXj.out hb7
              have HX7 := hide hS7
              have hR7 := HRj.out.put hb7 (4) rfl
              have HBk := hide (blk_2_0 w w3 bR bS g p1 p2 p3 p5 w7 hR7 (HSk.out _ hR7.2.2) hS7)
              obtain ⟨bx, hbx⟩ : ∃ bx, bx = w6.heap.size := ⟨_, rfl⟩
              rw [← hbx] at hX7
              obtain ⟨d0, d1, d2, d3⟩ := shp_cells hS7
              obtain ⟨f0, f1⟩ := rg_cellsS hX7
              simp only [rgOS] at hw7
              simp only at d0 d1 d2 d3
              simp only [shpV, takeF] at HBk
              clear hX7 hb7 hS7 hR7 hA6 HRj HXj hlt2
              go_upto_region 14 with fail
              rw [← hw7, ← hbx]
              clear hw7 hbx n0 n1
              go_wp2_with fail
              refine HBk.out.mono ?_
              rintro e w8 ⟨rfl, hR8, hK8⟩
              have HR8 := hide hR8
              have HX8 := hide (hK8 _ _ _ _ HSR.out (by decide) HX7.out)
              clear hR8 hK8 HBk d0 d1 d2 d3 f0 f1 HX7
              go_wp2
              go_roundw
              case rel => exact ⟨0 + 1, by omega, by go_num, HR8.out, HX8.out⟩
              case measure => simp [intOf]
            · obtain ⟨n0, n1⟩ := hA6.2
              obtain ⟨w7, hw7⟩ : ∃ w7, w7 = w6.alloc (rgOS 233 233) := ⟨_, rfl⟩
              have hX7 : w7.heap[w6.heap.size]? = some (rgOS 233 233) := by rw [hw7]; exact at_newS _ _
              have hb7 : Below w6.heap.size w6 w7 := by rw [hw7]; exact (Below.refl _ w6).alloc (Nat.le_refl _) _
              have hS7 := rdO_keep HXj.out hb7
              have HX7 := hide hS7
              have hR7 := HRj.out.put hb7 (5) rfl
              have HBk := hide (blk_2_1 w w3 bR bS g p1 p2 p3 p5 w7 hR7 (HSk.out _ hR7.2.2) hS7)
              obtain ⟨bx, hbx⟩ : ∃ bx, bx = w6.heap.size := ⟨_, rfl⟩
              rw [← hbx] at hX7
              obtain ⟨d0, d1, d2, d3⟩ := shp_cells hS7
              obtain ⟨f0, f1⟩ := rg_cellsS hX7
              simp only [rgOS] at hw7
              simp only at d0 d1 d2 d3
              simp only [shpV, takeF] at HBk
              clear hX7 hb7 hS7 hR7 hA6 HRj HXj hlt2
              go_upto_region 14 with fail
              rw [← hw7, ← hbx]
              clear hw7 hbx n0 n1
              go_wp2_with fail
              refine HBk.out.mono ?_
              rintro e w8 ⟨rfl, hR8, hK8⟩
              have HR8 := hide hR8
              have HX8 := hide (hK8 _ _ _ _ HSR.out (by decide) HX7.out)
              clear hR8 hK8 HBk d0 d1 d2 d3 f0 f1 HX7
              go_wp2
              go_roundw
              case rel => exact ⟨1 + 1, by omega, by go_num, HR8.out, HX8.out⟩
              case measure => simp [intOf]
          · have e6 : ¬ (j : Int) < 2 := by omega
            have hj2 : j = 2 := by omega
            subst hj2
            have HR9 : Hid (RdS w w3 bR (2 * (2 + 1)) w6) := HRj.out
            clear HRj HXj hlt2
            go_wp2
            go_roundw
            case rel => exact ⟨2 + 1, by omega, by go_num, HR9.out⟩
            case measure => simp [intOf]
      · have m0 : w4.cell? ⟨g, 12, none⟩ = some (.int .i64 57344) := cells_at hSh4.g 12
        have m1 : w4.cell? ⟨g, 13, none⟩ = some (.int .i64 65535) := cells_at hSh4.g 13
        have m2 : w4.cell? ⟨g, 14, none⟩ = some (.int .i64 0) := cells_at hSh4.g 14
        have m3 : w4.cell? ⟨g, 15, none⟩ = some (.slice (some ⟨p3, 0, none⟩) 3 3) := cells_at hSh4.g 15
        obtain ⟨w5, hw5⟩ : ∃ w5, w5 = w4.alloc (shpO ⟨57344, 65535, 0, some ⟨p3, 0, none⟩, 3, 3⟩) := ⟨_, rfl⟩
        have hX5 : w5.heap[w4.heap.size]? = some (shpO ⟨57344, 65535, 0, some ⟨p3, 0, none⟩, 3, 3⟩) := by rw [hw5]; exact at_newS _ _
        have hb5 : Below w4.heap.size w4 w5 := by rw [hw5]; exact (Below.refl _ w4).alloc (Nat.le_refl _) _
        obtain ⟨bS, hbS⟩ : ∃ bS, bS = w4.heap.size := ⟨_, rfl⟩
        have hSR : bS ≠ bR := by
          obtain ⟨⟨v, us, h1⟩, _, _⟩ := HRi.out
          have := lt_blockS h1.box
          omega
        rw [← hbS] at hX5
        have HX5 := hide hX5
        have HSR := hide hSR
        have HR5 := hide (HRi.out.put hb5 6 rfl)
        simp only [shpO] at hw5
        clear hX5 hb5 hSR hSh4 HRi hlt e5
        rw [show ((3 : Nat) : Int) = (3 : Int) from rfl]
        go_upto_region 11 with fail
        rw [← hw5, ← hbS]
        clear hw5 hbS m0 m1 m2 m3
        go_wp2
        go_loopw [34] (fun q wr => ∃ j : Nat, j ≤ 2 ∧ q = .int .i64 j ∧ RdS w w3 bR (6 + j) wr ∧ wr.heap[bS]? = some (shpO ⟨57344, 65535, 0, some ⟨p3, 0, none⟩, 3, 3⟩)) (fun q _ => 2 - (intOf q).toNat)
        case atStart => exact ⟨0, Nat.zero_le _, rfl, HR5.out, HX5.out⟩
        case round =>
          obtain ⟨j, hj, rfl, hRj, hXj⟩ := hrel
          obtain ⟨w6, hw6⟩ : ∃ w6, w6 = wr := ⟨_, rfl⟩
          subst hw6
          have HRj := hide hRj
          have HXj := hide hXj
          clear hRj hXj HR5 HX5
          by_cases hlt2 : j < 2
          · have e6 : (j : Int) < 2 := by omega
            have hA6 := HA.out _ HRj.out.2.1
            rcases (by omega : j = 0 ∨ j = 1) with rfl | rfl
            · obtain ⟨n0, n1⟩ := hA6.1
              obtain ⟨w7, hw7⟩ : ∃ w7, w7 = w6.alloc (rgOS 65 66) := ⟨_, rfl⟩
              have hX7 : w7.heap[w6.heap.size]? = some (rgOS 65 66) := by rw [hw7]; exact at_newS _ _
              have hb7 : Below w6.heap.size w6 w7 := by rw [hw7]; exact (Below.refl _ w6).alloc (Nat.le_refl _) _
              have hS7 := rdO_keep HXj.out hb7
              have HX7 := hide hS7
              have hR7 := HRj.out.put hb7 (6) rfl
              have HBk := hide (blk_3_0 w w3 bR bS g p1 p2 p3 p5 w7 hR7 (HSk.out _ hR7.2.2) hS7)
              obtain ⟨bx, hbx⟩ : ∃ bx, bx = w6.heap.size := ⟨_, rfl⟩
              rw [← hbx] at hX7
              obtain ⟨d0, d1, d2, d3⟩ := shp_cells hS7
              obtain ⟨f0, f1⟩ := rg_cellsS hX7
              simp only [rgOS] at hw7
              simp only at d0 d1 d2 d3
              simp only [shpV, takeF] at HBk
              clear hX7 hb7 hS7 hR7 hA6 HRj HXj hlt2
              go_upto_region 14 with fail
              rw [← hw7, ← hbx]
              clear hw7 hbx n0 n1
              go_wp2_with fail
              refine HBk.out.mono ?_
              rintro e w8 ⟨rfl, hR8, hK8⟩
              have HR8 := hide hR8
              have HX8 := hide (hK8 _ _ _ _ HSR.out (by decide) HX7.out)
              clear hR8 hK8 HBk d0 d1 d2 d3 f0 f1 HX7
              go_wp2
              go_roundw
              case rel => exact ⟨0 + 1, by omega, by go_num, HR8.out, HX8.out⟩
              case measure => simp [intOf]
            · obtain ⟨n0, n1⟩ := hA6.2
              obtain ⟨w7, hw7⟩ : ∃ w7, w7 = w6.alloc (rgOS 233 233) := ⟨_, rfl⟩
              have hX7 : w7.heap[w6.heap.size]? = some (rgOS 233 233) := by rw [hw7]; exact at_newS _ _
              have hb7 : Below w6.heap.size w6 w7 := by rw [hw7]; exact (Below.refl _ w6).alloc (Nat.le_refl _) _
              have hS7 := rdO_keep HXj.out hb7
              have HX7 := hide hS7
              have hR7 := HRj.out.put hb7 (7) rfl
              have HBk := hide (blk_3_1 w w3 bR bS g p1 p2 p3 p5 w7 hR7 (HSk.out _ hR7.2.2) hS7)
              obtain ⟨bx, hbx⟩ : ∃ bx, bx = w6.heap.size := ⟨_, rfl⟩
              rw [← hbx] at hX7
              obtain ⟨d0, d1, d2, d3⟩ := shp_cells hS7
              obtain ⟨f0, f1⟩ := rg_cellsS hX7
              simp only [rgOS] at hw7
              simp only at d0 d1 d2 d3
              simp only [shpV, takeF] at HBk
              clear hX7 hb7 hS7 hR7 hA6 HRj HXj hlt2
              go_upto_region 14 with fail
              rw [← hw7, ← hbx]
              clear hw7 hbx n0 n1
              go_wp2_with fail
              refine HBk.out.mono ?_
              rintro e w8 ⟨rfl, hR8, hK8⟩
              have HR8 := hide hR8
              have HX8 := hide (hK8 _ _ _ _ HSR.out (by decide) HX7.out)
              clear hR8 hK8 HBk d0 d1 d2 d3 f0 f1 HX7
              go_wp2
              go_roundw
              case rel => exact ⟨1 + 1, by omega, by go_num, HR8.out, HX8.out⟩
              case measure => simp [intOf]
          · have e6 : ¬ (j : Int) < 2 := by omega
            have hj2 : j = 2 := by omega
            subst hj2
            have HR9 : Hid (RdS w w3 bR (2 * (3 + 1)) w6) := HRj.out
            clear HRj HXj hlt2
            go_wp2
            go_roundw
            case rel => exact ⟨3 + 1, by omega, by go_num, HR9.out⟩
            case measure => simp [intOf]
      · have m0 : w4.cell? ⟨g, 16, none⟩ = some (.int .i64 65536) := cells_at hSh4.g 16
        have m1 : w4.cell? ⟨g, 17, none⟩ = some (.int .i64 1114111) := cells_at hSh4.g 17
        have m2 : w4.cell? ⟨g, 18, none⟩ = some (.int .i64 0) := cells_at hSh4.g 18
        have m3 : w4.cell? ⟨g, 19, none⟩ = some (.slice (some ⟨p5, 0, none⟩) 4 4) := cells_at hSh4.g 19
        obtain ⟨w5, hw5⟩ : ∃ w5, w5 = w4.alloc (shpO ⟨65536, 1114111, 0, some ⟨p5, 0, none⟩, 4, 4⟩) := ⟨_, rfl⟩
        have hX5 : w5.heap[w4.heap.size]? = some (shpO ⟨65536, 1114111, 0, some ⟨p5, 0, none⟩, 4, 4⟩) := by rw [hw5]; exact at_newS _ _
        have hb5 : Below w4.heap.size w4 w5 := by rw [hw5]; exact (Below.refl _ w4).alloc (Nat.le_refl _) _
        obtain ⟨bS, hbS⟩ : ∃ bS, bS = w4.heap.size := ⟨_, rfl⟩
        have hSR : bS ≠ bR := by
          obtain ⟨⟨v, us, h1⟩, _, _⟩ := HRi.out
          have := lt_blockS h1.box
          omega
        rw [← hbS] at hX5
        have HX5 := hide hX5
        have HSR := hide hSR
        have HR5 := hide (HRi.out.put hb5 8 rfl)
        simp only [shpO] at hw5
        clear hX5 hb5 hSR hSh4 HRi hlt e5
        rw [show ((4 : Nat) : Int) = (4 : Int) from rfl]
        go_upto_region 11 with fail
        rw [← hw5, ← hbS]
        clear hw5 hbS m0 m1 m2 m3
        go_wp2
        go_loopw [34] (fun q wr => ∃ j : Nat, j ≤ 2 ∧ q = .int .i64 j ∧ RdS w w3 bR (8 + j) wr ∧ wr.heap[bS]? = some (shpO ⟨65536, 1114111, 0, some ⟨p5, 0, none⟩, 4, 4⟩)) (fun q _ => 2 - (intOf q).toNat)
        case atStart => exact ⟨0, Nat.zero_le _, rfl, HR5.out, HX5.out⟩
        case round =>
          obtain ⟨j, hj, rfl, hRj, hXj⟩ := hrel
          obtain ⟨w6, hw6⟩ : ∃ w6, w6 = wr := ⟨_, rfl⟩
          subst hw6
          have HRj := hide hRj
          have HXj := hide hXj
          clear hRj hXj HR5 HX5
          by_cases hlt2 : j < 2
          · have e6 : (j : Int) < 2 := by omega
            have hA6 := HA.out _ HRj.out.2.1
            rcases (by omega : j = 0 ∨ j = 1) with rfl | rfl
            · obtain ⟨n0, n1⟩ := hA6.1
              obtain ⟨w7, hw7⟩ : ∃ w7, w7 = w6.alloc (rgOS 65 66) := ⟨_, rfl⟩
              have hX7 : w7.heap[w6.heap.size]? = some (rgOS 65 66) := by rw [hw7]; exact at_newS _ _
              have hb7 : Below w6.heap.size w6 w7 := by rw [hw7]; exact (Below.refl _ w6).alloc (Nat.le_refl _) _
              have hS7 := rdO_keep HXj.out hb7
              have HX7 := hide hS7
              have hR7 := HRj.out.put hb7 (8) rfl
              have HBk := hide (blk_4_0 w w3 bR bS g p1 p2 p3 p5 w7 hR7 (HSk.out _ hR7.2.2) hS7)
              obtain ⟨bx, hbx⟩ : ∃ bx, bx = w6.heap.size := ⟨_, rfl⟩
              rw [← hbx] at hX7
              obtain ⟨d0, d1, d2, d3⟩ := shp_cells hS7
              obtain ⟨f0, f1⟩ := rg_cellsS hX7
              simp only [rgOS] at hw7
              simp only at d0 d1 d2 d3
              simp only [shpV, takeF] at HBk
              clear hX7 hb7 hS7 hR7 hA6 HRj HXj hlt2
              go_upto_region 14 with fail
              rw [← hw7, ← hbx]
              clear hw7 hbx n0 n1
              go_wp2_with fail
              refine HBk.out.mono ?_
              rintro e w8 ⟨rfl, hR8, hK8⟩
              have HR8 := hide hR8
              have HX8 := hide (hK8 _ _ _ _ HSR.out (by decide) HX7.out)
              clear hR8 hK8 HBk d0 d1 d2 d3 f0 f1 HX7
              go_wp2
              go_roundw
              case rel => exact ⟨0 + 1, by omega, by go_num, HR8.out, HX8.out⟩
              case measure => simp [intOf]
            · obtain ⟨n0, n1⟩ := hA6.2
              obtain ⟨w7, hw7⟩ : ∃ w7, w7 = w6.alloc (rgOS 233 233) := ⟨_, rfl⟩
              have hX7 : w7.heap[w6.heap.size]? = some (rgOS 233 233) := by rw [hw7]; exact at_newS _ _
              have hb7 : Below w6.heap.size w6 w7 := by rw [hw7]; exact (Below.refl _ w6).alloc (Nat.le_refl _) _
              have hS7 := rdO_keep HXj.out hb7
              have HX7 := hide hS7
              have hR7 := HRj.out.put hb7 (9) rfl
              have HBk := hide (blk_4_1 w w3 bR bS g p1 p2 p3 p5 w7 hR7 (HSk.out _ hR7.2.2) hS7)
              obtain ⟨bx, hbx⟩ : ∃ bx, bx = w6.heap.size := ⟨_, rfl⟩
              rw [← hbx] at hX7
              obtain ⟨d0, d1, d2, d3⟩ := shp_cells hS7
              obtain ⟨f0, f1⟩ := rg_cellsS hX7
              simp only [rgOS] at hw7
              simp only at d0 d1 d2 d3
              simp only [shpV, takeF] at HBk
              clear hX7 hb7 hS7 hR7 hA6 HRj HXj hlt2
              go_upto_region 14 with fail
              rw [← hw7, ← hbx]
              clear hw7 hbx n0 n1
              go_wp2_with fail
              refine HBk.out.mono ?_
              rintro e w8 ⟨rfl, hR8, hK8⟩
              have HR8 := hide hR8
              have HX8 := hide (hK8 _ _ _ _ HSR.out (by decide) HX7.out)
              clear hR8 hK8 HBk d0 d1 d2 d3 f0 f1 HX7
              go_wp2
              go_roundw
              case rel => exact ⟨1 + 1, by omega, by go_num, HR8.out, HX8.out⟩
              case measure => simp [intOf]
          · have e6 : ¬ (j : Int) < 2 := by omega
            have hj2 : j = 2 := by omega
            subst hj2
            have HR9 : Hid (RdS w w3 bR (2 * (4 + 1)) w6) := HRj.out
            clear HRj HXj hlt2
            go_wp2
            go_roundw
            case rel => exact ⟨4 + 1, by omega, by go_num, HR9.out⟩
            case measure => simp [intOf]
    · have e5 : ¬ (i : Int) < 5 := by omega
      have hi5 : i = 5 := by omega
      subst hi5
      obtain ⟨gr, c, g0, g1, hc, hrow, hcap⟩ := RdS.row HRi.out
      have HSo := hide (sort_any gr g0 g1 c w4 hrow)
      have HRow := hide hrow
      have HCp := hide hcap
      have HCc : Hid (∀ W, Below w4.heap.size w4 W → W.cell? ⟨bR, 0, none⟩ = some (.slice (some ⟨gr, 0, none⟩) 2 c)) := fun W hW => below_cell hW (lt_of_cell hc) hc
      clear hrow hcap hlt
      go_wp2_with fail
      refine HSo.out.mono ?_
      rintro e w5 ⟨rfl, hb5⟩
      have hc5 := HCc.out w5 hb5
      have HF : Hid (Row2 w5 gr g0 g1 ∧ Below w.heap.size w w5) := ⟨HRow.out.keep hb5, HRi.out.2.1.trans (hb5.mono HRi.out.2.1.size)⟩
      clear hb5 HSo hc HCc
      go_wp2
      go_ret2
      exact ⟨gr, c, g0, g1, rfl, HF.out.1, HCp.out, HF.out.2⟩

end Go.Proofs.YtljankfhnmcbaaaGreatDoor.SP

namespace Go.Proofs.YtljankfhnmcbaaaGreatDoor.SP
open Go.RowKit Go.PlainAid
set_option linter.unusedVariables false

abbrev twoL : List RL := [[(65, 66)], [(195, 195), (169, 169)]]
theorem rdReads {w : World} {g : Nat} {L : RL} (h : w.heap[g]? = some (rdO L 0)) : Reads w (.slice (some ⟨g, 0, none⟩) L.length L.length) L := by
  refine .inr ⟨_, _, rfl, fun j hj => ?_⟩
  have hadd : (⟨g, 0, none⟩ : Addr).add (j * 2) = ⟨g, j * 2, none⟩ := by unfold Addr.add; split <;> simp_all
  rw [hadd]
  have hl : ∀ (L : RL) (j : Nat) (hj : j < L.length), (rowR L)[j * 2]? = some (.int .i64 L[j].1) ∧ (rowR L)[j * 2 + 1]? = some (.int .i64 L[j].2) := by
    intro L
    induction L with
    | nil => intro j hj; simp at hj
    | cons r L ih =>
      intro j hj
      have e : rowR (r :: L) = .int .i64 r.1 :: .int .i64 r.2 :: rowR L := by unfold rowR; rw [List.flatMap_cons]; rfl
      rw [e]
      cases j with
      | zero => exact ⟨rfl, rfl⟩
      | succ j =>
        have := ih j (by simpa using hj)
        rw [show (j + 1) * 2 = j * 2 + 1 + 1 by omega]
        simpa using this
  have := hl L j hj
  constructor
  · simp only [World.cell?, h, rdO]
    simpa using this.1
  · simp only [World.cell?, h, rdO]
    simpa using this.2
theorem Row2.rdC {w : World} {gr g0 g1 c : Nat} (h : Row2 w gr g0 g1) (hc : 2 ≤ c ∧ c ≤ 9223372036854775807) : RdC w (.slice (some ⟨gr, 0, none⟩) 2 c) twoL := by
  refine .inr ⟨_, _, rfl, hc, fun j hj => ?_⟩
  rcases (by simp at hj; omega : j = 0 ∨ j = 1) with rfl | rfl
  · exact ⟨_, h.c0, rdReads h.two.r0, by decide +revert⟩
  · exact ⟨_, h.c1, rdReads h.two.r1, by decide +revert⟩
theorem begun_R {n z : Int} (h : AlongR 1 twoL ⟨#[120, 195, 169]⟩ 1 n z) : n = 2 ∧ z = 0 := by
  have hno : ¬ GoesAt [(65, 66)] ⟨#[120, 195, 169]⟩ 1 := fun hh => by
    have := (hh.2 0 (by decide)).2
    revert this
    decide
  have hyes : GoesAt [(195, 195), (169, 169)] ⟨#[120, 195, 169]⟩ 1 := by
    refine ⟨by decide, fun i hi => ?_⟩
    rcases (by simp at hi; omega : i = 0 ∨ i = 1) with rfl | rfl <;> decide +revert
  rcases h with ⟨h1, _⟩ | ⟨_, h1, _⟩ | ⟨_, _, h1, _⟩ | ⟨_, _, _, _, hz, h1⟩
  · exact absurd h1 (by decide)
  · exact absurd h1 (by decide)
  · rcases h1 with h1 | h1 <;> exact absurd h1 (by decide)
  · refine ⟨?_, hz⟩
    rcases h1 with ⟨j, hj, hg, _, hn⟩ | ⟨hall, _⟩
    · rcases (by simp at hj; omega : j = 0 ∨ j = 1) with rfl | rfl
      · exact absurd hg hno
      · rw [hn]; rfl
    · exact absurd hyes (hall 1 (by decide))
set_option maxRecDepth 100000 in
set_option maxHeartbeats 4000000 in
theorem splitBegun_any (w : World) : Calls Tryz.prog 5 #[] w fun e w' => e = .returned (.bool true) ∧ Below w.heap.size w w' := by
  obtain ⟨w1, hw1⟩ : ∃ w1, w1 = w.alloc (.cells #[.int .i64 65, .int .i64 66, .int .i64 233, .int .i64 233] 25) := ⟨_, rfl⟩
  have hX1 : w1.heap[w.heap.size]? = some (.cells #[.int .i64 65, .int .i64 66, .int .i64 233, .int .i64 233] 25) := by rw [hw1]; exact at_newS _ _
  have hb1 : Below w.heap.size w w1 := by rw [hw1]; exact (Below.refl _ w).alloc (Nat.le_refl _) _
  have hA : Cells2 w1 ⟨w.heap.size, 0, none⟩ setA := fun j hj => by
    rcases (by simp at hj; omega : j = 0 ∨ j = 1) with rfl | rfl
    · exact ⟨cells_at hX1 0, cells_at hX1 1⟩
    · exact ⟨cells_at hX1 2, cells_at hX1 3⟩
  have HRo := hide (roads_any ⟨w.heap.size, 0, none⟩ 2 w1 hA)
  have HB1 := hide hb1
  obtain ⟨bx, hbx⟩ : ∃ bx, bx = w.heap.size := ⟨_, rfl⟩
  rw [← hbx] at HRo
  clear hA hX1 hb1
  go_enter Tryz.func5, Tryz.ntmps5
  go_wp2_with fail
  rw [← hw1, ← hbx]
  clear hw1 hbx
  refine HRo.out.mono ?_
  rintro e w2 ⟨gr, c, g0, g1, rfl, hrow, hc, hb2⟩
  have HB2 := hide (HB1.out.trans (hb2.mono HB1.out.size))
  have HAl := hide (along_any 1 _ twoL ⟨#[120, 195, 169]⟩ 1 w2 (hrow.rdC hc) (by decide))
  clear hrow hb2 HRo
  go_wp2_with fail
  refine HAl.out.mono ?_
  rintro e w3 ⟨⟨n, z, rfl, hR⟩, hb3⟩
  obtain ⟨rfl, rfl⟩ := begun_R hR
  have HB3 := hide (HB2.out.trans (hb3.mono HB2.out.size))
  clear hR hb3 HAl hc
  go_wp2
  go_ret
  exact ⟨rfl, HB3.out⟩

end Go.Proofs.YtljankfhnmcbaaaGreatDoor.SP
