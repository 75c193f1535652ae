/- Roads: what Roads answers for the set that splitBegun tries. -/
import Derived.Test.YthigleohjagfiaaSq9
namespace Go.Proofs.Ythigleohjagfiaa
open Go.RowKit Go.PlainAid
set_option linter.unusedVariables false

/-- what eachBlock does with the roads. -/
def BlkE (w w3 : World) (bR k : Nat) (wr : World) (e : Ending) (w' : World) : Prop := e = .returned (.tuple #[]) ∧ RdS w w3 bR k w' ∧ Kr bR wr w'
theorem below_tr {a b c : World} (h : Below a.heap.size a b) (h' : Below b.heap.size b c) : Below a.heap.size a c := h.trans (h'.mono h.size)
theorem blk_0_0 (w w3 : World) (bR bS g p1 p2 p3 p5 : Nat) (wr : World) (h : RdS w w3 bR 0 wr) (hs : Shapes wr g p1 p2 p3 p5) (hS : wr.heap[bS]? = some (shpO ⟨0, 127, 0, some ⟨p1, 0, none⟩, 1, 1⟩)) :
    Calls Try.prog 25 #[shpV ⟨0, 127, 0, some ⟨p1, 0, none⟩, 1, 1⟩, .agg #[.int .i64 65, .int .i64 66], takeF bR bS] wr fun e w' => BlkE w w3 bR 1 wr e w' := by
  obtain ⟨⟨v, us, h1⟩, h2, h3⟩ := id h
  refine (eb_0_0 w.heap.size bR bS (ff 1) _ _ _ wr h2.size (fun W hW => divide_1 w.heap.size bR bS (ff 1) _ ⟨p1, 0, none⟩ W (by have := h2.size; have := hW.size; omega) rfl rfl (pt1 (rdO_keep hs.a hW)) (fun W2 hW2 => ?_))).mono ?_
  · refine take_any w.heap.size bR bS (ff 0) v us ⟨0, 127, 0, some ⟨p1, 0, none⟩, 1, 1⟩ [(65, 66)] 65 66 W2 (h1.keep (below_tr hW hW2)) (rdO_keep hS (below_tr hW hW2)) (by have := h2.size; have := hW.size; have := hW2.size; omega) (by decide) (fun W3 hW3 => ?_)
    refine road_1 _ ⟨p1, 0, none⟩ [⟨0, 0, 7⟩] [(65, 66)] 65 66 W3 rfl rfl rfl rfl (pt1 (rdO_keep hs.a (below_tr (below_tr hW hW2) hW3))) (fun j hj hj' => ?_)
    · have : j = 0 := by simp at hj; omega
      subst this
      exact ⟨byteOf_a, byteOf_b⟩
  · intro e w' hT
    exact ⟨hT.1, h.take hT, hT.2.2.2⟩
theorem blk_0_1 (w w3 : World) (bR bS g p1 p2 p3 p5 : Nat) (wr : World) (h : RdS w w3 bR 1 wr) (hs : Shapes wr g p1 p2 p3 p5) (hS : wr.heap[bS]? = some (shpO ⟨0, 127, 0, some ⟨p1, 0, none⟩, 1, 1⟩)) :
    Calls Try.prog 25 #[shpV ⟨0, 127, 0, some ⟨p1, 0, none⟩, 1, 1⟩, .agg #[.int .i64 233, .int .i64 233], takeF bR bS] wr fun e w' => BlkE w w3 bR 2 wr e w' := by
  refine (eb_0_1 bR bS _ _ _ wr).mono ?_
  rintro e w' ⟨rfl, hb⟩
  exact ⟨rfl, h.put hb 2 rfl, Kr.below hb⟩
theorem blk_1_0 (w w3 : World) (bR bS g p1 p2 p3 p5 : Nat) (wr : World) (h : RdS w w3 bR 2 wr) (hs : Shapes wr g p1 p2 p3 p5) (hS : wr.heap[bS]? = some (shpO ⟨128, 2047, 0, some ⟨p2, 0, none⟩, 2, 2⟩)) :
    Calls Try.prog 25 #[shpV ⟨128, 2047, 0, some ⟨p2, 0, none⟩, 2, 2⟩, .agg #[.int .i64 65, .int .i64 66], takeF bR bS] wr fun e w' => BlkE w w3 bR 3 wr e w' := by
  refine (eb_1_0 bR bS _ _ _ wr).mono ?_
  rintro e w' ⟨rfl, hb⟩
  exact ⟨rfl, h.put hb 3 rfl, Kr.below hb⟩
theorem blk_1_1 (w w3 : World) (bR bS g p1 p2 p3 p5 : Nat) (wr : World) (h : RdS w w3 bR 3 wr) (hs : Shapes wr g p1 p2 p3 p5) (hS : wr.heap[bS]? = some (shpO ⟨128, 2047, 0, some ⟨p2, 0, none⟩, 2, 2⟩)) :
    Calls Try.prog 25 #[shpV ⟨128, 2047, 0, some ⟨p2, 0, none⟩, 2, 2⟩, .agg #[.int .i64 233, .int .i64 233], takeF bR bS] wr fun e w' => BlkE w w3 bR 4 wr e w' := by
  obtain ⟨⟨v, us, h1⟩, h2, h3⟩ := id h
  refine (eb_1_1 w.heap.size bR bS (ff 4) _ _ _ wr h2.size (fun W hW => divide_2 w.heap.size bR bS (ff 4) _ ⟨p2, 0, none⟩ W (by have := h2.size; have := hW.size; omega) rfl rfl (pt2 (rdO_keep hs.b hW)) (fun W2 hW2 => ?_))).mono ?_
  · refine take_any w.heap.size bR bS (ff 3) v us ⟨128, 2047, 0, some ⟨p2, 0, none⟩, 2, 2⟩ [(195, 195), (169, 169)] 233 233 W2 (h1.keep (below_tr hW hW2)) (rdO_keep hS (below_tr hW hW2)) (by have := h2.size; have := hW.size; have := hW2.size; omega) (by decide) (fun W3 hW3 => ?_)
    refine road_2 _ ⟨p2, 0, none⟩ [⟨192, 6, 5⟩, ⟨128, 0, 6⟩] [(195, 195), (169, 169)] 233 233 W3 rfl rfl rfl rfl (pt2 (rdO_keep hs.b (below_tr (below_tr hW hW2) hW3))) (fun j hj hj' => ?_)
    · rcases (by simp at hj; omega : j = 0 ∨ j = 1) with rfl | rfl
      · exact ⟨byteOf_c, byteOf_c⟩
      · exact ⟨byteOf_d, byteOf_d⟩
  · intro e w' hT
    exact ⟨hT.1, h.take hT, hT.2.2.2⟩
theorem blk_2_0 (w w3 : World) (bR bS g p1 p2 p3 p5 : Nat) (wr : World) (h : RdS w w3 bR 4 wr) (hs : Shapes wr g p1 p2 p3 p5) (hS : wr.heap[bS]? = some (shpO ⟨2048, 55295, 0, some ⟨p3, 0, none⟩, 3, 3⟩)) :
    Calls Try.prog 25 #[shpV ⟨2048, 55295, 0, some ⟨p3, 0, none⟩, 3, 3⟩, .agg #[.int .i64 65, .int .i64 66], takeF bR bS] wr fun e w' => BlkE w w3 bR 5 wr e w' := by
  refine (eb_2_0 bR bS _ _ _ wr).mono ?_
  rintro e w' ⟨rfl, hb⟩
  exact ⟨rfl, h.put hb 5 rfl, Kr.below hb⟩
theorem blk_2_1 (w w3 : World) (bR bS g p1 p2 p3 p5 : Nat) (wr : World) (h : RdS w w3 bR 5 wr) (hs : Shapes wr g p1 p2 p3 p5) (hS : wr.heap[bS]? = some (shpO ⟨2048, 55295, 0, some ⟨p3, 0, none⟩, 3, 3⟩)) :
    Calls Try.prog 25 #[shpV ⟨2048, 55295, 0, some ⟨p3, 0, none⟩, 3, 3⟩, .agg #[.int .i64 233, .int .i64 233], takeF bR bS] wr fun e w' => BlkE w w3 bR 6 wr e w' := by
  refine (eb_2_1 bR bS _ _ _ wr).mono ?_
  rintro e w' ⟨rfl, hb⟩
  exact ⟨rfl, h.put hb 6 rfl, Kr.below hb⟩
theorem blk_3_0 (w w3 : World) (bR bS g p1 p2 p3 p5 : Nat) (wr : World) (h : RdS w w3 bR 6 wr) (hs : Shapes wr g p1 p2 p3 p5) (hS : wr.heap[bS]? = some (shpO ⟨57344, 65535, 0, some ⟨p3, 0, none⟩, 3, 3⟩)) :
    Calls Try.prog 25 #[shpV ⟨57344, 65535, 0, some ⟨p3, 0, none⟩, 3, 3⟩, .agg #[.int .i64 65, .int .i64 66], takeF bR bS] wr fun e w' => BlkE w w3 bR 7 wr e w' := by
  refine (eb_3_0 bR bS _ _ _ wr).mono ?_
  rintro e w' ⟨rfl, hb⟩
  exact ⟨rfl, h.put hb 7 rfl, Kr.below hb⟩
theorem blk_3_1 (w w3 : World) (bR bS g p1 p2 p3 p5 : Nat) (wr : World) (h : RdS w w3 bR 7 wr) (hs : Shapes wr g p1 p2 p3 p5) (hS : wr.heap[bS]? = some (shpO ⟨57344, 65535, 0, some ⟨p3, 0, none⟩, 3, 3⟩)) :
    Calls Try.prog 25 #[shpV ⟨57344, 65535, 0, some ⟨p3, 0, none⟩, 3, 3⟩, .agg #[.int .i64 233, .int .i64 233], takeF bR bS] wr fun e w' => BlkE w w3 bR 8 wr e w' := by
  refine (eb_3_1 bR bS _ _ _ wr).mono ?_
  rintro e w' ⟨rfl, hb⟩
  exact ⟨rfl, h.put hb 8 rfl, Kr.below hb⟩
theorem blk_4_0 (w w3 : World) (bR bS g p1 p2 p3 p5 : Nat) (wr : World) (h : RdS w w3 bR 8 wr) (hs : Shapes wr g p1 p2 p3 p5) (hS : wr.heap[bS]? = some (shpO ⟨65536, 1114111, 0, some ⟨p5, 0, none⟩, 4, 4⟩)) :
    Calls Try.prog 25 #[shpV ⟨65536, 1114111, 0, some ⟨p5, 0, none⟩, 4, 4⟩, .agg #[.int .i64 65, .int .i64 66], takeF bR bS] wr fun e w' => BlkE w w3 bR 9 wr e w' := by
  refine (eb_4_0 bR bS _ _ _ wr).mono ?_
  rintro e w' ⟨rfl, hb⟩
  exact ⟨rfl, h.put hb 9 rfl, Kr.below hb⟩
theorem blk_4_1 (w w3 : World) (bR bS g p1 p2 p3 p5 : Nat) (wr : World) (h : RdS w w3 bR 9 wr) (hs : Shapes wr g p1 p2 p3 p5) (hS : wr.heap[bS]? = some (shpO ⟨65536, 1114111, 0, some ⟨p5, 0, none⟩, 4, 4⟩)) :
    Calls Try.prog 25 #[shpV ⟨65536, 1114111, 0, some ⟨p5, 0, none⟩, 4, 4⟩, .agg #[.int .i64 233, .int .i64 233], takeF bR bS] wr fun e w' => BlkE w w3 bR 10 wr e w' := by
  refine (eb_4_1 bR bS _ _ _ wr).mono ?_
  rintro e w' ⟨rfl, hb⟩
  exact ⟨rfl, h.put hb 10 rfl, Kr.below hb⟩

end Go.Proofs.Ythigleohjagfiaa
