/- What the writer's node writes: sets, rows, either, repeat, again. -/
import Derived.Test.YtpcohmbipbiglaaDoorWs3
import Derived.Test.YtpcohmbipbiglaaDoorWs4
import Derived.Test.YtpcohmbipbiglaaDoorWs2

namespace Go.Proofs.YtpcohmbipbiglaaDoor
open Go.RowKit
open Go.Lib (byteCells byteCells_append byteCells_length decDigits)
set_option linter.unusedVariables false

set_option maxHeartbeats 4000000 in
set_option maxRecDepth 100000 in
theorem wnode_set (w0 : World) (b : Nat) (nm : Value) (n : NV) (T : List UInt8) (l : List UInt8) (w : World) (h : Wr w0.heap.size b l nm w) (HC : ∀ W, Below w.heap.size w W → Calls Tryd.prog 34 #[.pointer (some ⟨b, 0, none⟩), .slice n.sa n.sl n.sc] W fun e w' => e = .returned (.tuple #[]) ∧ Wto w0.heap.size b (l ++ T) nm W w') (hk : n.kind = 2) : Calls Tryd.prog 20 #[.pointer (some ⟨b, 0, none⟩), nvV n] w fun e w' => e = .returned (.tuple #[]) ∧ Wto w0.heap.size b (l ++ T) nm w w' := by
  obtain ⟨w1, hw1⟩ : ∃ w1, w1 = w.alloc (nvO n) := ⟨_, rfl⟩
  have hX1 : w1.heap[w.heap.size]? = some (nvO n) := by rw [hw1]; exact at_new _ _
  have hb1 : Below w.heap.size w w1 := by rw [hw1]; exact (Below.refl _ w).alloc (Nat.le_refl _) _
  have hto1 : Wto w0.heap.size b l nm w w1 := Wto.put h hb1
  have HT1 := hide hto1
  have hne : w.heap.size ≠ b := by have := h.lt; omega
  have HXk : Hid (∀ W, Kp b w1 W → NCells W ⟨w.heap.size, 0, none⟩ n) := fun W hW => nv_cells (hW _ _ _ _ hne (by decide) hX1)
  obtain ⟨d0, d1, d2, d3, d4, d5, d6, d7⟩ := nv_cells hX1
  rw [hk] at d0
  obtain ⟨bx, hbx⟩ : ∃ bx, bx = w.heap.size := ⟨_, rfl⟩
  rw [← hbx] at d0 d1 d2 d3 d4 d5 d6 d7 HXk
  have HCC := hide (HC w1 hb1)
  clear h HC hk
  simp only [nvO] at hw1
  clear hX1 hb1 hto1 hne
  go_enter Tryd.func20, Tryd.ntmps20
  go_upto_region 1 with fail
  rw [← hw1, ← hbx]
  clear hw1 hbx
  go_wp2_with fail
  refine HCC.out.mono ?_
  rintro e w2 ⟨rfl, hto2⟩
  have HT2 := hide (HT1.out.trans hto2)
  clear hto2 HCC HT1 HXk d0 d1 d2 d3 d4 d5 d6 d7
  go_wp2
  go_end0
  exact ⟨rfl, HT2.out⟩
set_option maxHeartbeats 4000000 in
set_option maxRecDepth 100000 in
theorem wnode_row (w0 : World) (b : Nat) (nm : Value) (n : NV) (T : List UInt8) (l : List UInt8) (w : World) (h : Wr w0.heap.size b l nm w) (HC : ∀ W, Below w.heap.size w W → Calls Tryd.prog 35 #[.pointer (some ⟨b, 0, none⟩), .slice n.ka n.kl n.kc] W fun e w' => e = .returned (.tuple #[]) ∧ Wto w0.heap.size b (l ++ T) nm W w') (hk : n.kind = 9) : Calls Tryd.prog 20 #[.pointer (some ⟨b, 0, none⟩), nvV n] w fun e w' => e = .returned (.tuple #[]) ∧ Wto w0.heap.size b (l ++ T) nm w w' := by
  obtain ⟨w1, hw1⟩ : ∃ w1, w1 = w.alloc (nvO n) := ⟨_, rfl⟩
  have hX1 : w1.heap[w.heap.size]? = some (nvO n) := by rw [hw1]; exact at_new _ _
  have hb1 : Below w.heap.size w w1 := by rw [hw1]; exact (Below.refl _ w).alloc (Nat.le_refl _) _
  have hto1 : Wto w0.heap.size b l nm w w1 := Wto.put h hb1
  have HT1 := hide hto1
  have hne : w.heap.size ≠ b := by have := h.lt; omega
  have HXk : Hid (∀ W, Kp b w1 W → NCells W ⟨w.heap.size, 0, none⟩ n) := fun W hW => nv_cells (hW _ _ _ _ hne (by decide) hX1)
  obtain ⟨d0, d1, d2, d3, d4, d5, d6, d7⟩ := nv_cells hX1
  rw [hk] at d0
  obtain ⟨bx, hbx⟩ : ∃ bx, bx = w.heap.size := ⟨_, rfl⟩
  rw [← hbx] at d0 d1 d2 d3 d4 d5 d6 d7 HXk
  have HCC := hide (HC w1 hb1)
  clear h HC hk
  simp only [nvO] at hw1
  clear hX1 hb1 hto1 hne
  go_enter Tryd.func20, Tryd.ntmps20
  go_upto_region 1 with fail
  rw [← hw1, ← hbx]
  clear hw1 hbx
  go_wp2_with fail
  refine HCC.out.mono ?_
  rintro e w2 ⟨rfl, hto2⟩
  have HT2 := hide (HT1.out.trans hto2)
  clear hto2 HCC HT1 HXk d0 d1 d2 d3 d4 d5 d6 d7
  go_wp2
  go_end0
  exact ⟨rfl, HT2.out⟩
set_option maxHeartbeats 4000000 in
set_option maxRecDepth 100000 in
theorem wnode_either (w0 : World) (b : Nat) (nm : Value) (n : NV) (T : List UInt8) (l : List UInt8) (w : World) (h : Wr w0.heap.size b l nm w) (HC : ∀ W, Below w.heap.size w W → Calls Tryd.prog 36 #[.pointer (some ⟨b, 0, none⟩), .slice n.ka n.kl n.kc] W fun e w' => e = .returned (.tuple #[]) ∧ Wto w0.heap.size b (l ++ T) nm W w') (hk : n.kind = 10) : Calls Tryd.prog 20 #[.pointer (some ⟨b, 0, none⟩), nvV n] w fun e w' => e = .returned (.tuple #[]) ∧ Wto w0.heap.size b (l ++ T) nm w w' := by
  obtain ⟨w1, hw1⟩ : ∃ w1, w1 = w.alloc (nvO n) := ⟨_, rfl⟩
  have hX1 : w1.heap[w.heap.size]? = some (nvO n) := by rw [hw1]; exact at_new _ _
  have hb1 : Below w.heap.size w w1 := by rw [hw1]; exact (Below.refl _ w).alloc (Nat.le_refl _) _
  have hto1 : Wto w0.heap.size b l nm w w1 := Wto.put h hb1
  have HT1 := hide hto1
  have hne : w.heap.size ≠ b := by have := h.lt; omega
  have HXk : Hid (∀ W, Kp b w1 W → NCells W ⟨w.heap.size, 0, none⟩ n) := fun W hW => nv_cells (hW _ _ _ _ hne (by decide) hX1)
  obtain ⟨d0, d1, d2, d3, d4, d5, d6, d7⟩ := nv_cells hX1
  rw [hk] at d0
  obtain ⟨bx, hbx⟩ : ∃ bx, bx = w.heap.size := ⟨_, rfl⟩
  rw [← hbx] at d0 d1 d2 d3 d4 d5 d6 d7 HXk
  have HCC := hide (HC w1 hb1)
  clear h HC hk
  simp only [nvO] at hw1
  clear hX1 hb1 hto1 hne
  go_enter Tryd.func20, Tryd.ntmps20
  go_upto_region 1 with fail
  rw [← hw1, ← hbx]
  clear hw1 hbx
  go_wp2_with fail
  refine HCC.out.mono ?_
  rintro e w2 ⟨rfl, hto2⟩
  have HT2 := hide (HT1.out.trans hto2)
  clear hto2 HCC HT1 HXk d0 d1 d2 d3 d4 d5 d6 d7
  go_wp2
  go_end0
  exact ⟨rfl, HT2.out⟩
set_option maxHeartbeats 4000000 in
set_option maxRecDepth 100000 in
theorem wnode_repeat (w0 : World) (b : Nat) (nm : Value) (n : NV) (T : List UInt8) (l : List UInt8) (w : World) (h : Wr w0.heap.size b l nm w) (HC : ∀ W, Below w.heap.size w W → Calls Tryd.prog 37 #[.pointer (some ⟨b, 0, none⟩), nvV n] W fun e w' => e = .returned (.tuple #[]) ∧ Wto w0.heap.size b (l ++ T) nm W w') (hk : n.kind = 12) : Calls Tryd.prog 20 #[.pointer (some ⟨b, 0, none⟩), nvV n] w fun e w' => e = .returned (.tuple #[]) ∧ Wto w0.heap.size b (l ++ T) nm w w' := by
  obtain ⟨w1, hw1⟩ : ∃ w1, w1 = w.alloc (nvO n) := ⟨_, rfl⟩
  have hX1 : w1.heap[w.heap.size]? = some (nvO n) := by rw [hw1]; exact at_new _ _
  have hb1 : Below w.heap.size w w1 := by rw [hw1]; exact (Below.refl _ w).alloc (Nat.le_refl _) _
  have hto1 : Wto w0.heap.size b l nm w w1 := Wto.put h hb1
  have HT1 := hide hto1
  have hne : w.heap.size ≠ b := by have := h.lt; omega
  have HXk : Hid (∀ W, Kp b w1 W → NCells W ⟨w.heap.size, 0, none⟩ n) := fun W hW => nv_cells (hW _ _ _ _ hne (by decide) hX1)
  obtain ⟨d0, d1, d2, d3, d4, d5, d6, d7⟩ := nv_cells hX1
  rw [hk] at d0
  obtain ⟨bx, hbx⟩ : ∃ bx, bx = w.heap.size := ⟨_, rfl⟩
  rw [← hbx] at d0 d1 d2 d3 d4 d5 d6 d7 HXk
  have HCC := hide (HC w1 hb1)
  simp only [nvV] at HCC
  rw [hk] at HCC
  clear h HC hk
  simp only [nvO] at hw1
  clear hX1 hb1 hto1 hne
  go_enter Tryd.func20, Tryd.ntmps20
  go_upto_region 1 with fail
  rw [← hw1, ← hbx]
  clear hw1 hbx
  go_wp2_with fail
  refine HCC.out.mono ?_
  rintro e w2 ⟨rfl, hto2⟩
  have HT2 := hide (HT1.out.trans hto2)
  clear hto2 HCC HT1 HXk d0 d1 d2 d3 d4 d5 d6 d7
  go_wp2
  go_end0
  exact ⟨rfl, HT2.out⟩
set_option maxHeartbeats 4000000 in
set_option maxRecDepth 100000 in
theorem wnode_again (w0 : World) (b : Nat) (nm : Value) (n : NV) (T : List UInt8) (l : List UInt8) (w : World) (h : Wr w0.heap.size b l nm w) (HC : ∀ W, Below w.heap.size w W → Calls Tryd.prog 38 #[.pointer (some ⟨b, 0, none⟩), nvV n] W fun e w' => e = .returned (.tuple #[]) ∧ Wto w0.heap.size b (l ++ T) nm W w') (hk : n.kind = 18) : Calls Tryd.prog 20 #[.pointer (some ⟨b, 0, none⟩), nvV n] w fun e w' => e = .returned (.tuple #[]) ∧ Wto w0.heap.size b (l ++ T) nm w w' := by
  obtain ⟨w1, hw1⟩ : ∃ w1, w1 = w.alloc (nvO n) := ⟨_, rfl⟩
  have hX1 : w1.heap[w.heap.size]? = some (nvO n) := by rw [hw1]; exact at_new _ _
  have hb1 : Below w.heap.size w w1 := by rw [hw1]; exact (Below.refl _ w).alloc (Nat.le_refl _) _
  have hto1 : Wto w0.heap.size b l nm w w1 := Wto.put h hb1
  have HT1 := hide hto1
  have hne : w.heap.size ≠ b := by have := h.lt; omega
  have HXk : Hid (∀ W, Kp b w1 W → NCells W ⟨w.heap.size, 0, none⟩ n) := fun W hW => nv_cells (hW _ _ _ _ hne (by decide) hX1)
  obtain ⟨d0, d1, d2, d3, d4, d5, d6, d7⟩ := nv_cells hX1
  rw [hk] at d0
  obtain ⟨bx, hbx⟩ : ∃ bx, bx = w.heap.size := ⟨_, rfl⟩
  rw [← hbx] at d0 d1 d2 d3 d4 d5 d6 d7 HXk
  have HCC := hide (HC w1 hb1)
  simp only [nvV] at HCC
  rw [hk] at HCC
  clear h HC hk
  simp only [nvO] at hw1
  clear hX1 hb1 hto1 hne
  go_enter Tryd.func20, Tryd.ntmps20
  go_upto_region 1 with fail
  rw [← hw1, ← hbx]
  clear hw1 hbx
  go_wp2_with fail
  refine HCC.out.mono ?_
  rintro e w2 ⟨rfl, hto2⟩
  have HT2 := hide (HT1.out.trans hto2)
  clear hto2 HCC HT1 HXk d0 d1 d2 d3 d4 d5 d6 d7
  go_wp2
  go_end0
  exact ⟨rfl, HT2.out⟩
set_option maxHeartbeats 4000000 in
set_option maxRecDepth 100000 in
theorem wnode_sign1 (w0 : World) (b : Nat) (nm : Value) (n : NV) (T : List UInt8) (l : List UInt8) (w : World) (h : Wr w0.heap.size b l nm w) (HC : ∀ W, Calls Tryd.prog 41 #[.int .i64 1] W fun e w' => e = .returned (.string ⟨T.toArray⟩) ∧ w' = W) (hlen : l.length + T.length ≤ 140737488355328) (hk : n.kind = 1) : Calls Tryd.prog 20 #[.pointer (some ⟨b, 0, none⟩), nvV n] w fun e w' => e = .returned (.tuple #[]) ∧ Wto w0.heap.size b (l ++ T) nm w w' := by
  obtain ⟨w1, hw1⟩ : ∃ w1, w1 = w.alloc (nvO n) := ⟨_, rfl⟩
  have hX1 : w1.heap[w.heap.size]? = some (nvO n) := by rw [hw1]; exact at_new _ _
  have hb1 : Below w.heap.size w w1 := by rw [hw1]; exact (Below.refl _ w).alloc (Nat.le_refl _) _
  have hto1 : Wto w0.heap.size b l nm w w1 := Wto.put h hb1
  have HT1 := hide hto1
  have hne : w.heap.size ≠ b := by have := h.lt; omega
  have HXk : Hid (∀ W, Kp b w1 W → NCells W ⟨w.heap.size, 0, none⟩ n) := fun W hW => nv_cells (hW _ _ _ _ hne (by decide) hX1)
  obtain ⟨d0, d1, d2, d3, d4, d5, d6, d7⟩ := nv_cells hX1
  rw [hk] at d0
  obtain ⟨bx, hbx⟩ : ∃ bx, bx = w.heap.size := ⟨_, rfl⟩
  rw [← hbx] at d0 d1 d2 d3 d4 d5 d6 d7 HXk
  have HCC := hide (HC w1)
  have HP := hide (put1 w0.heap.size b l nm T w1 hto1.1 hlen)
  obtain ⟨S, hS⟩ : ∃ S : ByteArray, S = ⟨T.toArray⟩ := ⟨_, rfl⟩
  rw [← hS] at HCC HP
  clear h HC hk hlen hS
  simp only [nvO] at hw1
  clear hX1 hb1 hto1 hne
  go_enter Tryd.func20, Tryd.ntmps20
  go_upto_region 1 with fail
  rw [← hw1, ← hbx]
  clear hw1 hbx
  go_wp2_with fail
  refine HCC.out.mono ?_
  rintro e w' ⟨rfl, hh⟩
  have hh2 := hh.symm
  subst hh2
  clear HCC
  go_wp2_with fail
  refine HP.out.mono ?_
  rintro e w2 ⟨rfl, hto2⟩
  have HT2 := hide (HT1.out.trans hto2)
  clear hto2 HP HT1 HXk d0 d1 d2 d3 d4 d5 d6 d7
  go_wp2
  go_end0
  exact ⟨rfl, HT2.out⟩
set_option maxHeartbeats 4000000 in
set_option maxRecDepth 100000 in
theorem wnode_sign3 (w0 : World) (b : Nat) (nm : Value) (n : NV) (T : List UInt8) (l : List UInt8) (w : World) (h : Wr w0.heap.size b l nm w) (HC : ∀ W, Calls Tryd.prog 41 #[.int .i64 3] W fun e w' => e = .returned (.string ⟨T.toArray⟩) ∧ w' = W) (hlen : l.length + T.length ≤ 140737488355328) (hk : n.kind = 3) : Calls Tryd.prog 20 #[.pointer (some ⟨b, 0, none⟩), nvV n] w fun e w' => e = .returned (.tuple #[]) ∧ Wto w0.heap.size b (l ++ T) nm w w' := by
  obtain ⟨w1, hw1⟩ : ∃ w1, w1 = w.alloc (nvO n) := ⟨_, rfl⟩
  have hX1 : w1.heap[w.heap.size]? = some (nvO n) := by rw [hw1]; exact at_new _ _
  have hb1 : Below w.heap.size w w1 := by rw [hw1]; exact (Below.refl _ w).alloc (Nat.le_refl _) _
  have hto1 : Wto w0.heap.size b l nm w w1 := Wto.put h hb1
  have HT1 := hide hto1
  have hne : w.heap.size ≠ b := by have := h.lt; omega
  have HXk : Hid (∀ W, Kp b w1 W → NCells W ⟨w.heap.size, 0, none⟩ n) := fun W hW => nv_cells (hW _ _ _ _ hne (by decide) hX1)
  obtain ⟨d0, d1, d2, d3, d4, d5, d6, d7⟩ := nv_cells hX1
  rw [hk] at d0
  obtain ⟨bx, hbx⟩ : ∃ bx, bx = w.heap.size := ⟨_, rfl⟩
  rw [← hbx] at d0 d1 d2 d3 d4 d5 d6 d7 HXk
  have HCC := hide (HC w1)
  have HP := hide (put1 w0.heap.size b l nm T w1 hto1.1 hlen)
  obtain ⟨S, hS⟩ : ∃ S : ByteArray, S = ⟨T.toArray⟩ := ⟨_, rfl⟩
  rw [← hS] at HCC HP
  clear h HC hk hlen hS
  simp only [nvO] at hw1
  clear hX1 hb1 hto1 hne
  go_enter Tryd.func20, Tryd.ntmps20
  go_upto_region 1 with fail
  rw [← hw1, ← hbx]
  clear hw1 hbx
  go_wp2_with fail
  refine HCC.out.mono ?_
  rintro e w' ⟨rfl, hh⟩
  have hh2 := hh.symm
  subst hh2
  clear HCC
  go_wp2_with fail
  refine HP.out.mono ?_
  rintro e w2 ⟨rfl, hto2⟩
  have HT2 := hide (HT1.out.trans hto2)
  clear hto2 HP HT1 HXk d0 d1 d2 d3 d4 d5 d6 d7
  go_wp2
  go_end0
  exact ⟨rfl, HT2.out⟩
set_option maxHeartbeats 4000000 in
set_option maxRecDepth 100000 in
theorem wnode_sign4 (w0 : World) (b : Nat) (nm : Value) (n : NV) (T : List UInt8) (l : List UInt8) (w : World) (h : Wr w0.heap.size b l nm w) (HC : ∀ W, Calls Tryd.prog 41 #[.int .i64 4] W fun e w' => e = .returned (.string ⟨T.toArray⟩) ∧ w' = W) (hlen : l.length + T.length ≤ 140737488355328) (hk : n.kind = 4) : Calls Tryd.prog 20 #[.pointer (some ⟨b, 0, none⟩), nvV n] w fun e w' => e = .returned (.tuple #[]) ∧ Wto w0.heap.size b (l ++ T) nm w w' := by
  obtain ⟨w1, hw1⟩ : ∃ w1, w1 = w.alloc (nvO n) := ⟨_, rfl⟩
  have hX1 : w1.heap[w.heap.size]? = some (nvO n) := by rw [hw1]; exact at_new _ _
  have hb1 : Below w.heap.size w w1 := by rw [hw1]; exact (Below.refl _ w).alloc (Nat.le_refl _) _
  have hto1 : Wto w0.heap.size b l nm w w1 := Wto.put h hb1
  have HT1 := hide hto1
  have hne : w.heap.size ≠ b := by have := h.lt; omega
  have HXk : Hid (∀ W, Kp b w1 W → NCells W ⟨w.heap.size, 0, none⟩ n) := fun W hW => nv_cells (hW _ _ _ _ hne (by decide) hX1)
  obtain ⟨d0, d1, d2, d3, d4, d5, d6, d7⟩ := nv_cells hX1
  rw [hk] at d0
  obtain ⟨bx, hbx⟩ : ∃ bx, bx = w.heap.size := ⟨_, rfl⟩
  rw [← hbx] at d0 d1 d2 d3 d4 d5 d6 d7 HXk
  have HCC := hide (HC w1)
  have HP := hide (put1 w0.heap.size b l nm T w1 hto1.1 hlen)
  obtain ⟨S, hS⟩ : ∃ S : ByteArray, S = ⟨T.toArray⟩ := ⟨_, rfl⟩
  rw [← hS] at HCC HP
  clear h HC hk hlen hS
  simp only [nvO] at hw1
  clear hX1 hb1 hto1 hne
  go_enter Tryd.func20, Tryd.ntmps20
  go_upto_region 1 with fail
  rw [← hw1, ← hbx]
  clear hw1 hbx
  go_wp2_with fail
  refine HCC.out.mono ?_
  rintro e w' ⟨rfl, hh⟩
  have hh2 := hh.symm
  subst hh2
  clear HCC
  go_wp2_with fail
  refine HP.out.mono ?_
  rintro e w2 ⟨rfl, hto2⟩
  have HT2 := hide (HT1.out.trans hto2)
  clear hto2 HP HT1 HXk d0 d1 d2 d3 d4 d5 d6 d7
  go_wp2
  go_end0
  exact ⟨rfl, HT2.out⟩
set_option maxHeartbeats 4000000 in
set_option maxRecDepth 100000 in
theorem wnode_sign5 (w0 : World) (b : Nat) (nm : Value) (n : NV) (T : List UInt8) (l : List UInt8) (w : World) (h : Wr w0.heap.size b l nm w) (HC : ∀ W, Calls Tryd.prog 41 #[.int .i64 5] W fun e w' => e = .returned (.string ⟨T.toArray⟩) ∧ w' = W) (hlen : l.length + T.length ≤ 140737488355328) (hk : n.kind = 5) : Calls Tryd.prog 20 #[.pointer (some ⟨b, 0, none⟩), nvV n] w fun e w' => e = .returned (.tuple #[]) ∧ Wto w0.heap.size b (l ++ T) nm w w' := by
  obtain ⟨w1, hw1⟩ : ∃ w1, w1 = w.alloc (nvO n) := ⟨_, rfl⟩
  have hX1 : w1.heap[w.heap.size]? = some (nvO n) := by rw [hw1]; exact at_new _ _
  have hb1 : Below w.heap.size w w1 := by rw [hw1]; exact (Below.refl _ w).alloc (Nat.le_refl _) _
  have hto1 : Wto w0.heap.size b l nm w w1 := Wto.put h hb1
  have HT1 := hide hto1
  have hne : w.heap.size ≠ b := by have := h.lt; omega
  have HXk : Hid (∀ W, Kp b w1 W → NCells W ⟨w.heap.size, 0, none⟩ n) := fun W hW => nv_cells (hW _ _ _ _ hne (by decide) hX1)
  obtain ⟨d0, d1, d2, d3, d4, d5, d6, d7⟩ := nv_cells hX1
  rw [hk] at d0
  obtain ⟨bx, hbx⟩ : ∃ bx, bx = w.heap.size := ⟨_, rfl⟩
  rw [← hbx] at d0 d1 d2 d3 d4 d5 d6 d7 HXk
  have HCC := hide (HC w1)
  have HP := hide (put1 w0.heap.size b l nm T w1 hto1.1 hlen)
  obtain ⟨S, hS⟩ : ∃ S : ByteArray, S = ⟨T.toArray⟩ := ⟨_, rfl⟩
  rw [← hS] at HCC HP
  clear h HC hk hlen hS
  simp only [nvO] at hw1
  clear hX1 hb1 hto1 hne
  go_enter Tryd.func20, Tryd.ntmps20
  go_upto_region 1 with fail
  rw [← hw1, ← hbx]
  clear hw1 hbx
  go_wp2_with fail
  refine HCC.out.mono ?_
  rintro e w' ⟨rfl, hh⟩
  have hh2 := hh.symm
  subst hh2
  clear HCC
  go_wp2_with fail
  refine HP.out.mono ?_
  rintro e w2 ⟨rfl, hto2⟩
  have HT2 := hide (HT1.out.trans hto2)
  clear hto2 HP HT1 HXk d0 d1 d2 d3 d4 d5 d6 d7
  go_wp2
  go_end0
  exact ⟨rfl, HT2.out⟩
set_option maxHeartbeats 4000000 in
set_option maxRecDepth 100000 in
theorem wnode_sign6 (w0 : World) (b : Nat) (nm : Value) (n : NV) (T : List UInt8) (l : List UInt8) (w : World) (h : Wr w0.heap.size b l nm w) (HC : ∀ W, Calls Tryd.prog 41 #[.int .i64 6] W fun e w' => e = .returned (.string ⟨T.toArray⟩) ∧ w' = W) (hlen : l.length + T.length ≤ 140737488355328) (hk : n.kind = 6) : Calls Tryd.prog 20 #[.pointer (some ⟨b, 0, none⟩), nvV n] w fun e w' => e = .returned (.tuple #[]) ∧ Wto w0.heap.size b (l ++ T) nm w w' := by
  obtain ⟨w1, hw1⟩ : ∃ w1, w1 = w.alloc (nvO n) := ⟨_, rfl⟩
  have hX1 : w1.heap[w.heap.size]? = some (nvO n) := by rw [hw1]; exact at_new _ _
  have hb1 : Below w.heap.size w w1 := by rw [hw1]; exact (Below.refl _ w).alloc (Nat.le_refl _) _
  have hto1 : Wto w0.heap.size b l nm w w1 := Wto.put h hb1
  have HT1 := hide hto1
  have hne : w.heap.size ≠ b := by have := h.lt; omega
  have HXk : Hid (∀ W, Kp b w1 W → NCells W ⟨w.heap.size, 0, none⟩ n) := fun W hW => nv_cells (hW _ _ _ _ hne (by decide) hX1)
  obtain ⟨d0, d1, d2, d3, d4, d5, d6, d7⟩ := nv_cells hX1
  rw [hk] at d0
  obtain ⟨bx, hbx⟩ : ∃ bx, bx = w.heap.size := ⟨_, rfl⟩
  rw [← hbx] at d0 d1 d2 d3 d4 d5 d6 d7 HXk
  have HCC := hide (HC w1)
  have HP := hide (put1 w0.heap.size b l nm T w1 hto1.1 hlen)
  obtain ⟨S, hS⟩ : ∃ S : ByteArray, S = ⟨T.toArray⟩ := ⟨_, rfl⟩
  rw [← hS] at HCC HP
  clear h HC hk hlen hS
  simp only [nvO] at hw1
  clear hX1 hb1 hto1 hne
  go_enter Tryd.func20, Tryd.ntmps20
  go_upto_region 1 with fail
  rw [← hw1, ← hbx]
  clear hw1 hbx
  go_wp2_with fail
  refine HCC.out.mono ?_
  rintro e w' ⟨rfl, hh⟩
  have hh2 := hh.symm
  subst hh2
  clear HCC
  go_wp2_with fail
  refine HP.out.mono ?_
  rintro e w2 ⟨rfl, hto2⟩
  have HT2 := hide (HT1.out.trans hto2)
  clear hto2 HP HT1 HXk d0 d1 d2 d3 d4 d5 d6 d7
  go_wp2
  go_end0
  exact ⟨rfl, HT2.out⟩
set_option maxHeartbeats 4000000 in
set_option maxRecDepth 100000 in
theorem wnode_sign7 (w0 : World) (b : Nat) (nm : Value) (n : NV) (T : List UInt8) (l : List UInt8) (w : World) (h : Wr w0.heap.size b l nm w) (HC : ∀ W, Calls Tryd.prog 41 #[.int .i64 7] W fun e w' => e = .returned (.string ⟨T.toArray⟩) ∧ w' = W) (hlen : l.length + T.length ≤ 140737488355328) (hk : n.kind = 7) : Calls Tryd.prog 20 #[.pointer (some ⟨b, 0, none⟩), nvV n] w fun e w' => e = .returned (.tuple #[]) ∧ Wto w0.heap.size b (l ++ T) nm w w' := by
  obtain ⟨w1, hw1⟩ : ∃ w1, w1 = w.alloc (nvO n) := ⟨_, rfl⟩
  have hX1 : w1.heap[w.heap.size]? = some (nvO n) := by rw [hw1]; exact at_new _ _
  have hb1 : Below w.heap.size w w1 := by rw [hw1]; exact (Below.refl _ w).alloc (Nat.le_refl _) _
  have hto1 : Wto w0.heap.size b l nm w w1 := Wto.put h hb1
  have HT1 := hide hto1
  have hne : w.heap.size ≠ b := by have := h.lt; omega
  have HXk : Hid (∀ W, Kp b w1 W → NCells W ⟨w.heap.size, 0, none⟩ n) := fun W hW => nv_cells (hW _ _ _ _ hne (by decide) hX1)
  obtain ⟨d0, d1, d2, d3, d4, d5, d6, d7⟩ := nv_cells hX1
  rw [hk] at d0
  obtain ⟨bx, hbx⟩ : ∃ bx, bx = w.heap.size := ⟨_, rfl⟩
  rw [← hbx] at d0 d1 d2 d3 d4 d5 d6 d7 HXk
  have HCC := hide (HC w1)
  have HP := hide (put1 w0.heap.size b l nm T w1 hto1.1 hlen)
  obtain ⟨S, hS⟩ : ∃ S : ByteArray, S = ⟨T.toArray⟩ := ⟨_, rfl⟩
  rw [← hS] at HCC HP
  clear h HC hk hlen hS
  simp only [nvO] at hw1
  clear hX1 hb1 hto1 hne
  go_enter Tryd.func20, Tryd.ntmps20
  go_upto_region 1 with fail
  rw [← hw1, ← hbx]
  clear hw1 hbx
  go_wp2_with fail
  refine HCC.out.mono ?_
  rintro e w' ⟨rfl, hh⟩
  have hh2 := hh.symm
  subst hh2
  clear HCC
  go_wp2_with fail
  refine HP.out.mono ?_
  rintro e w2 ⟨rfl, hto2⟩
  have HT2 := hide (HT1.out.trans hto2)
  clear hto2 HP HT1 HXk d0 d1 d2 d3 d4 d5 d6 d7
  go_wp2
  go_end0
  exact ⟨rfl, HT2.out⟩
set_option maxHeartbeats 4000000 in
set_option maxRecDepth 100000 in
theorem wnode_sign8 (w0 : World) (b : Nat) (nm : Value) (n : NV) (T : List UInt8) (l : List UInt8) (w : World) (h : Wr w0.heap.size b l nm w) (HC : ∀ W, Calls Tryd.prog 41 #[.int .i64 8] W fun e w' => e = .returned (.string ⟨T.toArray⟩) ∧ w' = W) (hlen : l.length + T.length ≤ 140737488355328) (hk : n.kind = 8) : Calls Tryd.prog 20 #[.pointer (some ⟨b, 0, none⟩), nvV n] w fun e w' => e = .returned (.tuple #[]) ∧ Wto w0.heap.size b (l ++ T) nm w w' := by
  obtain ⟨w1, hw1⟩ : ∃ w1, w1 = w.alloc (nvO n) := ⟨_, rfl⟩
  have hX1 : w1.heap[w.heap.size]? = some (nvO n) := by rw [hw1]; exact at_new _ _
  have hb1 : Below w.heap.size w w1 := by rw [hw1]; exact (Below.refl _ w).alloc (Nat.le_refl _) _
  have hto1 : Wto w0.heap.size b l nm w w1 := Wto.put h hb1
  have HT1 := hide hto1
  have hne : w.heap.size ≠ b := by have := h.lt; omega
  have HXk : Hid (∀ W, Kp b w1 W → NCells W ⟨w.heap.size, 0, none⟩ n) := fun W hW => nv_cells (hW _ _ _ _ hne (by decide) hX1)
  obtain ⟨d0, d1, d2, d3, d4, d5, d6, d7⟩ := nv_cells hX1
  rw [hk] at d0
  obtain ⟨bx, hbx⟩ : ∃ bx, bx = w.heap.size := ⟨_, rfl⟩
  rw [← hbx] at d0 d1 d2 d3 d4 d5 d6 d7 HXk
  have HCC := hide (HC w1)
  have HP := hide (put1 w0.heap.size b l nm T w1 hto1.1 hlen)
  obtain ⟨S, hS⟩ : ∃ S : ByteArray, S = ⟨T.toArray⟩ := ⟨_, rfl⟩
  rw [← hS] at HCC HP
  clear h HC hk hlen hS
  simp only [nvO] at hw1
  clear hX1 hb1 hto1 hne
  go_enter Tryd.func20, Tryd.ntmps20
  go_upto_region 1 with fail
  rw [← hw1, ← hbx]
  clear hw1 hbx
  go_wp2_with fail
  refine HCC.out.mono ?_
  rintro e w' ⟨rfl, hh⟩
  have hh2 := hh.symm
  subst hh2
  clear HCC
  go_wp2_with fail
  refine HP.out.mono ?_
  rintro e w2 ⟨rfl, hto2⟩
  have HT2 := hide (HT1.out.trans hto2)
  clear hto2 HP HT1 HXk d0 d1 d2 d3 d4 d5 d6 d7
  go_wp2
  go_end0
  exact ⟨rfl, HT2.out⟩

end Go.Proofs.YtpcohmbipbiglaaDoor

namespace Go.Proofs.YtpcohmbipbiglaaDoor
open Go.RowKit
open Go.Lib (byteCells byteCells_append byteCells_length decDigits)
set_option linter.unusedVariables false

set_option maxHeartbeats 4000000 in
set_option maxRecDepth 100000 in
theorem wnode_open11 (w0 : World) (b : Nat) (nm : Value) (n : NV) (T : List UInt8) (l : List UInt8) (w : World) (h : Wr w0.heap.size b l nm w) (v : NV) (x : Addr) (O K : List UInt8) (hT : T = O ++ (K ++ [41])) (hka : n.ka = some x) (hkl : n.kl = 1) (hc0 : ∀ W, Below w0.heap.size w W → NCells W x v) (HO : ∀ W, Below w.heap.size w W → Calls Tryd.prog 40 #[.pointer (some ⟨b, 0, none⟩), nvV n] W fun e w' => e = .returned (.string ⟨O.toArray⟩) ∧ Below W.heap.size W w') (HG : ∀ l W, Below w0.heap.size w W → Wr w0.heap.size b l nm W → l.length + K.length ≤ 140737488355328 → Calls Tryd.prog 20 #[.pointer (some ⟨b, 0, none⟩), nvV v] W fun e w' => e = .returned (.tuple #[]) ∧ Wto w0.heap.size b (l ++ K) nm W w') (hlen : l.length + T.length ≤ 140737488355328) (hk : n.kind = 11) : Calls Tryd.prog 20 #[.pointer (some ⟨b, 0, none⟩), nvV n] w fun e w' => e = .returned (.tuple #[]) ∧ Wto w0.heap.size b (l ++ T) nm w w' := by
  obtain ⟨w1, hw1⟩ : ∃ w1, w1 = w.alloc (nvO n) := ⟨_, rfl⟩
  have hX1 : w1.heap[w.heap.size]? = some (nvO n) := by rw [hw1]; exact at_new _ _
  have hb1 : Below w.heap.size w w1 := by rw [hw1]; exact (Below.refl _ w).alloc (Nat.le_refl _) _
  have hto1 : Wto w0.heap.size b l nm w w1 := Wto.put h hb1
  have HT1 := hide hto1
  have hne : w.heap.size ≠ b := by have := h.lt; omega
  have HXk : Hid (∀ W, Kp b w1 W → NCells W ⟨w.heap.size, 0, none⟩ n) := fun W hW => nv_cells (hW _ _ _ _ hne (by decide) hX1)
  obtain ⟨d0, d1, d2, d3, d4, d5, d6, d7⟩ := nv_cells hX1
  rw [hk] at d0
  obtain ⟨bx, hbx⟩ : ∃ bx, bx = w.heap.size := ⟨_, rfl⟩
  rw [← hbx] at d0 d1 d2 d3 d4 d5 d6 d7 HXk
  have HOO := hide (HO w1 hb1)
  have HGG := hide HG
  have HC0 := hide hc0
  simp only [nvV] at HOO HGG
  rw [hk] at HOO
  obtain ⟨S, hS⟩ : ∃ S : ByteArray, S = ⟨O.toArray⟩ := ⟨_, rfl⟩
  rw [← hS] at HOO
  have HS := hide hS
  have HTT := hide hT
  have hl2 : l.length + (O.length + (K.length + 1)) ≤ 140737488355328 := by rw [hT] at hlen; simp at hlen; omega
  have HX2 : Hid (∀ W, Kp b w1 W → W.cell? ⟨bx, 2, none⟩ = some (.slice (some x) 1 n.kc)) := fun W hW => by
    have := (HXk.out W hW).c2
    rw [hka, hkl] at this
    exact this
  clear h HO HG hk hlen hS hT hc0 hka hkl HXk
  simp only [nvO] at hw1
  clear hX1 hb1 hto1 hne
  go_enter Tryd.func20, Tryd.ntmps20
  go_upto_region 1 with fail
  rw [← hw1, ← hbx]
  clear hw1 hbx
  go_wp2_with fail
  refine HOO.out.mono ?_
  rintro e w2 ⟨rfl, hb2⟩
  have HT2 := hide (HT1.out.then hb2)
  have HK2 : Hid (Kp b w1 w2) := Kp.below hb2
  have HP := hide (put1 w0.heap.size b l nm O w2 HT2.out.1 (by omega))
  rw [← HS.out] at HP
  clear hb2 HOO HT1 d0 d1 d2 d3 d4 d5 d6 d7
  go_wp2_with fail
  refine HP.out.mono ?_
  rintro e w3 ⟨rfl, hto3⟩
  have HT3 := hide (HT2.out.trans hto3)
  have HK3 : Hid (Kp b w1 w3) := HK2.out.trans hto3.2.2
  have q2 := HX2.out w3 HK3.out
  obtain ⟨m0, m1, m2, m3, m4, m5, m6, m7⟩ := HC0.out w3 HT3.out.2.1
  have HN := hide (HGG.out (l ++ O) w3 HT3.out.2.1 HT3.out.1 (by simp; omega))
  clear hto3 HP HT2 HK2 HGG HS
  go_wp2_with fail
  refine HN.out.mono ?_
  rintro e w4 ⟨rfl, hto4⟩
  have HT4 := hide (HT3.out.trans hto4)
  have HP2 := hide (put1 w0.heap.size b _ nm [41] w4 HT4.out.1 (by simp; omega))
  clear hto4 HN HT3 HK3 q2 m0 m1 m2 m3 m4 m5 m6 m7 HC0 HX2
  simp only [List.toArray] at HP2
  go_wp2_with fail
  refine HP2.out.mono ?_
  rintro e w5 ⟨rfl, hto5⟩
  have HT5 : Hid (Wto w0.heap.size b (l ++ T) nm w w5) := by
    have := HT4.out.trans hto5
    show Wto _ _ _ _ _ _
    rw [HTT.out]
    simpa using this
  clear hto5 HP2 HT4
  go_wp2
  go_end0
  exact ⟨rfl, HT5.out⟩
set_option maxHeartbeats 4000000 in
set_option maxRecDepth 100000 in
theorem wnode_open13 (w0 : World) (b : Nat) (nm : Value) (n : NV) (T : List UInt8) (l : List UInt8) (w : World) (h : Wr w0.heap.size b l nm w) (v : NV) (x : Addr) (O K : List UInt8) (hT : T = O ++ (K ++ [41])) (hka : n.ka = some x) (hkl : n.kl = 1) (hc0 : ∀ W, Below w0.heap.size w W → NCells W x v) (HO : ∀ W, Below w.heap.size w W → Calls Tryd.prog 40 #[.pointer (some ⟨b, 0, none⟩), nvV n] W fun e w' => e = .returned (.string ⟨O.toArray⟩) ∧ Below W.heap.size W w') (HG : ∀ l W, Below w0.heap.size w W → Wr w0.heap.size b l nm W → l.length + K.length ≤ 140737488355328 → Calls Tryd.prog 20 #[.pointer (some ⟨b, 0, none⟩), nvV v] W fun e w' => e = .returned (.tuple #[]) ∧ Wto w0.heap.size b (l ++ K) nm W w') (hlen : l.length + T.length ≤ 140737488355328) (hk : n.kind = 13) : Calls Tryd.prog 20 #[.pointer (some ⟨b, 0, none⟩), nvV n] w fun e w' => e = .returned (.tuple #[]) ∧ Wto w0.heap.size b (l ++ T) nm w w' := by
  obtain ⟨w1, hw1⟩ : ∃ w1, w1 = w.alloc (nvO n) := ⟨_, rfl⟩
  have hX1 : w1.heap[w.heap.size]? = some (nvO n) := by rw [hw1]; exact at_new _ _
  have hb1 : Below w.heap.size w w1 := by rw [hw1]; exact (Below.refl _ w).alloc (Nat.le_refl _) _
  have hto1 : Wto w0.heap.size b l nm w w1 := Wto.put h hb1
  have HT1 := hide hto1
  have hne : w.heap.size ≠ b := by have := h.lt; omega
  have HXk : Hid (∀ W, Kp b w1 W → NCells W ⟨w.heap.size, 0, none⟩ n) := fun W hW => nv_cells (hW _ _ _ _ hne (by decide) hX1)
  obtain ⟨d0, d1, d2, d3, d4, d5, d6, d7⟩ := nv_cells hX1
  rw [hk] at d0
  obtain ⟨bx, hbx⟩ : ∃ bx, bx = w.heap.size := ⟨_, rfl⟩
  rw [← hbx] at d0 d1 d2 d3 d4 d5 d6 d7 HXk
  have HOO := hide (HO w1 hb1)
  have HGG := hide HG
  have HC0 := hide hc0
  simp only [nvV] at HOO HGG
  rw [hk] at HOO
  obtain ⟨S, hS⟩ : ∃ S : ByteArray, S = ⟨O.toArray⟩ := ⟨_, rfl⟩
  rw [← hS] at HOO
  have HS := hide hS
  have HTT := hide hT
  have hl2 : l.length + (O.length + (K.length + 1)) ≤ 140737488355328 := by rw [hT] at hlen; simp at hlen; omega
  have HX2 : Hid (∀ W, Kp b w1 W → W.cell? ⟨bx, 2, none⟩ = some (.slice (some x) 1 n.kc)) := fun W hW => by
    have := (HXk.out W hW).c2
    rw [hka, hkl] at this
    exact this
  clear h HO HG hk hlen hS hT hc0 hka hkl HXk
  simp only [nvO] at hw1
  clear hX1 hb1 hto1 hne
  go_enter Tryd.func20, Tryd.ntmps20
  go_upto_region 1 with fail
  rw [← hw1, ← hbx]
  clear hw1 hbx
  go_wp2_with fail
  refine HOO.out.mono ?_
  rintro e w2 ⟨rfl, hb2⟩
  have HT2 := hide (HT1.out.then hb2)
  have HK2 : Hid (Kp b w1 w2) := Kp.below hb2
  have HP := hide (put1 w0.heap.size b l nm O w2 HT2.out.1 (by omega))
  rw [← HS.out] at HP
  clear hb2 HOO HT1 d0 d1 d2 d3 d4 d5 d6 d7
  go_wp2_with fail
  refine HP.out.mono ?_
  rintro e w3 ⟨rfl, hto3⟩
  have HT3 := hide (HT2.out.trans hto3)
  have HK3 : Hid (Kp b w1 w3) := HK2.out.trans hto3.2.2
  have q2 := HX2.out w3 HK3.out
  obtain ⟨m0, m1, m2, m3, m4, m5, m6, m7⟩ := HC0.out w3 HT3.out.2.1
  have HN := hide (HGG.out (l ++ O) w3 HT3.out.2.1 HT3.out.1 (by simp; omega))
  clear hto3 HP HT2 HK2 HGG HS
  go_wp2_with fail
  refine HN.out.mono ?_
  rintro e w4 ⟨rfl, hto4⟩
  have HT4 := hide (HT3.out.trans hto4)
  have HP2 := hide (put1 w0.heap.size b _ nm [41] w4 HT4.out.1 (by simp; omega))
  clear hto4 HN HT3 HK3 q2 m0 m1 m2 m3 m4 m5 m6 m7 HC0 HX2
  simp only [List.toArray] at HP2
  go_wp2_with fail
  refine HP2.out.mono ?_
  rintro e w5 ⟨rfl, hto5⟩
  have HT5 : Hid (Wto w0.heap.size b (l ++ T) nm w w5) := by
    have := HT4.out.trans hto5
    show Wto _ _ _ _ _ _
    rw [HTT.out]
    simpa using this
  clear hto5 HP2 HT4
  go_wp2
  go_end0
  exact ⟨rfl, HT5.out⟩
set_option maxHeartbeats 4000000 in
set_option maxRecDepth 100000 in
theorem wnode_open14 (w0 : World) (b : Nat) (nm : Value) (n : NV) (T : List UInt8) (l : List UInt8) (w : World) (h : Wr w0.heap.size b l nm w) (v : NV) (x : Addr) (O K : List UInt8) (hT : T = O ++ (K ++ [41])) (hka : n.ka = some x) (hkl : n.kl = 1) (hc0 : ∀ W, Below w0.heap.size w W → NCells W x v) (HO : ∀ W, Below w.heap.size w W → Calls Tryd.prog 40 #[.pointer (some ⟨b, 0, none⟩), nvV n] W fun e w' => e = .returned (.string ⟨O.toArray⟩) ∧ Below W.heap.size W w') (HG : ∀ l W, Below w0.heap.size w W → Wr w0.heap.size b l nm W → l.length + K.length ≤ 140737488355328 → Calls Tryd.prog 20 #[.pointer (some ⟨b, 0, none⟩), nvV v] W fun e w' => e = .returned (.tuple #[]) ∧ Wto w0.heap.size b (l ++ K) nm W w') (hlen : l.length + T.length ≤ 140737488355328) (hk : n.kind = 14) : Calls Tryd.prog 20 #[.pointer (some ⟨b, 0, none⟩), nvV n] w fun e w' => e = .returned (.tuple #[]) ∧ Wto w0.heap.size b (l ++ T) nm w w' := by
  obtain ⟨w1, hw1⟩ : ∃ w1, w1 = w.alloc (nvO n) := ⟨_, rfl⟩
  have hX1 : w1.heap[w.heap.size]? = some (nvO n) := by rw [hw1]; exact at_new _ _
  have hb1 : Below w.heap.size w w1 := by rw [hw1]; exact (Below.refl _ w).alloc (Nat.le_refl _) _
  have hto1 : Wto w0.heap.size b l nm w w1 := Wto.put h hb1
  have HT1 := hide hto1
  have hne : w.heap.size ≠ b := by have := h.lt; omega
  have HXk : Hid (∀ W, Kp b w1 W → NCells W ⟨w.heap.size, 0, none⟩ n) := fun W hW => nv_cells (hW _ _ _ _ hne (by decide) hX1)
  obtain ⟨d0, d1, d2, d3, d4, d5, d6, d7⟩ := nv_cells hX1
  rw [hk] at d0
  obtain ⟨bx, hbx⟩ : ∃ bx, bx = w.heap.size := ⟨_, rfl⟩
  rw [← hbx] at d0 d1 d2 d3 d4 d5 d6 d7 HXk
  have HOO := hide (HO w1 hb1)
  have HGG := hide HG
  have HC0 := hide hc0
  simp only [nvV] at HOO HGG
  rw [hk] at HOO
  obtain ⟨S, hS⟩ : ∃ S : ByteArray, S = ⟨O.toArray⟩ := ⟨_, rfl⟩
  rw [← hS] at HOO
  have HS := hide hS
  have HTT := hide hT
  have hl2 : l.length + (O.length + (K.length + 1)) ≤ 140737488355328 := by rw [hT] at hlen; simp at hlen; omega
  have HX2 : Hid (∀ W, Kp b w1 W → W.cell? ⟨bx, 2, none⟩ = some (.slice (some x) 1 n.kc)) := fun W hW => by
    have := (HXk.out W hW).c2
    rw [hka, hkl] at this
    exact this
  clear h HO HG hk hlen hS hT hc0 hka hkl HXk
  simp only [nvO] at hw1
  clear hX1 hb1 hto1 hne
  go_enter Tryd.func20, Tryd.ntmps20
  go_upto_region 1 with fail
  rw [← hw1, ← hbx]
  clear hw1 hbx
  go_wp2_with fail
  refine HOO.out.mono ?_
  rintro e w2 ⟨rfl, hb2⟩
  have HT2 := hide (HT1.out.then hb2)
  have HK2 : Hid (Kp b w1 w2) := Kp.below hb2
  have HP := hide (put1 w0.heap.size b l nm O w2 HT2.out.1 (by omega))
  rw [← HS.out] at HP
  clear hb2 HOO HT1 d0 d1 d2 d3 d4 d5 d6 d7
  go_wp2_with fail
  refine HP.out.mono ?_
  rintro e w3 ⟨rfl, hto3⟩
  have HT3 := hide (HT2.out.trans hto3)
  have HK3 : Hid (Kp b w1 w3) := HK2.out.trans hto3.2.2
  have q2 := HX2.out w3 HK3.out
  obtain ⟨m0, m1, m2, m3, m4, m5, m6, m7⟩ := HC0.out w3 HT3.out.2.1
  have HN := hide (HGG.out (l ++ O) w3 HT3.out.2.1 HT3.out.1 (by simp; omega))
  clear hto3 HP HT2 HK2 HGG HS
  go_wp2_with fail
  refine HN.out.mono ?_
  rintro e w4 ⟨rfl, hto4⟩
  have HT4 := hide (HT3.out.trans hto4)
  have HP2 := hide (put1 w0.heap.size b _ nm [41] w4 HT4.out.1 (by simp; omega))
  clear hto4 HN HT3 HK3 q2 m0 m1 m2 m3 m4 m5 m6 m7 HC0 HX2
  simp only [List.toArray] at HP2
  go_wp2_with fail
  refine HP2.out.mono ?_
  rintro e w5 ⟨rfl, hto5⟩
  have HT5 : Hid (Wto w0.heap.size b (l ++ T) nm w w5) := by
    have := HT4.out.trans hto5
    show Wto _ _ _ _ _ _
    rw [HTT.out]
    simpa using this
  clear hto5 HP2 HT4
  go_wp2
  go_end0
  exact ⟨rfl, HT5.out⟩
set_option maxHeartbeats 4000000 in
set_option maxRecDepth 100000 in
theorem wnode_open15 (w0 : World) (b : Nat) (nm : Value) (n : NV) (T : List UInt8) (l : List UInt8) (w : World) (h : Wr w0.heap.size b l nm w) (v : NV) (x : Addr) (O K : List UInt8) (hT : T = O ++ (K ++ [41])) (hka : n.ka = some x) (hkl : n.kl = 1) (hc0 : ∀ W, Below w0.heap.size w W → NCells W x v) (HO : ∀ W, Below w.heap.size w W → Calls Tryd.prog 40 #[.pointer (some ⟨b, 0, none⟩), nvV n] W fun e w' => e = .returned (.string ⟨O.toArray⟩) ∧ Below W.heap.size W w') (HG : ∀ l W, Below w0.heap.size w W → Wr w0.heap.size b l nm W → l.length + K.length ≤ 140737488355328 → Calls Tryd.prog 20 #[.pointer (some ⟨b, 0, none⟩), nvV v] W fun e w' => e = .returned (.tuple #[]) ∧ Wto w0.heap.size b (l ++ K) nm W w') (hlen : l.length + T.length ≤ 140737488355328) (hk : n.kind = 15) : Calls Tryd.prog 20 #[.pointer (some ⟨b, 0, none⟩), nvV n] w fun e w' => e = .returned (.tuple #[]) ∧ Wto w0.heap.size b (l ++ T) nm w w' := by
  obtain ⟨w1, hw1⟩ : ∃ w1, w1 = w.alloc (nvO n) := ⟨_, rfl⟩
  have hX1 : w1.heap[w.heap.size]? = some (nvO n) := by rw [hw1]; exact at_new _ _
  have hb1 : Below w.heap.size w w1 := by rw [hw1]; exact (Below.refl _ w).alloc (Nat.le_refl _) _
  have hto1 : Wto w0.heap.size b l nm w w1 := Wto.put h hb1
  have HT1 := hide hto1
  have hne : w.heap.size ≠ b := by have := h.lt; omega
  have HXk : Hid (∀ W, Kp b w1 W → NCells W ⟨w.heap.size, 0, none⟩ n) := fun W hW => nv_cells (hW _ _ _ _ hne (by decide) hX1)
  obtain ⟨d0, d1, d2, d3, d4, d5, d6, d7⟩ := nv_cells hX1
  rw [hk] at d0
  obtain ⟨bx, hbx⟩ : ∃ bx, bx = w.heap.size := ⟨_, rfl⟩
  rw [← hbx] at d0 d1 d2 d3 d4 d5 d6 d7 HXk
  have HOO := hide (HO w1 hb1)
  have HGG := hide HG
  have HC0 := hide hc0
  simp only [nvV] at HOO HGG
  rw [hk] at HOO
  obtain ⟨S, hS⟩ : ∃ S : ByteArray, S = ⟨O.toArray⟩ := ⟨_, rfl⟩
  rw [← hS] at HOO
  have HS := hide hS
  have HTT := hide hT
  have hl2 : l.length + (O.length + (K.length + 1)) ≤ 140737488355328 := by rw [hT] at hlen; simp at hlen; omega
  have HX2 : Hid (∀ W, Kp b w1 W → W.cell? ⟨bx, 2, none⟩ = some (.slice (some x) 1 n.kc)) := fun W hW => by
    have := (HXk.out W hW).c2
    rw [hka, hkl] at this
    exact this
  clear h HO HG hk hlen hS hT hc0 hka hkl HXk
  simp only [nvO] at hw1
  clear hX1 hb1 hto1 hne
  go_enter Tryd.func20, Tryd.ntmps20
  go_upto_region 1 with fail
  rw [← hw1, ← hbx]
  clear hw1 hbx
  go_wp2_with fail
  refine HOO.out.mono ?_
  rintro e w2 ⟨rfl, hb2⟩
  have HT2 := hide (HT1.out.then hb2)
  have HK2 : Hid (Kp b w1 w2) := Kp.below hb2
  have HP := hide (put1 w0.heap.size b l nm O w2 HT2.out.1 (by omega))
  rw [← HS.out] at HP
  clear hb2 HOO HT1 d0 d1 d2 d3 d4 d5 d6 d7
  go_wp2_with fail
  refine HP.out.mono ?_
  rintro e w3 ⟨rfl, hto3⟩
  have HT3 := hide (HT2.out.trans hto3)
  have HK3 : Hid (Kp b w1 w3) := HK2.out.trans hto3.2.2
  have q2 := HX2.out w3 HK3.out
  obtain ⟨m0, m1, m2, m3, m4, m5, m6, m7⟩ := HC0.out w3 HT3.out.2.1
  have HN := hide (HGG.out (l ++ O) w3 HT3.out.2.1 HT3.out.1 (by simp; omega))
  clear hto3 HP HT2 HK2 HGG HS
  go_wp2_with fail
  refine HN.out.mono ?_
  rintro e w4 ⟨rfl, hto4⟩
  have HT4 := hide (HT3.out.trans hto4)
  have HP2 := hide (put1 w0.heap.size b _ nm [41] w4 HT4.out.1 (by simp; omega))
  clear hto4 HN HT3 HK3 q2 m0 m1 m2 m3 m4 m5 m6 m7 HC0 HX2
  simp only [List.toArray] at HP2
  go_wp2_with fail
  refine HP2.out.mono ?_
  rintro e w5 ⟨rfl, hto5⟩
  have HT5 : Hid (Wto w0.heap.size b (l ++ T) nm w w5) := by
    have := HT4.out.trans hto5
    show Wto _ _ _ _ _ _
    rw [HTT.out]
    simpa using this
  clear hto5 HP2 HT4
  go_wp2
  go_end0
  exact ⟨rfl, HT5.out⟩
set_option maxHeartbeats 4000000 in
set_option maxRecDepth 100000 in
theorem wnode_open16 (w0 : World) (b : Nat) (nm : Value) (n : NV) (T : List UInt8) (l : List UInt8) (w : World) (h : Wr w0.heap.size b l nm w) (v : NV) (x : Addr) (O K : List UInt8) (hT : T = O ++ (K ++ [41])) (hka : n.ka = some x) (hkl : n.kl = 1) (hc0 : ∀ W, Below w0.heap.size w W → NCells W x v) (HO : ∀ W, Below w.heap.size w W → Calls Tryd.prog 40 #[.pointer (some ⟨b, 0, none⟩), nvV n] W fun e w' => e = .returned (.string ⟨O.toArray⟩) ∧ Below W.heap.size W w') (HG : ∀ l W, Below w0.heap.size w W → Wr w0.heap.size b l nm W → l.length + K.length ≤ 140737488355328 → Calls Tryd.prog 20 #[.pointer (some ⟨b, 0, none⟩), nvV v] W fun e w' => e = .returned (.tuple #[]) ∧ Wto w0.heap.size b (l ++ K) nm W w') (hlen : l.length + T.length ≤ 140737488355328) (hk : n.kind = 16) : Calls Tryd.prog 20 #[.pointer (some ⟨b, 0, none⟩), nvV n] w fun e w' => e = .returned (.tuple #[]) ∧ Wto w0.heap.size b (l ++ T) nm w w' := by
  obtain ⟨w1, hw1⟩ : ∃ w1, w1 = w.alloc (nvO n) := ⟨_, rfl⟩
  have hX1 : w1.heap[w.heap.size]? = some (nvO n) := by rw [hw1]; exact at_new _ _
  have hb1 : Below w.heap.size w w1 := by rw [hw1]; exact (Below.refl _ w).alloc (Nat.le_refl _) _
  have hto1 : Wto w0.heap.size b l nm w w1 := Wto.put h hb1
  have HT1 := hide hto1
  have hne : w.heap.size ≠ b := by have := h.lt; omega
  have HXk : Hid (∀ W, Kp b w1 W → NCells W ⟨w.heap.size, 0, none⟩ n) := fun W hW => nv_cells (hW _ _ _ _ hne (by decide) hX1)
  obtain ⟨d0, d1, d2, d3, d4, d5, d6, d7⟩ := nv_cells hX1
  rw [hk] at d0
  obtain ⟨bx, hbx⟩ : ∃ bx, bx = w.heap.size := ⟨_, rfl⟩
  rw [← hbx] at d0 d1 d2 d3 d4 d5 d6 d7 HXk
  have HOO := hide (HO w1 hb1)
  have HGG := hide HG
  have HC0 := hide hc0
  simp only [nvV] at HOO HGG
  rw [hk] at HOO
  obtain ⟨S, hS⟩ : ∃ S : ByteArray, S = ⟨O.toArray⟩ := ⟨_, rfl⟩
  rw [← hS] at HOO
  have HS := hide hS
  have HTT := hide hT
  have hl2 : l.length + (O.length + (K.length + 1)) ≤ 140737488355328 := by rw [hT] at hlen; simp at hlen; omega
  have HX2 : Hid (∀ W, Kp b w1 W → W.cell? ⟨bx, 2, none⟩ = some (.slice (some x) 1 n.kc)) := fun W hW => by
    have := (HXk.out W hW).c2
    rw [hka, hkl] at this
    exact this
  clear h HO HG hk hlen hS hT hc0 hka hkl HXk
  simp only [nvO] at hw1
  clear hX1 hb1 hto1 hne
  go_enter Tryd.func20, Tryd.ntmps20
  go_upto_region 1 with fail
  rw [← hw1, ← hbx]
  clear hw1 hbx
  go_wp2_with fail
  refine HOO.out.mono ?_
  rintro e w2 ⟨rfl, hb2⟩
  have HT2 := hide (HT1.out.then hb2)
  have HK2 : Hid (Kp b w1 w2) := Kp.below hb2
  have HP := hide (put1 w0.heap.size b l nm O w2 HT2.out.1 (by omega))
  rw [← HS.out] at HP
  clear hb2 HOO HT1 d0 d1 d2 d3 d4 d5 d6 d7
  go_wp2_with fail
  refine HP.out.mono ?_
  rintro e w3 ⟨rfl, hto3⟩
  have HT3 := hide (HT2.out.trans hto3)
  have HK3 : Hid (Kp b w1 w3) := HK2.out.trans hto3.2.2
  have q2 := HX2.out w3 HK3.out
  obtain ⟨m0, m1, m2, m3, m4, m5, m6, m7⟩ := HC0.out w3 HT3.out.2.1
  have HN := hide (HGG.out (l ++ O) w3 HT3.out.2.1 HT3.out.1 (by simp; omega))
  clear hto3 HP HT2 HK2 HGG HS
  go_wp2_with fail
  refine HN.out.mono ?_
  rintro e w4 ⟨rfl, hto4⟩
  have HT4 := hide (HT3.out.trans hto4)
  have HP2 := hide (put1 w0.heap.size b _ nm [41] w4 HT4.out.1 (by simp; omega))
  clear hto4 HN HT3 HK3 q2 m0 m1 m2 m3 m4 m5 m6 m7 HC0 HX2
  simp only [List.toArray] at HP2
  go_wp2_with fail
  refine HP2.out.mono ?_
  rintro e w5 ⟨rfl, hto5⟩
  have HT5 : Hid (Wto w0.heap.size b (l ++ T) nm w w5) := by
    have := HT4.out.trans hto5
    show Wto _ _ _ _ _ _
    rw [HTT.out]
    simpa using this
  clear hto5 HP2 HT4
  go_wp2
  go_end0
  exact ⟨rfl, HT5.out⟩
set_option maxHeartbeats 4000000 in
set_option maxRecDepth 100000 in
theorem wnode_open17 (w0 : World) (b : Nat) (nm : Value) (n : NV) (T : List UInt8) (l : List UInt8) (w : World) (h : Wr w0.heap.size b l nm w) (v : NV) (x : Addr) (O K : List UInt8) (hT : T = O ++ (K ++ [41])) (hka : n.ka = some x) (hkl : n.kl = 1) (hc0 : ∀ W, Below w0.heap.size w W → NCells W x v) (HO : ∀ W, Below w.heap.size w W → Calls Tryd.prog 40 #[.pointer (some ⟨b, 0, none⟩), nvV n] W fun e w' => e = .returned (.string ⟨O.toArray⟩) ∧ Below W.heap.size W w') (HG : ∀ l W, Below w0.heap.size w W → Wr w0.heap.size b l nm W → l.length + K.length ≤ 140737488355328 → Calls Tryd.prog 20 #[.pointer (some ⟨b, 0, none⟩), nvV v] W fun e w' => e = .returned (.tuple #[]) ∧ Wto w0.heap.size b (l ++ K) nm W w') (hlen : l.length + T.length ≤ 140737488355328) (hk : n.kind = 17) : Calls Tryd.prog 20 #[.pointer (some ⟨b, 0, none⟩), nvV n] w fun e w' => e = .returned (.tuple #[]) ∧ Wto w0.heap.size b (l ++ T) nm w w' := by
  obtain ⟨w1, hw1⟩ : ∃ w1, w1 = w.alloc (nvO n) := ⟨_, rfl⟩
  have hX1 : w1.heap[w.heap.size]? = some (nvO n) := by rw [hw1]; exact at_new _ _
  have hb1 : Below w.heap.size w w1 := by rw [hw1]; exact (Below.refl _ w).alloc (Nat.le_refl _) _
  have hto1 : Wto w0.heap.size b l nm w w1 := Wto.put h hb1
  have HT1 := hide hto1
  have hne : w.heap.size ≠ b := by have := h.lt; omega
  have HXk : Hid (∀ W, Kp b w1 W → NCells W ⟨w.heap.size, 0, none⟩ n) := fun W hW => nv_cells (hW _ _ _ _ hne (by decide) hX1)
  obtain ⟨d0, d1, d2, d3, d4, d5, d6, d7⟩ := nv_cells hX1
  rw [hk] at d0
  obtain ⟨bx, hbx⟩ : ∃ bx, bx = w.heap.size := ⟨_, rfl⟩
  rw [← hbx] at d0 d1 d2 d3 d4 d5 d6 d7 HXk
  have HOO := hide (HO w1 hb1)
  have HGG := hide HG
  have HC0 := hide hc0
  simp only [nvV] at HOO HGG
  rw [hk] at HOO
  obtain ⟨S, hS⟩ : ∃ S : ByteArray, S = ⟨O.toArray⟩ := ⟨_, rfl⟩
  rw [← hS] at HOO
  have HS := hide hS
  have HTT := hide hT
  have hl2 : l.length + (O.length + (K.length + 1)) ≤ 140737488355328 := by rw [hT] at hlen; simp at hlen; omega
  have HX2 : Hid (∀ W, Kp b w1 W → W.cell? ⟨bx, 2, none⟩ = some (.slice (some x) 1 n.kc)) := fun W hW => by
    have := (HXk.out W hW).c2
    rw [hka, hkl] at this
    exact this
  clear h HO HG hk hlen hS hT hc0 hka hkl HXk
  simp only [nvO] at hw1
  clear hX1 hb1 hto1 hne
  go_enter Tryd.func20, Tryd.ntmps20
  go_upto_region 1 with fail
  rw [← hw1, ← hbx]
  clear hw1 hbx
  go_wp2_with fail
  refine HOO.out.mono ?_
  rintro e w2 ⟨rfl, hb2⟩
  have HT2 := hide (HT1.out.then hb2)
  have HK2 : Hid (Kp b w1 w2) := Kp.below hb2
  have HP := hide (put1 w0.heap.size b l nm O w2 HT2.out.1 (by omega))
  rw [← HS.out] at HP
  clear hb2 HOO HT1 d0 d1 d2 d3 d4 d5 d6 d7
  go_wp2_with fail
  refine HP.out.mono ?_
  rintro e w3 ⟨rfl, hto3⟩
  have HT3 := hide (HT2.out.trans hto3)
  have HK3 : Hid (Kp b w1 w3) := HK2.out.trans hto3.2.2
  have q2 := HX2.out w3 HK3.out
  obtain ⟨m0, m1, m2, m3, m4, m5, m6, m7⟩ := HC0.out w3 HT3.out.2.1
  have HN := hide (HGG.out (l ++ O) w3 HT3.out.2.1 HT3.out.1 (by simp; omega))
  clear hto3 HP HT2 HK2 HGG HS
  go_wp2_with fail
  refine HN.out.mono ?_
  rintro e w4 ⟨rfl, hto4⟩
  have HT4 := hide (HT3.out.trans hto4)
  have HP2 := hide (put1 w0.heap.size b _ nm [41] w4 HT4.out.1 (by simp; omega))
  clear hto4 HN HT3 HK3 q2 m0 m1 m2 m3 m4 m5 m6 m7 HC0 HX2
  simp only [List.toArray] at HP2
  go_wp2_with fail
  refine HP2.out.mono ?_
  rintro e w5 ⟨rfl, hto5⟩
  have HT5 : Hid (Wto w0.heap.size b (l ++ T) nm w w5) := by
    have := HT4.out.trans hto5
    show Wto _ _ _ _ _ _
    rw [HTT.out]
    simpa using this
  clear hto5 HP2 HT4
  go_wp2
  go_end0
  exact ⟨rfl, HT5.out⟩

end Go.Proofs.YtpcohmbipbiglaaDoor

namespace Go.Proofs.YtpcohmbipbiglaaDoor
open Go.RowKit
open Go.Lib (byteCells byteCells_append byteCells_length decDigits)
set_option linter.unusedVariables false

theorem add_zero' (x : Addr) : x.add 0 = x := by cases x; rename_i a b c; cases c <;> rfl
theorem wnode_any {w0 : World} {n : NV} {t : Tr} (h : NodeC w0 n t) (hT : Tab w0) (b : Nat) (na : Option Addr) (nl nc : Nat) (N : NmL) (hN : NamesC w0 (.slice na nl nc) N) (htw : NoTw N N.length) (hnz : ∀ i, i < N.length → (ntx N i).size ≤ 1048576) : OkT t → NodeG w0 b (.slice na nl nc) n (shT N t) := by
  induction h with
  | mk n set kids vs hs hk hkids ih =>
    intro hok l w hw0 h hlen
    obtain ⟨hno, hkok⟩ := hok.open
    have hG : ∀ j (hj : j < kids.length), NodeG w0 b (.slice na nl nc) (vs j) (shT N kids[j]) := fun j hj => ih j hj (hkok j hj)
    have hkd : ∀ j (hj : j < kids.length), (vs j).kind = kids[j].kind := fun j hj => ((hkids j hj).open.1).symm
    have hkind := hno.kind
    simp only [Tr.kind] at hkind
    have hsh : shT N (.mk n.kind n.num n.least n.most n.way n.fold set kids) = nodeT N n.kind n.num n.least n.most n.way n.fold set (kids.map Tr.kind) (shL N kids) := by rw [shT]
    rw [hsh] at hlen ⊢
    unfold nodeT at hlen ⊢
    by_cases h2 : n.kind = 2
    · rw [if_pos h2] at hlen ⊢
      exact wnode_set w0 b _ n _ l w h (fun W hW => set_any w0 b l _ n.sa n.sl n.sc set W (h.keep hW) (hw0.trans (hW.mono hw0.size)) hT hs hno.set.2 hno.set.1 hlen) h2
    rw [if_neg h2] at hlen ⊢
    by_cases h9 : n.kind = 9
    · rw [if_pos h9, shL_len] at hlen ⊢
      exact wnode_row w0 b _ n _ l w h (fun W hW => row_any w0 b _ N kids vs n.ka n.kl n.kc hk hkd hG l W (hw0.trans (hW.mono hw0.size)) (h.keep hW) hlen) h9
    rw [if_neg h9] at hlen ⊢
    by_cases h10 : n.kind = 10
    · rw [if_pos h10, shL_len] at hlen ⊢
      exact wnode_either w0 b _ n _ l w h (fun W hW => either_any w0 b _ N kids vs n.ka n.kl n.kc hk hG l W (hw0.trans (hW.mono hw0.size)) (h.keep hW) hlen) h10
    rw [if_neg h10] at hlen ⊢
    have one : 11 ≤ n.kind ∧ n.kind ≤ 17 → ∃ x, n.ka = some x ∧ n.kl = 1 ∧ NCells w0 x (vs 0) ∧ ∃ h0 : 0 < kids.length, NodeG w0 b (.slice na nl nc) (vs 0) (shT N kids[0]) := fun hh => by
      have h1 : kids.length = 1 := hok.one hh
      rcases hk with ⟨_, _, _, h0⟩ | ⟨x, hx, hl, _, hc⟩
      · omega
      · refine ⟨x, hx, by omega, ?_, by omega, hG 0 (by omega)⟩
        have := hc 0 (by omega)
        rw [Nat.zero_mul, add_zero'] at this
        exact this
    by_cases h12 : n.kind = 12
    · rw [if_pos h12] at hlen ⊢
      obtain ⟨x, hx, hl, hc, h0, hg⟩ := one (by omega)
      rw [kind_at _ _ h0, shL_at _ _ _ h0, ← hkd 0 h0] at hlen ⊢
      obtain ⟨r1, r2, r3⟩ := hno.rep h12
      exact wnode_repeat w0 b _ n _ l w h (fun W hW => repeat_any w0 b _ n (vs 0) x _ hx hl hc hg l W (hw0.trans (hW.mono hw0.size)) hT (h.keep hW) r1 r2 hlen) h12
    rw [if_neg h12] at hlen ⊢
    by_cases h18 : n.kind = 18
    · rw [if_pos h18] at hlen ⊢
      exact wnode_again w0 b _ n _ l w h (fun W hW => again_any w0 b _ n l W (hw0.trans (hW.mono hw0.size)) hT (h.keep hW) (hno.ag h18) hlen) h18
    rw [if_neg h18] at hlen ⊢
    by_cases hop : n.kind = 11 ∨ (13 ≤ n.kind ∧ n.kind ≤ 17)
    · rw [if_pos hop] at hlen ⊢
      obtain ⟨x, hx, hl, hc, h0, hg⟩ := one (by omega)
      rw [shL_at _ _ _ h0] at hlen ⊢
      have hC : ∀ W, Below w0.heap.size w W → NCells W x (vs 0) := fun W hW => hc.below (hw0.trans hW)
      have hO : ∀ W, Below w.heap.size w W → Calls Tryd.prog 40 #[.pointer (some ⟨b, 0, none⟩), nvV n] W fun e w' => e = .returned (.string ⟨(openT N n.kind n.num).toArray⟩) ∧ Below W.heap.size W w' := fun W hW => opening_any w0 b l na nl nc N n W (h.keep hW) (hw0.trans (hW.mono hw0.size)) hN htw hnz hop
      have hGG : ∀ l W, Below w0.heap.size w W → Wr w0.heap.size b l (.slice na nl nc) W → l.length + (shT N kids[0]).length ≤ 140737488355328 → Calls Tryd.prog 20 #[.pointer (some ⟨b, 0, none⟩), nvV (vs 0)] W fun e w' => e = .returned (.tuple #[]) ∧ Wto w0.heap.size b (l ++ shT N kids[0]) (.slice na nl nc) W w' := fun l W hW => hg l W (hw0.trans hW)
      rcases (by omega : n.kind = 11 ∨ n.kind = 13 ∨ n.kind = 14 ∨ n.kind = 15 ∨ n.kind = 16 ∨ n.kind = 17) with e | e | e | e | e | e
      · exact wnode_open11 w0 b _ n _ l w h (vs 0) x _ _ rfl hx hl hC hO hGG hlen e
      · exact wnode_open13 w0 b _ n _ l w h (vs 0) x _ _ rfl hx hl hC hO hGG hlen e
      · exact wnode_open14 w0 b _ n _ l w h (vs 0) x _ _ rfl hx hl hC hO hGG hlen e
      · exact wnode_open15 w0 b _ n _ l w h (vs 0) x _ _ rfl hx hl hC hO hGG hlen e
      · exact wnode_open16 w0 b _ n _ l w h (vs 0) x _ _ rfl hx hl hC hO hGG hlen e
      · exact wnode_open17 w0 b _ n _ l w h (vs 0) x _ _ rfl hx hl hC hO hGG hlen e
    · rw [if_neg hop] at hlen ⊢
      have hS : ∀ k, n.kind = k → ∀ W, Calls Tryd.prog 41 #[.int .i64 k] W fun e w' => e = .returned (.string ⟨(signS n.kind).data.toList.toArray⟩) ∧ w' = W := fun k e W => by rw [e]; exact sign_any k W
      rcases (by omega : n.kind = 1 ∨ n.kind = 3 ∨ n.kind = 4 ∨ n.kind = 5 ∨ n.kind = 6 ∨ n.kind = 7 ∨ n.kind = 8) with e | e | e | e | e | e | e
      · exact wnode_sign1 w0 b _ n _ l w h (hS _ e) hlen e
      · exact wnode_sign3 w0 b _ n _ l w h (hS _ e) hlen e
      · exact wnode_sign4 w0 b _ n _ l w h (hS _ e) hlen e
      · exact wnode_sign5 w0 b _ n _ l w h (hS _ e) hlen e
      · exact wnode_sign6 w0 b _ n _ l w h (hS _ e) hlen e
      · exact wnode_sign7 w0 b _ n _ l w h (hS _ e) hlen e
      · exact wnode_sign8 w0 b _ n _ l w h (hS _ e) hlen e

/-- what is shown of a pattern, if so much is wrong with it. -/
def shS (N : NmL) (t : Tr) (z : Int) : ByteArray := if z = 0 then ⟨(shT N t).toArray⟩ else ⟨#[]⟩
/-- what Show answers. -/
def ShowE (t : Tr) (g : Int) (N : NmL) (w : World) (e : Ending) (w' : World) : Prop := ∃ z, PatE t g N z ∧ e = .returned (.tuple #[.string (shS N t z), .int .i64 z]) ∧ Below w.heap.size w w'
theorem Wr.full {B b : Nat} {l : List UInt8} {nm : Value} {w : World} (h : Wr B b l nm w) : ∃ p, WB B b p (byteCells l) nm w := by
  rcases h with h | h
  · exact ⟨_, h⟩
  · exact ⟨_, h⟩
set_option maxRecDepth 100000 in
set_option maxHeartbeats 4000000 in
theorem show_any (n : NV) (t : Tr) (g : Int) (na : Option Addr) (nl nc : Nat) (N : NmL) (w : World) (h : NodeC w n t) (hT : Tab w) (hNm : NamesC w (.slice na nl nc) N) (hnz : ∀ i, i < N.length → (ntx N i).size ≤ 1048576) : Calls Tryd.prog 12 #[patNV n g na nl nc] w fun e w' => ShowE t g N w e w' := by
  obtain ⟨w1, hw1⟩ : ∃ w1, w1 = w.alloc (patNO n g na nl nc) := ⟨_, rfl⟩
  have hX1 : w1.heap[w.heap.size]? = some (patNO n g na nl nc) := by rw [hw1]; exact at_new _ _
  have hb1 : Below w.heap.size w w1 := by rw [hw1]; exact (Below.refl _ w).alloc (Nat.le_refl _) _
  have HC := hide (showCheck_any n t g na nl nc N w1 (h.keep hb1) (hNm.below hb1))
  have HB1 := hide hb1
  have HX1 := hide hX1
  have HT0 := hide hT
  have HNC := hide h
  have HNm := hide hNm
  have HNz := hide hnz
  obtain ⟨⟨d0, d1, d2, d3, d4, d5, d6, d7⟩, d8, d9⟩ := patN_cells hX1
  simp only [patNO] at hw1
  simp only [patNV] at HC ⊢
  clear h hT hNm hnz hb1 hX1
  go_enter Tryd.func12, Tryd.ntmps12
  go_upto_region 1 with fail
  rw [← hw1]
  clear hw1
  go_wp2_with fail
  refine HC.out.mono ?_
  rintro e w2 ⟨z, hz, rfl, hb2⟩
  have HZ := hide hz
  have HB2 := hide (HB1.out.trans (hb2.mono HB1.out.size))
  have HX2 := hide (show w2.heap[w.heap.size]? = some (patNO n g na nl nc) by rw [hb2.block _ (lt_of_block HX1.out)]; exact HX1.out)
  clear hz hb2 HC HB1 HX1 d0 d1 d2 d3 d4 d5 d6 d7 d8 d9
  obtain ⟨⟨d0, d1, d2, d3, d4, d5, d6, d7⟩, d8, d9⟩ := patN_cells HX2.out
  by_cases hz0 : z = 0
  · subst hz0
    obtain ⟨hsz, hok, htw⟩ := HZ.out.okay
    have hsh := HZ.out.short HNz.out
    obtain ⟨T, hTT⟩ : ∃ T, T = shT N t := ⟨_, rfl⟩
    have hTn : T ≠ [] := by rw [hTT]; exact shT_ne N hok
    obtain ⟨w3, hw3⟩ : ∃ w3, w3 = w2.alloc (.cells #[.pointer none, .slice none 0 0, .slice na nl nc] 53) := ⟨_, rfl⟩
    have hK3 : w3.heap[w2.heap.size]? = some (.cells #[.pointer none, .slice none 0 0, .slice na nl nc] 53) := by rw [hw3]; exact at_new _ _
    have hb3 : Below w2.heap.size w2 w3 := by rw [hw3]; exact (Below.refl _ w2).alloc (Nat.le_refl _) _
    have hW3 : Wr w2.heap.size w2.heap.size [] (.slice na nl nc) w3 := .inl ⟨Nat.le_refl _, _, hK3, World.ownsRow_nil _ _ _ _, by simp [Value.ownBlock]⟩
    have HN := hide (wnode_any (HNC.out.keep HB2.out) (HT0.out.keep HB2.out) w2.heap.size na nl nc N (HNm.out.below HB2.out) htw HNz.out hok [] w3 hb3 hW3 (by simp; omega))
    rw [List.nil_append, ← hTT] at HN
    have HX3 := hide (show w3.heap[w.heap.size]? = some (patNO n g na nl nc) by rw [hb3.block _ (lt_of_block HX2.out)]; exact HX2.out)
    have HB3 := hide hb3
    have HF : Hid (∀ w', Below w.heap.size w w' → ShowE t g N w (.returned (.tuple #[.string ⟨T.toArray⟩, .int .i64 0])) w') := fun w' hh => ⟨0, HZ.out, by rw [hTT]; rfl, hh⟩
    obtain ⟨b, hb⟩ : ∃ b, b = w2.heap.size := ⟨_, rfl⟩
    rw [← hb] at HN HB3
    have hwb : w.heap.size ≤ b := by rw [hb]; exact HB2.out.size
    clear hb3 hW3 hK3 d0 d1 d2 d3 d4 d5 d6 d7 d8 hsz hok htw hsh hTT HZ HNC HNm HNz HT0
    go_upto_region 5 with fail
    rw [← hw3, ← hb]
    clear hw3 hb
    obtain ⟨⟨d0, d1, d2, d3, d4, d5, d6, d7⟩, d8, d9⟩ := patN_cells HX3.out
    simp only [nvV] at HN
    go_wp2_with fail
    refine HN.out.mono ?_
    rintro e w4 ⟨rfl, hto4⟩
    obtain ⟨p, hfull⟩ := hto4.1.full
    have HS := hide (bstr_any b b p _ T w4 hfull hTn)
    have HB4 := hide (show Below w.heap.size w w4 from HB2.out.trans ((HB3.out.trans hto4.2.1).mono hwb))
    obtain ⟨R, hR⟩ : ∃ R : ByteArray, R = ⟨T.toArray⟩ := ⟨_, rfl⟩
    rw [← hR] at HS HF
    clear hto4 hfull HN d0 d1 d2 d3 d4 d5 d6 d7 d8 d9 hTn hR
    go_wp2_with fail
    refine HS.out.mono ?_
    rintro e w5 ⟨rfl, hb5⟩
    have HB5 := hide (show Below w.heap.size w w5 from HB4.out.trans (hb5.mono hwb))
    clear hb5 HS
    go_wp2
    go_ret2
    exact HF.out _ HB5.out
  · have HF : Hid (∀ w', Below w.heap.size w w' → ShowE t g N w (.returned (.tuple #[.string ⟨#[]⟩, .int .i64 z])) w') := fun w' hh => ⟨z, HZ.out, by unfold shS; rw [if_neg hz0], hh⟩
    have hzb : (z == 0) = false := by simpa using hz0
    clear HZ HNC HNm HNz HT0 d0 d1 d2 d3 d4 d5 d6 d7 d8 d9
    go_wp2
    go_ret2
    exact HF.out _ HB2.out

end Go.Proofs.YtpcohmbipbiglaaDoor
