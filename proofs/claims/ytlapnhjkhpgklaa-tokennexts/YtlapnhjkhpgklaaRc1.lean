/- The reference's Escaped: behind nothing, and in the second dialect. -/
import Derived.Test.YtlapnhjkhpgklaaRb8
import Derived.Deep.RegionWith
namespace Go.Proofs.Ytlapnhjkhpgklaa
open Go.RowKit
set_option linter.unusedVariables false

theorem three_belowE (w : World) (o o' o2 : Obj) : Below w.heap.size w (((w.alloc o).alloc o').alloc o2) := (two_below w o o').alloc (by simp; omega) o2

/-- the world in which what is escaped is read: its boxes. -/
structure EscA (w : World) (x : Addr) (n c : Nat) (i k : Int) (W : World) : Prop where
  below : Below w.heap.size w W
  sl : W.cell? ⟨w.heap.size, 0, none⟩ = some (.slice (some x) n c)
  at_ : W.cell? ⟨w.heap.size + 1, 0, none⟩ = some (.int .i64 i)
  tok : W.heap[w.heap.size + 2]? = some (tokO {})
  nxt : W.heap[w.heap.size + 3]? = some (.cells #[.int .i64 k] 3)

theorem EscA.next {w : World} {x : Addr} {n c : Nat} {i k : Int} {W : World} (h : EscA w x n c i k W) : W.cell? ⟨w.heap.size + 3, 0, none⟩ = some (.int .i64 k) := by
  unfold World.cell?
  simp only [h.nxt]
  rfl
theorem EscA.nfree {w : World} {x : Addr} {n c : Nat} {i k : Int} {W : World} (h : EscA w x n c i k W) : W.frozen? ⟨w.heap.size + 3, 0, none⟩ = false := by simp [World.frozen?, h.nxt]
theorem EscA.on {w : World} {x : Addr} {n c : Nat} {i k : Int} {W W' : World} (h : EscA w x n c i k W) (hb : Below W.heap.size W W') : EscA w x n c i k W' :=
  ⟨h.below.trans (hb.mono h.below.size), below_cellT hb h.sl, below_cellT hb h.at_, below_atT hb h.tok, below_atT hb h.nxt⟩

theorem escA_first (w : World) (x : Addr) (n c : Nat) (i k : Int) : EscA w x n c i k ((((w.alloc (.cells #[.slice (some x) n c] 22)).alloc (.cells #[.int .i64 i] 3)).alloc (tokO {})).alloc (.cells #[.int .i64 k] 3)) := by
  have hb3 := three_belowE w (.cells #[.slice (some x) n c] 22) (.cells #[.int .i64 i] 3) (tokO {})
  refine ⟨hb3.alloc (by simp; omega) _, ?_, ?_, ?_, ?_⟩
  · exact below_cellT ((Below.refl _ _).alloc (Nat.le_refl _) _) (below_cellT ((Below.refl _ _).alloc (Nat.le_refl _) _) (World.cell?_alloc2 w _ _ 0 _ rfl))
  · exact below_cellT ((Below.refl _ _).alloc (Nat.le_refl _) _) (below_cellT ((Below.refl _ _).alloc (Nat.le_refl _) _) (World.cell?_alloc1 w _ _ 0 _ rfl))
  · exact at_old (at_new' _ _ (by simp))
  · exact at_new' _ _ (by simp)

/-- pointToken, told with the boxes. -/
theorem ptok_esc {w : World} {x : Addr} {n c : Nat} {i k : Int} (p : Int) (W : World) (h : EscA w x n c i k W) : Calls Try.prog 23 #[.int .i64 p] W fun e w' => e = .returned (tokV (pointT p)) ∧ EscA w x n c i k w' :=
  (ptok_any p W).mono (by rintro e w' ⟨rfl, hb⟩; exact ⟨rfl, h.on hb⟩)

theorem EscA.drew {w : World} {x : Addr} {n c : Nat} {i k : Int} {W : World} (h : EscA w x n c i k W) : EscA w x n c i k W.drew := h.on ⟨rfl, rfl, rfl, Nat.le_refl _, fun _ _ => rfl⟩

set_option maxRecDepth 100000 in
set_option maxHeartbeats 4000000 in
theorem esc_none (d : Int) (x : Addr) (c : Nat) (l : List Int) (i : Nat) (w : World) (h : ReadsI w x l) (hi : i = l.length) (hl : l.length ≤ 300) : Calls Try.prog 20 #[.int .i64 d, .slice (some x) l.length c, .int .i64 i] w fun e w' => NextE (escT d l i) w e w' := by
  have hE : Hid (escT d l i = .error 1) := by show _ = _; unfold escT; rw [List.getElem?_eq_none (by omega)]
  have hb3 := three_belowE w (.cells #[.slice (some x) l.length c] 22) (.cells #[.int .i64 i] 3) (tokO {})
  obtain ⟨w0, hw0⟩ : ∃ w0, w0 = ((w.alloc (.cells #[.slice (some x) l.length c] 22)).alloc (.cells #[.int .i64 i] 3)).alloc (tokO {}) := ⟨_, rfl⟩
  have HB0 : Hid (Below w.heap.size w w0) := by show Below _ _ _; rw [hw0]; exact hb3
  have A0 : Hid (w0.heap[w.heap.size + 2]? = some (tokO {})) := by show _ = _; rw [hw0]; exact at_new' _ _ (by simp)
  have HP := hide (pointAt_any x c l i w0 (h.belowB HB0.out))
  rw [ptA_out (by omega)] at HP
  obtain ⟨n, hn⟩ : ∃ n, n = l.length := ⟨_, rfl⟩
  rw [← hn] at HP hw0 hl ⊢
  simp only [tokO] at hw0
  clear h hn hb3 hi
  go_enter Try.func20, Try.ntmps20
  go_wp2_with fail
  rw [← hw0]
  clear hw0
  refine HP.out.mono ?_
  rintro e w1 ⟨rfl, rfl⟩
  obtain ⟨m0, m1, m2, m3, m4, m5, m6, m7⟩ := tok_cells A0.out
  have fr0 := tok_free A0.out
  go_wp2
  exact ret_t2 (N := w.heap.size + 2) (t0 := {}) (W := w1) (t := {}) (k := 0) (z := 1) rfl rfl rfl rfl A0.out (.inr ⟨_, hE.out, rfl, tset_below HB0.out (by omega) _⟩)

set_option maxRecDepth 100000 in
set_option maxHeartbeats 4000000 in
theorem esc_two (x : Addr) (c : Nat) (l : List Int) (i : Nat) (w : World) (h : ReadsI w x l) (hi : i < l.length) (hl : l.length ≤ 300) (hpts : ∀ p ∈ l, 0 ≤ p ∧ p ≤ 1114111) : Calls Try.prog 20 #[.int .i64 2, .slice (some x) l.length c, .int .i64 i] w fun e w' => NextE (escT 2 l i) w e w' := by
  have hE : Hid (escT 2 l i = .ok (pointT l[i], i + 1)) := by show _ = _; unfold escT; rw [List.getElem?_eq_getElem hi]; rfl
  have hb3 := three_belowE w (.cells #[.slice (some x) l.length c] 22) (.cells #[.int .i64 i] 3) (tokO {})
  have hA := escA_first w x l.length c i (((i : Nat) : Int) + 1)
  obtain ⟨w0, hw0⟩ : ∃ w0, w0 = ((w.alloc (.cells #[.slice (some x) l.length c] 22)).alloc (.cells #[.int .i64 i] 3)).alloc (tokO {}) := ⟨_, rfl⟩
  have HB0 : Hid (Below w.heap.size w w0) := by show Below _ _ _; rw [hw0]; exact hb3
  have HZ0 : Hid (w0.heap.size = w.heap.size + 3) := by show _ = _; rw [hw0]; simp
  have C5 : w0.cell? ⟨w.heap.size + 1, 0, none⟩ = some (.int .i64 i) := by rw [hw0]; exact below_cellT ((Below.refl _ _).alloc (Nat.le_refl _) _) (World.cell?_alloc1 w _ _ 0 _ rfl)
  rw [← hw0] at hA
  have HP := hide (pointAt_any x c l i w0 (h.belowB HB0.out))
  have hpi := (hpts l[i] (List.getElem_mem _)).1
  rw [ptA_in hi] at HP
  obtain ⟨p, hp⟩ : ∃ p, p = l[i] := ⟨_, rfl⟩
  rw [← hp] at HP hE hpi
  obtain ⟨n, hn⟩ : ∃ n, n = l.length := ⟨_, rfl⟩
  rw [← hn] at HP hw0 hl hi hA ⊢
  simp only [tokO] at hw0
  clear h hn hb3 hp hpts
  obtain ⟨w1, hw1⟩ : ∃ w1, w1 = w0.alloc (.cells #[.int .i64 (((i : Nat) : Int) + 1)] 3) := ⟨_, rfl⟩
  rw [← hw1] at hA
  have HA := hide hA
  clear hA
  have HPt := hide (ptok_esc p w1.drew HA.out.drew)
  go_enter Try.func20, Try.ntmps20
  go_wp2_with fail
  rw [← hw0]
  clear hw0
  refine HP.out.mono ?_
  rintro e w2 ⟨rfl, rfl⟩
  have hz := HZ0.out
  go_upto_region 6 with fail
  rw [← hw1]
  clear hw1 hz C5
  have c3 := HA.out.next
  obtain ⟨m0, m1, m2, m3, m4, m5, m6, m7⟩ := tok_cells HA.out.tok
  have fr0 := tok_free HA.out.tok
  go_region_with (go_at_call 23; refine HPt.out.mono ?_; rintro e w3 ⟨rfl, hA3⟩; have n3 := hA3.next; obtain ⟨q0, q1, q2, q3, q4, q5, q6, q7⟩ := tok_cells hA3.tok; have fr3 := tok_free hA3.tok; have HA3 := hide hA3; clear hA3; simp only [tokV, pointT])
  all_goals (go_wp2; exact ret_t2 (N := w.heap.size + 2) (t0 := {}) (W := w3) (t := pointT p) (k := (i : Int) + 1) (z := 0) rfl rfl rfl rfl HA3.out.tok (.inl ⟨_, _, hE.out, rfl, tset_below HA3.out.below (by omega) _⟩))

end Go.Proofs.Ytlapnhjkhpgklaa
