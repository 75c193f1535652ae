/- What the writer of the two encodings by units appends to a row of bytes that the call owns. -/
import Derived.Test.YtihnaihmpokiiaaWrite
import Derived.Laws.BitsLemmas
import Derived.Laws.Bits64
namespace Go.Proofs.Ytihnaihmpokiiaa
open Go.RowKit
set_option linter.unusedVariables false

theorem grown_of_alloc {w w' : World} {o : Obj} {r : Option Nat} (h : (w.alloc o).grownBy w' r) : w.grownBy w' r :=
  ⟨h.os, h.tape, h.output, by have := h.size; simp at this; omega, fun k hk hr => by rw [h.block k (by simp; omega) hr]; exact Below.heap_alloc _ _ _ hk⟩

set_option maxHeartbeats 1000000 in
set_option maxRecDepth 100000 in
theorem unit_le (B : Nat) (v : Value) (n : Nat) (xs : List Value) (r : Int) (h0 : 0 ≤ r) (h1 : r < 65536) (w : World) (hown : w.ownsRow B 5 1 v n xs) (hlen : n + 4 ≤ 140737488355328) (hBw : B ≤ w.heap.size) :
    Calls Try.prog 47 #[.agg #[.int .i64 0, .int .i64 1], v, .int .i64 r] w fun e w' => ∃ v', e = .returned v' ∧ w'.ownsRow B 5 1 v' (n + 2) (xs ++ u8s [r % 256, r / 256]) ∧ w.grownBy w' v.ownBlock := by
  obtain ⟨i0, hi, hz0, hz1, hz2⟩ := info_parts Try.info5
  go_enter Try.func47, Try.ntmps47
  go_wp2_with (at_builtin; refine wpList_append_own _ rfl _ _ 34 rfl B 5 i0 (.int .u8 0) 1 1 Try.underlying34 hi hz0 hz1 hz2 rfl (by decide) _ _ _ rfl (((hown.alloc _).alloc _).alloc _) ⟨w.heap.size + 1 + 1, 0, none⟩ 2 2 [.int .u8 (r % 256), .int .u8 (r / 256)] rfl rfl ?c1 ?c2 ?c3 ?c4 ?c5 ?_)
  case c1 =>
    intro j u hj
    match j, hj with
    | 0, hj => simp at hj; subst hj; exact World.cell?_alloc_at _ _ _ _ (by simp)
    | 1, hj => simp at hj; subst hj; exact World.cell?_alloc_at _ _ _ _ (by simp)
    | (j + 2), hj => simp at hj
  case c2 => intro u hu; simp at hu; rcases hu with rfl | rfl <;> rfl
  case c3 => unfold maxLen; omega
  case c4 => omega
  case c5 => simp; omega
  intro v' w2 hown' hgrow _
  go_wp2
  go_ret
  exact ⟨_, rfl, hown', grown_of_alloc (grown_of_alloc (grown_of_alloc hgrow))⟩

set_option maxHeartbeats 1000000 in
set_option maxRecDepth 100000 in
theorem unit_be (B : Nat) (v : Value) (n : Nat) (xs : List Value) (r : Int) (h0 : 0 ≤ r) (h1 : r < 65536) (w : World) (hown : w.ownsRow B 5 1 v n xs) (hlen : n + 4 ≤ 140737488355328) (hBw : B ≤ w.heap.size) :
    Calls Try.prog 47 #[.agg #[.int .i64 1, .int .i64 0], v, .int .i64 r] w fun e w' => ∃ v', e = .returned v' ∧ w'.ownsRow B 5 1 v' (n + 2) (xs ++ u8s [r / 256, r % 256]) ∧ w.grownBy w' v.ownBlock := by
  obtain ⟨i0, hi, hz0, hz1, hz2⟩ := info_parts Try.info5
  go_enter Try.func47, Try.ntmps47
  go_wp2_with (at_builtin; refine wpList_append_own _ rfl _ _ 34 rfl B 5 i0 (.int .u8 0) 1 1 Try.underlying34 hi hz0 hz1 hz2 rfl (by decide) _ _ _ rfl (((hown.alloc _).alloc _).alloc _) ⟨w.heap.size + 1 + 1, 0, none⟩ 2 2 [.int .u8 (r / 256), .int .u8 (r % 256)] rfl rfl ?c1 ?c2 ?c3 ?c4 ?c5 ?_)
  case c1 =>
    intro j u hj
    match j, hj with
    | 0, hj => simp at hj; subst hj; exact World.cell?_alloc_at _ _ _ _ (by simp)
    | 1, hj => simp at hj; subst hj; exact World.cell?_alloc_at _ _ _ _ (by simp)
    | (j + 2), hj => simp at hj
  case c2 => intro u hu; simp at hu; rcases hu with rfl | rfl <;> rfl
  case c3 => unfold maxLen; omega
  case c4 => omega
  case c5 => simp; omega
  intro v' w2 hown' hgrow _
  go_wp2
  go_ret
  exact ⟨_, rfl, hown', grown_of_alloc (grown_of_alloc (grown_of_alloc hgrow))⟩

theorem and1023 (x : Int) (h0 : 0 ≤ x) (h1 : x < 9223372036854775808) : bits .and .i64 x 1023 = x % 1024 := by
  have h := bits_mask .i64 63 (by decide) (fun n a b => by rw [IntKind.wrap_i64]; omega) 10 (by decide) x h0 (by omega)
  have e : ((2 : Int) ^ 10 - 1) = 1023 := by decide
  have e2 : ((2 : Int) ^ 10) = 1024 := by decide
  rw [e, e2] at h
  exact h

/-- which byte is the lower one. -/
def recv16 (enc : Int) : Value := if enc = 2 then .agg #[.int .i64 0, .int .i64 1] else .agg #[.int .i64 1, .int .i64 0]

theorem unit_any (enc : Int) (he : enc = 2 ∨ enc = 3) (B : Nat) (v : Value) (n : Nat) (xs : List Value) (r : Int) (h0 : 0 ≤ r) (h1 : r < 65536) (w : World) (hown : w.ownsRow B 5 1 v n xs) (hlen : n + 4 ≤ 140737488355328) (hBw : B ≤ w.heap.size) :
    Calls Try.prog 47 #[recv16 enc, v, .int .i64 r] w fun e w' => ∃ v', e = .returned v' ∧ w'.ownsRow B 5 1 v' (n + 2) (xs ++ u8s (unitL enc r)) ∧ w.grownBy w' v.ownBlock := by
  rcases he with rfl | rfl
  · exact unit_le B v n xs r h0 h1 w hown hlen hBw
  · exact unit_be B v n xs r h0 h1 w hown hlen hBw

theorem unitL_length (enc u : Int) : (unitL enc u).length = 2 := by unfold unitL; split <;> rfl
theorem u8s_append (a b : List Int) : u8s (a ++ b) = u8s a ++ u8s b := by simp [u8s]
theorem below_own {B : Nat} {w w' : World} {v : Value} {n : Nat} {xs : List Value} (hown : w.ownsRow B 5 1 v n xs) (hB : B ≤ w.heap.size) (hg : w.grownBy w' v.ownBlock) : Below B w w' :=
  (Below.refl B w).grown hg hB (fun k hk => (hown.lt k hk).1)
/-- the box that was laid last, behind an append to an older row. -/
theorem box_kept {B : Nat} {w w' : World} {v : Value} {n : Nat} {xs : List Value} {o : Obj} (hown : w.ownsRow B 5 1 v n xs) (hg : (w.alloc o).grownBy w' v.ownBlock) : ∀ j, w'.cell? ⟨w.heap.size, j, none⟩ = (w.alloc o).cell? ⟨w.heap.size, j, none⟩ :=
  fun j => World.cell?_of_block (hg.block _ (by simp) (fun e => by have := (hown.lt _ e.symm).2; simp at this))

set_option maxHeartbeats 1000000 in
set_option maxRecDepth 100000 in
theorem write16_any (enc : Int) (he : enc = 2 ∨ enc = 3) (B : Nat) (v : Value) (n : Nat) (xs : List Value) (p : Int) (hs : sclB p = true) (w : World) (hown : w.ownsRow B 5 1 v n xs) (hlen : n + 6 ≤ 140737488355328) (hBw : B ≤ w.heap.size) :
    Calls Try.prog 45 #[recv16 enc, v, .int .i64 p] w fun e w' => ∃ v', e = .returned v' ∧ w'.ownsRow B 5 1 v' (n + (bytes16 enc p).length) (xs ++ u8s (bytes16 enc p)) ∧ Below B w w' := by
  simp [sclB] at hs
  obtain ⟨h0, h1, h2⟩ := hs
  have H2 : Hid (∀ r, 0 ≤ r → r < 65536 → ∀ (v : Value) n xs (w : World), n + 4 ≤ 140737488355328 → w.ownsRow B 5 1 v n xs → B ≤ w.heap.size → Calls Try.prog 47 #[recv16 enc, v, .int .i64 r] w fun e w' => ∃ v', e = .returned v' ∧ w'.ownsRow B 5 1 v' (n + 2) (xs ++ u8s (unitL enc r)) ∧ w.grownBy w' v.ownBlock) := fun r g0 g1 v n xs w g2 ho hB => unit_any enc he B v n xs r g0 g1 w ho g2 hB
  by_cases hlt : p < 65536
  · have E : bytes16 enc p = unitL enc p := by simp [bytes16, hlt]
    rw [E, unitL_length]; clear E
    rcases he with rfl | rfl
    all_goals
      simp only [recv16] at H2
      simp only [recv16]
      go_enter Try.func45, Try.ntmps45
      go_wp2_with (go_at_call 47; refine (H2.out p h0 hlt v n xs _ (by omega) (hown.alloc _) (by simp; omega)).mono ?_; rintro e w' ⟨v', rfl, ho, hb⟩)
      go_ret
      exact ⟨_, rfl, ho, ((Below.refl B w).alloc hBw _).trans (below_own (hown.alloc _) (by simp; omega) hb)⟩
  · have E : bytes16 enc p = unitL enc (55296 + (p - 65536) / 1024) ++ unitL enc (56320 + (p - 65536) % 1024) := by simp [bytes16, hlt]
    rw [E, List.length_append, unitL_length, unitL_length, u8s_append]; clear E
    rcases he with rfl | rfl
    all_goals
      simp only [recv16] at H2
      simp only [recv16]
      have hand := and1023 (p - 65536) (by omega) (by omega)
      go_enter Try.func45, Try.ntmps45
      go_wp2_with fail
      refine (H2.out (55296 + (p - 65536) / 1024) (by omega) (by omega) v n xs _ (by omega) (hown.alloc _) (by simp; omega)).mono ?_
      rintro e w1 ⟨v1, rfl, ho1, hb1⟩
      have hk := box_kept hown hb1
      have k0 := hk 0
      have k1 := hk 1
      clear hk
      rw [World.cell?_alloc_at _ _ _ _ rfl] at k0 k1
      go_wp2_with fail
      refine (H2.out (56320 + (p - 65536) % 1024) (by omega) (by omega) v1 (n + 2) _ _ (by omega) ho1 (by have := hb1.size; simp at this; omega)).mono ?_
      rintro e w2 ⟨v2, rfl, ho2, hb2⟩
      go_wp2
      go_ret
      exact ⟨_, rfl, by rw [List.append_assoc] at ho2; exact ho2, (((Below.refl B w).alloc hBw _).trans (below_own (hown.alloc _) (by simp; omega) hb1)).trans (below_own ho1 (by have := hb1.size; simp at this; omega) hb2)⟩

end Go.Proofs.Ytihnaihmpokiiaa
