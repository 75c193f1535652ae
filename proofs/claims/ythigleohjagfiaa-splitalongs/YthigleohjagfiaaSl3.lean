/- Roads that came in: what is read of them. -/
import Derived.Test.YthigleohjagfiaaSopen
import Derived.Test.YthigleohjagfiaaSp1
namespace Go.Proofs.Ythigleohjagfiaa
open Go.ChangeShapes Go.WideShapes Go.ChangeAt Go.RowKit
set_option linter.unusedVariables false

theorem cellsS : Try.prog.cellsOf 26 = 1 := by kernel_rfl
theorem cells_oneS {w : World} {base : Nat} {a : Addr} {cs : List Value} (h : w.cells? base a 1 = some cs) : ∃ u, cs = [u] ∧ w.cell? a = some u := by
  unfold World.cells? at h
  split at h
  · have e0 : a.add 0 = a := by simp [Addr.add]
    simp only [List.range_succ, List.range_zero, List.nil_append, List.mapM_cons, List.mapM_nil, e0] at h
    cases h0 : w.cell? a with
    | none => simp [h0] at h
    | some u => simp [h0] at h; exact ⟨u, h.symm, rfl⟩
  · cases h
theorem list_ofS {α : Type} {n : Nat} {P : Nat → α → Prop} (h : ∀ i, i < n → ∃ r, P i r) : ∃ L : List α, L.length = n ∧ ∀ i (hi : i < L.length), P i L[i] := by
  induction n with
  | zero => exact ⟨[], rfl, fun i hi => by simp at hi⟩
  | succ n ih =>
    obtain ⟨L, h1, h2⟩ := ih (fun i hi => h i (by omega))
    obtain ⟨r, hr⟩ := h n (by omega)
    refine ⟨L ++ [r], by simp [h1], fun i hi => ?_⟩
    by_cases hin : i < L.length
    · rw [List.getElem_append_left hin]; exact h2 i hin
    · have : i = n := by simp at hi; omega
      subst this
      rw [List.getElem_append_right (by omega)]
      simpa [h1] using hr
theorem open_lenS {H : Type} {enc : TypeId × Value → H} {w : World} {base : Nat} {sp : Nat → Bool} {held : Bool} {fuel : Nat} {v : Value} {x : DataW H × List MemPlace} {L : RL}
    (h : DataW.trod enc Try.prog w base sp held fuel 26 [v] = some x) (hL : Reads w v L) : L.length ≤ 9223372036854775807 := by
  rcases DataW.trod_slice Try.underlying26 h with ⟨hcs, _⟩ | ⟨a, len, cap, elems, rest, n, _, hcs, hx, _, hl, hm, hlen, hel, _⟩
  · cases hcs
    rcases hL with ⟨_, rfl⟩ | ⟨y, c, e, _⟩
    · simp
    · cases e
  · cases hcs
    rcases hL with ⟨e, _⟩ | ⟨y, c, e, _⟩
    · cases e
    · injection e with _ e2 _
      unfold maxLen at hm
      omega
/-- what came in can be read. -/
theorem open_roads {H : Type} {enc : TypeId × Value → H} {w : World} {base : Nat} {sp : Nat → Bool} {held : Bool} {fuel : Nat} {v : Value} {x : DataW H × List MemPlace}
    (h : DataW.trod enc Try.prog w base sp held fuel 22 [v] = some x) : ∃ LL, RdC w v LL := by
  rcases DataW.trod_slice Try.underlying22 h with ⟨hcs, _⟩ | ⟨a, len, cap, elems, rest, n, _, hcs, hx, _, hl, hm, hlen, hel, _⟩
  · cases hcs
    exact ⟨[], .inl ⟨rfl, rfl⟩⟩
  · cases hcs
    obtain ⟨LL, h1, h2⟩ := list_ofS (α := RL) (n := len) (P := fun i L => ∃ u, w.cell? (a.add (i * 1)) = some u ∧ Reads w u L ∧ L.length ≤ 9223372036854775807) (fun i hi => by
      have hE := hel i hi
      rw [cellsS, List.getElem?_eq_getElem (by omega)] at hE
      simp only [Option.bind_eq_some_iff] at hE
      obtain ⟨cs, hcs, ht⟩ := hE
      obtain ⟨u, rfl, hu⟩ := cells_oneS hcs
      obtain ⟨L, hL⟩ := open_ranges ht
      exact ⟨L, u, hu, hL, open_lenS ht hL⟩)
    refine ⟨LL, .inr ⟨a, cap, by rw [h1], ?_, fun j hj => h2 j hj⟩⟩
    unfold maxLen at hm
    omega

end Go.Proofs.Ythigleohjagfiaa
