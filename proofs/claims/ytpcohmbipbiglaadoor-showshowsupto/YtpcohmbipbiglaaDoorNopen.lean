/- A tree that came in: what is read of it. -/
import Derived.Test.YtpcohmbipbiglaaDoorSopen
import Derived.Test.YtpcohmbipbiglaaDoorNbase
namespace Go.Proofs.YtpcohmbipbiglaaDoor
open Go.ChangeShapes Go.WideShapes Go.ChangeAt Go.RowKit
set_option linter.unusedVariables false

theorem cellsN : Tryd.prog.cellsOf 25 = 8 := by kernel_rfl
theorem cellsSet : Tryd.prog.cellsOf 22 = 1 := by kernel_rfl
theorem cellsKids : Tryd.prog.cellsOf 23 = 1 := by kernel_rfl
theorem cells4 : Tryd.prog.cellsOf 4 = 1 := by kernel_rfl
theorem adde (x : Addr) {k : Nat} (hk : k ≠ 0) : x.add k = ⟨x.block, x.off + k, none⟩ := by unfold Addr.add; rw [if_neg hk]
theorem addz (x : Addr) : x.add 0 = x := by unfold Addr.add; split <;> simp_all
theorem cells_at {w : World} {base n : Nat} {a : Addr} {cs : List Value} (h : w.cells? base a n = some cs) : cs.length = n ∧ ∀ k, k < n → w.cell? (a.add k) = cs[k]? := by
  unfold World.cells? at h
  split at h
  · exact ⟨by simpa using mapM_some_length h, fun k hk => mapM_some_get h k k (by simp [hk])⟩
  · cases h
theorem list_of' {α : Type} {n : Nat} {P : Nat → α → Prop} (h : ∀ i, i < n → ∃ r, P i r) : ∃ L : List α, L.length = n ∧ ∀ i (hi : i < L.length), P i L[i] := by
  induction n with
  | zero => exact ⟨[], rfl, fun i hi => by simp at hi⟩
  | succ n ih =>
    obtain ⟨L, h1, h2⟩ := ih (fun i hi => h i (by omega))
    obtain ⟨r, hr⟩ := h n (by omega)
    refine ⟨L ++ [r], by simp [h1], fun i hi => ?_⟩
    by_cases hin : i < L.length
    · rw [List.getElem_append_left hin]; exact h2 i hin
    · have : i = n := by simp at hi; omega
      subst this
      rw [List.getElem_append_right (by omega)]
      simpa [h1] using hr
abbrev nvL (n : NV) : List Value := [.int .i64 n.kind, .slice n.sa n.sl n.sc, .slice n.ka n.kl n.kc, .int .i64 n.num, .int .i64 n.least, .int .i64 n.most, .int .i64 n.way, .bool n.fold]
theorem ncells_of {w : World} {base : Nat} {a : Addr} {n : NV} (h : w.cells? base a 8 = some (nvL n)) : NCells w a n := by
  obtain ⟨_, h⟩ := cells_at h
  have e0 := h 0 (by omega)
  rw [addz] at e0
  have g : ∀ k, k < 8 → k ≠ 0 → w.cell? ⟨a.block, a.off + k, none⟩ = (nvL n)[k]? := fun k hk h0 => by rw [← adde a h0]; exact h k hk
  exact ⟨e0, g 1 (by omega) (by omega), g 2 (by omega) (by omega), g 3 (by omega) (by omega), g 4 (by omega) (by omega), g 5 (by omega) (by omega), g 6 (by omega) (by omega), g 7 (by omega) (by omega)⟩
theorem eight {α : Type} {cs : List α} (h : cs.length = 8) : ∃ a b c d e f g i, cs = [a, b, c, d, e, f, g, i] := by
  match cs, h with
  | [a, b, c, d, e, f, g, i], _ => exact ⟨a, b, c, d, e, f, g, i, rfl⟩
theorem bool_cell {H : Type} {enc : TypeId × Value → H} {w : World} {base : Nat} {sp : Nat → Bool} {held : Bool} {fuel k : Nat} {cs : List Value} {x : DataW H × List MemPlace}
    (h : DataW.trod enc Tryd.prog w base sp held fuel 4 ((cs.drop k).take (Tryd.prog.cellsOf 4)) = some x) : ∃ b, cs[k]? = some (.bool b) := by
  rw [cells4] at h
  obtain ⟨z, hz, hx⟩ := DataW.trod_bool Tryd.underlying4 h
  exact ⟨z, at_of_take hz⟩
/-- what came in can be read. -/
theorem open_node {H : Type} {enc : TypeId × Value → H} {w : World} {base : Nat} {sp : Nat → Bool} {held : Bool} : ∀ (fuel : Nat) {cs : List Value} {x : DataW H × List MemPlace},
    DataW.trod enc Tryd.prog w base sp held fuel 25 cs = some x → ∃ (n : NV) (t : Tr), cs = nvL n ∧ NodeC w n t := by
  intro fuel
  induction fuel using Nat.strongRecOn with
  | _ fuel ih =>
    intro cs x h
    obtain ⟨xs, m, rfl, hx, hl, hxl, hall⟩ := DataW.trod_struct Tryd.underlying25 h
    rw [cellsN] at hl
    obtain ⟨v0, v1, v2, v3, v4, v5, v6, v7, rfl⟩ := eight hl
    obtain ⟨x0, x1, x2, x3, x4, x5, x6, x7, rfl⟩ := eight (show xs.length = 8 from hxl)
    obtain ⟨a0, e0⟩ := one_cell (hall 0 _ rfl)
    obtain ⟨a3, e3⟩ := one_cell (hall 3 _ rfl)
    obtain ⟨a4, e4⟩ := one_cell (hall 4 _ rfl)
    obtain ⟨a5, e5⟩ := one_cell (hall 5 _ rfl)
    obtain ⟨a6, e6⟩ := one_cell (hall 6 _ rfl)
    obtain ⟨a7, e7⟩ := bool_cell (hall 7 _ rfl)
    simp at e0 e3 e4 e5 e6 e7
    subst e0 e3 e4 e5 e6 e7
    have h1 : DataW.trod enc Tryd.prog w base sp held m 22 [v1] = some x1 := by
      have := hall 1 _ rfl
      simpa [cellsSet] using this
    have h2 : DataW.trod enc Tryd.prog w base sp held m 23 [v2] = some x2 := by
      have := hall 2 _ rfl
      simpa [cellsKids] using this
    obtain ⟨sa, sl, sc, rfl⟩ : ∃ a l c, v1 = .slice a l c := by
      rcases DataW.trod_slice Tryd.underlying22 h1 with ⟨hcs, _⟩ | ⟨a, len, cap, elems, rest, n, _, hcs, _⟩
      · cases hcs; exact ⟨_, _, _, rfl⟩
      · cases hcs; exact ⟨_, _, _, rfl⟩
    obtain ⟨L, hL⟩ := open_ranges h1
    rcases DataW.trod_slice Tryd.underlying23 h2 with ⟨hcs, _⟩ | ⟨a, len, cap, elems, rest, k, hk, hcs, hx, _, hlc, hm, hlen, hel, _⟩
    · cases hcs
      exact ⟨⟨a0, sa, sl, sc, none, 0, 0, a3, a4, a5, a6, a7⟩, _, rfl, .mk _ L [] (fun _ => ⟨0, none, 0, 0, none, 0, 0, 0, 0, 0, 0, false⟩) hL (.inl ⟨rfl, rfl, rfl, rfl⟩) (fun j hj => by simp at hj)⟩
    · cases hcs
      obtain ⟨K, h3, h4⟩ := list_of' (α := NV × Tr) (n := len) (P := fun i r => NCells w (a.add (i * 8)) r.1 ∧ NodeC w r.1 r.2) (fun i hi => by
        have hE := hel i hi
        rw [cellsN, List.getElem?_eq_getElem (by omega)] at hE
        simp only [Option.bind_eq_some_iff] at hE
        obtain ⟨cs, hcs, ht⟩ := hE
        obtain ⟨n, t, rfl, hn⟩ := ih k (by omega) ht
        exact ⟨(n, t), ncells_of hcs, hn⟩)
      refine ⟨⟨a0, sa, sl, sc, some a, len, cap, a3, a4, a5, a6, a7⟩, _, rfl, .mk _ L (K.map (·.2)) (fun j => (K.getD j (⟨0, none, 0, 0, none, 0, 0, 0, 0, 0, 0, false⟩, .mk 0 0 0 0 0 false [] [])).1) hL (.inr ⟨a, rfl, by simp [h3], ⟨by simp [h3]; exact hlc, by have := hm; unfold maxLen at this; omega⟩, fun j hj => ?_⟩) (fun j hj => ?_)⟩
      · have hj' : j < K.length := by simpa using hj
        have := (h4 j hj').1
        simpa [List.getD, hj'] using this
      · have hj' : j < K.length := by simpa using hj
        have := (h4 j hj').2
        simpa [List.getD, hj'] using this

end Go.Proofs.YtpcohmbipbiglaaDoor
