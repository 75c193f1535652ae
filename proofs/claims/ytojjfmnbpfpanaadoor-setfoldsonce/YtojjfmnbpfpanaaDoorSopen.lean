/- A slice of ranges that came in: what is read of it. -/
import Derived.Test.YtojjfmnbpfpanaaDoorSbase
import Derived.Test.YtojjfmnbpfpanaaDoorRows
import Derived.WalkKit
import Derived.ProofKit
import Derived.OpenShut
import Derived.ChangeOld
import Derived.Below
namespace Go.Proofs.YtojjfmnbpfpanaaDoor
open Go.ChangeShapes Go.WideShapes Go.ChangeAt Go.RowKit
set_option linter.unusedVariables false

theorem own : ownKnob Tryd.prog.godebug = none := by kernel_rfl
theorem laidOut : laidOutB Tryd.prog = true := by kernel_rfl
theorem cellsR : Tryd.prog.cellsOf 35 = 2 := by kernel_rfl
theorem cells3 : Tryd.prog.cellsOf 3 = 1 := by kernel_rfl

theorem at_of_take {cs : List Value} {k : Nat} {v : Value} (h : (cs.drop k).take 1 = [v]) : cs[k]? = some v := by
  have := congrArg (·[0]?) h
  simpa [List.getElem?_take, List.getElem?_drop] using this
theorem one_cell {H : Type} {enc : TypeId × Value → H} {w : World} {base : Nat} {sp : Nat → Bool} {held : Bool} {fuel k : Nat} {cs : List Value} {x : DataW H × List MemPlace}
    (h : DataW.trod enc Tryd.prog w base sp held fuel 3 ((cs.drop k).take (Tryd.prog.cellsOf 3)) = some x) : ∃ n, cs[k]? = some (.int .i64 n) := by
  rw [cells3] at h
  obtain ⟨z, hz, hx, _⟩ := DataW.trod_int Tryd.underlying3 h
  exact ⟨z, at_of_take hz⟩
theorem range_cells {H : Type} {enc : TypeId × Value → H} {w : World} {base : Nat} {sp : Nat → Bool} {held : Bool} {fuel : Nat} {cs : List Value} {x : DataW H × List MemPlace}
    (h : DataW.trod enc Tryd.prog w base sp held fuel 35 cs = some x) : ∃ a b, cs[0]? = some (.int .i64 a) ∧ cs[1]? = some (.int .i64 b) := by
  obtain ⟨xs, n, rfl, hx, hl, hxl, hall⟩ := DataW.trod_struct Tryd.underlying35 h
  have hxl' : xs.length = 2 := hxl
  obtain ⟨x0, x1, rfl⟩ : ∃ x0 x1, xs = [x0, x1] := by
    match xs, hxl' with
    | [x0, x1], _ => exact ⟨x0, x1, rfl⟩
  obtain ⟨a, ha⟩ := one_cell (hall 0 _ rfl)
  obtain ⟨b, hb⟩ := one_cell (hall 1 _ rfl)
  exact ⟨a, b, ha, hb⟩
theorem cells_two {w : World} {base : Nat} {a : Addr} {cs : List Value} (h : w.cells? base a 2 = some cs) : ∃ u v, cs = [u, v] ∧ w.cell? a = some u ∧ w.cell? ⟨a.block, a.off + 1, none⟩ = some v := by
  unfold World.cells? at h
  split at h
  · have e0 : a.add 0 = a := by simp [Addr.add]
    have e1 : a.add 1 = ⟨a.block, a.off + 1, none⟩ := by simp [Addr.add]
    simp only [List.range_succ, List.range_zero, List.nil_append, List.cons_append, List.mapM_cons, List.mapM_nil, e0, e1] at h
    cases h0 : w.cell? a with
    | none => simp [h0] at h
    | some u =>
      cases h1 : w.cell? ⟨a.block, a.off + 1, none⟩ with
      | none => simp [h0, h1] at h
      | some v => simp [h0, h1] at h; exact ⟨u, v, h.symm, rfl, rfl⟩
  · cases h
theorem list_of {n : Nat} {P : Nat → Int × Int → Prop} (h : ∀ i, i < n → ∃ r, P i r) : ∃ L : RL, L.length = n ∧ ∀ i (hi : i < L.length), P i L[i] := by
  induction n with
  | zero => exact ⟨[], rfl, fun i hi => by simp at hi⟩
  | succ n ih =>
    obtain ⟨L, h1, h2⟩ := ih (fun i hi => h i (by omega))
    obtain ⟨r, hr⟩ := h n (by omega)
    refine ⟨L ++ [r], by simp [h1], fun i hi => ?_⟩
    by_cases hin : i < L.length
    · rw [List.getElem_append_left hin]; exact h2 i hin
    · have : i = n := by simp at hi; omega
      subst this
      rw [List.getElem_append_right (by omega)]
      simpa [h1] using hr
/-- what came in can be read. -/
theorem open_ranges {H : Type} {enc : TypeId × Value → H} {w : World} {base : Nat} {sp : Nat → Bool} {held : Bool} {fuel : Nat} {v : Value} {x : DataW H × List MemPlace}
    (h : DataW.trod enc Tryd.prog w base sp held fuel 22 [v] = some x) : ∃ L, Reads w v L := by
  rcases DataW.trod_slice Tryd.underlying22 h with ⟨hcs, _⟩ | ⟨a, len, cap, elems, rest, n, _, hcs, hx, _, hl, hm, hlen, hel, _⟩
  · cases hcs
    exact ⟨[], reads_nil w⟩
  · cases hcs
    obtain ⟨L, h1, h2⟩ := list_of (n := len) (P := fun i r => w.cell? (a.add (i * 2)) = some (.int .i64 r.1) ∧ w.cell? ⟨(a.add (i * 2)).block, (a.add (i * 2)).off + 1, none⟩ = some (.int .i64 r.2)) (fun i hi => by
      have hE := hel i hi
      rw [cellsR, List.getElem?_eq_getElem (by omega)] at hE
      simp only [Option.bind_eq_some_iff] at hE
      obtain ⟨cs, hcs, ht⟩ := hE
      obtain ⟨u, v, rfl, hu, hv⟩ := cells_two hcs
      obtain ⟨p, q, hp, hq⟩ := range_cells ht
      simp at hp hq
      exact ⟨(p, q), by rw [hu, hp], by rw [hv, hq]⟩)
    exact ⟨L, .inr ⟨a, cap, by rw [h1], fun j hj => h2 j hj⟩⟩

end Go.Proofs.YtojjfmnbpfpanaaDoor
