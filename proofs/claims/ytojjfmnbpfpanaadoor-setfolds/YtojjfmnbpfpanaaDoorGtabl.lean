/- What the rows' list gives: the table of letters lies in memory; a world that bears it. -/
import Derived.Test.YtojjfmnbpfpanaaDoorCards
import Derived.Test.YtojjfmnbpfpanaaDoorTie
import Derived.Test.YtojjfmnbpfpanaaDoorFOrbit
import Derived.WalkKit
import Derived.ProofKit
import Derived.OpenShut
import Derived.LaidLaws
import Derived.Deep.DeepHandedRow
namespace Go.Proofs.YtojjfmnbpfpanaaDoor.Fo
open Go.ChangeShapes Go.WideShapes Go.ChangeAt Go.RowKit

theorem own : ownKnob Tryd.prog.godebug = none := by kernel_rfl
theorem gTab : Tryd.prog.globalNamed "thicket/fold.letters" = some 0 := by kernel_rfl
theorem gTabType : (Tryd.prog.globals[0]?).map (·.type) = some 64 := by kernel_rfl
theorem cells64 : Tryd.prog.cellsOf 64 = 52 := by kernel_rfl
theorem cells63 : Tryd.prog.cellsOf 63 = 4 := by kernel_rfl
theorem cells3 : Tryd.prog.cellsOf 3 = 1 := by kernel_rfl

def rowD {H : Type} (r : Pr) : DataW H := .agg [.lit (.int .i64 r.first), .lit (.int .i64 r.last), .lit (.int .i64 r.step), .lit (.int .i64 r.shift)]
theorem letters_eq {H : Type} : (Rows.laid_thicket_fold_letters : DataW H) = .agg (lets.map rowD) := rfl

theorem at_of_take {cs : List Value} {k : Nat} {v : Value} (h : (cs.drop k).take 1 = [v]) : cs[k]? = some v := by
  have := congrArg (·[0]?) h
  simpa [List.getElem?_take, List.getElem?_drop] using this

theorem one_cell {H : Type} {enc : TypeId × Value → H} {w : World} {base : Nat} {sp : Nat → Bool} {held : Bool} {fuel k : Nat} {cs : List Value} {x : DataW H × List MemPlace} {n : Int}
    (h : DataW.trod enc Tryd.prog w base sp held fuel 3 ((cs.drop k).take (Tryd.prog.cellsOf 3)) = some x) (e : x.1 = .lit (.int .i64 n)) : cs[k]? = some (.int .i64 n) := by
  rw [cells3] at h
  obtain ⟨z, hz, hx, _⟩ := DataW.trod_int Tryd.underlying3 h
  rw [hx] at e
  cases e
  exact at_of_take hz

theorem row_cells {H : Type} {enc : TypeId × Value → H} {w : World} {base : Nat} {sp : Nat → Bool} {held : Bool} {fuel : Nat} {cs : List Value} {r : Pr} {x : DataW H × List MemPlace}
    (h : DataW.trod enc Tryd.prog w base sp held fuel 63 cs = some x) (e : x.1 = rowD r) :
    cs[0]? = some (.int .i64 r.first) ∧ cs[1]? = some (.int .i64 r.last) ∧ cs[2]? = some (.int .i64 r.step) ∧ cs[3]? = some (.int .i64 r.shift) := by
  obtain ⟨xs, n, rfl, hx, hl, hxl, hall⟩ := DataW.trod_struct Tryd.underlying63 h
  rw [hx] at e
  have hx3 : xs.map (·.1) = [.lit (.int .i64 r.first), .lit (.int .i64 r.last), .lit (.int .i64 r.step), .lit (.int .i64 r.shift)] := by
    simpa [rowD] using e
  obtain ⟨x0, x1, x2, x3, rfl⟩ : ∃ x0 x1 x2 x3, xs = [x0, x1, x2, x3] := by
    match xs, hx3 with
    | [x0, x1, x2, x3], _ => exact ⟨x0, x1, x2, x3, rfl⟩
  simp only [List.map_cons, List.map_nil, List.cons.injEq, and_true] at hx3
  obtain ⟨e0, e1, e2, e3⟩ := hx3
  exact ⟨one_cell (hall 0 _ rfl) e0, one_cell (hall 1 _ rfl) e1, one_cell (hall 2 _ rfl) e2, one_cell (hall 3 _ rfl) e3⟩

/-- WHAT THE ROW's LIST GIVES. -/
theorem table {W : World} (h : laidMetH Tryd.prog [("thicket/fold.letters", Rows.laid_thicket_fold_letters)] W) : Tab W ∧ 0 < W.heap.size := by
  have h' : laidMet Tryd.prog [("thicket/fold.letters", Rows.laid_thicket_fold_letters)] W := h
  obtain ⟨ps, ⟨g, t, cs, fuel, p, q, hg, ht, hvar, hd, _, _⟩, _⟩ := h'
  obtain rfl := Option.some.inj (gTab.symm.trans hg)
  obtain rfl := Option.some.inj (gTabType.symm.trans ht)
  have hcell : ∀ i, W.cell? ⟨0, i, none⟩ = cs[i]? := fun i => World.var?_cell gTab hvar i
  obtain ⟨xs, m, rfl, hx, hl, hxl, hall⟩ := DataW.trod_array Tryd.underlying64 hd
  rw [letters_eq] at hx
  have hxs : xs.map (·.1) = lets.map rowD := by
    have := congrArg Prod.fst hx
    simpa using this.symm
  have hrow : ∀ i (hi : i < 13), W.cell? ⟨0, i * 4, none⟩ = some (.int .i64 (lets[i]'hi).first) ∧ W.cell? ⟨0, i * 4 + 1, none⟩ = some (.int .i64 (lets[i]'hi).last) ∧ W.cell? ⟨0, i * 4 + 2, none⟩ = some (.int .i64 (lets[i]'hi).step) ∧ W.cell? ⟨0, i * 4 + 3, none⟩ = some (.int .i64 (lets[i]'hi).shift) := by
    intro i hi
    have hf := hall i hi
    rw [cells63] at hf
    rw [List.getElem?_eq_getElem (by omega)] at hf
    have he : (xs[i]'(by omega)).1 = rowD (lets[i]'hi) := by
      have h0 := congrArg (·[i]?) hxs
      simp only [List.getElem?_map] at h0
      rw [List.getElem?_eq_getElem (show i < xs.length by omega), List.getElem?_eq_getElem (show i < lets.length from hi)] at h0
      exact Option.some.inj h0
    obtain ⟨k0, k1, k2, k3⟩ := row_cells hf he
    simp only [List.getElem?_take, List.getElem?_drop, Array.getElem?_toList] at k0 k1 k2 k3
    simp only [hcell]
    exact ⟨by simpa using k0, by simpa using k1, by simpa using k2, by simpa using k3⟩
  refine ⟨hrow, ?_⟩
  have h0 := (hrow 0 (by decide)).1
  by_cases hz : 0 < W.heap.size
  · exact hz
  · simp [World.cell?, Array.getElem?_eq_none (show W.heap.size ≤ 0 by omega)] at h0

/-- A WORLD FOR THE WITNESS: the settled one, the table (block 0) holding what its initialiser lays. -/
noncomputable def laidWorld (os : Os) : World :=
  { World.holding Tryd.prog os ⟨#[], #[], []⟩ with heap := (World.holding Tryd.prog os ⟨#[], #[], []⟩).heap.modify 0 fun
      | .cells _ t frozen => .cells (lets.flatMap fun r => [.int .i64 r.first, .int .i64 r.last, .int .i64 r.step, .int .i64 r.shift]).toArray t frozen
      | o => o }

end Go.Proofs.YtojjfmnbpfpanaaDoor.Fo
