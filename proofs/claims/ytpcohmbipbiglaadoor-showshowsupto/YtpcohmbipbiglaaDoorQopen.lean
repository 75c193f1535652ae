/- A tree that came in: no more kids than a machine can hold. -/
import Derived.Test.YtpcohmbipbiglaaDoorNopen
import Derived.Test.YtpcohmbipbiglaaDoorQdeep
import Derived.SizedLaws
namespace Go.Proofs.YtpcohmbipbiglaaDoor
open Go.ChangeShapes Go.WideShapes Go.ChangeAt Go.RowKit
set_option linter.unusedVariables false

theorem bytesN : Tryd.prog.bytesOf 25 = 96 := by kernel_rfl
theorem weights_all {H : Type} {P : Program} {e : TypeId} : ∀ {l : List (DataW H)} {d : DataW H}, d ∈ l → ∀ k ∈ d.weights P e, k ∈ DataW.weightsAll P e l
  | x :: l, d, hd, k, hk => by
    rw [DataW.weightsAll, List.mem_append]
    rcases List.mem_cons.1 hd with rfl | hd
    · exact .inl hk
    · exact .inr (weights_all hd k hk)
/-- what came in can be read, and is not beyond what a machine holds. -/
theorem open_node_sm {H : Type} {enc : TypeId × Value → H} {w : World} {base : Nat} {sp : Nat → Bool} {held : Bool} : ∀ (fuel : Nat) {cs : List Value} {x : DataW H × List MemPlace},
    DataW.trod enc Tryd.prog w base sp held fuel 25 cs = some x → (∀ k ∈ x.1.weights Tryd.prog 25, k ≤ reachBytes) → ∃ (n : NV) (t : Tr), cs = nvL n ∧ NodeC w n t ∧ smT t := by
  intro fuel
  induction fuel using Nat.strongRecOn with
  | _ fuel ih =>
    intro cs x h hwt
    obtain ⟨xs, m, rfl, hx, hl, hxl, hall⟩ := DataW.trod_struct Tryd.underlying25 h
    rw [cellsN] at hl
    obtain ⟨v0, v1, v2, v3, v4, v5, v6, v7, rfl⟩ := eight hl
    obtain ⟨x0, x1, x2, x3, x4, x5, x6, x7, rfl⟩ := eight (show xs.length = 8 from hxl)
    obtain ⟨a0, e0⟩ := one_cell (hall 0 _ rfl)
    obtain ⟨a3, e3⟩ := one_cell (hall 3 _ rfl)
    obtain ⟨a4, e4⟩ := one_cell (hall 4 _ rfl)
    obtain ⟨a5, e5⟩ := one_cell (hall 5 _ rfl)
    obtain ⟨a6, e6⟩ := one_cell (hall 6 _ rfl)
    obtain ⟨a7, e7⟩ := bool_cell (hall 7 _ rfl)
    simp at e0 e3 e4 e5 e6 e7
    subst e0 e3 e4 e5 e6 e7
    have h1 : DataW.trod enc Tryd.prog w base sp held m 22 [v1] = some x1 := by
      have := hall 1 _ rfl
      simpa [cellsSet] using this
    have h2 : DataW.trod enc Tryd.prog w base sp held m 23 [v2] = some x2 := by
      have := hall 2 _ rfl
      simpa [cellsKids] using this
    have hw2 : ∀ k ∈ x2.1.weights Tryd.prog 23, k ≤ reachBytes := fun k hk => hwt k (by
      rw [hx]
      simp only [DataW.weights, Tryd.underlying25]
      exact DataW.weights_mem_each (j := 2) (t := 23) (d := x2.1) rfl rfl k hk)
    obtain ⟨sa, sl, sc, rfl⟩ : ∃ a l c, v1 = .slice a l c := by
      rcases DataW.trod_slice Tryd.underlying22 h1 with ⟨hcs, _⟩ | ⟨a, len, cap, elems, rest, n, _, hcs, _⟩
      · cases hcs; exact ⟨_, _, _, rfl⟩
      · cases hcs; exact ⟨_, _, _, rfl⟩
    obtain ⟨L, hL⟩ := open_ranges h1
    rcases DataW.trod_slice Tryd.underlying23 h2 with ⟨hcs, _⟩ | ⟨a, len, cap, elems, rest, k, hk, hcs, hx2, _, hlc, hm, hlen, hel, _⟩
    · cases hcs
      exact ⟨⟨a0, sa, sl, sc, none, 0, 0, a3, a4, a5, a6, a7⟩, _, rfl, .mk _ L [] (fun _ => ⟨0, none, 0, 0, none, 0, 0, 0, 0, 0, 0, false⟩) hL (.inl ⟨rfl, rfl, rfl, rfl⟩) (fun j hj => by simp at hj), ⟨by simp, trivial⟩⟩
    · cases hcs
      have hw3 : ∀ k ∈ (DataW.slice (elems.map (·.1)) (rest.map (·.1))).weights Tryd.prog 23, k ≤ reachBytes := by rw [hx2] at hw2; exact hw2
      simp only [DataW.weights, Tryd.underlying23, bytesN] at hw3
      have hbig := hw3 _ (List.mem_cons_self ..)
      obtain ⟨K, h3, h4⟩ := list_of' (α := NV × Tr) (n := len) (P := fun i r => NCells w (a.add (i * 8)) r.1 ∧ NodeC w r.1 r.2 ∧ smT r.2) (fun i hi => by
        have hE := hel i hi
        rw [cellsN, List.getElem?_eq_getElem (by omega)] at hE
        simp only [Option.bind_eq_some_iff] at hE
        obtain ⟨cs, hcs, ht⟩ := hE
        obtain ⟨n, t, rfl, hn, hs⟩ := ih k (by omega) ht (fun q hq => hw3 q (by
          refine List.mem_cons_of_mem _ (List.mem_append_left _ (weights_all (d := (elems[i]'(by omega)).1) ?_ q hq))
          exact List.mem_map.2 ⟨_, List.getElem_mem _, rfl⟩))
        exact ⟨(n, t), ncells_of hcs, hn, hs⟩)
      refine ⟨⟨a0, sa, sl, sc, some a, len, cap, a3, a4, a5, a6, a7⟩, _, rfl, .mk _ L (K.map (·.2)) (fun j => (K.getD j (⟨0, none, 0, 0, none, 0, 0, 0, 0, 0, 0, false⟩, .mk 0 0 0 0 0 false [] [])).1) hL (.inr ⟨a, rfl, by simp [h3], ⟨by simp [h3]; exact hlc, by have := hm; unfold maxLen at this; omega⟩, fun j hj => ?_⟩) (fun j hj => ?_), ?_⟩
      · have hj' : j < K.length := by simpa using hj
        have := (h4 j hj').1
        simpa [List.getD, hj'] using this
      · have hj' : j < K.length := by simpa using hj
        have := (h4 j hj').2.1
        simpa [List.getD, hj'] using this
      · rw [smT_kids]
        refine ⟨?_, smL_of (fun u hu => ?_)⟩
        · show (K.map (·.2)).length ≤ _
          rw [List.length_map, h3, ← hlen]
          simp only [List.length_map] at hbig
          have : reachBytes < 2 ^ 47 := reachBytes_lt
          omega
        · obtain ⟨r, hr, rfl⟩ := List.mem_map.1 hu
          obtain ⟨i, hi, rfl⟩ := List.getElem_of_mem hr
          exact (h4 i hi).2.2

end Go.Proofs.YtpcohmbipbiglaaDoor
