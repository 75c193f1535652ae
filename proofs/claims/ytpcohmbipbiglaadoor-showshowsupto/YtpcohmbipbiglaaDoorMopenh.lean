/- A pattern that came in, where it is of no great bulk. -/
import Derived.Test.YtpcohmbipbiglaaDoorQopen
import Derived.Test.YtpcohmbipbiglaaDoorMallh
namespace Go.Proofs.YtpcohmbipbiglaaDoor
open Go.ChangeShapes Go.WideShapes Go.ChangeAt Go.RowKit
set_option linter.unusedVariables false

theorem bulk_one {H : Type} (d : DataW H) : 1 ≤ Rows.uptoBulk d := by
  cases d with
  | lit l => cases l <;> simp [Rows.uptoBulk]
  | nil => simp [Rows.uptoBulk]
  | ptr d => simp [Rows.uptoBulk]
  | slice elems spare => simp [Rows.uptoBulk]
  | agg parts => simp [Rows.uptoBulk]
  | iface t d => simp [Rows.uptoBulk]
  | map entries => simp [Rows.uptoBulk]
  | held h => simp [Rows.uptoBulk]
theorem bulk_len {H : Type} (l : List (DataW H)) : l.length ≤ Rows.uptoBulkAll l := by
  induction l with
  | nil => simp [Rows.uptoBulkAll]
  | cons x r ih => have := bulk_one x; simp only [Rows.uptoBulkAll, List.length_cons]; omega
theorem bulk_bound {H : Type} {l : List (DataW H)} (hk : Rows.uptoSmall H l = true) : Rows.uptoBulkAll l ≤ 1048576 := of_decide_eq_true hk

theorem bulk_mem {H : Type} : ∀ {l : List (DataW H)} {d : DataW H}, d ∈ l → Rows.uptoBulk d ≤ Rows.uptoBulkAll l
  | x :: l, d, hd => by
    rw [Rows.uptoBulkAll]
    rcases List.mem_cons.1 hd with rfl | hd
    · omega
    · have := bulk_mem hd; omega
/-- what came in can be read, and is not beyond what a machine holds. -/
theorem open_node_bk {H : Type} {enc : TypeId × Value → H} {w : World} {base : Nat} {sp : Nat → Bool} {held : Bool} : ∀ (fuel : Nat) {cs : List Value} {x : DataW H × List MemPlace},
    DataW.trod enc Tryd.prog w base sp held fuel 25 cs = some x → Rows.uptoBulk x.1 ≤ 1048576 → ∃ (n : NV) (t : Tr), cs = nvL n ∧ NodeC w n t ∧ smT t := by
  intro fuel
  induction fuel using Nat.strongRecOn with
  | _ fuel ih =>
    intro cs x h hwt
    obtain ⟨xs, m, rfl, hx, hl, hxl, hall⟩ := DataW.trod_struct Tryd.underlying25 h
    rw [cellsN] at hl
    obtain ⟨v0, v1, v2, v3, v4, v5, v6, v7, rfl⟩ := eight hl
    obtain ⟨x0, x1, x2, x3, x4, x5, x6, x7, rfl⟩ := eight (show xs.length = 8 from hxl)
    obtain ⟨a0, e0⟩ := one_cell (hall 0 _ rfl)
    obtain ⟨a3, e3⟩ := one_cell (hall 3 _ rfl)
    obtain ⟨a4, e4⟩ := one_cell (hall 4 _ rfl)
    obtain ⟨a5, e5⟩ := one_cell (hall 5 _ rfl)
    obtain ⟨a6, e6⟩ := one_cell (hall 6 _ rfl)
    obtain ⟨a7, e7⟩ := bool_cell (hall 7 _ rfl)
    simp at e0 e3 e4 e5 e6 e7
    subst e0 e3 e4 e5 e6 e7
    have h1 : DataW.trod enc Tryd.prog w base sp held m 22 [v1] = some x1 := by
      have := hall 1 _ rfl
      simpa [cellsSet] using this
    have h2 : DataW.trod enc Tryd.prog w base sp held m 23 [v2] = some x2 := by
      have := hall 2 _ rfl
      simpa [cellsKids] using this
    have hw2 : Rows.uptoBulk x2.1 ≤ 1048576 := by
      rw [hx] at hwt
      simp only [List.map_cons, List.map_nil, Rows.uptoBulk, Rows.uptoBulkAll] at hwt
      omega
    obtain ⟨sa, sl, sc, rfl⟩ : ∃ a l c, v1 = .slice a l c := by
      rcases DataW.trod_slice Tryd.underlying22 h1 with ⟨hcs, _⟩ | ⟨a, len, cap, elems, rest, n, _, hcs, _⟩
      · cases hcs; exact ⟨_, _, _, rfl⟩
      · cases hcs; exact ⟨_, _, _, rfl⟩
    obtain ⟨L, hL⟩ := open_ranges h1
    rcases DataW.trod_slice Tryd.underlying23 h2 with ⟨hcs, _⟩ | ⟨a, len, cap, elems, rest, k, hk, hcs, hx2, _, hlc, hm, hlen, hel, _⟩
    · cases hcs
      exact ⟨⟨a0, sa, sl, sc, none, 0, 0, a3, a4, a5, a6, a7⟩, _, rfl, .mk _ L [] (fun _ => ⟨0, none, 0, 0, none, 0, 0, 0, 0, 0, 0, false⟩) hL (.inl ⟨rfl, rfl, rfl, rfl⟩) (fun j hj => by simp at hj), ⟨by simp, trivial⟩⟩
    · cases hcs
      have hw3 : Rows.uptoBulkAll (elems.map (·.1)) ≤ 1048576 := by
        rw [hx2] at hw2
        simp only [Rows.uptoBulk] at hw2
        omega
      obtain ⟨K, h3, h4⟩ := list_of' (α := NV × Tr) (n := len) (P := fun i r => NCells w (a.add (i * 8)) r.1 ∧ NodeC w r.1 r.2 ∧ smT r.2) (fun i hi => by
        have hE := hel i hi
        rw [cellsN, List.getElem?_eq_getElem (by omega)] at hE
        simp only [Option.bind_eq_some_iff] at hE
        obtain ⟨cs, hcs, ht⟩ := hE
        obtain ⟨n, t, rfl, hn, hs⟩ := ih k (by omega) ht (Nat.le_trans (bulk_mem (List.mem_map.2 ⟨_, List.getElem_mem _, rfl⟩)) hw3)
        exact ⟨(n, t), ncells_of hcs, hn, hs⟩)
      refine ⟨⟨a0, sa, sl, sc, some a, len, cap, a3, a4, a5, a6, a7⟩, _, rfl, .mk _ L (K.map (·.2)) (fun j => (K.getD j (⟨0, none, 0, 0, none, 0, 0, 0, 0, 0, 0, false⟩, .mk 0 0 0 0 0 false [] [])).1) hL (.inr ⟨a, rfl, by simp [h3], ⟨by simp [h3]; exact hlc, by have := hm; unfold maxLen at this; omega⟩, fun j hj => ?_⟩) (fun j hj => ?_), ?_⟩
      · have hj' : j < K.length := by simpa using hj
        have := (h4 j hj').1
        simpa [List.getD, hj'] using this
      · have hj' : j < K.length := by simpa using hj
        have := (h4 j hj').2.1
        simpa [List.getD, hj'] using this
      · rw [smT_kids]
        refine ⟨?_, smL_of (fun u hu => ?_)⟩
        · show (K.map (·.2)).length ≤ _
          have := bulk_len (elems.map (·.1))
          rw [List.length_map] at this ⊢
          omega
        · obtain ⟨r, hr, rfl⟩ := List.mem_map.1 hu
          obtain ⟨i, hi, rfl⟩ := List.getElem_of_mem hr
          exact (h4 i hi).2.2


theorem cellsP : Tryd.prog.cellsOf 34 = 10 := by kernel_rfl
theorem cellsNm : Tryd.prog.cellsOf 45 = 2 := by kernel_rfl
theorem cellsNs : Tryd.prog.cellsOf 32 = 1 := by kernel_rfl
theorem cells9 : Tryd.prog.cellsOf 9 = 1 := by kernel_rfl
theorem name_cells {H : Type} {enc : TypeId × Value → H} {w : World} {base : Nat} {sp : Nat → Bool} {held : Bool} {fuel : Nat} {cs : List Value} {x : DataW H × List MemPlace}
    (h : DataW.trod enc Tryd.prog w base sp held fuel 45 cs = some x) : ∃ (a : ByteArray) (b : Int), cs[0]? = some (.string a) ∧ cs[1]? = some (.int .i64 b) ∧ a.size ≤ Rows.uptoBulk x.1 := by
  obtain ⟨xs, n, rfl, hx, hl, hxl, hall⟩ := DataW.trod_struct Tryd.underlying45 h
  have hxl' : xs.length = 2 := hxl
  obtain ⟨x0, x1, rfl⟩ : ∃ x0 x1, xs = [x0, x1] := by
    match xs, hxl' with
    | [x0, x1], _ => exact ⟨x0, x1, rfl⟩
  obtain ⟨b, hb⟩ := one_cell (hall 1 _ rfl)
  have h0 : DataW.trod enc Tryd.prog w base sp held n 9 ((cs.drop 0).take (Tryd.prog.cellsOf 9)) = some x0 := hall 0 _ rfl
  rw [cells9] at h0
  obtain ⟨z, hz, hx0, _⟩ := DataW.trod_string Tryd.underlying9 h0
  refine ⟨z, b, at_of_take hz, hb, ?_⟩
  rw [hx]
  simp only [List.map_cons, List.map_nil, Rows.uptoBulk, Rows.uptoBulkAll, hx0]
  have : z.data.toList.length = z.size := Array.length_toList
  omega
theorem open_names {H : Type} {enc : TypeId × Value → H} {w : World} {base : Nat} {sp : Nat → Bool} {held : Bool} {fuel : Nat} {v : Value} {x : DataW H × List MemPlace}
    (h : DataW.trod enc Tryd.prog w base sp held fuel 32 [v] = some x) (hk : Rows.uptoBulk x.1 ≤ 1048576) : ∃ N, NamesC w v N ∧ ∀ i, i < N.length → (ntx N i).size ≤ 1048576 := by
  rcases DataW.trod_slice Tryd.underlying32 h with ⟨hcs, _⟩ | ⟨a, len, cap, elems, rest, n, _, hcs, hx, _, hl, hm, hlen, hel, _⟩
  · cases hcs
    exact ⟨[], .inl ⟨rfl, rfl⟩, fun i hi => by simp at hi⟩
  · cases hcs
    have hw3 : Rows.uptoBulkAll (elems.map (·.1)) ≤ 1048576 := by
      rw [hx] at hk
      simp only [Rows.uptoBulk] at hk
      omega
    obtain ⟨L, h1, h2⟩ := list_of' (α := ByteArray × Int) (n := len) (P := fun i r => (w.cell? (a.add (i * 2)) = some (.string r.1) ∧ w.cell? ⟨(a.add (i * 2)).block, (a.add (i * 2)).off + 1, none⟩ = some (.int .i64 r.2)) ∧ r.1.size ≤ 1048576) (fun i hi => by
      have hE := hel i hi
      rw [cellsNm, List.getElem?_eq_getElem (by omega)] at hE
      simp only [Option.bind_eq_some_iff] at hE
      obtain ⟨cs, hcs, ht⟩ := hE
      obtain ⟨u, v, rfl, hu, hv⟩ := cells_two hcs
      obtain ⟨p, q, hp, hq, hz⟩ := name_cells ht
      simp at hp hq
      exact ⟨(p, q), ⟨by rw [hu, hp], by rw [hv, hq]⟩, Nat.le_trans hz (Nat.le_trans (bulk_mem (List.mem_map.2 ⟨_, List.getElem_mem _, rfl⟩)) hw3)⟩)
    refine ⟨L, .inr ⟨a, cap, by rw [h1], ⟨by omega, by have := hm; unfold maxLen at this; omega⟩, fun j hj => (h2 j hj).1⟩, fun i hi => ?_⟩
    rw [ntx_at hi]
    exact (h2 i hi).2
abbrev patL (n : NV) (g : Int) (na : Option Addr) (nl nc : Nat) : List Value := [.int .i64 n.kind, .slice n.sa n.sl n.sc, .slice n.ka n.kl n.kc, .int .i64 n.num, .int .i64 n.least, .int .i64 n.most, .int .i64 n.way, .bool n.fold, .int .i64 g, .slice na nl nc]
theorem ten {α : Type} {cs : List α} (h : cs.length = 10) : ∃ a b c d e f g i j k, cs = [a, b, c, d, e, f, g, i, j, k] := by
  match cs, h with
  | [a, b, c, d, e, f, g, i, j, k], _ => exact ⟨a, b, c, d, e, f, g, i, j, k, rfl⟩
/-- what came in can be read. -/
theorem open_pattern {H : Type} {enc : TypeId × Value → H} {w : World} {base : Nat} {sp : Nat → Bool} {held : Bool} {fuel : Nat} {cs : List Value} {x : DataW H × List MemPlace}
    (h : DataW.trod enc Tryd.prog w base sp held fuel 34 cs = some x) (hk : Rows.uptoBulk x.1 ≤ 1048576) : ∃ (n : NV) (t : Tr) (g : Int) (na : Option Addr) (nl nc : Nat) (N : NmL), cs = patL n g na nl nc ∧ NodeC w n t ∧ smT t ∧ NamesC w (.slice na nl nc) N ∧ ∀ i, i < N.length → (ntx N i).size ≤ 1048576 := by
  obtain ⟨xs, m, rfl, hx, hl, hxl, hall⟩ := DataW.trod_struct Tryd.underlying34 h
  rw [cellsP] at hl
  obtain ⟨v0, v1, v2, v3, v4, v5, v6, v7, v8, v9, rfl⟩ := ten hl
  have hxl' : xs.length = 3 := hxl
  obtain ⟨x0, x1, x2, rfl⟩ : ∃ x0 x1 x2, xs = [x0, x1, x2] := by
    match xs, hxl' with
    | [x0, x1, x2], _ => exact ⟨x0, x1, x2, rfl⟩
  rw [hx] at hk
  simp only [List.map_cons, List.map_nil, Rows.uptoBulk, Rows.uptoBulkAll] at hk
  have h0 : DataW.trod enc Tryd.prog w base sp held m 25 [v0, v1, v2, v3, v4, v5, v6, v7] = some x0 := by
    have := hall 0 _ rfl
    simpa [cellsN] using this
  obtain ⟨g, eg⟩ := one_cell (hall 1 _ rfl)
  simp at eg
  have h2 : DataW.trod enc Tryd.prog w base sp held m 32 [v9] = some x2 := by
    have := hall 2 _ rfl
    simpa [cellsNs] using this
  obtain ⟨n, t, hc, hn, hs⟩ := open_node_bk m h0 (by omega)
  obtain ⟨N, hN, hz⟩ := open_names h2 (by omega)
  obtain ⟨na, c, rfl⟩ := hN.shape
  refine ⟨n, t, g, na, N.length, c, N, ?_, hn, hs, hN, hz⟩
  rw [eg]
  simp only [nvL, List.cons.injEq, and_true] at hc
  obtain ⟨rfl, rfl, rfl, rfl, rfl, rfl, rfl, rfl⟩ := hc
  rfl

end Go.Proofs.YtpcohmbipbiglaaDoor
