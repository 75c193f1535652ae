/- Roads: the sort of roads, in general. -/
import Derived.Test.YthigleohjagfiaaSr8
import Derived.Test.YthigleohjagfiaaSq4
import Derived.Test.YthigleohjagfiaaSqc
import Derived.Test.YthigleohjagfiaaSshelf2
import Derived.Shelf.SlSortCmp.NoneTotal
namespace Go.Proofs.Ythigleohjagfiaa
open Go.RowKit Go.Sort Go.Lib Go.Shelf
set_option linter.unusedVariables false

/-- a row of roads of one's own. -/
structure RowR (B : Nat) (w : World) (v : Value) (LL : List RL) (us : List Value) : Prop where
  own : w.ownsRow B 26 1 v LL.length us
  len : us.length = LL.length
  rds : ∀ j (h : j < LL.length), ∃ g, B ≤ g ∧ us[j]? = some (.slice (some ⟨g, 0, none⟩) LL[j].length LL[j].length) ∧ w.heap[g]? = some (rdO LL[j] 0)
theorem RBx.row {B bR : Nat} {w : World} {LL : List RL} {v : Value} {us : List Value} (h : RBx B w bR LL v us) : RowR B w v LL us := ⟨h.own, h.len, h.rds⟩
/-- a road at a place. -/
abbrev Road (B : Nat) (w : World) (blk : Nat) : Type := { x : Nat × RL // B ≤ x.1 ∧ w.heap[x.1]? = some (rdO x.2 0) ∧ okRoad x.2 }
def roadV {B : Nat} {w : World} {blk : Nat} (x : Road B w blk) : Value := .slice (some ⟨x.1.1, 0, none⟩) x.1.2.length x.1.2.length
def roadC {B : Nat} {w : World} {blk : Nat} (x y : Road B w blk) : Int := cmpL x.1.2 y.1.2
theorem swoD {B : Nat} {w : World} {blk : Nat} : SWO (ltOf (roadC (B := B) (w := w) (blk := blk))) where
  irrefl x := by simp [ltOf, roadC, cmpL_self]
  trans x y z h1 h2 := by
    exact decide_eq_true (cmpL_trans _ _ _ (of_decide_eq_true h1) (of_decide_eq_true h2))
  ntrans x y z h1 h2 := by
    exact decide_eq_false (cmpL_ntrans _ _ _ (of_decide_eq_false h1) (of_decide_eq_false h2))
theorem rd_C {w : World} {g : Nat} {L : RL} (h : w.heap[g]? = some (rdO L 0)) : Cells2 w ⟨g, 0, none⟩ L := by
  rcases rdReads h with ⟨h1, _⟩ | ⟨x, c, h1, h2⟩
  · exact absurd h1 (by simp)
  · have e : (⟨g, 0, none⟩ : Addr) = x := by injection h1 with h _ _; exact Option.some.inj h
    rw [e]
    exact h2
theorem heap_sorted1 {α : Type} [Inhabited α] {w : World} {g n : Nat} {os : Array Obj} {cur : Array Value} {e : TypeId} {fr : Nat × Nat} (enc : α → Value) (F : Array α) (hb : w.heap[g]? = some (.cells cur e fr)) :
    (sortWorld enc w g 0 n F os).heap[g]? = some (.cells (putCells enc 0 F cur) e fr) := by
  have hg : g < w.heap.size := (Array.getElem?_eq_some_iff.1 hb).1
  unfold sortWorld
  rw [heap_grow_old _ _ (by simpa using hg)]
  simp [putRow, mapBlock, Sort.ahead, Array.getElem?_modify, hb, onCells]
theorem grownBy_sorted1 {α : Type} [Inhabited α] {w : World} {g n : Nat} {os : Array Obj} (enc : α → Value) (F : Array α) : w.grownBy (sortWorld enc w g 0 n F os) (some g) := by
  unfold sortWorld
  refine ⟨rfl, rfl, rfl, by simp, fun k hk hne => ?_⟩
  rw [heap_grow_old _ _ (by simpa using hk)]
  have : g ≠ k := fun e => hne (by rw [e])
  simp [putRow, mapBlock, Sort.ahead, Array.getElem?_modify, this]
theorem take_putCells1 {α : Type} [Inhabited α] (enc : α → Value) (cur : Array Value) (ts : Array α) (h : ts.size ≤ cur.size) : (putCells enc 0 ts cur).toList.take ts.size = ts.toList.map enc := by
  apply List.ext_getElem?
  intro j
  by_cases hj : j < ts.size
  · rw [List.getElem?_take_of_lt hj, Array.getElem?_toList]
    simp [putCells, hj, show j < cur.size by omega]
  · rw [List.getElem?_take_eq_none (by omega), List.getElem?_eq_none (by simp; omega)]
theorem enters29 (args : Array Value) (w : World) : (callFunc 29 args).run Try.prog w = .ok (.enter 29 args) w := enters_of Try.func29 (by kernel_rfl) rfl args w
theorem cmpLaysD {B : Nat} {w : World} {blk : Nat} [Inhabited (Road B w blk)] {cur : Array Value} {fr : Nat × Nat} (hblk : w.heap[blk]? = some (.cells cur 26 fr)) (size : Nat) : CmpLays1 Try.prog 29 #[] (roadV (B := B) (w := w) (blk := blk)) roadC blk 0 size w := by
  intro m os dk hs x y
  obtain ⟨⟨gx, Lx⟩, hx1, hx2, hx3⟩ := x
  obtain ⟨⟨gy, Ly⟩, hy1, hy2, hy3⟩ := y
  simp only at hx1 hx2 hx3 hy1 hy2 hy3
  have hk : ∀ (g : Nat) (L : RL), w.heap[g]? = some (rdO L 0) → (sortWorld roadV w blk 0 m dk os).heap[g]? = some (rdO L 0) := fun g L hg => by
    have hgr := grownBy_sorted1 (w := w) (g := blk) (n := m) (os := os) roadV dk
    rw [hgr.block g (lt_blockS hg) (fun e => ?_)]
    · exact hg
    · have e' : blk = g := Option.some.inj e.symm
      subst e'
      rw [hg] at hblk
      have := Option.some.inj hblk
      unfold rdO at this
      injection this with _ h2 _
      exact absurd h2 (by decide)
  have hC := cmp_g ⟨gx, 0, none⟩ ⟨gy, 0, none⟩ Lx.length Ly.length Lx.length Ly.length Lx Ly (sortWorld roadV w blk 0 m dk os) (rd_C (hk _ _ hx2)) (rd_C (hk _ _ hy2)) rfl rfl ⟨hx3.1.2, hy3.1.2⟩ (fun r hr => ⟨(hx3.2 r hr).1, by have := hx3.2 r hr; omega⟩) (fun r hr => ⟨(hy3.2 r hr).1, by have := hy3.2 r hr; omega⟩)
  exact hC.mono fun e w' ⟨he, hb⟩ => ⟨he, hb.grow⟩
theorem toRoads {B : Nat} {w : World} {blk : Nat} {LL : List RL} {us : List Value} (hlen : us.length = LL.length) (hrd : ∀ j (h : j < LL.length), ∃ g, B ≤ g ∧ us[j]? = some (.slice (some ⟨g, 0, none⟩) LL[j].length LL[j].length) ∧ w.heap[g]? = some (rdO LL[j] 0)) (hok : ∀ L ∈ LL, okRoad L) :
    ∃ r : List (Road B w blk), r.map (fun x => x.1.2) = LL ∧ r.map roadV = us := by
  induction LL generalizing us with
  | nil => exact ⟨[], rfl, by simpa using (List.eq_nil_of_length_eq_zero (by simpa using hlen)).symm⟩
  | cons L LL ih =>
    cases us with
    | nil => simp at hlen
    | cons u us =>
      obtain ⟨r, hr1, hr2⟩ := ih (us := us) (by simpa using hlen) (fun j h => by
        have := hrd (j + 1) (by simpa using h)
        simpa using this) (fun M hM => hok M (by simp [hM]))
      obtain ⟨g, h1, h2, h3⟩ := hrd 0 (by simp)
      simp at h2 h3
      refine ⟨⟨(g, L), h1, h3, hok L (by simp)⟩ :: r, by simp [hr1], ?_⟩
      simp only [List.map_cons, hr2, List.cons.injEq, and_true]
      rw [h2]
      rfl
/-- roads that do not fall. -/
def Rise (MM : List RL) : Prop := MM.Pairwise (fun L M => ¬ cmpL M L < 0)
/-- what is not a row of roads stays. -/
def KeepT (w w' : World) : Prop := ∀ (k : Nat) (cs : Array Value) (T : TypeId) (fr : Nat × Nat), T ≠ 26 → w.heap[k]? = some (.cells cs T fr) → w'.heap[k]? = some (.cells cs T fr)
/-- slices.SortFunc of roads. -/
theorem sort_g (B : Nat) (v : Value) (LL : List RL) (us : List Value) (w : World) (hR : RowR B w v LL us) (hok : ∀ L ∈ LL, okRoad L) (hl : LL.length < 4611686018427387904) (hB : B ≤ w.heap.size) :
    Calls Try.prog 28 #[v, .func (.func 29) #[] #[]] w fun e w' => e = .returned (.tuple #[]) ∧ ∃ MM us', MM.Perm LL ∧ Rise MM ∧ RowR B w' v MM us' ∧ Go.RowKit.Below B w w' ∧ KeepT w w' := by
  by_cases h0 : LL.length = 0
  · have hnil : LL = [] := List.eq_nil_of_length_eq_zero h0
    subst hnil
    obtain ⟨ao, c, rfl⟩ : ∃ ao c, v = .slice ao 0 c := by
      rcases hR.own.2 with ⟨rfl, _⟩ | ⟨g, cap, cur, rfl, _⟩
      · exact ⟨_, _, rfl⟩
      · exact ⟨_, _, rfl⟩
    have hc := AnyF.slices_SortFunc_none (P := Try.prog) (ρ := Try.sortD_ren) { Try.sortD with } ao c (.func (.func 29) #[] #[]) w
    change Calls Try.prog 28 _ _ _ at hc
    refine hc.mono ?_
    rintro e w' ⟨rfl, rfl⟩
    exact ⟨rfl, [], us, List.Perm.refl _, List.Pairwise.nil, hR, Go.RowKit.Below.refl _ _, fun _ _ _ _ _ h => h⟩
  rcases id hR.own.2 with ⟨rfl, hz⟩ | ⟨g, cap, cur, rfl, hg, hh, hn, hm, hs, ht⟩
  · exact absurd hz h0
  obtain ⟨r, hr1, hr2⟩ := toRoads (B := B) (w := w) (blk := g) hR.len hR.rds hok
  have hlen : r.length = LL.length := by rw [← hr1]; simp
  have hul : us.length = r.length := by rw [hR.len, hlen]
  haveI : Inhabited (Road B w g) := ⟨r[0]'(by omega)⟩
  have hH : Holds (roadV (B := B) (w := w) (blk := g)) w g 0 r.toArray := by
    intro j hj
    have hj' : j < r.length := by simpa using hj
    refine ⟨?_, by simp [World.frozen?, hh]⟩
    have hc := hR.own.cells (g := g) rfl j (us[j]'(by omega)) (by simp [hul, hj'])
    have hadd : (⟨g, 0, none⟩ : Addr).add j = ⟨g, j, none⟩ := by unfold Addr.add; split <;> simp_all
    rw [hadd] at hc
    rw [Nat.zero_add, hc, getElem!_pos r.toArray j (by simpa using hj')]
    congr 1
    have : us[j]'(by omega) = (r.map roadV)[j]'(by simpa using hj') := by congr 1; exact hr2.symm
    rw [this]
    simp
  have hc := Any.slices_SortFunc (P := Try.prog) (ρ := Try.sortD_ren) Try.sortD (roadV (B := B) (w := w) (blk := g)) (fun x => rfl) roadC swoD 29 #[] g 0 cap r.toArray w enters29 (cmpLaysD hh _) hH (lt_blockS hh) (by simp; omega)
  change Calls Try.prog 28 _ _ _ at hc
  rw [List.size_toArray, hlen] at hc
  refine hc.mono ?_
  rintro e w' ⟨rfl, d', n, os, hp, hs', rfl⟩
  have hds : d'.size = LL.length := by have := hp.1; simpa [hlen] using this
  have hperm : d'.toList.Perm r := by
    have h2 := hp.2.2
    have e1 : d'.extract 0 LL.length = d' := by rw [← hds]; simp
    have e2 : r.toArray.extract 0 LL.length = r.toArray := by rw [← hlen, ← List.size_toArray]; simp
    rw [e1, e2] at h2
    simpa using h2
  have hgr := grownBy_sorted1 (w := w) (g := g) (n := n) (os := os) roadV d'
  have hkeep : KeepT w (sortWorld roadV w g 0 n d' os) := fun k cs T fr hT hk => by
    rw [hgr.block k (lt_blockS hk) (fun e => ?_)]
    · exact hk
    · have e' : g = k := Option.some.inj e.symm
      subst e'
      rw [hh] at hk
      have := Option.some.inj hk
      injection this with _ h2 _
      exact hT h2.symm
  refine ⟨rfl, d'.toList.map (fun x => x.1.2), d'.toList.map roadV, by rw [← hr1]; exact hperm.map _, ?_, ⟨?_, by simp, ?_⟩, ?_, hkeep⟩
  · unfold Rise
    rw [List.pairwise_map, List.pairwise_iff_getElem]
    intro i j hi hj hij
    have hi' : i < d'.size := by simpa using hi
    have hj' : j < d'.size := by simpa using hj
    have := hs' i j (Nat.zero_le _) hij (by rw [← hds]; exact hj')
    rw [getElem!_pos d' j hj', getElem!_pos d' i hi'] at this
    have h3 : ¬ cmpL d'[j].1.2 d'[i].1.2 < 0 := of_decide_eq_false this
    simpa using h3
  · have hdl : (d'.toList.map (fun x => x.1.2)).length = LL.length := by simp [hds]
    rw [hdl]
    refine ⟨by simp [hds], .inr ⟨g, cap, _, rfl, hg, heap_sorted1 roadV d' hh, hn, hm, by simp [putCells, hs], ?_⟩⟩
    have := take_putCells1 roadV cur d' (by rw [hds, hs]; omega)
    rw [hds] at this
    rw [Nat.mul_one]
    exact this
  · intro j hj
    have hj' : j < d'.size := by simpa using hj
    refine ⟨d'[j].1.1, d'[j].2.1, ?_, ?_⟩
    · simp [hj', roadV]
    · simp only [List.getElem_map, Array.getElem_toList]
      exact hkeep _ _ _ _ (by decide) d'[j].2.2.1
  · exact (Go.RowKit.Below.refl B w).grown hgr hB (fun k hk => by cases hk; exact hg)

end Go.Proofs.Ythigleohjagfiaa
