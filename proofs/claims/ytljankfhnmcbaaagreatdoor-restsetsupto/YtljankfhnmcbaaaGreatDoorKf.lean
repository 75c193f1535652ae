/- Roads: what compares two roads, in general. -/
import Derived.Test.YtljankfhnmcbaaaGreatDoorPSr3
import Derived.Test.YtljankfhnmcbaaaGreatDoorKc
import Derived.Sort.Statements
import Derived.Sort.Grow
import Derived.Test.YtljankfhnmcbaaaGreatDoorPSq4
import Derived.Test.YtljankfhnmcbaaaGreatDoorKd
import Derived.Test.YtljankfhnmcbaaaGreatDoorSshelf2
import Derived.Shelf.SlSortCmp.NoneTotal
namespace Go.Proofs.YtljankfhnmcbaaaGreatDoor.SP
open Go.RowKit Go.PlainAid
set_option linter.unusedVariables false

def cmpL : RL → RL → Int
  | [], [] => 0
  | [], _ :: _ => -1
  | _ :: _, [] => 1
  | r :: L, q :: M => if r.1 - q.1 = 0 then cmpL L M else r.1 - q.1
theorem cmpL_self : ∀ L : RL, cmpL L L = 0
  | [] => rfl
  | r :: L => by simp [cmpL, cmpL_self L]
theorem cmpL_trans : ∀ L M N : RL, cmpL L M < 0 → cmpL M N < 0 → cmpL L N < 0
  | [], [], _, h, _ => by simp [cmpL] at h
  | [], _ :: _, [], _, h => by simp [cmpL] at h
  | [], _ :: _, _ :: _, _, _ => by simp [cmpL]
  | _ :: _, [], _, h, _ => by simp [cmpL] at h
  | _ :: _, _ :: _, [], _, h => by simp [cmpL] at h
  | r :: L, q :: M, s :: N, h1, h2 => by
    have ih := cmpL_trans L M N
    simp only [cmpL] at h1 h2 ⊢
    split at h1 <;> split at h2 <;> split <;> first | omega | exact ih h1 h2
theorem cmpL_ntrans : ∀ L M N : RL, ¬ cmpL L M < 0 → ¬ cmpL M N < 0 → ¬ cmpL L N < 0
  | [], [], _, _, h => h
  | [], _ :: _, _, h, _ => by simp [cmpL] at h
  | _ :: _, [], [], _, _ => by simp [cmpL]
  | _ :: _, [], _ :: _, _, h => by simp [cmpL] at h
  | _ :: _, _ :: _, [], _, _ => by simp [cmpL]
  | r :: L, q :: M, s :: N, h1, h2 => by
    have ih := cmpL_ntrans L M N
    simp only [cmpL] at h1 h2 ⊢
    split at h1 <;> split at h2 <;> split <;> first | omega | exact ih h1 h2
theorem cmpL_zero : ∀ L M : RL, cmpL L M = 0 → L.map (·.1) = M.map (·.1)
  | [], [], _ => rfl
  | [], _ :: _, h => by simp [cmpL] at h
  | _ :: _, [], h => by simp [cmpL] at h
  | r :: L, q :: M, h => by
    simp only [cmpL] at h
    split at h
    · simp only [List.map_cons, List.cons.injEq]
      exact ⟨by omega, cmpL_zero L M h⟩
    · exact absurd h (by assumption)
theorem cmpL_back : ∀ L M : RL, ¬ cmpL L M < 0 → cmpL L M ≠ 0 → cmpL M L < 0
  | [], [], _, h => absurd rfl h
  | [], _ :: _, h, _ => by simp [cmpL] at h
  | _ :: _, [], _, _ => by simp [cmpL]
  | r :: L, q :: M, h1, h2 => by
    have ih := cmpL_back L M
    simp only [cmpL] at h1 h2 ⊢
    split at h1 <;> split <;> first | omega | (rename_i a b; exact ih h1 (by simpa [a] using h2))
theorem cmpL_drop {L M : RL} {j : Nat} (h1 : j < L.length) (h2 : j < M.length) : cmpL (L.drop j) (M.drop j) = if L[j].1 - M[j].1 = 0 then cmpL (L.drop (j + 1)) (M.drop (j + 1)) else L[j].1 - M[j].1 := by
  rw [List.drop_eq_getElem_cons h1, List.drop_eq_getElem_cons h2]
  rfl
/-- a world that has only grown, and drawn. -/
def GB (w w' : World) : Prop := Below w.heap.size w w' ∧ w.drawn ≤ w'.drawn
theorem GB.refl (w : World) : GB w w := ⟨Below.refl _ _, Nat.le_refl _⟩
theorem GB.trans {a b c : World} (h : GB a b) (k : GB b c) : GB a c := ⟨h.1.trans (k.1.mono h.1.size), Nat.le_trans h.2 k.2⟩
theorem GB.alloc (w : World) (o : Obj) : GB w (w.alloc o) := ⟨(Below.refl _ w).alloc (Nat.le_refl _) _, Nat.le_refl _⟩
theorem GB.drew (w : World) : GB w w.drew := ⟨⟨rfl, rfl, rfl, Nat.le_refl _, fun _ _ => rfl⟩, Nat.le_succ _⟩
theorem GB.grow {w w' : World} (h : GB w w') : ∃ q os, w' = Go.Sort.grow (w.drewN q) os := by
  refine ⟨w'.drawn - w.drawn, w'.heap.extract w.heap.size w'.heap.size, ?_⟩
  obtain ⟨⟨h1, h2, h3, h4, h5⟩, h6⟩ := h
  have hh : w'.heap = w.heap ++ w'.heap.extract w.heap.size w'.heap.size := by
    apply Array.ext
    · simp; omega
    · intro i hi1 hi2
      by_cases hi : i < w.heap.size
      · rw [Array.getElem_append_left hi]
        have := h5 i hi
        rw [Array.getElem?_eq_getElem hi1, Array.getElem?_eq_getElem hi] at this
        exact Option.some.inj this
      · rw [Array.getElem_append_right (by omega)]
        simp only [Array.getElem_extract]
        congr 1
        omega
  obtain ⟨heap, tape, drawn, os, output⟩ := w'
  simp only at h1 h2 h3 h6 hh
  subst h1 h2 h3
  unfold Go.Sort.grow World.drewN
  congr 1
  show drawn = w.drawn + (drawn - w.drawn)
  omega
set_option maxRecDepth 100000 in
set_option maxHeartbeats 2000000 in
theorem less_g (a b c d : Int) (w : World) (h1 : 0 ≤ a ∧ a ≤ 255) (h2 : 0 ≤ c ∧ c ≤ 255) : Calls Tryz.prog 39 #[.agg #[.int .i64 a, .int .i64 b], .agg #[.int .i64 c, .int .i64 d]] w fun e w' => e = .returned (.int .i64 (a - c)) ∧ GB w w' := by
  obtain ⟨w2, hw2⟩ : ∃ w2, w2 = (w.alloc (rgOS a b)).alloc (rgOS c d) := ⟨_, rfl⟩
  have hB2 : GB w w2 := by rw [hw2]; exact (GB.alloc _ _).trans (GB.alloc _ _)
  have hXs : w2.heap[w.heap.size]? = some (rgOS a b) := by
    rw [hw2]
    exact rdO_keep (at_newS _ _) ((Below.refl _ _).alloc (Nat.le_refl _) _)
  have hXr : w2.heap[w.heap.size + 1]? = some (rgOS c d) := by
    have := at_newS (w.alloc (rgOS a b)) (rgOS c d)
    rw [hw2]
    simpa using this
  obtain ⟨d0, d1⟩ := rg_cellsS hXs
  obtain ⟨f0, f1⟩ := rg_cellsS hXr
  have HB2 := hide hB2
  have hw : IntKind.i64.wrap (a - c) = a - c := by rw [IntKind.wrap_i64]; omega
  simp only [rgOS] at hw2
  clear hXs hXr hB2
  go_enter Tryz.func39, Tryz.ntmps39
  go_upto_region 1 with fail
  rw [← hw2]
  clear hw2
  go_wp2
  go_ret
  exact ⟨by first | rfl | (simp; omega) | (have := hw; go_num), HB2.out⟩
set_option maxRecDepth 100000 in
set_option maxHeartbeats 4000000 in
theorem compare_g (x y : Addr) (n m c d : Nat) (L M : RL) (w : World) (hx : Cells2 w x L) (hy : Cells2 w y M) (hn : n = L.length) (hm : m = M.length) (h4 : n ≤ 4 ∧ m ≤ 4) (hL : ∀ r ∈ L, 0 ≤ r.1 ∧ r.1 ≤ 255) (hM : ∀ r ∈ M, 0 ≤ r.1 ∧ r.1 ≤ 255) :
    Calls Tryz.prog 38 #[.slice (some x) n c, .slice (some y) m d, .func (.func 39) #[] #[]] w fun e w' => e = .returned (.int .i64 (cmpL L M)) ∧ GB w w' := by
  have HCx : Hid (∀ W, GB w W → Cells2 W x L) := fun W hW => hx.below hW.1
  have HCy : Hid (∀ W, GB w W → Cells2 W y M) := fun W hW => hy.below hW.1
  have HN := hide hn
  have HM := hide hm
  have HLr : Hid (∀ j (h : j < L.length), 0 ≤ L[j].1 ∧ L[j].1 ≤ 255) := fun j h => hL _ (List.getElem_mem h)
  have HMr : Hid (∀ j (h : j < M.length), 0 ≤ M[j].1 ∧ M[j].1 ≤ 255) := fun j h => hM _ (List.getElem_mem h)
  clear hx hy hn hm hL hM
  go_enter Tryz.func38, Tryz.ntmps38
  go_wp2
  go_loopw [13] (fun q wr => ∃ j : Nat, j ≤ n ∧ j ≤ m ∧ q = .int .i64 j ∧ cmpL L M = cmpL (L.drop j) (M.drop j) ∧ GB w wr) (fun q _ => n - (intOf q).toNat)
  case atStart => exact ⟨0, Nat.zero_le _, Nat.zero_le _, rfl, rfl, GB.refl _⟩
  case round =>
    obtain ⟨j, hj1, hj2, rfl, hcm, hbw⟩ := hrel
    obtain ⟨w3, hw3⟩ : ∃ w3, w3 = wr := ⟨_, rfl⟩
    subst hw3
    have HB := hide hbw
    have HCm := hide hcm
    clear hbw hcm
    by_cases hlt : j < n
    · have hjL : j < L.length := by have := HN.out; omega
      have e5 : (j : Int) < (n : Int) := by omega
      have e6 : (0 : Int) ≤ (j : Int) := by omega
      have hkw : IntKind.i64.wrap ((j : Int) + 1) = (j : Int) + 1 := by rw [IntKind.wrap_i64]; omega
      obtain ⟨m0, m1⟩ := HCx.out _ HB.out j hjL
      have hr1 := HLr.out j hjL
      obtain ⟨r, hr⟩ : ∃ r, r = L[j] := ⟨_, rfl⟩
      rw [← hr] at m0 m1 hr1
      obtain ⟨ra, rb⟩ := r
      simp only at m0 m1 hr1
      obtain ⟨w4, hw4⟩ : ∃ w4, w4 = w3.alloc (rgOS ra rb) := ⟨_, rfl⟩
      have hX4 : w4.heap[w3.heap.size]? = some (rgOS ra rb) := by rw [hw4]; exact at_newS _ _
      have hB4 : GB w3 w4 := by rw [hw4]; exact GB.alloc _ _
      obtain ⟨b1, hb1⟩ : ∃ b1, b1 = w3.heap.size := ⟨_, rfl⟩
      rw [← hb1] at hX4
      have HB4 := hide (HB.out.trans hB4)
      by_cases hlm : j < m
      · have hjM : j < M.length := by have := HM.out; omega
        have e7 : ¬ (m : Int) ≤ (j : Int) := by omega
        have e8 : (j : Int) < (m : Int) := by omega
        obtain ⟨q0, q1⟩ := HCy.out _ HB4.out j hjM
        have hs1 := HMr.out j hjM
        have hdr := cmpL_drop hjL hjM
        rw [← hr] at hdr
        obtain ⟨s, hs⟩ : ∃ s, s = M[j] := ⟨_, rfl⟩
        rw [← hs] at q0 q1 hs1 hdr
        obtain ⟨sa, sb⟩ := s
        simp only at q0 q1 hs1 hdr
        have HDr := hide (HCm.out.trans hdr)
        obtain ⟨w5, hw5⟩ : ∃ w5, w5 = w4.alloc (rgOS sa sb) := ⟨_, rfl⟩
        have hX5 : w5.heap[w4.heap.size]? = some (rgOS sa sb) := by rw [hw5]; exact at_newS _ _
        have hB5 : GB w4 w5 := by rw [hw5]; exact GB.alloc _ _
        obtain ⟨b2, hb2⟩ : ∃ b2, b2 = w4.heap.size := ⟨_, rfl⟩
        rw [← hb2] at hX5
        have HB5 := hide (HB4.out.trans hB5)
        have hX45 := rdO_keep hX4 hB5.1
        obtain ⟨d0, d1⟩ := rg_cellsS hX45
        obtain ⟨f0, f1⟩ := rg_cellsS hX5
        have HLs := hide (less_g ra rb sa sb w5 hr1 hs1)
        simp only [rgOS] at hw4 hw5
        clear hX4 hB4 hX5 hB5 hX45 hr hs hjL hjM hdr HCm HB HB4
        go_upto_region 4 with fail
        rw [← hw4, ← hb1]
        clear hw4 hb1 m0 m1
        go_upto_region 7 with fail
        rw [← hw5, ← hb2]
        clear hw5 hb2 q0 q1
        go_wp2_with fail
        refine HLs.out.mono ?_
        rintro e w6 ⟨rfl, hb6⟩
        have HB6 := hide (HB5.out.trans hb6)
        clear hb6 HLs d0 d1 f0 f1
        by_cases hz : ra - sa = 0
        · have HF : Hid (cmpL L M = cmpL (L.drop (j + 1)) (M.drop (j + 1))) := by have := HDr.out; rw [if_pos hz] at this; exact this
          clear HDr
          go_wp2
          go_roundw
          case rel => exact ⟨j + 1, by omega, by omega, by go_num, HF.out, HB6.out⟩
          case measure => simp [intOf]; omega
        · have HF : Hid (cmpL L M = ra - sa) := by have := HDr.out; rw [if_neg hz] at this; exact this
          clear HDr
          go_wp2
          go_ret
          exact ⟨by first | (rw [HF.out]; done) | (rw [HF.out]; rfl), HB6.out⟩
      · have e7 : (m : Int) ≤ (j : Int) := by omega
        have HF : Hid (cmpL L M = 1) := by
          have := HCm.out
          rw [List.drop_eq_getElem_cons hjL, List.drop_of_length_le (show M.length ≤ j by have := HM.out; omega)] at this
          exact this
        simp only [rgOS] at hw4
        clear hX4 hB4 hr hjL HCm HB
        go_upto_region 4 with fail
        rw [← hw4, ← hb1]
        clear hw4 hb1 m0 m1
        go_wp2
        go_ret
        exact ⟨by first | (rw [HF.out]; done) | (rw [HF.out]; rfl), HB4.out⟩
    · have e5 : ¬ (j : Int) < (n : Int) := by omega
      have hjn : j = n := by omega
      subst hjn
      by_cases hlm : j < m
      · have hjM : j < M.length := by have := HM.out; omega
        have e7 : (j : Int) < (m : Int) := by omega
        have HF : Hid (cmpL L M = -1) := by
          have := HCm.out
          rw [List.drop_eq_getElem_cons hjM, List.drop_of_length_le (show L.length ≤ j by have := HN.out; omega)] at this
          exact this
        clear HCm hjM
        go_wp2
        go_ret
        exact ⟨by first | (rw [HF.out]; done) | (rw [HF.out]; rfl), HB.out⟩
      · have e7 : ¬ (j : Int) < (m : Int) := by omega
        have HF : Hid (cmpL L M = 0) := by
          have := HCm.out
          rw [List.drop_of_length_le (show L.length ≤ j by have := HN.out; omega), List.drop_of_length_le (show M.length ≤ j by have := HM.out; omega)] at this
          exact this
        clear HCm
        go_wp2
        go_ret
        exact ⟨by first | (rw [HF.out]; done) | (rw [HF.out]; rfl), HB.out⟩
set_option maxRecDepth 100000 in
theorem cmp_g (x y : Addr) (n m c d : Nat) (L M : RL) (w : World) (hx : Cells2 w x L) (hy : Cells2 w y M) (hn : n = L.length) (hm : m = M.length) (h4 : n ≤ 4 ∧ m ≤ 4) (hL : ∀ r ∈ L, 0 ≤ r.1 ∧ r.1 ≤ 255) (hM : ∀ r ∈ M, 0 ≤ r.1 ∧ r.1 ≤ 255) :
    Calls Tryz.prog 37 #[.slice (some x) n c, .slice (some y) m d] w fun e w' => e = .returned (.int .i64 (cmpL L M)) ∧ GB w w' := by
  have HC := hide (compare_g x y n m c d L M w hx hy hn hm h4 hL hM)
  clear hx hy hn hm hL hM
  go_enter Tryz.func37, Tryz.ntmps37
  go_wp2_with fail
  refine HC.out.mono ?_
  rintro e w3 ⟨rfl, hb3⟩
  have HB3 := hide hb3
  clear hb3 HC
  go_wp2
  go_ret
  exact ⟨rfl, HB3.out⟩

end Go.Proofs.YtljankfhnmcbaaaGreatDoor.SP

namespace Go.Proofs.YtljankfhnmcbaaaGreatDoor.SP
open Go.RowKit Go.Sort Go.Lib Go.Shelf
set_option linter.unusedVariables false

/-- a row of roads of one's own. -/
structure RowR (B : Nat) (w : World) (v : Value) (LL : List RL) (us : List Value) : Prop where
  own : w.ownsRow B 22 1 v LL.length us
  len : us.length = LL.length
  rds : ∀ j (h : j < LL.length), ∃ g, B ≤ g ∧ us[j]? = some (.slice (some ⟨g, 0, none⟩) LL[j].length LL[j].length) ∧ w.heap[g]? = some (rdO LL[j] 0)
theorem RBx.row {B bR : Nat} {w : World} {LL : List RL} {v : Value} {us : List Value} (h : RBx B w bR LL v us) : RowR B w v LL us := ⟨h.own, h.len, h.rds⟩
/-- a road at a place. -/
abbrev Road (B : Nat) (w : World) (blk : Nat) : Type := { x : Nat × RL // B ≤ x.1 ∧ w.heap[x.1]? = some (rdO x.2 0) ∧ okRoad x.2 }
def roadV {B : Nat} {w : World} {blk : Nat} (x : Road B w blk) : Value := .slice (some ⟨x.1.1, 0, none⟩) x.1.2.length x.1.2.length
def roadC {B : Nat} {w : World} {blk : Nat} (x y : Road B w blk) : Int := cmpL x.1.2 y.1.2
theorem swoD {B : Nat} {w : World} {blk : Nat} : SWO (ltOf (roadC (B := B) (w := w) (blk := blk))) where
  irrefl x := by simp [ltOf, roadC, cmpL_self]
  trans x y z h1 h2 := by
    exact decide_eq_true (cmpL_trans _ _ _ (of_decide_eq_true h1) (of_decide_eq_true h2))
  ntrans x y z h1 h2 := by
    exact decide_eq_false (cmpL_ntrans _ _ _ (of_decide_eq_false h1) (of_decide_eq_false h2))
theorem rd_C {w : World} {g : Nat} {L : RL} (h : w.heap[g]? = some (rdO L 0)) : Cells2 w ⟨g, 0, none⟩ L := by
  rcases rdReads h with ⟨h1, _⟩ | ⟨x, c, h1, h2⟩
  · exact absurd h1 (by simp)
  · have e : (⟨g, 0, none⟩ : Addr) = x := by injection h1 with h _ _; exact Option.some.inj h
    rw [e]
    exact h2
theorem heap_sorted1 {α : Type} [Inhabited α] {w : World} {g n : Nat} {os : Array Obj} {cur : Array Value} {e : TypeId} {fr : Nat × Nat} (enc : α → Value) (F : Array α) (hb : w.heap[g]? = some (.cells cur e fr)) :
    (sortWorld enc w g 0 n F os).heap[g]? = some (.cells (putCells enc 0 F cur) e fr) := by
  have hg : g < w.heap.size := (Array.getElem?_eq_some_iff.1 hb).1
  unfold sortWorld
  rw [heap_grow_old _ _ (by simpa using hg)]
  simp [putRow, mapBlock, Sort.ahead, Array.getElem?_modify, hb, onCells]
theorem grownBy_sorted1 {α : Type} [Inhabited α] {w : World} {g n : Nat} {os : Array Obj} (enc : α → Value) (F : Array α) : w.grownBy (sortWorld enc w g 0 n F os) (some g) := by
  unfold sortWorld
  refine ⟨rfl, rfl, rfl, by simp, fun k hk hne => ?_⟩
  rw [heap_grow_old _ _ (by simpa using hk)]
  have : g ≠ k := fun e => hne (by rw [e])
  simp [putRow, mapBlock, Sort.ahead, Array.getElem?_modify, this]
theorem take_putCells1 {α : Type} [Inhabited α] (enc : α → Value) (cur : Array Value) (ts : Array α) (h : ts.size ≤ cur.size) : (putCells enc 0 ts cur).toList.take ts.size = ts.toList.map enc := by
  apply List.ext_getElem?
  intro j
  by_cases hj : j < ts.size
  · rw [List.getElem?_take_of_lt hj, Array.getElem?_toList]
    simp [putCells, hj, show j < cur.size by omega]
  · rw [List.getElem?_take_eq_none (by omega), List.getElem?_eq_none (by simp; omega)]
theorem enters37 (args : Array Value) (w : World) : (callFunc 37 args).run Tryz.prog w = .ok (.enter 37 args) w := enters_of Tryz.func37 (by kernel_rfl) rfl args w
theorem cmpLaysD {B : Nat} {w : World} {blk : Nat} [Inhabited (Road B w blk)] {cur : Array Value} {fr : Nat × Nat} (hblk : w.heap[blk]? = some (.cells cur 22 fr)) (size : Nat) : CmpLays1 Tryz.prog 37 #[] (roadV (B := B) (w := w) (blk := blk)) roadC blk 0 size w := by
  intro m os dk hs x y
  obtain ⟨⟨gx, Lx⟩, hx1, hx2, hx3⟩ := x
  obtain ⟨⟨gy, Ly⟩, hy1, hy2, hy3⟩ := y
  simp only at hx1 hx2 hx3 hy1 hy2 hy3
  have hk : ∀ (g : Nat) (L : RL), w.heap[g]? = some (rdO L 0) → (sortWorld roadV w blk 0 m dk os).heap[g]? = some (rdO L 0) := fun g L hg => by
    have hgr := grownBy_sorted1 (w := w) (g := blk) (n := m) (os := os) roadV dk
    rw [hgr.block g (lt_blockS hg) (fun e => ?_)]
    · exact hg
    · have e' : blk = g := Option.some.inj e.symm
      subst e'
      rw [hg] at hblk
      have := Option.some.inj hblk
      unfold rdO at this
      injection this with _ h2 _
      exact absurd h2 (by decide)
  have hC := cmp_g ⟨gx, 0, none⟩ ⟨gy, 0, none⟩ Lx.length Ly.length Lx.length Ly.length Lx Ly (sortWorld roadV w blk 0 m dk os) (rd_C (hk _ _ hx2)) (rd_C (hk _ _ hy2)) rfl rfl ⟨hx3.1.2, hy3.1.2⟩ (fun r hr => ⟨(hx3.2 r hr).1, by have := hx3.2 r hr; omega⟩) (fun r hr => ⟨(hy3.2 r hr).1, by have := hy3.2 r hr; omega⟩)
  exact hC.mono fun e w' ⟨he, hb⟩ => ⟨he, hb.grow⟩
theorem toRoads {B : Nat} {w : World} {blk : Nat} {LL : List RL} {us : List Value} (hlen : us.length = LL.length) (hrd : ∀ j (h : j < LL.length), ∃ g, B ≤ g ∧ us[j]? = some (.slice (some ⟨g, 0, none⟩) LL[j].length LL[j].length) ∧ w.heap[g]? = some (rdO LL[j] 0)) (hok : ∀ L ∈ LL, okRoad L) :
    ∃ r : List (Road B w blk), r.map (fun x => x.1.2) = LL ∧ r.map roadV = us := by
  induction LL generalizing us with
  | nil => exact ⟨[], rfl, by simpa using (List.eq_nil_of_length_eq_zero (by simpa using hlen)).symm⟩
  | cons L LL ih =>
    cases us with
    | nil => simp at hlen
    | cons u us =>
      obtain ⟨r, hr1, hr2⟩ := ih (us := us) (by simpa using hlen) (fun j h => by
        have := hrd (j + 1) (by simpa using h)
        simpa using this) (fun M hM => hok M (by simp [hM]))
      obtain ⟨g, h1, h2, h3⟩ := hrd 0 (by simp)
      simp at h2 h3
      refine ⟨⟨(g, L), h1, h3, hok L (by simp)⟩ :: r, by simp [hr1], ?_⟩
      simp only [List.map_cons, hr2, List.cons.injEq, and_true]
      rw [h2]
      rfl
/-- roads that do not fall. -/
def Rise (MM : List RL) : Prop := MM.Pairwise (fun L M => ¬ cmpL M L < 0)
/-- what is not a row of roads stays. -/
def KeepT (w w' : World) : Prop := ∀ (k : Nat) (cs : Array Value) (T : TypeId) (fr : Nat × Nat), T ≠ 22 → w.heap[k]? = some (.cells cs T fr) → w'.heap[k]? = some (.cells cs T fr)
/-- slices.SortFunc of roads. -/
theorem sort_g (B : Nat) (v : Value) (LL : List RL) (us : List Value) (w : World) (hR : RowR B w v LL us) (hok : ∀ L ∈ LL, okRoad L) (hl : LL.length < 4611686018427387904) (hB : B ≤ w.heap.size) :
    Calls Tryz.prog 36 #[v, .func (.func 37) #[] #[]] w fun e w' => e = .returned (.tuple #[]) ∧ ∃ MM us', MM.Perm LL ∧ Rise MM ∧ RowR B w' v MM us' ∧ Go.RowKit.Below B w w' ∧ KeepT w w' := by
  by_cases h0 : LL.length = 0
  · have hnil : LL = [] := List.eq_nil_of_length_eq_zero h0
    subst hnil
    obtain ⟨ao, c, rfl⟩ : ∃ ao c, v = .slice ao 0 c := by
      rcases hR.own.2 with ⟨rfl, _⟩ | ⟨g, cap, cur, rfl, _⟩
      · exact ⟨_, _, rfl⟩
      · exact ⟨_, _, rfl⟩
    have hc := AnyF.slices_SortFunc_none (P := Tryz.prog) (ρ := Tryz.sortD_ren) { Tryz.sortD with } ao c (.func (.func 37) #[] #[]) w
    change Calls Tryz.prog 36 _ _ _ at hc
    refine hc.mono ?_
    rintro e w' ⟨rfl, rfl⟩
    exact ⟨rfl, [], us, List.Perm.refl _, List.Pairwise.nil, hR, Go.RowKit.Below.refl _ _, fun _ _ _ _ _ h => h⟩
  rcases id hR.own.2 with ⟨rfl, hz⟩ | ⟨g, cap, cur, rfl, hg, hh, hn, hm, hs, ht⟩
  · exact absurd hz h0
  obtain ⟨r, hr1, hr2⟩ := toRoads (B := B) (w := w) (blk := g) hR.len hR.rds hok
  have hlen : r.length = LL.length := by rw [← hr1]; simp
  have hul : us.length = r.length := by rw [hR.len, hlen]
  haveI : Inhabited (Road B w g) := ⟨r[0]'(by omega)⟩
  have hH : Holds (roadV (B := B) (w := w) (blk := g)) w g 0 r.toArray := by
    intro j hj
    have hj' : j < r.length := by simpa using hj
    refine ⟨?_, by simp [World.frozen?, hh]⟩
    have hc := hR.own.cells (g := g) rfl j (us[j]'(by omega)) (by simp [hul, hj'])
    have hadd : (⟨g, 0, none⟩ : Addr).add j = ⟨g, j, none⟩ := by unfold Addr.add; split <;> simp_all
    rw [hadd] at hc
    rw [Nat.zero_add, hc, getElem!_pos r.toArray j (by simpa using hj')]
    congr 1
    have : us[j]'(by omega) = (r.map roadV)[j]'(by simpa using hj') := by congr 1; exact hr2.symm
    rw [this]
    simp
  have hc := Any.slices_SortFunc (P := Tryz.prog) (ρ := Tryz.sortD_ren) Tryz.sortD (roadV (B := B) (w := w) (blk := g)) (fun x => rfl) roadC swoD 37 #[] g 0 cap r.toArray w enters37 (cmpLaysD hh _) hH (lt_blockS hh) (by simp; omega)
  change Calls Tryz.prog 36 _ _ _ at hc
  rw [List.size_toArray, hlen] at hc
  refine hc.mono ?_
  rintro e w' ⟨rfl, d', n, os, hp, hs', rfl⟩
  have hds : d'.size = LL.length := by have := hp.1; simpa [hlen] using this
  have hperm : d'.toList.Perm r := by
    have h2 := hp.2.2
    have e1 : d'.extract 0 LL.length = d' := by rw [← hds]; simp
    have e2 : r.toArray.extract 0 LL.length = r.toArray := by rw [← hlen, ← List.size_toArray]; simp
    rw [e1, e2] at h2
    simpa using h2
  have hgr := grownBy_sorted1 (w := w) (g := g) (n := n) (os := os) roadV d'
  have hkeep : KeepT w (sortWorld roadV w g 0 n d' os) := fun k cs T fr hT hk => by
    rw [hgr.block k (lt_blockS hk) (fun e => ?_)]
    · exact hk
    · have e' : g = k := Option.some.inj e.symm
      subst e'
      rw [hh] at hk
      have := Option.some.inj hk
      injection this with _ h2 _
      exact hT h2.symm
  refine ⟨rfl, d'.toList.map (fun x => x.1.2), d'.toList.map roadV, by rw [← hr1]; exact hperm.map _, ?_, ⟨?_, by simp, ?_⟩, ?_, hkeep⟩
  · unfold Rise
    rw [List.pairwise_map, List.pairwise_iff_getElem]
    intro i j hi hj hij
    have hi' : i < d'.size := by simpa using hi
    have hj' : j < d'.size := by simpa using hj
    have := hs' i j (Nat.zero_le _) hij (by rw [← hds]; exact hj')
    rw [getElem!_pos d' j hj', getElem!_pos d' i hi'] at this
    have h3 : ¬ cmpL d'[j].1.2 d'[i].1.2 < 0 := of_decide_eq_false this
    simpa using h3
  · have hdl : (d'.toList.map (fun x => x.1.2)).length = LL.length := by simp [hds]
    rw [hdl]
    refine ⟨by simp [hds], .inr ⟨g, cap, _, rfl, hg, heap_sorted1 roadV d' hh, hn, hm, by simp [putCells, hs], ?_⟩⟩
    have := take_putCells1 roadV cur d' (by rw [hds, hs]; omega)
    rw [hds] at this
    rw [Nat.mul_one]
    exact this
  · intro j hj
    have hj' : j < d'.size := by simpa using hj
    refine ⟨d'[j].1.1, d'[j].2.1, ?_, ?_⟩
    · simp [hj', roadV]
    · simp only [List.getElem_map, Array.getElem_toList]
      exact hkeep _ _ _ _ (by decide) d'[j].2.2.1
  · exact (Go.RowKit.Below.refl B w).grown hgr hB (fun k hk => by cases hk; exact hg)

end Go.Proofs.YtljankfhnmcbaaaGreatDoor.SP
