/- What the small functions of fold and of the library answer: pairs that have a point, whether a list has a number. -/
import Derived.Test.YtojjfmnbpfpanaaDoorProg
import Derived.Test.YtojjfmnbpfpanaaDoorFPure
import Derived.WalkKit
import Derived.WalkLawsBesides
import Derived.Handy
import Derived.PlainAid
import Derived.BigQuiet
import Derived.Deep.QuietTactic
import Derived.OneCell
namespace Go.Proofs.YtojjfmnbpfpanaaDoor.Fo
open Go.RowKit
set_option linter.unusedVariables false

theorem hide {p : Prop} (h : p) : Hid p := h
theorem unhide {p : Prop} (h : Hid p) : p := h
theorem ret_bool {a b : Bool} (h : a = b) : Ending.returned (.bool a) = .returned (.bool b) := by rw [h]
theorem ret_int {k : IntKind} {a b : Int} (h : a = b) : Ending.returned (.int k a) = .returned (.int k b) := by rw [h]
def i64s (l : List Int) : List Value := l.map (Value.int .i64)

set_option maxHeartbeats 400000 in
theorem isPoint_any (p : Int) (w : World) : Calls Tryd.prog 32 #[.int .i64 p] w fun e w' => e = .returned (.bool (decide (0 ≤ p ∧ p ≤ 1114111))) ∧ w' = w := by
  go_enter Tryd.func32, Tryd.ntmps32
  go_wp2
  all_goals go_ret
  all_goals exact ⟨ret_bool (by rw [Bool.eq_iff_iff]; simp <;> omega), rfl⟩
set_option maxHeartbeats 400000 in
theorem isPointR_any (p : Int) (w : World) : Calls Tryd.prog 40 #[.int .i64 p] w fun e w' => e = .returned (.bool (decide (0 ≤ p ∧ p ≤ 1114111))) ∧ w' = w := by
  go_enter Tryd.func40, Tryd.ntmps40
  go_wp2
  all_goals go_ret
  all_goals exact ⟨ret_bool (by rw [Bool.eq_iff_iff]; simp <;> omega), rfl⟩

/-- a pair of the table, as a value. -/
def prV (r : Pr) : Value := .agg #[.int .i64 r.first, .int .i64 r.last, .int .i64 r.step, .int .i64 r.shift]

set_option maxHeartbeats 1000000 in
theorem has_any (f l st sh x : Int) (hf : 0 ≤ f) (hl : l ≤ 10000) (hs : st = 1 ∨ st = 2) (hx0 : -20000 ≤ x) (hx1 : x ≤ 2000000) (w : World) :
    Calls Tryd.prog 52 #[.agg #[.int .i64 f, .int .i64 l, .int .i64 st, .int .i64 sh], .int .i64 x] w fun e w' => e = .returned (.bool (hasB ⟨f, l, st, sh⟩ x)) ∧ Below w.heap.size w w' := by
  by_cases h1 : f ≤ x
  · by_cases h2 : x ≤ l
    · rcases hs with rfl | rfl
      all_goals
        go_enter Tryd.func52, Tryd.ntmps52
        go_wp2
        go_ret
        exact ⟨ret_bool (by rw [Bool.eq_iff_iff]; simp [hasB, h1, h2]), by go_grown⟩
    · go_enter Tryd.func52, Tryd.ntmps52
      go_wp2
      go_ret
      exact ⟨ret_bool (by simp [hasB]; omega), by go_grown⟩
  · go_enter Tryd.func52, Tryd.ntmps52
    go_wp2
    go_ret
    exact ⟨ret_bool (by simp [hasB]; omega), by go_grown⟩

set_option maxHeartbeats 1000000 in
theorem index_any (l : List Int) (a : Addr) (cap : Nat) (x : Int) (hl : l.length ≤ 4000) (w : World) (hc : ∀ j, j < l.length → w.cell? (a.add j) = some (.int .i64 (l.getD j 0))) :
    Calls Tryd.prog 53 #[.slice (some a) l.length cap, .int .i64 x] w fun e w' => ∃ z : Int, e = .returned (.int .i64 z) ∧ (0 ≤ z ↔ x ∈ l) ∧ w = w' := by
  have HC := hide hc
  clear hc
  go_enter Tryd.func53, Tryd.ntmps53
  go_wp2
  go_loop [8] (fun i => ∃ k : Nat, k ≤ l.length ∧ i = .int .i64 k ∧ x ∉ l.take k) (fun i => l.length - (intOf i).toNat)
  case atStart => exact ⟨0, Nat.zero_le _, rfl, by simp⟩
  case round =>
    obtain ⟨k, hk, rfl, hn⟩ := hrel
    by_cases hlt : k < l.length
    · obtain ⟨y, hy⟩ : ∃ y, y = l.getD k 0 := ⟨_, rfl⟩
      have hcy : w.cell? (a.add k) = some (.int .i64 y) := by rw [hy]; exact HC.out k hlt
      have HY := hide hy
      have HN := hide hn
      clear hy hn
      have hmem : y ∈ l := by rw [HY.out]; simp [List.getD, hlt]
      by_cases hxy : x = y
      · subst hxy
        go_wp2
        go_ret
        refine ⟨(k : Int), rfl, ?_, rfl⟩
        exact Int.natCast_nonneg k
      · have hb : (x == y) = false := by simpa using hxy
        have HXY := hide hxy
        clear hxy hmem
        go_wp2
        go_round
        case rel => exact ⟨k + 1, by omega, by go_num, by
          rw [List.take_add_one]
          simp only [List.mem_append, not_or]
          refine ⟨HN.out, ?_⟩
          have := HY.out
          simp [List.getD, List.getElem?_eq_getElem hlt] at this ⊢
          rw [← this]; exact HXY.out⟩
        case measure => simp [intOf]; omega
    · have hkl : k = l.length := by omega
      subst hkl
      rw [List.take_length] at hn
      go_wp2
      go_ret
      refine ⟨-1, rfl, ?_, rfl⟩
      decide

set_option maxHeartbeats 1000000 in
theorem contains_any (l : List Int) (a : Addr) (cap : Nat) (x : Int) (hl : l.length ≤ 4000) (w : World) (hc : ∀ j, j < l.length → w.cell? (a.add j) = some (.int .i64 (l.getD j 0))) :
    Calls Tryd.prog 35 #[.slice (some a) l.length cap, .int .i64 x] w fun e w' => e = .returned (.bool (l.contains x)) ∧ w = w' := by
  have H := hide (index_any l a cap x hl w hc)
  clear hc
  go_enter Tryd.func35, Tryd.ntmps35
  go_wp2_with (go_at_call 53; refine H.out.mono ?_; rintro e w' ⟨z, rfl, hz, rfl⟩)
  go_ret
  exact ⟨ret_bool (by rw [Bool.eq_iff_iff]; simp), rfl⟩

theorem own_shape {B e : Nat} {w : World} {v : Value} {n k : Nat} {xs : List Value} (h : w.ownsRow B e k v n xs) : ∃ ao cap, v = .slice ao n cap := by
  rcases h.2 with ⟨rfl, rfl⟩ | ⟨g, cap, cur, rfl, _⟩
  · exact ⟨_, _, rfl⟩
  · exact ⟨_, _, rfl⟩
theorem own_some {B e : Nat} {w : World} {v : Value} {n k : Nat} {xs : List Value} (h : w.ownsRow B e k v n xs) (hn : 1 ≤ n) : ∃ g cap, v = .slice (some ⟨g, 0, none⟩) n cap := by
  rcases h.2 with ⟨rfl, rfl⟩ | ⟨g, cap, cur, rfl, _⟩
  · omega
  · exact ⟨_, _, rfl⟩
theorem own_below {B e : Nat} {w w' : World} {v : Value} {n k : Nat} {xs : List Value} (h : w.ownsRow B e k v n xs) (hb : Below w.heap.size w w') : w'.ownsRow B e k v n xs := by
  refine ⟨h.1, ?_⟩
  rcases h.2 with h2 | ⟨g, cap, cur, rfl, h3, hg, h4⟩
  · exact Or.inl h2
  · exact Or.inr ⟨g, cap, cur, rfl, h3, by rw [hb.block g (Array.getElem?_eq_some_iff.1 hg).1]; exact hg, h4⟩
theorem own_base {B B' e : Nat} {w : World} {v : Value} {n k : Nat} {xs : List Value} (h : w.ownsRow B' e k v n xs) (hb : B ≤ B') : w.ownsRow B e k v n xs := by
  refine ⟨h.1, ?_⟩
  rcases h.2 with h2 | ⟨g, cap, cur, rfl, h3, h4⟩
  · exact Or.inl h2
  · exact Or.inr ⟨g, cap, cur, rfl, by omega, h4⟩
theorem cells_one3 (X : World) (g : Nat) (hg : g = X.heap.size) (z : Int) : ∀ j v, [Value.int .i64 z][j]? = some v → (X.alloc (.cells #[.int .i64 z] 3)).cell? ((⟨g, 0, none⟩ : Addr).add j) = some v := by
  subst hg
  intro j v hj
  match j, hj with
  | 0, hj => simp at hj; subst hj; exact World.cell?_alloc_at _ _ _ _ rfl
  | (j + 1), hj => simp at hj
theorem one3 (z : Int) : ∀ v ∈ [Value.int .i64 z], v.oneCell' = true := by
  intro v hv; simp at hv; subst hv; rfl
/-- what is in blocks that are neither b nor rows of numbers stays. -/
def Keeps (b : Nat) (w w' : World) : Prop := ∀ k o, k ≠ b → w.heap[k]? = some o → (∀ cs fr, o ≠ .cells cs 3 fr) → w'.heap[k]? = some o
theorem Keeps.trans {b : Nat} {w w1 w2 : World} (h : Keeps b w w1) (k : Keeps b w1 w2) : Keeps b w w2 := fun i o h1 h2 h3 => k i o h1 (h i o h1 h2 h3) h3
theorem Keeps.below {b : Nat} {w w1 : World} (h : Below w.heap.size w w1) : Keeps b w w1 := fun i o _ h2 _ => by rw [h.block i (Array.getElem?_eq_some_iff.1 h2).1]; exact h2
theorem own_block3 {B : Nat} {w : World} {v : Value} {n : Nat} {xs : List Value} (h : w.ownsRow B 3 1 v n xs) {k : Nat} {o : Obj} (hk : w.heap[k]? = some o) (ho : ∀ cs fr, o ≠ .cells cs 3 fr) : some k ≠ v.ownBlock := by
  intro e
  rcases h.2 with ⟨rfl, _⟩ | ⟨g, cap, cur, rfl, _, hg, _⟩
  · simp [Value.ownBlock] at e
  · simp [Value.ownBlock] at e
    subst e
    rw [hk] at hg
    simp at hg
    exact ho _ _ hg
theorem below_app3 {B : Nat} {w w' : World} {v : Value} {n : Nat} {xs : List Value} (hown : w.ownsRow B 3 1 v n xs) (hB : B ≤ w.heap.size) {o : Obj} (hg : (w.alloc o).grownBy w' v.ownBlock) : Below B w w' :=
  ((Below.refl B w).alloc hB o).grown hg (by simp; omega) (fun k hk => (hown.lt k hk).1)
theorem own_cells {B : Nat} {w : World} {g cap : Nat} {l : List Int} (h : w.ownsRow B 3 1 (.slice (some ⟨g, 0, none⟩) l.length cap) l.length (i64s l)) : ∀ j, j < l.length → w.cell? ((⟨g, 0, none⟩ : Addr).add j) = some (.int .i64 (l.getD j 0)) := by
  intro j hj
  have h2 := h.cellAt j (by omega)
  rw [Addr.add_lit, Nat.zero_add, h2]
  simp [i64s, List.getD, hj]
theorem Tryd.info3 : (Tryd.prog.info? 3).map (fun i => (i.zero, i.size, i.bytes)) = some (some (.int .i64 0), 1, 8) := by kernel_rfl

theorem stepP_len (l : List Int) (q : Int) : l.length ≤ (stepP l q).length ∧ (stepP l q).length ≤ l.length + 1 := by
  unfold stepP; split <;> simp

set_option maxHeartbeats 1000000 in
/-- the function literal of Orbit. -/
theorem step_any (B b : Nat) (hBb : B ≤ b) (v : Value) (l : List Int) (q : Int) (w : World) (hbox : w.heap[b]? = some (.cells #[v] 37 (0, 0))) (hown : w.ownsRow B 3 1 v l.length (i64s l)) (hn : l.length ≤ 3000) (h1 : 1 ≤ l.length) (hB : B ≤ w.heap.size) :
    Calls Tryd.prog 34 #[.int .i64 q, .pointer (some ⟨b, 0, none⟩)] w fun e w' => e = .returned (.tuple #[]) ∧ (∃ v', w'.heap[b]? = some (.cells #[v'] 37 (0, 0)) ∧ w'.ownsRow B 3 1 v' (stepP l q).length (i64s (stepP l q))) ∧ Below B w w' ∧ Keeps b w w' := by
  obtain ⟨i0, hi, hz0, hz1, hz2⟩ := info_parts Tryd.info3
  have hlt : b < w.heap.size := lt_of_block hbox
  have hcb := cell_of_one hbox
  have hfb := free_of_one hbox
  have HB := hide hbox
  have HO := hide hown
  clear hbox
  obtain ⟨g, c, rfl⟩ := own_some hown h1
  have HC := hide (contains_any l ⟨g, 0, none⟩ c q (by omega) w (own_cells hown))
  clear hown
  by_cases hq : l.contains q = true
  · have E : stepP l q = l := by simp only [stepP, hq, if_true]
    rw [E]
    rw [hq] at HC
    clear E hq
    go_enter Tryd.func34, Tryd.ntmps34
    go_wp2_with (go_at_call 35; refine HC.out.mono ?_; rintro e w' ⟨rfl, rfl⟩)
    go_end0
    exact ⟨rfl, ⟨_, HB.out, HO.out⟩, Below.refl _ _, fun k o _ h _ => h⟩
  · have hq' : l.contains q = false := by simpa using hq
    have E : stepP l q = l ++ [q] := by simp only [stepP, hq', Bool.false_eq_true, if_false]
    rw [E, List.length_append, List.length_singleton]
    simp only [i64s, List.map_append, List.map_cons, List.map_nil]
    rw [hq'] at HC
    clear E hq hq'
    go_enter Tryd.func34, Tryd.ntmps34
    go_wp2_with (first | (go_at_call 35; refine HC.out.mono ?_; rintro e w' ⟨rfl, rfl⟩) | (at_builtin; refine wpList_append_own _ rfl _ _ 37 rfl B 3 i0 (.int .i64 0) 1 8 Tryd.underlying37 hi hz0 hz1 hz2 rfl (by decide) _ _ _ rfl (HO.out.alloc _) ⟨w.heap.size, 0, none⟩ 1 1 [.int .i64 q] rfl rfl (cells_one3 _ _ (by simp) q) (one3 q) (by unfold maxLen; omega) (by omega) (by simp; omega) ?_))
    intro v' w2 hown' hgrow _
    have hob := own_block3 HO.out HB.out (by simp)
    have hb2 : w2.heap[b]? = some (.cells #[.slice (some ⟨g, 0, none⟩) l.length c] 37 (0, 0)) := by
      rw [hgrow.block b (by simp; omega) hob, Below.heap_alloc _ _ _ hlt]; exact HB.out
    have hc2 := cell_of_one hb2
    have hf2 := free_of_one hb2
    obtain ⟨ao', c', hv'⟩ := own_shape hown'
    have HG := hide hgrow
    have HO2 := hide hown'
    have HB2 := hide hb2
    clear hgrow hown' hb2 hcb hfb
    rw [hv'] at HO2
    rw [hv']
    clear hv'
    go_wp2
    go_end0
    have hb3 := one_setCell (u := .slice ao' (l.length + 1) c') HB2.out
    have hne : (Value.slice ao' (l.length + 1) c').ownBlock ≠ some b := fun e => own_block3 HO2.out HB2.out (by simp) e.symm
    refine ⟨rfl, ⟨_, hb3, ownsRow_setCell_other HO2.out hne _⟩, (below_app3 HO.out hB HG.out).setCell hBb _, ?_⟩
    intro k o hkb hk ho
    rw [Below.heap_setCell _ _ _ _ hkb, HG.out.block k (by have := lt_of_block hk; simp; omega) (own_block3 HO.out hk ho), Below.heap_alloc _ _ _ (lt_of_block hk)]
    exact hk

end Go.Proofs.YtojjfmnbpfpanaaDoor.Fo
