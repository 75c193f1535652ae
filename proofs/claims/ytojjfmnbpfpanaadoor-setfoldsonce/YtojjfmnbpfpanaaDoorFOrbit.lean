/- What eachPartner, Orbit and Least answer: the points of an orbit, rising. -/
import Derived.Test.YtojjfmnbpfpanaaDoorFLeaf
import Derived.Test.YtojjfmnbpfpanaaDoorFShelf
import Derived.Sort.OwnSortedInts
namespace Go.Proofs.YtojjfmnbpfpanaaDoor.Fo
open Go.RowKit
set_option linter.unusedVariables false

/-- the table of letters as it lies in memory. -/
def Tab (w : World) : Prop := ∀ i (h : i < 13), w.cell? ⟨0, i * 4, none⟩ = some (.int .i64 (lets[i]'h).first) ∧ w.cell? ⟨0, i * 4 + 1, none⟩ = some (.int .i64 (lets[i]'h).last) ∧ w.cell? ⟨0, i * 4 + 2, none⟩ = some (.int .i64 (lets[i]'h).step) ∧ w.cell? ⟨0, i * 4 + 3, none⟩ = some (.int .i64 (lets[i]'h).shift)
theorem Tab.below {w w' : World} {B : Nat} (h : Tab w) (hb : Below B w w') (hB : 0 < B) : Tab w' := fun i hi => by
  obtain ⟨h0, h1, h2, h3⟩ := h i hi
  exact ⟨by rw [hb.cell (by exact hB)]; exact h0, by rw [hb.cell (by exact hB)]; exact h1, by rw [hb.cell (by exact hB)]; exact h2, by rw [hb.cell (by exact hB)]; exact h3⟩

theorem lets_ok : ∀ r ∈ lets, 0 ≤ r.first ∧ r.last ≤ 10000 ∧ (r.step = 1 ∨ r.step = 2) ∧ -8383 ≤ r.shift ∧ r.shift ≤ 775 := by
  intro r hr
  simp only [lets, List.mem_cons, List.not_mem_nil, or_false] at hr
  rcases hr with rfl | rfl | rfl | rfl | rfl | rfl | rfl | rfl | rfl | rfl | rfl | rfl | rfl <;> decide
theorem visit1_eq (p : Int) (l : List Int) (r : Pr) : visit1 p l r = (let a := if hasB ⟨r.first, r.last, r.step, r.shift⟩ p then stepP l (p + r.shift) else l; if hasB ⟨r.first, r.last, r.step, r.shift⟩ (p - r.shift) then stepP a (p - r.shift) else a) := rfl
theorem visit1_len (p : Int) (l : List Int) (r : Pr) : l.length ≤ (visit1 p l r).length ∧ (visit1 p l r).length ≤ l.length + 2 := by
  unfold visit1
  have h1 := stepP_len l (p + r.shift)
  split
  · split
    · have h2 := stepP_len (stepP l (p + r.shift)) (p - r.shift); simp only; omega
    · simp only; omega
  · split
    · have h2 := stepP_len l (p - r.shift); simp only; omega
    · simp only; omega
theorem visit_len (p : Int) (l : List Int) (k : Nat) (hk : k ≤ 13) : l.length ≤ ((lets.take k).foldl (visit1 p) l).length ∧ ((lets.take k).foldl (visit1 p) l).length ≤ l.length + 2 * k := by
  induction k with
  | zero => simp
  | succ k ih =>
    have ih := ih (by omega)
    rw [List.take_add_one, List.getElem?_eq_getElem (show k < lets.length from hk), List.foldl_append]
    simp only [Option.toList_some, List.foldl_cons, List.foldl_nil]
    have := visit1_len p ((lets.take k).foldl (visit1 p) l) (lets[k]'hk)
    omega

theorem fold_succ (p : Int) (l : List Int) (k : Nat) (hk : k < 13) : (lets.take (k + 1)).foldl (visit1 p) l = visit1 p ((lets.take k).foldl (visit1 p) l) (lets[k]'hk) := by
  rw [List.take_add_one, List.getElem?_eq_getElem (show k < lets.length from hk), List.foldl_append]
  rfl

set_option maxHeartbeats 4000000 in
theorem each_any (B b : Nat) (hB0 : 0 < B) (hBb : B ≤ b) (p : Int) (hp0 : 0 ≤ p) (hp1 : p ≤ 1114111) (v : Value) (l : List Int) (w : World) (hT : Tab w) (hbox : w.heap[b]? = some (.cells #[v] 37 (0, 0))) (hown : w.ownsRow B 3 1 v l.length (i64s l)) (hn : l.length ≤ 1000) (h1 : 1 ≤ l.length) (hB : B ≤ w.heap.size) :
    Calls Tryd.prog 33 #[.int .i64 p, .func (.func 34) #[] #[.pointer (some ⟨b, 0, none⟩)]] w fun e w' => e = .returned (.tuple #[]) ∧ (∃ v', w'.heap[b]? = some (.cells #[v'] 37 (0, 0)) ∧ w'.ownsRow B 3 1 v' (visit p l).length (i64s (visit p l))) ∧ Below B w w' ∧ Keeps b w w' := by
  have HT := hide hT
  have HB := hide hbox
  have HO := hide hown
  clear hT hbox hown
  go_enter Tryd.func33, Tryd.ntmps33
  go_wp2
  go_loopw [6] (fun i wr => ∃ (k : Nat) (v : Value), k ≤ 13 ∧ i = .int .i64 k ∧ wr.heap[b]? = some (.cells #[v] 37 (0, 0)) ∧ wr.ownsRow B 3 1 v ((lets.take k).foldl (visit1 p) l).length (i64s ((lets.take k).foldl (visit1 p) l)) ∧ Below B w wr ∧ Keeps b w wr) (fun i _ => 13 - (intOf i).toNat)
  case atStart => exact ⟨0, v, by decide, rfl, HB.out, HO.out, Below.refl _ _, fun k o _ h _ => h⟩
  case round =>
    obtain ⟨k, u, hk, rfl, hb, ho, hbl, hkp⟩ := hrel
    by_cases hlt : k < 13
    · obtain ⟨c0, c1, c2, c3⟩ := HT.out.below hbl hB0 k hlt
      obtain ⟨r, hr⟩ : ∃ r, r = lets[k]'hlt := ⟨_, rfl⟩
      rw [← hr] at c0 c1 c2 c3
      have HR := hide hr
      have HB' := hide hb
      have HO' := hide ho
      clear hr hb ho
      have hok := lets_ok r (by rw [HR.out]; exact List.getElem_mem _)
      obtain ⟨o1, o2, o3, o4, o5⟩ := hok
      obtain ⟨l1, hl1⟩ : ∃ l1, l1 = (lets.take k).foldl (visit1 p) l := ⟨_, rfl⟩
      rw [← hl1] at HO'
      have HL1 := hide hl1
      have hlen := visit_len p l k (by omega)
      rw [← hl1] at hlen
      obtain ⟨hlen1, hlen2⟩ := hlen
      clear hl1
      have hwb : b < wr.heap.size := lt_of_block HB'.out
      have hBw : B ≤ wr.heap.size := Nat.le_trans hB hbl.size
      have C1 := hide (has_any r.first r.last r.step r.shift p o1 o2 o3 (by omega) (by omega))
      have C2 := hide (has_any r.first r.last r.step r.shift (p - r.shift) o1 o2 o3 (by omega) (by omega))
      have hv1 := hide (visit1_eq p l1 r)
      clear o1 o2 o3
      go_wp2_with fail
      refine (C1.out _).mono ?_
      rintro e w1 ⟨rfl, hb1⟩
      have hz1 : wr.heap.size < w1.heap.size := by have := hb1.size; simp at this; omega
      have BXw1 : w1.heap[wr.heap.size]? = some (.cells #[.int .i64 r.first, .int .i64 r.last, .int .i64 r.step, .int .i64 r.shift] 63 (0, 0)) := by rw [hb1.block _ (by simp)]; exact heap_alloc_new wr _
      have k0w1 : w1.cell? ⟨wr.heap.size, 0, none⟩ = some (.int .i64 r.first) := by simp [World.cell?, BXw1]
      have k1w1 : w1.cell? ⟨wr.heap.size, 1, none⟩ = some (.int .i64 r.last) := by simp [World.cell?, BXw1]
      have k2w1 : w1.cell? ⟨wr.heap.size, 2, none⟩ = some (.int .i64 r.step) := by simp [World.cell?, BXw1]
      have k3w1 : w1.cell? ⟨wr.heap.size, 3, none⟩ = some (.int .i64 r.shift) := by simp [World.cell?, BXw1]
      have HXw1 := hide BXw1
      clear BXw1
      have HB1 : Hid (w1.heap[b]? = some (.cells #[u] 37 (0, 0))) := by show w1.heap[b]? = _; rw [hb1.block b (by simp; omega), Below.heap_alloc _ _ _ hwb]; exact HB'.out
      have HO1 : Hid (w1.ownsRow B 3 1 u l1.length (i64s l1)) := own_below (HO'.out.alloc _) hb1
      have hbl1 : Below B w w1 := hbl.trans (((Below.refl B wr).alloc hBw _).trans (hb1.mono (by simp; omega)))
      have hkp1 : Keeps b w w1 := hkp.trans (Keeps.trans (Keeps.below ((Below.refl _ wr).alloc (Nat.le_refl _) _)) (Keeps.below hb1))
      clear hbl hkp hb1 HB' HO' C1
      by_cases q1 : hasB ⟨r.first, r.last, r.step, r.shift⟩ p = true
      · rw [q1] at hv1 ⊢
        have hst := stepP_len l1 (p + r.shift)
        go_wp2_with fail
        refine (step_any B b hBb u l1 (p + r.shift) w1 HB1.out HO1.out (by omega) (by omega) (by omega)).mono ?_
        rintro e w2 ⟨rfl, ⟨u2, hu2, ho2⟩, hb2, hk2⟩
        obtain ⟨l2, hl2⟩ : ∃ l2, l2 = stepP l1 (p + r.shift) := ⟨_, rfl⟩
        rw [← hl2] at hst ho2
        have HL2 := hide hl2
        have hv1' : Hid (visit1 p l1 r = if hasB ⟨r.first, r.last, r.step, r.shift⟩ (p - r.shift) then stepP l2 (p - r.shift) else l2) := by rw [hl2]; exact hv1
        clear hl2 hv1
        have hv1 := hv1'
        clear hv1'
        have HB2 := hide hu2
        have HO2 := hide ho2
        have hz2 : wr.heap.size < w2.heap.size := by have := hb2.size; omega
        have BXw2 : w2.heap[wr.heap.size]? = some (.cells #[.int .i64 r.first, .int .i64 r.last, .int .i64 r.step, .int .i64 r.shift] 63 (0, 0)) := hk2 _ _ (by omega) HXw1.out (by simp)
        have k0w2 : w2.cell? ⟨wr.heap.size, 0, none⟩ = some (.int .i64 r.first) := by simp [World.cell?, BXw2]
        have k1w2 : w2.cell? ⟨wr.heap.size, 1, none⟩ = some (.int .i64 r.last) := by simp [World.cell?, BXw2]
        have k2w2 : w2.cell? ⟨wr.heap.size, 2, none⟩ = some (.int .i64 r.step) := by simp [World.cell?, BXw2]
        have k3w2 : w2.cell? ⟨wr.heap.size, 3, none⟩ = some (.int .i64 r.shift) := by simp [World.cell?, BXw2]
        have HXw2 := hide BXw2
        clear BXw2
        have hbl2 := hbl1.trans hb2
        have hkp2 := hkp1.trans hk2
        clear hu2 ho2 hb2 hk2 hbl1 hkp1 k0w1 k1w1 k2w1 k3w1
        go_wp2_with fail
        refine (C2.out _).mono ?_
        rintro e w3 ⟨rfl, hb3⟩
        have hz3 : wr.heap.size < w3.heap.size := by have := hb3.size; omega
        have BXw3 : w3.heap[wr.heap.size]? = some (.cells #[.int .i64 r.first, .int .i64 r.last, .int .i64 r.step, .int .i64 r.shift] 63 (0, 0)) := by rw [hb3.block _ (by omega)]; exact HXw2.out
        have k0w3 : w3.cell? ⟨wr.heap.size, 0, none⟩ = some (.int .i64 r.first) := by simp [World.cell?, BXw3]
        have k1w3 : w3.cell? ⟨wr.heap.size, 1, none⟩ = some (.int .i64 r.last) := by simp [World.cell?, BXw3]
        have k2w3 : w3.cell? ⟨wr.heap.size, 2, none⟩ = some (.int .i64 r.step) := by simp [World.cell?, BXw3]
        have k3w3 : w3.cell? ⟨wr.heap.size, 3, none⟩ = some (.int .i64 r.shift) := by simp [World.cell?, BXw3]
        have HXw3 := hide BXw3
        clear BXw3
        have HB3 : Hid (w3.heap[b]? = some (.cells #[u2] 37 (0, 0))) := by show w3.heap[b]? = _; rw [hb3.block b (lt_of_block HB2.out)]; exact HB2.out
        have HO3 : Hid (w3.ownsRow B 3 1 u2 l2.length (i64s l2)) := own_below HO2.out hb3
        have hbl3 : Below B w w3 := hbl2.trans (hb3.mono (by omega))
        have hkp3 : Keeps b w w3 := hkp2.trans (Keeps.below hb3)
        clear hb3
        by_cases q2 : hasB ⟨r.first, r.last, r.step, r.shift⟩ (p - r.shift) = true
        · rw [q2] at hv1 ⊢
          simp only [if_true] at hv1
          go_wp2_with fail
          refine (step_any B b hBb u2 l2 (p - r.shift) w3 HB3.out HO3.out (by omega) (by omega) (by omega)).mono ?_
          rintro e w4 ⟨rfl, ⟨u4, hu4, ho4⟩, hb4, hk4⟩
          have HB4 := hide hu4
          have HO4 := hide ho4
          clear hu4 ho4
          go_wp2
          go_roundw
          case rel => exact ⟨k + 1, u4, by omega, by go_num, HB4.out, by rw [fold_succ p l k hlt, ← HR.out, ← HL1.out, hv1.out]; exact HO4.out, hbl3.trans hb4, hkp3.trans hk4⟩
          case measure => simp [intOf]; omega
        · have q2' : hasB ⟨r.first, r.last, r.step, r.shift⟩ (p - r.shift) = false := by simpa using q2
          rw [q2'] at hv1 ⊢
          clear q2
          simp only [if_false, Bool.false_eq_true] at hv1
          go_wp2
          go_roundw
          case rel => exact ⟨k + 1, u2, by omega, by go_num, HB3.out, by rw [fold_succ p l k hlt, ← HR.out, ← HL1.out, hv1.out]; exact HO3.out, hbl3, hkp3⟩
          case measure => simp [intOf]; omega
      · have q1' : hasB ⟨r.first, r.last, r.step, r.shift⟩ p = false := by simpa using q1
        rw [q1'] at hv1 ⊢
        clear q1
        have hv1' : Hid (visit1 p l1 r = if hasB ⟨r.first, r.last, r.step, r.shift⟩ (p - r.shift) then stepP l1 (p - r.shift) else l1) := hv1
        clear hv1
        have hv1 := hv1'
        clear hv1'
        go_wp2_with fail
        refine (C2.out _).mono ?_
        rintro e w3 ⟨rfl, hb3⟩
        have hz3 : wr.heap.size < w3.heap.size := by have := hb3.size; omega
        have BXw3 : w3.heap[wr.heap.size]? = some (.cells #[.int .i64 r.first, .int .i64 r.last, .int .i64 r.step, .int .i64 r.shift] 63 (0, 0)) := by rw [hb3.block _ (by omega)]; exact HXw1.out
        have k0w3 : w3.cell? ⟨wr.heap.size, 0, none⟩ = some (.int .i64 r.first) := by simp [World.cell?, BXw3]
        have k1w3 : w3.cell? ⟨wr.heap.size, 1, none⟩ = some (.int .i64 r.last) := by simp [World.cell?, BXw3]
        have k2w3 : w3.cell? ⟨wr.heap.size, 2, none⟩ = some (.int .i64 r.step) := by simp [World.cell?, BXw3]
        have k3w3 : w3.cell? ⟨wr.heap.size, 3, none⟩ = some (.int .i64 r.shift) := by simp [World.cell?, BXw3]
        have HXw3 := hide BXw3
        clear BXw3
        have HB3 : Hid (w3.heap[b]? = some (.cells #[u] 37 (0, 0))) := by show w3.heap[b]? = _; rw [hb3.block b (lt_of_block HB1.out)]; exact HB1.out
        have HO3 : Hid (w3.ownsRow B 3 1 u l1.length (i64s l1)) := own_below HO1.out hb3
        have hbl3 : Below B w w3 := hbl1.trans (hb3.mono (by omega))
        have hkp3 : Keeps b w w3 := hkp1.trans (Keeps.below hb3)
        clear hb3
        by_cases q2 : hasB ⟨r.first, r.last, r.step, r.shift⟩ (p - r.shift) = true
        · rw [q2] at hv1 ⊢
          simp only [if_true] at hv1
          go_wp2_with fail
          refine (step_any B b hBb u l1 (p - r.shift) w3 HB3.out HO3.out (by omega) (by omega) (by omega)).mono ?_
          rintro e w4 ⟨rfl, ⟨u4, hu4, ho4⟩, hb4, hk4⟩
          have HB4 := hide hu4
          have HO4 := hide ho4
          clear hu4 ho4
          go_wp2
          go_roundw
          case rel => exact ⟨k + 1, u4, by omega, by go_num, HB4.out, by rw [fold_succ p l k hlt, ← HR.out, ← HL1.out, hv1.out]; exact HO4.out, hbl3.trans hb4, hkp3.trans hk4⟩
          case measure => simp [intOf]; omega
        · have q2' : hasB ⟨r.first, r.last, r.step, r.shift⟩ (p - r.shift) = false := by simpa using q2
          rw [q2'] at hv1 ⊢
          clear q2
          simp only [if_false, Bool.false_eq_true] at hv1
          go_wp2
          go_roundw
          case rel => exact ⟨k + 1, u, by omega, by go_num, HB3.out, by rw [fold_succ p l k hlt, ← HR.out, ← HL1.out, hv1.out]; exact HO3.out, hbl3, hkp3⟩
          case measure => simp [intOf]; omega
    · have hkl : k = 13 := by omega
      subst hkl
      go_wp2
      go_end0
      exact ⟨rfl, ⟨u, hb, ho⟩, hbl, hkp⟩
theorem ins_perm (x : Int) (l : List Int) : (ins x l).Perm (x :: l) := by
  induction l with
  | nil => exact List.Perm.refl _
  | cons y ys ih =>
    unfold ins
    split
    · exact List.Perm.refl _
    · exact (ih.cons y).trans (List.Perm.swap x y ys)
theorem ins_sorted (x : Int) (l : List Int) (h : l.Pairwise (· ≤ ·)) : (ins x l).Pairwise (· ≤ ·) := by
  induction l with
  | nil => simp [ins]
  | cons y ys ih =>
    unfold ins
    rw [List.pairwise_cons] at h
    split
    · rename_i hxy
      rw [List.pairwise_cons]
      refine ⟨fun z hz => ?_, List.pairwise_cons.2 h⟩
      rcases List.mem_cons.1 hz with rfl | hz
      · omega
      · have := h.1 z hz; omega
    · rename_i hxy
      rw [List.pairwise_cons]
      refine ⟨fun z hz => ?_, ih h.2⟩
      rcases (mem_ins x z ys).1 hz with rfl | hz
      · omega
      · exact h.1 z hz
theorem srt_both : ∀ (l acc : List Int), acc.Pairwise (· ≤ ·) → (l.foldl (fun acc x => ins x acc) acc).Pairwise (· ≤ ·) ∧ (l.foldl (fun acc x => ins x acc) acc).Perm (l ++ acc) := by
  intro l
  induction l with
  | nil => intro acc h; exact ⟨h, List.Perm.refl _⟩
  | cons y ys ih =>
    intro acc h
    rw [List.foldl_cons]
    obtain ⟨h1, h2⟩ := ih (ins y acc) (ins_sorted y acc h)
    refine ⟨h1, h2.trans ?_⟩
    refine ((ins_perm y acc).append_left ys).trans ?_
    exact List.perm_middle
theorem srt_eq (l : List Int) : l.mergeSort (fun x y => decide (x ≤ y)) = srt l := by
  obtain ⟨h1, h2⟩ := srt_both l [] List.Pairwise.nil
  have h3 := List.pairwise_mergeSort (le := fun (x y : Int) => decide (x ≤ y)) (by intro a b c; simp; omega) (by intro a b; simp; omega) l
  have h4 := List.mergeSort_perm l (fun (x y : Int) => decide (x ≤ y))
  rw [List.append_nil] at h2
  exact List.Perm.eq_of_pairwise (le := fun (x y : Int) => x ≤ y) (by intro a b _ _; omega) (h3.imp (by intro a b h; simpa using h)) h1 (h4.trans h2.symm)

/-- slices.Sort of a row of the call's own. -/
theorem sort_any (B g cap : Nat) (l : List Int) (w : World) (hl : l.length ≤ 3000) (hown : w.ownsRow B 3 1 (.slice (some ⟨g, 0, none⟩) l.length cap) l.length (i64s l)) :
    Calls Tryd.prog 36 #[.slice (some ⟨g, 0, none⟩) l.length cap] w fun e w' => e = .returned (.tuple #[]) ∧ w'.ownsRow B 3 1 (.slice (some ⟨g, 0, none⟩) l.length cap) l.length (i64s (srt l)) ∧ w.grownBy w' (some g) := by
  rcases hown.2 with ⟨h0, _⟩ | ⟨g', cap', cur, hv, hg, hh, hn, hm, hs, ht⟩
  · cases h0
  cases hv
  have hH := holds_of_blockI (ss := l) hh (by rw [Nat.mul_one] at ht; exact ht)
  have hc := Tryd.slices_Sort_int g 0 cap l w hH (lt_of_block hh) (by omega)
  refine hc.mono ?_
  rintro e w' ⟨rfl, n, os, rfl⟩
  rw [srt_eq]
  refine ⟨rfl, ?_, grownBy_sortedI _⟩
  exact ownsRow_sortedI (srt_len l) hg hh hn hm hs

theorem Keeps.grown {b g : Nat} {w w' : World} {v : Value} {n : Nat} {xs : List Value} {B : Nat} (hown : w.ownsRow B 3 1 v n xs) (h : w.grownBy w' v.ownBlock) : Keeps b w w' := fun k o _ hk ho => by
  rw [h.block k (lt_of_block hk) (own_block3 hown hk ho)]; exact hk

theorem ret2v {v : Value} {a c : Int} (h : a = c) : Ending.returned (.tuple #[v, .int .i64 a]) = .returned (.tuple #[v, .int .i64 c]) := by rw [h]

set_option maxHeartbeats 400000 in
theorem Orbit_no (p : Int) (w : World) (h : ¬ (0 ≤ p ∧ p ≤ 1114111)) :
    Calls Tryd.prog 17 #[.int .i64 p] w fun e w' => e = .returned (.tuple #[.slice none 0 0, .int .i64 3]) ∧ w' = w := by
  have H := isPoint_any p
  rw [show decide (0 ≤ p ∧ p ≤ 1114111) = false from by simpa using h] at H
  have HH := hide H
  clear H h
  go_enter Tryd.func17, Tryd.ntmps17
  go_wp2_with (go_at_call 32; refine (HH.out _).mono ?_; rintro e w' ⟨rfl, rfl⟩)
  go_ret2
  exact ⟨rfl, rfl⟩

theorem one_row (w : World) (p : Int) : (w.alloc (.cells #[.int .i64 p] 3)).ownsRow w.heap.size 3 1 (.slice (some ⟨w.heap.size, 0, none⟩) 1 1) 1 (i64s [p]) :=
  World.ownsRow_lit (base := w.heap.size) (e := 3) (size := 1) w #[.int .i64 p] 1 (Nat.le_refl _) (by decide) rfl

set_option maxHeartbeats 2000000 in
theorem Orbit_yes (p : Int) (w : World) (h0 : 0 ≤ p) (h1 : p ≤ 1114111) (hT : Tab w) (hpos : 0 < w.heap.size) :
    Calls Tryd.prog 17 #[.int .i64 p] w fun e w' => ∃ g cap, e = .returned (.tuple #[.slice (some ⟨g, 0, none⟩) (orb p).length cap, .int .i64 0]) ∧ w'.ownsRow w.heap.size 3 1 (.slice (some ⟨g, 0, none⟩) (orb p).length cap) (orb p).length (i64s (orb p)) ∧ Below w.heap.size w w' := by
  have H := isPoint_any p
  rw [show decide (0 ≤ p ∧ p ≤ 1114111) = true from by simp; omega] at H
  have HH := hide H
  have HT := hide hT
  have hok := hide (fun i hi => orbS_ok p h0 h1 i hi)
  have hmf : ∀ (fn : Fn) (first cap : Array Value) (w : World), (Instr.makeFunc fn first cap).run Tryd.prog w = .ok (.func fn first cap) w := fun _ _ _ _ => rfl
  clear H hT
  go_enter Tryd.func17, Tryd.ntmps17
  go_wp2_with (go_at_call 32; refine (HH.out _).mono ?_; rintro e w' ⟨rfl, hw⟩; have hw2 := hw.symm; clear hw; subst hw2)
  go_loopw [5] (fun i wr => ∃ (k : Nat) (v : Value), k ≤ 3 ∧ i = .int .i64 k ∧ wr.heap[w.heap.size + 1]? = some (.cells #[v] 37 (0, 0)) ∧ wr.ownsRow w.heap.size 3 1 v (orbS p k).length (i64s (orbS p k)) ∧ Below w.heap.size w wr) (fun i _ => 3 - (intOf i).toNat)
  case atStart => exact ⟨0, _, by decide, rfl, by rw [← World.size_alloc w (.cells #[.int .i64 p] 3)]; exact heap_alloc_new _ _, (one_row w p).alloc _, ((Below.refl _ w).alloc (Nat.le_refl _) _).alloc (by simp) _⟩
  case round =>
    obtain ⟨k, v, hk, rfl, hb, ho, hbl⟩ := hrel
    obtain ⟨n1, n2, hrg⟩ := hok.out k hk
    obtain ⟨l, hl⟩ : ∃ l, l = orbS p k := ⟨_, rfl⟩
    rw [← hl] at ho n1 n2 hrg
    have HL := hide hl
    have HRG := hide hrg
    clear hl hrg
    obtain ⟨g, c, rfl⟩ := own_some ho n1
    have hcb := cell_of_one hb
    have HB := hide hb
    have HO := hide ho
    have hBw := hbl.size
    clear hb ho
    by_cases hlt : k < l.length
    · obtain ⟨q, hq⟩ : ∃ q, q = l.getD k 0 := ⟨_, rfl⟩
      have hcq : wr.cell? ⟨g, k, none⟩ = some (.int .i64 q) := by
        have := own_cells HO.out k hlt
        rw [Addr.add_lit, Nat.zero_add] at this
        rw [hq]; exact this
      have hqr := HRG.out q (by rw [hq]; simp [List.getD, hlt])
      obtain ⟨q0, q1⟩ := hqr
      have HQ := hide hq
      clear hq
      have HE := hide (each_any w.heap.size (w.heap.size + 1) hpos (by omega) q q0 q1 _ l wr (HT.out.below hbl hpos) HB.out HO.out (by omega) n1 hBw)
      go_wp2_with fail
      refine HE.out.mono ?_
      rintro e w2 ⟨rfl, ⟨v2, hv2, ho2⟩, hb2, _⟩
      have HB2 := hide hv2
      have HO2 := hide ho2
      clear hv2 ho2 HE
      go_wp2
      go_roundw
      case rel => exact ⟨k + 1, v2, by omega, by go_num, HB2.out, by rw [orbS_succ (by rw [← HL.out]; exact hlt), ← HL.out, ← HQ.out]; exact HO2.out, hbl.trans hb2⟩
      case measure => simp [intOf]; omega
    · have hfin := orbS_fin hk (by rw [← HL.out]; omega)
      have HF : Hid (orb p = srt l) := by show srt (orbS p 3) = _; rw [hfin, ← HL.out]
      have hlen : Hid ((orb p).length = l.length) := by show _ = _; rw [HF.out, srt_len]
      clear hfin
      have HS := hide (sort_any w.heap.size g c l wr (by omega) HO.out)
      go_wp2_with fail
      refine HS.out.mono ?_
      rintro e w2 ⟨rfl, ho2, hg2⟩
      have hb2 : w2.heap[w.heap.size + 1]? = some (.cells #[.slice (some ⟨g, 0, none⟩) l.length c] 37 (0, 0)) := by
        rw [hg2.block _ (lt_of_block HB.out) (own_block3 HO.out HB.out (by simp))]; exact HB.out
      have hcb2 := cell_of_one hb2
      have HO2 := hide ho2
      have hbl2 : Below w.heap.size w w2 := hbl.grown hg2 hBw (fun j hj => (HO.out.lt j hj).1)
      clear ho2 hg2 hb2 HS hcb
      go_wp2
      go_ret2
      exact ⟨g, c, by rw [hlen.out]; rfl, by rw [hlen.out, HF.out]; exact HO2.out, hbl2⟩

end Go.Proofs.YtojjfmnbpfpanaaDoor.Fo
