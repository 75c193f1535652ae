/- What stretch answers. -/
import Derived.Test.YtojjfmnbpfpanaaDoorSbase
import Derived.Test.YtojjfmnbpfpanaaDoorSsrch
namespace Go.Proofs.YtojjfmnbpfpanaaDoor
open Go.RowKit Go.Sort Go.Lib Go.Shelf
set_option linter.unusedVariables false

set_option maxHeartbeats 1000000 in
theorem stretch1_any (x b1 b2 : Addr) (c : Nat) (L : RL) (p : Int) (i : Nat) (W : World) (hi : i < L.length) (hl : L.length ≤ 2000) (h1 : W.cell? b1 = some (.slice (some x) L.length c)) (h2 : W.cell? b2 = some (.int .i64 p)) (hc : Cells2 W x L) :
    Calls Tryd.prog 58 #[.int .i64 i, .pointer (some b1), .pointer (some b2)] W fun e w' => e = .returned (.bool (decide (p ≤ L[i].2))) ∧ ∃ q, w' = W.drewN q := by
  obtain ⟨c1, c2⟩ := hc i hi
  obtain ⟨b, hb⟩ : ∃ b, b = L[i].2 := ⟨_, rfl⟩
  rw [← hb] at c2 ⊢
  obtain ⟨n, hn⟩ : ∃ n, n = L.length := ⟨_, rfl⟩
  rw [← hn] at hi hl h1
  have e1 : (i : Int) < (n : Int) := by omega
  have e0 : (0 : Int) ≤ (i : Int) := by omega
  clear hc hb hn c1
  go_enter Tryd.func58, Tryd.ntmps58
  go_wp2
  go_quiet (fail)
  go_wp2
  go_ret
  exact ⟨rfl, _, rfl⟩
theorem enters58 (args : Array Value) (w : World) : (callFunc 58 args).run Tryd.prog w = .ok (.enter 58 args) w := enters_of Tryd.func58 (by kernel_rfl) rfl args w


theorem count_range (L : RL) (p : Int) : (List.range L.length).countP (fun i => !decide (p ≤ (L.getD i (0, 0)).2)) = L.countP (fun r => decide (r.2 < p)) := by
  have h : L = (List.range L.length).map (fun i => L.getD i (0, 0)) := by
    apply List.ext_getElem
    · simp
    · intro i h1 h2
      simp [List.getD, h1]
  conv => rhs; rw [h, List.countP_map]
  apply List.countP_congr
  intro i _
  simp [Function.comp]
theorem reads_one {w : World} (v : Value) (t : Nat) : (w.alloc (.cells #[v] t)).cell? ⟨w.heap.size, 0, none⟩ = some v := World.cell?_alloc_at _ _ _ _ rfl
theorem below_grow (w : World) (q : Nat) (os : Array Obj) : Below w.heap.size w (grow (w.drewN q) os) := below_grown_sl _ w q os (Nat.le_refl _)
theorem below_two (w : World) (o o' : Obj) : Below w.heap.size w ((w.alloc o).alloc o') := ((Below.refl _ w).alloc (Nat.le_refl _) o).alloc (by simp) o'
theorem below_both (w w2 : World) (o o' : Obj) (h : Below ((w.alloc o).alloc o').heap.size ((w.alloc o).alloc o') w2) : Below w.heap.size w w2 := (below_two w o o').trans (h.mono (by simp; omega))

set_option maxHeartbeats 2000000 in
theorem stretch_any (v : Value) (L : RL) (p : Int) (w : World) (hv : Reads w v L) (hC : Canon L) (hl : L.length ≤ 2000) :
    Calls Tryd.prog 49 #[v, .int .i64 p] w fun e w' => e = .returned (.tuple #[.bool (stretchL L p).1, .int .i64 (stretchL L p).2]) ∧ Below w.heap.size w w' := by
  obtain ⟨k, hk⟩ : ∃ k, k = L.countP (fun r => decide (r.2 < p)) := ⟨_, rfl⟩
  obtain ⟨s1, s2⟩ := stretch_at L p k hk hC
  have hkl : k ≤ L.length := by rw [hk]; exact List.countP_le_length
  rcases hv with ⟨rfl, rfl⟩ | ⟨x, c, rfl, hc⟩
  · have S := hide (Any.sort_Search Tryd.search 58 #[.pointer (some ⟨w.heap.size, 0, none⟩), .pointer (some ⟨w.heap.size + 1, 0, none⟩)] 0 (fun _ => false) ((w.alloc (.cells #[.slice none 0 0] 22)).alloc (.cells #[.int .i64 p] 3)) enters58 (by decide) (fun m os i hi => by omega) (fun a b _ h => by omega))
    change Hid (Calls Tryd.prog 57 _ _ _) at S
    clear s1 s2 hk hkl hC
    go_enter Tryd.func49, Tryd.ntmps49
    go_wp2_with fail
    refine S.out.mono ?_
    rintro e w2 ⟨rfl, q, os, hw2⟩
    have hb := below_grow ((w.alloc (.cells #[.slice none 0 0] 22)).alloc (.cells #[.int .i64 p] 3)) q os
    rw [← hw2] at hb
    have d1 : w2.cell? ⟨w.heap.size, 0, none⟩ = some (.slice none 0 0) := below_cell hb (by simp; omega) (cell_alloc_sl _ (reads_one _ _))
    clear hw2 S
    go_wp2
    go_ret2
    exact ⟨rfl, below_both _ _ _ _ hb⟩
  · obtain ⟨n, hn⟩ : ∃ n, n = L.length := ⟨_, rfl⟩
    have S := hide (Any.sort_Search Tryd.search 58 #[.pointer (some ⟨w.heap.size, 0, none⟩), .pointer (some ⟨w.heap.size + 1, 0, none⟩)] L.length (fun i => decide (p ≤ (L.getD i (0, 0)).2)) ((w.alloc (.cells #[.slice (some x) L.length c] 22)).alloc (.cells #[.int .i64 p] 3)) enters58 (by omega) (fun m os i hi => by
      have hb := below_grow ((w.alloc (.cells #[.slice (some x) L.length c] 22)).alloc (.cells #[.int .i64 p] 3)) m os
      have h := stretch1_any x ⟨w.heap.size, 0, none⟩ ⟨w.heap.size + 1, 0, none⟩ c L p i (grow (((w.alloc (.cells #[.slice (some x) L.length c] 22)).alloc (.cells #[.int .i64 p] 3)).drewN m) os) hi hl (below_cell hb (by simp; omega) (cell_alloc_sl _ (reads_one _ _))) (below_cell hb (by simp) (by have := reads_one (w := w.alloc (.cells #[.slice (some x) L.length c] 22)) (.int .i64 p) 3; simp)) ((hc.below (below_two w _ _)).below hb)
      refine h.mono ?_
      rintro e w' ⟨rfl, q, rfl⟩
      refine ⟨by simp [List.getD, hi], q, #[], by rw [grow_empty]⟩) (fun a b hab hbn h => by
      simp only [decide_eq_true_eq] at h ⊢
      by_cases hab' : a = b
      · subst hab'; exact h
      · have hp := hC.2
        rw [List.pairwise_iff_getElem] at hp
        have h1 := hp a b (by omega) hbn (by omega)
        have h2 := hC.1 L[b] (List.getElem_mem _)
        unfold okR at h2
        simp only [List.getD, List.getElem?_eq_getElem hbn, List.getElem?_eq_getElem (show a < L.length by omega), Option.getD_some] at h ⊢
        omega))
    change Hid (Calls Tryd.prog 57 _ _ _) at S
    rw [count_range, ← hk, ← hn] at S
    rw [← hn] at hkl hl s1 ⊢
    have HC := hide hc
    have HN := hide hn
    by_cases hkn : k = n
    · have E := hide (s1 hkn)
      rw [E.out]
      clear s1 s2 hk hc hn hC
      subst hkn
      go_enter Tryd.func49, Tryd.ntmps49
      go_wp2_with fail
      refine S.out.mono ?_
      rintro e w2 ⟨rfl, q, os, hw2⟩
      have hb := below_grow ((w.alloc (.cells #[.slice (some x) k c] 22)).alloc (.cells #[.int .i64 p] 3)) q os
      rw [← hw2] at hb
      have d1 : w2.cell? ⟨w.heap.size, 0, none⟩ = some (.slice (some x) k c) := below_cell hb (by simp; omega) (cell_alloc_sl _ (reads_one _ _))
      clear hw2 S
      go_wp2
      go_ret2
      exact ⟨rfl, below_both _ _ _ _ hb⟩
    · have hkL : k < L.length := by omega
      have E := hide (s2 hkL)
      have hr := hC.1 L[k] (List.getElem_mem _)
      unfold okR at hr
      obtain ⟨r, hr'⟩ : ∃ r, r = L[k] := ⟨_, rfl⟩
      rw [← hr'] at hr E
      have HR := hide hr'
      obtain ⟨a, b⟩ := r
      simp only at hr E
      obtain ⟨r0, r1, r2⟩ := hr
      have e1 : (k : Int) < (n : Int) := by omega
      have e0 : (0 : Int) ≤ (k : Int) := by omega
      have e3 : ((k : Int) == (n : Int)) = false := by simp; omega
      have wa : IntKind.i64.wrap (a - 1) = a - 1 := by rw [IntKind.wrap_i64]; omega
      clear s1 s2 hk hn hC hc hr'
      have finish : ∀ (w2 : World), Below ((w.alloc (.cells #[.slice (some x) n c] 22)).alloc (.cells #[.int .i64 p] 3)).heap.size ((w.alloc (.cells #[.slice (some x) n c] 22)).alloc (.cells #[.int .i64 p] 3)) w2 → w2.cell? ⟨w.heap.size, 0, none⟩ = some (.slice (some x) n c) ∧ w2.cell? ⟨w.heap.size + 1, 0, none⟩ = some (.int .i64 p) ∧ w2.cell? (x.add (k * 2)) = some (.int .i64 a) ∧ w2.cell? ⟨(x.add (k * 2)).block, (x.add (k * 2)).off + 1, none⟩ = some (.int .i64 b) := by
        intro w2 hb
        obtain ⟨c1, c2⟩ := ((HC.out.below (below_two w _ _)).below hb) k hkL
        rw [← HR.out] at c1 c2
        exact ⟨below_cell hb (by simp; omega) (cell_alloc_sl _ (reads_one _ _)), below_cell hb (by simp) (by have := reads_one (w := w.alloc (.cells #[.slice (some x) n c] 22)) (.int .i64 p) 3; simp), c1, c2⟩
      have FI := hide finish
      clear finish
      by_cases hpa : p < a
      · rw [if_pos hpa] at E
        rw [E.out]
        go_enter Tryd.func49, Tryd.ntmps49
        go_wp2_with fail
        refine S.out.mono ?_
        rintro e w2 ⟨rfl, q, os, hw2⟩
        have hb := below_grow ((w.alloc (.cells #[.slice (some x) n c] 22)).alloc (.cells #[.int .i64 p] 3)) q os
        rw [← hw2] at hb
        obtain ⟨d1, d2, d3, d4⟩ := FI.out w2 hb
        clear hw2 S
        go_wp2
        go_quiet (fail)
        go_wp2
        go_quiet (fail)
        go_wp2
        go_ret2
        exact ⟨rfl, below_drewN (below_drewN (below_both _ _ _ _ hb) _) _⟩
      · rw [if_neg hpa] at E
        rw [E.out]
        have hd : decide (p < a) = false := by simpa using hpa
        go_enter Tryd.func49, Tryd.ntmps49
        go_wp2_with fail
        refine S.out.mono ?_
        rintro e w2 ⟨rfl, q, os, hw2⟩
        have hb := below_grow ((w.alloc (.cells #[.slice (some x) n c] 22)).alloc (.cells #[.int .i64 p] 3)) q os
        rw [← hw2] at hb
        obtain ⟨d1, d2, d3, d4⟩ := FI.out w2 hb
        clear hw2 S
        go_wp2
        go_quiet (fail)
        go_wp2
        go_quiet (fail)
        go_wp2
        go_ret2
        exact ⟨rfl, below_drewN (below_drewN (below_both _ _ _ _ hb) _) _⟩

end Go.Proofs.YtojjfmnbpfpanaaDoor
