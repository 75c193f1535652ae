/- The library's proved contract of sort.Search at this program's numbers. -/
import Derived.Shelf.SlSorted.Search
import Derived.Test.YtdipfaahlofmgaaProg
import Derived.Test.YtdipfaahlofmgaaSbase
import Derived.Test.YtdipfaahlofmgaaSchkc

namespace Go.Proofs
open Go.Shelf
def Try.search_ren : Go.Shelf.Ren := ⟨fun | 16 => 81 | n => n, fun | 3 => 3 | 4 => 4 | 35 => 63 | 38 => 92 | n => n, fun | n => n⟩
theorem Try.search : Go.Proofs.SlLaysO.n16 Try.prog Try.search_ren := {
  mixed := by kernel_rfl
  f16 := Try.func81.trans (congrArg some (by kernel_rfl))
  t3 := Try.underlying3
  a3 := Try.isAgg3
  z3 := Try.sizeOf3
  v3 := Try.zeroValue3
  t4 := Try.underlying4
  a4 := Try.isAgg4
  z4 := Try.sizeOf4
  v4 := Try.zeroValue4
  t35 := Try.underlying63
  a35 := Try.isAgg63
  z35 := Try.sizeOf63
  v35 := Try.zeroValue63
  t38 := Try.underlying92
  a38 := Try.isAgg92
  z38 := Try.sizeOf92
  v38 := Try.zeroValue92 }
end Go.Proofs

namespace Go.Proofs.Ytdipfaahlofmgaa.SS
open Go.RowKit Go.Sort Go.Lib Go.Shelf
set_option linter.unusedVariables false

set_option maxHeartbeats 1000000 in
theorem stretch1_any (x b1 b2 : Addr) (c : Nat) (L : RL) (p : Int) (i : Nat) (W : World) (hi : i < L.length) (hl : L.length ≤ 2000) (h1 : W.cell? b1 = some (.slice (some x) L.length c)) (h2 : W.cell? b2 = some (.int .i64 p)) (hc : Cells2 W x L) :
    Calls Try.prog 82 #[.int .i64 i, .pointer (some b1), .pointer (some b2)] W fun e w' => e = .returned (.bool (decide (p ≤ L[i].2))) ∧ ∃ q, w' = W.drewN q := by
  obtain ⟨c1, c2⟩ := hc i hi
  obtain ⟨b, hb⟩ : ∃ b, b = L[i].2 := ⟨_, rfl⟩
  rw [← hb] at c2 ⊢
  obtain ⟨n, hn⟩ : ∃ n, n = L.length := ⟨_, rfl⟩
  rw [← hn] at hi hl h1
  have e1 : (i : Int) < (n : Int) := by omega
  have e0 : (0 : Int) ≤ (i : Int) := by omega
  clear hc hb hn c1
  go_enter Try.func82, Try.ntmps82
  go_wp2
  go_quiet (fail)
  go_wp2
  go_ret
  exact ⟨rfl, _, rfl⟩
theorem enters82 (args : Array Value) (w : World) : (callFunc 82 args).run Try.prog w = .ok (.enter 82 args) w := enters_of Try.func82 (by kernel_rfl) rfl args w


theorem count_range (L : RL) (p : Int) : (List.range L.length).countP (fun i => !decide (p ≤ (L.getD i (0, 0)).2)) = L.countP (fun r => decide (r.2 < p)) := by
  have h : L = (List.range L.length).map (fun i => L.getD i (0, 0)) := by
    apply List.ext_getElem
    · simp
    · intro i h1 h2
      simp [List.getD, h1]
  conv => rhs; rw [h, List.countP_map]
  apply List.countP_congr
  intro i _
  simp [Function.comp]
theorem reads_one {w : World} (v : Value) (t : Nat) : (w.alloc (.cells #[v] t)).cell? ⟨w.heap.size, 0, none⟩ = some v := World.cell?_alloc_at _ _ _ _ rfl
theorem below_grow (w : World) (q : Nat) (os : Array Obj) : Below w.heap.size w (grow (w.drewN q) os) := below_grown_sl _ w q os (Nat.le_refl _)
theorem below_two (w : World) (o o' : Obj) : Below w.heap.size w ((w.alloc o).alloc o') := ((Below.refl _ w).alloc (Nat.le_refl _) o).alloc (by simp) o'
theorem below_both (w w2 : World) (o o' : Obj) (h : Below ((w.alloc o).alloc o').heap.size ((w.alloc o).alloc o') w2) : Below w.heap.size w w2 := (below_two w o o').trans (h.mono (by simp; omega))

set_option maxHeartbeats 2000000 in
theorem stretch_any (v : Value) (L : RL) (p : Int) (w : World) (hv : Reads w v L) (hC : Canon L) (hl : L.length ≤ 2000) :
    Calls Try.prog 79 #[v, .int .i64 p] w fun e w' => e = .returned (.tuple #[.bool (stretchL L p).1, .int .i64 (stretchL L p).2]) ∧ Below w.heap.size w w' := by
  obtain ⟨k, hk⟩ : ∃ k, k = L.countP (fun r => decide (r.2 < p)) := ⟨_, rfl⟩
  obtain ⟨s1, s2⟩ := stretch_at L p k hk hC
  have hkl : k ≤ L.length := by rw [hk]; exact List.countP_le_length
  rcases hv with ⟨rfl, rfl⟩ | ⟨x, c, rfl, hc⟩
  · have S := hide (Any.sort_Search Try.search 82 #[.pointer (some ⟨w.heap.size, 0, none⟩), .pointer (some ⟨w.heap.size + 1, 0, none⟩)] 0 (fun _ => false) ((w.alloc (.cells #[.slice none 0 0] 22)).alloc (.cells #[.int .i64 p] 3)) enters82 (by decide) (fun m os i hi => by omega) (fun a b _ h => by omega))
    change Hid (Calls Try.prog 81 _ _ _) at S
    clear s1 s2 hk hkl hC
    go_enter Try.func79, Try.ntmps79
    go_wp2_with fail
    refine S.out.mono ?_
    rintro e w2 ⟨rfl, q, os, hw2⟩
    have hb := below_grow ((w.alloc (.cells #[.slice none 0 0] 22)).alloc (.cells #[.int .i64 p] 3)) q os
    rw [← hw2] at hb
    have d1 : w2.cell? ⟨w.heap.size, 0, none⟩ = some (.slice none 0 0) := below_cell hb (by simp; omega) (cell_alloc_sl _ (reads_one _ _))
    clear hw2 S
    go_wp2
    go_ret2
    exact ⟨rfl, below_both _ _ _ _ hb⟩
  · obtain ⟨n, hn⟩ : ∃ n, n = L.length := ⟨_, rfl⟩
    have S := hide (Any.sort_Search Try.search 82 #[.pointer (some ⟨w.heap.size, 0, none⟩), .pointer (some ⟨w.heap.size + 1, 0, none⟩)] L.length (fun i => decide (p ≤ (L.getD i (0, 0)).2)) ((w.alloc (.cells #[.slice (some x) L.length c] 22)).alloc (.cells #[.int .i64 p] 3)) enters82 (by omega) (fun m os i hi => by
      have hb := below_grow ((w.alloc (.cells #[.slice (some x) L.length c] 22)).alloc (.cells #[.int .i64 p] 3)) m os
      have h := stretch1_any x ⟨w.heap.size, 0, none⟩ ⟨w.heap.size + 1, 0, none⟩ c L p i (grow (((w.alloc (.cells #[.slice (some x) L.length c] 22)).alloc (.cells #[.int .i64 p] 3)).drewN m) os) hi hl (below_cell hb (by simp; omega) (cell_alloc_sl _ (reads_one _ _))) (below_cell hb (by simp) (by have := reads_one (w := w.alloc (.cells #[.slice (some x) L.length c] 22)) (.int .i64 p) 3; simp)) ((hc.below (below_two w _ _)).below hb)
      refine h.mono ?_
      rintro e w' ⟨rfl, q, rfl⟩
      refine ⟨by simp [List.getD, hi], q, #[], by rw [grow_empty]⟩) (fun a b hab hbn h => by
      simp only [decide_eq_true_eq] at h ⊢
      by_cases hab' : a = b
      · subst hab'; exact h
      · have hp := hC.2
        rw [List.pairwise_iff_getElem] at hp
        have h1 := hp a b (by omega) hbn (by omega)
        have h2 := hC.1 L[b] (List.getElem_mem _)
        unfold okR at h2
        simp only [List.getD, List.getElem?_eq_getElem hbn, List.getElem?_eq_getElem (show a < L.length by omega), Option.getD_some] at h ⊢
        omega))
    change Hid (Calls Try.prog 81 _ _ _) at S
    rw [count_range, ← hk, ← hn] at S
    rw [← hn] at hkl hl s1 ⊢
    have HC := hide hc
    have HN := hide hn
    by_cases hkn : k = n
    · have E := hide (s1 hkn)
      rw [E.out]
      clear s1 s2 hk hc hn hC
      subst hkn
      go_enter Try.func79, Try.ntmps79
      go_wp2_with fail
      refine S.out.mono ?_
      rintro e w2 ⟨rfl, q, os, hw2⟩
      have hb := below_grow ((w.alloc (.cells #[.slice (some x) k c] 22)).alloc (.cells #[.int .i64 p] 3)) q os
      rw [← hw2] at hb
      have d1 : w2.cell? ⟨w.heap.size, 0, none⟩ = some (.slice (some x) k c) := below_cell hb (by simp; omega) (cell_alloc_sl _ (reads_one _ _))
      clear hw2 S
      go_wp2
      go_ret2
      exact ⟨rfl, below_both _ _ _ _ hb⟩
    · have hkL : k < L.length := by omega
      have E := hide (s2 hkL)
      have hr := hC.1 L[k] (List.getElem_mem _)
      unfold okR at hr
      obtain ⟨r, hr'⟩ : ∃ r, r = L[k] := ⟨_, rfl⟩
      rw [← hr'] at hr E
      have HR := hide hr'
      obtain ⟨a, b⟩ := r
      simp only at hr E
      obtain ⟨r0, r1, r2⟩ := hr
      have e1 : (k : Int) < (n : Int) := by omega
      have e0 : (0 : Int) ≤ (k : Int) := by omega
      have e3 : ((k : Int) == (n : Int)) = false := by simp; omega
      have wa : IntKind.i64.wrap (a - 1) = a - 1 := by rw [IntKind.wrap_i64]; omega
      clear s1 s2 hk hn hC hc hr'
      have finish : ∀ (w2 : World), Below ((w.alloc (.cells #[.slice (some x) n c] 22)).alloc (.cells #[.int .i64 p] 3)).heap.size ((w.alloc (.cells #[.slice (some x) n c] 22)).alloc (.cells #[.int .i64 p] 3)) w2 → w2.cell? ⟨w.heap.size, 0, none⟩ = some (.slice (some x) n c) ∧ w2.cell? ⟨w.heap.size + 1, 0, none⟩ = some (.int .i64 p) ∧ w2.cell? (x.add (k * 2)) = some (.int .i64 a) ∧ w2.cell? ⟨(x.add (k * 2)).block, (x.add (k * 2)).off + 1, none⟩ = some (.int .i64 b) := by
        intro w2 hb
        obtain ⟨c1, c2⟩ := ((HC.out.below (below_two w _ _)).below hb) k hkL
        rw [← HR.out] at c1 c2
        exact ⟨below_cell hb (by simp; omega) (cell_alloc_sl _ (reads_one _ _)), below_cell hb (by simp) (by have := reads_one (w := w.alloc (.cells #[.slice (some x) n c] 22)) (.int .i64 p) 3; simp), c1, c2⟩
      have FI := hide finish
      clear finish
      by_cases hpa : p < a
      · rw [if_pos hpa] at E
        rw [E.out]
        go_enter Try.func79, Try.ntmps79
        go_wp2_with fail
        refine S.out.mono ?_
        rintro e w2 ⟨rfl, q, os, hw2⟩
        have hb := below_grow ((w.alloc (.cells #[.slice (some x) n c] 22)).alloc (.cells #[.int .i64 p] 3)) q os
        rw [← hw2] at hb
        obtain ⟨d1, d2, d3, d4⟩ := FI.out w2 hb
        clear hw2 S
        go_wp2
        go_quiet (fail)
        go_wp2
        go_quiet (fail)
        go_wp2
        go_ret2
        exact ⟨rfl, below_drewN (below_drewN (below_both _ _ _ _ hb) _) _⟩
      · rw [if_neg hpa] at E
        rw [E.out]
        have hd : decide (p < a) = false := by simpa using hpa
        go_enter Try.func79, Try.ntmps79
        go_wp2_with fail
        refine S.out.mono ?_
        rintro e w2 ⟨rfl, q, os, hw2⟩
        have hb := below_grow ((w.alloc (.cells #[.slice (some x) n c] 22)).alloc (.cells #[.int .i64 p] 3)) q os
        rw [← hw2] at hb
        obtain ⟨d1, d2, d3, d4⟩ := FI.out w2 hb
        clear hw2 S
        go_wp2
        go_quiet (fail)
        go_wp2
        go_quiet (fail)
        go_wp2
        go_ret2
        exact ⟨rfl, below_drewN (below_drewN (below_both _ _ _ _ hb) _) _⟩

end Go.Proofs.Ytdipfaahlofmgaa.SS

namespace Go.Proofs.Ytdipfaahlofmgaa.SS
open Go.RowKit
set_option linter.unusedVariables false

def encR (x : Int × Int) : List Value := [.int .i64 x.1, .int .i64 x.2]
def cells2 (L : List (Int × Int)) : List Value := L.flatMap encR
theorem cells2_len (ps : List (Int × Int)) : (cells2 ps).length = ps.length * 2 := by
  induction ps with
  | nil => rfl
  | cons x xs ih => simp [cells2, encR] at ih ⊢; omega
theorem cells2_get (ps : List (Int × Int)) (k : Nat) (h : k < ps.length) : (cells2 ps)[k * 2]? = some (.int .i64 ps[k].1) ∧ (cells2 ps)[k * 2 + 1]? = some (.int .i64 ps[k].2) := by
  induction ps generalizing k with
  | nil => simp at h
  | cons x xs ih =>
    have e : cells2 (x :: xs) = .int .i64 x.1 :: .int .i64 x.2 :: cells2 xs := rfl
    match k with
    | 0 => rw [e]; simp
    | k + 1 =>
      have := ih k (by simpa using h)
      rw [e, show (k + 1) * 2 = k * 2 + 1 + 1 from by omega]
      simpa using this
theorem cells2_append (a b : List (Int × Int)) : cells2 (a ++ b) = cells2 a ++ cells2 b := by simp [cells2]

theorem own_shape {B e : Nat} {w : World} {v : Value} {n k : Nat} {xs : List Value} (h : w.ownsRow B e k v n xs) : ∃ ao cap, v = .slice ao n cap := by
  rcases h.2 with ⟨rfl, rfl⟩ | ⟨g, cap, cur, rfl, _⟩
  · exact ⟨_, _, rfl⟩
  · exact ⟨_, _, rfl⟩
theorem own_some {B e : Nat} {w : World} {v : Value} {n k : Nat} {xs : List Value} (h : w.ownsRow B e k v n xs) (hn : 1 ≤ n) : ∃ g cap, v = .slice (some ⟨g, 0, none⟩) n cap := by
  rcases h.2 with ⟨rfl, rfl⟩ | ⟨g, cap, cur, rfl, _⟩
  · omega
  · exact ⟨_, _, rfl⟩
theorem own_below {B e : Nat} {w w' : World} {v : Value} {n k : Nat} {xs : List Value} (h : w.ownsRow B e k v n xs) (hb : Below w.heap.size w w') : w'.ownsRow B e k v n xs := by
  refine ⟨h.1, ?_⟩
  rcases h.2 with h2 | ⟨g, cap, cur, rfl, h3, hg, h4⟩
  · exact Or.inl h2
  · exact Or.inr ⟨g, cap, cur, rfl, h3, by rw [hb.block g (Array.getElem?_eq_some_iff.1 hg).1]; exact hg, h4⟩
theorem own_base {B B' e : Nat} {w : World} {v : Value} {n k : Nat} {xs : List Value} (h : w.ownsRow B' e k v n xs) (hb : B ≤ B') : w.ownsRow B e k v n xs := by
  refine ⟨h.1, ?_⟩
  rcases h.2 with h2 | ⟨g, cap, cur, rfl, h3, h4⟩
  · exact Or.inl h2
  · exact Or.inr ⟨g, cap, cur, rfl, by omega, h4⟩

theorem infoR : (Try.prog.info? 51).map (fun i => (i.zero, i.size, i.bytes)) = some (some (.agg #[.int .i64 0, .int .i64 0]), 2, 16) := by kernel_rfl
theorem info_parts {o : Option TypeInfo} {z : Option Value} {s b : Nat} (h : o.map (fun i => (i.zero, i.size, i.bytes)) = some (z, s, b)) : ∃ i, o = some i ∧ i.zero = z ∧ i.size = s ∧ i.bytes = b := by
  cases o with
  | none => simp at h
  | some i => simp at h; exact ⟨i, rfl, h.1, h.2.1, h.2.2⟩
theorem cells_twoR (X : World) (g : Nat) (hg : g = X.heap.size) (z u : Int) : ∀ j v, [Value.int .i64 z, .int .i64 u][j]? = some v → (X.alloc (.cells #[.int .i64 z, .int .i64 u] 51)).cell? ((⟨g, 0, none⟩ : Addr).add j) = some v := by
  subst hg
  intro j v hj
  match j, hj with
  | 0, hj => simp at hj; subst hj; exact World.cell?_alloc_at _ _ _ _ rfl
  | 1, hj => simp at hj; subst hj; exact World.cell?_alloc_at _ _ _ _ rfl
  | (j + 2), hj => simp at hj
theorem two_one (z u : Int) : ∀ v ∈ [Value.int .i64 z, .int .i64 u], v.oneCell' = true := by
  intro v hv; simp at hv; rcases hv with rfl | rfl <;> rfl
theorem own_drewN {B e k : Nat} {w : World} {v : Value} {n : Nat} {xs : List Value} (h : w.ownsRow B e k v n xs) (q : Nat) : (w.drewN q).ownsRow B e k v n xs := h
theorem own_last {B : Nat} {w : World} {g cap m : Nat} {O : List (Int × Int)} {a b : Int} (h : w.ownsRow B 51 2 (.slice (some ⟨g, 0, none⟩) (m + 1) cap) (m + 1) (cells2 (O ++ [(a, b)]))) (hm : m = O.length) : w.cell? ⟨g, m * 2, none⟩ = some (.int .i64 a) ∧ w.cell? ⟨g, m * 2 + 1, none⟩ = some (.int .i64 b) := by
  obtain ⟨h1, h2⟩ := cells2_get (O ++ [(a, b)]) m (by simp [hm])
  rw [h.cellAt (m * 2) (by omega), h.cellAt (m * 2 + 1) (by omega)]
  subst hm
  simpa using And.intro h1 h2
theorem cells2_turn (O : List (Int × Int)) (a b M : Int) : (cells2 (O ++ [(a, b)])).set (O.length * 2 + 1) (.int .i64 M) = cells2 (O ++ [(a, M)]) := by
  rw [cells2_append, cells2_append]
  have e : (cells2 O).length = O.length * 2 := cells2_len O
  rw [← e, List.set_append_right _ _ (by omega)]
  simp [cells2, encR]
theorem own_turn {B : Nat} {w : World} {g cap m : Nat} {O : List (Int × Int)} {a b : Int} (h : w.ownsRow B 51 2 (.slice (some ⟨g, 0, none⟩) (m + 1) cap) (m + 1) (cells2 (O ++ [(a, b)]))) (hm : m = O.length) (M : Int) (o : Obj) (q : Nat) : (((w.alloc o).drewN q).setCell ⟨g, m * 2 + 1, none⟩ (.int .i64 M)).ownsRow B 51 2 (.slice (some ⟨g, 0, none⟩) (m + 1) cap) (m + 1) (cells2 (O ++ [(a, M)])) := by
  have := ((own_drewN (h.alloc o) q).stored (m * 2 + 1) (.int .i64 M)).1
  subst hm
  rw [cells2_turn] at this
  exact this
theorem size_da (w : World) (o : Obj) (q : Nat) : w.heap.size + 1 = ((w.alloc o).drewN q).heap.size := by show _ = (w.alloc o).heap.size; simp
theorem size_dB {B : Nat} {w : World} (h : B ≤ w.heap.size) (o : Obj) (q : Nat) (o' : Obj) : B ≤ (((w.alloc o).drewN q).alloc o').heap.size := by rw [World.size_alloc]; rw [← size_da]; omega
theorem below_appd {B : Nat} {w w' : World} {v : Value} {n : Nat} {xs : List Value} (hown : w.ownsRow B 51 2 v n xs) (hB : B ≤ w.heap.size) {o o' : Obj} {q : Nat} (hg : (((w.alloc o).drewN q).alloc o').grownBy w' v.ownBlock) : Below B w w' :=
  ((below_drewN ((Below.refl B w).alloc hB o) q).alloc (by rw [← size_da]; omega) o').grown hg (size_dB hB o q o') (fun k hk => (hown.lt k hk).1)

set_option maxHeartbeats 4000000 in
theorem add_any (B : Nat) (v : Value) (O : RL) (p t : Int) (w : World) (hB : B ≤ w.heap.size) (hO : ∀ x ∈ O, 0 ≤ x.2 ∧ x.2 ≤ 1114111) (hl : O.length ≤ 1114112) (ho : w.ownsRow B 51 2 v O.length (cells2 O)) :
    Calls Try.prog 80 #[v, .agg #[.int .i64 p, .int .i64 t]] w fun e w' => ∃ v', e = .returned v' ∧ w'.ownsRow B 51 2 v' (joinStep O (p, t)).length (cells2 (joinStep O (p, t))) ∧ Below B w w' := by
  obtain ⟨i0, hi, hz0, hz1, hz2⟩ := info_parts infoR
  rcases List.eq_nil_or_concat O with rfl | ⟨O', y, rfl⟩
  · have HOw := hide ho
    obtain ⟨ao, c, rfl⟩ := own_shape ho
    clear ho
    go_enter Try.func80, Try.ntmps80
    go_wp2
    go_quiet (fail)
    go_wp2_with (at_builtin; refine wpList_append_own _ rfl _ _ 22 rfl B 51 i0 (.agg #[.int .i64 0, .int .i64 0]) 2 16 Try.underlying22 hi hz0 hz1 hz2 rfl (by decide) _ _ _ rfl ((own_drewN (HOw.out.alloc _) nq).alloc _) ⟨w.heap.size + 1, 0, none⟩ 1 1 [.int .i64 p, .int .i64 t] rfl rfl (cells_twoR _ _ (size_da _ _ _) p t) (two_one p t) (by decide) (by decide) (size_dB hB _ _ _) ?_)
    intro v' w3 hown' hgrow _
    have HO3 := hide hown'
    have hb3 := below_appd HOw.out hB hgrow
    clear hown' hgrow
    go_wp2
    go_ret
    exact ⟨_, rfl, HO3.out, hb3⟩
  · obtain ⟨ya, yb⟩ := y
    rw [List.concat_eq_append] at ho hl hO ⊢
    obtain ⟨y0, y1⟩ := hO (ya, yb) (by simp)
    simp only at y0 y1
    obtain ⟨m, hm⟩ : ∃ m, m = O'.length := ⟨_, rfl⟩
    have hlen : (O' ++ [(ya, yb)]).length = m + 1 := by simp [hm]
    have HM := hide hm
    rw [hlen] at ho hl
    obtain ⟨g', c, rfl⟩ := own_some ho (by omega)
    obtain ⟨e1, e2⟩ := own_last ho hm
    have HOw := hide ho
    have ef := ho.frozenAt (m * 2 + 1)
    clear ho hlen hm hO
    have hgw : g' < w.heap.size := (HOw.out.lt g' rfl).2
    have m0 : (0 : Int) ≤ (m : Int) := by omega
    have m1 : (m : Int) < (m : Int) + 1 := by omega
    have m2 : m < m + 1 := by omega
    have m3 : ((m : Int) < 0) = False := by simp
    have wy : IntKind.i64.wrap (yb + 1) = yb + 1 := by rw [IntKind.wrap_i64]; omega
    by_cases hin : p ≤ yb + 1
    · have hJ := hide (joinStep_in O' ya yb (p, t) hin)
      have hd : decide (yb + 1 < p) = false := by simp; omega
      clear hin
      by_cases hmx : t ≤ yb
      · have hE : Hid (max yb t = yb) := by show _ = _; omega
        go_enter Try.func80, Try.ntmps80
        go_wp2
        go_quiet (fail)
        go_wp2
        go_region
        all_goals go_wp2
        go_ret
        exact ⟨_, rfl, by rw [hJ.out, show (O' ++ [(ya, max yb (p, t).2)]).length = m + 1 from by simp [HM.out]]; simp only; rw [hE.out]; exact own_turn HOw.out HM.out _ _ _, (below_drewN ((Below.refl B w).alloc hB _) _).setCell (HOw.out.lt g' rfl).1 _⟩
      · have hE : Hid (max yb t = t) := by show _ = _; omega
        go_enter Try.func80, Try.ntmps80
        go_wp2
        go_quiet (fail)
        go_wp2
        go_region
        all_goals go_wp2
        go_ret
        exact ⟨_, rfl, by rw [hJ.out, show (O' ++ [(ya, max yb (p, t).2)]).length = m + 1 from by simp [HM.out]]; simp only; rw [hE.out]; exact own_turn HOw.out HM.out _ _ _, (below_drewN ((Below.refl B w).alloc hB _) _).setCell (HOw.out.lt g' rfl).1 _⟩
    · have hJ := hide (joinStep_out O' ya yb (p, t) hin)
      have hd : yb + 1 < p := by omega
      clear hin
      go_enter Try.func80, Try.ntmps80
      go_wp2
      go_quiet (fail)
      go_wp2_with (at_builtin; refine wpList_append_own _ rfl _ _ 22 rfl B 51 i0 (.agg #[.int .i64 0, .int .i64 0]) 2 16 Try.underlying22 hi hz0 hz1 hz2 rfl (by decide) _ _ _ rfl ((own_drewN (HOw.out.alloc _) nq).alloc _) ⟨w.heap.size + 1, 0, none⟩ 1 1 [.int .i64 p, .int .i64 t] rfl rfl (cells_twoR _ _ (size_da _ _ _) p t) (two_one p t) (by unfold maxLen; omega) (by omega) (size_dB hB _ _ _) ?_)
      intro v' w3 hown' hgrow _
      have HO3 := hide hown'
      have hb3 := below_appd HOw.out hB hgrow
      clear hown' hgrow
      go_wp2
      go_ret
      exact ⟨_, rfl, by rw [hJ.out, show (O' ++ [(ya, yb)] ++ [(p, t)]).length = m + 1 + 1 from by simp [HM.out], cells2_append]; exact HO3.out, hb3⟩

end Go.Proofs.Ytdipfaahlofmgaa.SS

namespace Go.Proofs.Ytdipfaahlofmgaa.SS
open Go.RowKit
set_option linter.unusedVariables false

/-- a function of two bools that only answers. -/
def Says (g : Nat) (kf : Bool → Bool → Bool) : Prop := ∀ a b w, Calls Try.prog g #[.bool a, .bool b] w fun e w' => e = .returned (.bool (kf a b)) ∧ w = w'
theorem upto_rng {f : Int → Bool} {O : RL} {p : Int} (h : Upto f O p) (h0 : 0 ≤ p) (h1 : p ≤ 1114112) : (∀ x ∈ O, 0 ≤ x.2 ∧ x.2 ≤ 1114111) ∧ O.length ≤ 1114112 := by
  refine ⟨fun x hx => ?_, ?_⟩
  · have := h.1.1 x hx
    unfold okR at this
    omega
  · have := canon_len h.1 p h0 h.2.1
    omega

set_option maxHeartbeats 4000000 in
theorem kept_any (g : Nat) (kf : Bool → Bool → Bool) (hk : Says g kf) (eg : ∀ args w, (callFunc g args).run Try.prog w = .ok (.enter g args) w) (va vb : Value) (A B : RL) (w : World) (hA : Reads w va A) (hB : Reads w vb B) (cA : Canon A) (cB : Canon B) (lA : A.length ≤ 2000) (lB : B.length ≤ 2000) :
    Calls Try.prog 75 #[va, vb, .func (.func g) #[] #[]] w fun e w' => ∃ v' O, e = .returned v' ∧ w'.ownsRow w.heap.size 51 2 v' O.length (cells2 O) ∧ IsSet (fun q => kf (ins A q) (ins B q)) O ∧ Below w.heap.size w w' := by
  have HS := hide (fun p w' (hb : Below w.heap.size w w') => stretch_any va A p w' (hA.below hb) cA lA)
  have HT := hide (fun p w' (hb : Below w.heap.size w w') => stretch_any vb B p w' (hB.below hb) cB lB)
  have HK := hide hk
  have CA := hide cA
  have CB := hide cB
  clear hk hA hB cA cB lA lB
  go_enter Try.func75, Try.ntmps75
  go_wp2
  go_loopw [7, 8] (fun v i wr => ∃ (O : RL) (p : Int), i = .int .i64 p ∧ 0 ≤ p ∧ p ≤ 1114112 ∧ wr.ownsRow w.heap.size 51 2 v O.length (cells2 O) ∧ Upto (fun q => kf (ins A q) (ins B q)) O p ∧ Below w.heap.size w wr) (fun _ i _ => 1114112 - (intOf i).toNat)
  case atStart => exact ⟨[], 0, rfl, by omega, by omega, World.ownsRow_nil _ _ _ _, upto_zero _, Below.refl _ _⟩
  case round =>
    obtain ⟨O, p, rfl, p0, p1, ho, hu, hb⟩ := hrel
    have HO := hide ho
    have HU := hide hu
    have HB := hide hb
    obtain ⟨ao, c, rfl⟩ := own_shape ho
    clear ho
    by_cases hp : p ≤ 1114111
    · obtain ⟨sa1, sa2, sa3⟩ := stretch_spec CA.out p0 hp
      obtain ⟨sb1, sb2, sb3⟩ := stretch_spec CB.out p0 hp
      have ia := stretch_ins CA.out p0 hp
      have ib := stretch_ins CB.out p0 hp
      have HS1 := hide (HS.out p wr hb)
      have HT1 := hide (fun w' hb' => HT.out p w' hb')
      obtain ⟨xa, la, hx⟩ : ∃ xa la, stretchL A p = (xa, la) := ⟨_, _, rfl⟩
      obtain ⟨xb, lb, hy⟩ : ∃ xb lb, stretchL B p = (xb, lb) := ⟨_, _, rfl⟩
      rw [hx] at HS1 sa1 sa2 sa3 ia
      rw [hy] at HT1 sb1 sb2 sb3 ib
      simp only at HS1 HT1 sa1 sa2 sa3 ia sb1 sb2 sb3 ib
      have l0 : p ≤ min la lb := by omega
      have l1 : min la lb ≤ 1114111 := by omega
      have hconst : Hid (∀ q, p ≤ q → q ≤ min la lb → kf (ins A q) (ins B q) = kf xa xb) := fun q h1 h2 => by rw [sa3 q h1 (by omega), sb3 q h1 (by omega)]
      have HK1 := hide (HK.out xa xb)
      obtain ⟨yes, hyes⟩ : ∃ y, y = kf xa xb := ⟨_, rfl⟩
      rw [← hyes] at HK1 hconst
      have wl : IntKind.i64.wrap (min la lb + 1) = min la lb + 1 := by rw [IntKind.wrap_i64]; omega
      clear sa3 sb3 ia ib hx hy hu hyes hb
      have key : ∀ w2, Below wr.heap.size wr w2 → w2.ownsRow w.heap.size 51 2 (.slice ao O.length c) O.length (cells2 O) := fun w2 h => own_below HO.out h
      have KEY := hide key
      have hsz : Hid (w.heap.size ≤ wr.heap.size) := HB.out.size
      obtain ⟨hrg, hln⟩ := upto_rng HU.out p0 p1
      have HAdd := hide (fun w2 (h : Below wr.heap.size wr w2) => add_any w.heap.size (.slice ao O.length c) O p (min la lb) w2 (Nat.le_trans hsz.out h.size) hrg hln (KEY.out w2 h))
      clear key hrg hln
      cases yes with
      | true =>
        have hup := hide (upto_yes HU.out p0 l0 l1 hconst.out)
        go_wp2_with fail
        refine HS1.out.mono ?_
        rintro e w1 ⟨rfl, hb1⟩
        go_wp2_with fail
        refine (HT1.out w1 (HB.out.trans (hb1.mono hsz.out))).mono ?_
        rintro e w2 ⟨rfl, hb2⟩
        have hb3 := hide (hb1.trans (hb2.mono hb1.size))
        clear hb1 hb2
        go_wp2_with (go_at_fn g; refine (HK1.out _).mono ?_; rintro e w' ⟨rfl, rfl⟩)
        refine (HAdd.out w2 hb3.out).mono ?_
        rintro e w3 ⟨v', rfl, ho3, hb4⟩
        have HO3 := hide ho3
        obtain ⟨ao', c', hv'⟩ := own_shape ho3
        rw [hv'] at HO3 ⊢
        clear ho3 hv'
        go_wp2
        go_roundw
        case rel => exact ⟨_, _, rfl, by omega, by omega, HO3.out, hup.out, HB.out.trans ((hb3.out.mono hsz.out).trans hb4)⟩
        case measure => simp [intOf]; omega
      | false =>
        have hup := hide (upto_no HU.out l0 hconst.out)
        go_wp2_with fail
        refine HS1.out.mono ?_
        rintro e w1 ⟨rfl, hb1⟩
        go_wp2_with fail
        refine (HT1.out w1 (HB.out.trans (hb1.mono hsz.out))).mono ?_
        rintro e w2 ⟨rfl, hb2⟩
        have hb3 := hide (hb1.trans (hb2.mono hb1.size))
        clear hb1 hb2
        go_wp2_with (go_at_fn g; refine (HK1.out _).mono ?_; rintro e w' ⟨rfl, rfl⟩)
        go_roundw
        case rel => exact ⟨_, _, rfl, by omega, by omega, KEY.out _ hb3.out, hup.out, HB.out.trans (hb3.out.mono hsz.out)⟩
        case measure => simp [intOf]; omega
    · have hE : Hid (IsSet (fun q => kf (ins A q) (ins B q)) O) := upto_all hu (by omega)
      clear hu hb
      go_wp2
      go_ret
      exact ⟨_, rfl, O, HO.out, hE.out, HB.out⟩

end Go.Proofs.Ytdipfaahlofmgaa.SS

namespace Go.Proofs.Ytdipfaahlofmgaa.SS
open Go.RowKit
set_option linter.unusedVariables false

/-- the first fault of some sets. -/
def chkL : List (Value × RL) → Int
  | [] => 0
  | x :: xs => if checkE x.2 = 0 then chkL xs else checkE x.2
theorem chkL_zero {vs : List (Value × RL)} : chkL vs = 0 ↔ ∀ x ∈ vs, checkE x.2 = 0 := by
  induction vs with
  | nil => simp [chkL]
  | cons x xs ih =>
    unfold chkL
    split
    · rename_i h; rw [ih]; simp [h]
    · rename_i h; simp [h]
theorem chkL_first : ∀ {vs : List (Value × RL)} {k : Nat} (hk : k < vs.length), (∀ x ∈ vs.take k, checkE x.2 = 0) → checkE vs[k].2 ≠ 0 → chkL vs = checkE vs[k].2 := by
  intro vs
  induction vs with
  | nil => intro k hk; simp at hk
  | cons x xs ih =>
    intro k hk h1 h2
    match k with
    | 0 => unfold chkL; rw [List.getElem_cons_zero] at h2 ⊢; rw [if_neg h2]
    | k + 1 =>
      unfold chkL
      rw [if_pos (h1 x (by simp))]
      exact ih (by simpa using hk) (fun y hy => h1 y (by simp [hy])) h2
/-- what is answered: the fault, or the set, or that it has too many ranges. -/
def Made (f : Int → Bool) (c err : Int) (O : RL) : Prop := (c ≠ 0 ∧ err = c ∧ O = []) ∨ (c = 0 ∧ ∃ S, IsSet f S ∧ ((S.length ≤ 400 ∧ err = 0 ∧ O = S) ∨ (400 < S.length ∧ err = 2 ∧ O = [])))
theorem own_reads {B : Nat} {w : World} {v : Value} {L : RL} (h : w.ownsRow B 51 2 v L.length (cells2 L)) : Reads w v L := by
  rcases h.2 with ⟨rfl, h0⟩ | ⟨g, cap, cur, rfl, h3⟩
  · exact .inl ⟨rfl, List.eq_nil_of_length_eq_zero h0⟩
  · refine .inr ⟨⟨g, 0, none⟩, cap, rfl, fun j hj => ?_⟩
    obtain ⟨h1, h2⟩ := cells2_get L j hj
    have e1 : ((⟨g, 0, none⟩ : Addr).add (j * 2)) = ⟨g, j * 2, none⟩ := by unfold Addr.add; split <;> simp_all
    rw [e1]
    simp only
    rw [h.cellAt (j * 2) (by omega), h.cellAt (j * 2 + 1) (by omega)]
    exact ⟨h1, h2⟩

/-- what such a call answers. -/
def Res (f : Int → Bool) (c : Int) (w : World) (e : Ending) (w' : World) : Prop := ∃ v' err O, e = .returned (.tuple #[v', .int .i64 err]) ∧ Reads w' v' O ∧ Made f c err O ∧ Below w.heap.size w w'

/-- a function with nothing handed in that makes a set. -/
def Makes (g : Nat) (cb : Array Value) (f : Int → Bool) (w : World) : Prop := Calls Try.prog g cb w fun e w' => ∃ ao c O, e = .returned (.slice ao (List.length O) c) ∧ w'.ownsRow w.heap.size 51 2 (.slice ao (List.length O) c) O.length (cells2 O) ∧ IsSet f O ∧ Below w.heap.size w w'

set_option maxHeartbeats 4000000 in
theorem made_any (g : Nat) (cb : Array Value) (f : Int → Bool) (b : Nat) (vs : List (Value × RL)) (w : World) (eg : ∀ args w, (callFunc g args).run Try.prog w = .ok (.enter g args) w) (hl : vs.length ≤ 4)
    (hvs : ∀ j (h : j < vs.length), w.cell? ⟨b, j, none⟩ = some vs[j].1 ∧ Reads w vs[j].1 vs[j].2) (hdo : chkL vs = 0 → ∀ w', Below w.heap.size w w' → Makes g cb f w') :
    Calls Try.prog 73 #[.func (.func g) #[] cb, .slice (some ⟨b, 0, none⟩) vs.length vs.length] w fun e w' => Res f (chkL vs) w e w' := by
  have HV := hide hvs
  have HD := hide hdo
  obtain ⟨n, hn⟩ : ∃ n, n = vs.length := ⟨_, rfl⟩
  have HN := hide hn
  rw [← hn] at hl ⊢
  clear hvs hdo hn
  go_enter Try.func73, Try.ntmps73
  go_wp2
  go_loopw [12] (fun i wr => ∃ k : Nat, k ≤ n ∧ i = .int .i64 k ∧ (∀ x ∈ vs.take k, checkE x.2 = 0) ∧ Below w.heap.size w wr) (fun i _ => n - (intOf i).toNat)
  case atStart => exact ⟨0, Nat.zero_le _, rfl, by simp, Below.refl _ _⟩
  case round =>
    obtain ⟨k, hk, rfl, hz, hb⟩ := hrel
    have HZ := hide hz
    have HB := hide hb
    clear hz
    by_cases hlt : k < n
    · have hkL : k < vs.length := by have := HN.out; omega
      obtain ⟨c1, hr⟩ := HV.out k hkL
      have c2 : wr.cell? ⟨b, k, none⟩ = some vs[k].1 := below_cell hb (lt_of_cell c1) c1
      have HC := hide (check_any _ _ wr (hr.below hb))
      obtain ⟨x, hx⟩ : ∃ x, x = vs[k] := ⟨_, rfl⟩
      rw [← hx] at c2 HC
      have HX := hide hx
      obtain ⟨vx, X⟩ := x
      simp only at c2 HC
      clear hx c1 hr hb
      by_cases hc : checkE X = 0
      · rw [hc] at HC
        have hnext : Hid (∀ x ∈ vs.take (k + 1), checkE x.2 = 0) := by
          intro y hy
          rw [List.take_add_one, List.getElem?_eq_getElem hkL] at hy
          rcases List.mem_append.1 hy with hy | hy
          · exact HZ.out y hy
          · simp at hy; rw [hy, ← HX.out]; exact hc
        clear hc
        go_wp2_with fail
        refine HC.out.mono ?_
        rintro e w1 ⟨rfl, hb1⟩
        go_wp2
        go_roundw
        case rel => exact ⟨k + 1, by omega, by go_num, hnext.out, HB.out.trans (hb1.mono HB.out.size)⟩
        case measure => simp [intOf]; omega
      · have hE : Hid (chkL vs = checkE X) := by
          have := chkL_first hkL HZ.out (by rw [← HX.out]; exact hc)
          rw [← HX.out] at this
          exact this
        have hne : Hid (chkL vs ≠ 0) := by show _ ≠ _; rw [hE.out]; exact hc
        obtain ⟨z, hz⟩ : ∃ z, z = checkE X := ⟨_, rfl⟩
        rw [← hz] at hc HC hE
        clear hz
        go_wp2_with fail
        refine HC.out.mono ?_
        rintro e w1 ⟨rfl, hb1⟩
        go_wp2
        go_ret2
        exact ⟨_, _, [], rfl, reads_nil _, .inl ⟨hne.out, hE.out.symm, rfl⟩, HB.out.trans (hb1.mono HB.out.size)⟩
    · have hkn : k = n := by omega
      have h0 : Hid (chkL vs = 0) := by
        have h := HZ.out
        rw [hkn, HN.out, List.take_length] at h
        exact chkL_zero.2 h
      have HM := hide (HD.out h0.out wr hb)
      clear hb
      go_wp2_with (go_at_fn g; refine HM.out.mono ?_; rintro e w2 ⟨ao, c, O, rfl, ho, hs, hb2⟩)
      · go_ret2
        first
          | exact ⟨_, _, [], rfl, reads_nil _, .inr ⟨h0.out, O, hs, .inr ⟨by omega, rfl, rfl⟩⟩, HB.out.trans (hb2.mono HB.out.size)⟩
          | exact ⟨_, _, O, rfl, own_reads ho, .inr ⟨h0.out, O, hs, .inl ⟨by omega, rfl, rfl⟩⟩, HB.out.trans (hb2.mono HB.out.size)⟩
      · go_ret2
        first
          | exact ⟨_, _, [], rfl, reads_nil _, .inr ⟨h0.out, O, hs, .inr ⟨by omega, rfl, rfl⟩⟩, HB.out.trans (hb2.mono HB.out.size)⟩
          | exact ⟨_, _, O, rfl, own_reads ho, .inr ⟨h0.out, O, hs, .inl ⟨by omega, rfl, rfl⟩⟩, HB.out.trans (hb2.mono HB.out.size)⟩

end Go.Proofs.Ytdipfaahlofmgaa.SS

namespace Go.Proofs.Ytdipfaahlofmgaa.SS
open Go.RowKit Go.Shelf
set_option linter.unusedVariables false

theorem box_two (w : World) (va : Value) (o : Obj) : ((w.alloc (.cells #[va] 22)).alloc o).cell? ⟨w.heap.size, 0, none⟩ = some va := cell_alloc_sl _ (reads_one _ _)
theorem below_three (w : World) (o o' o2 : Obj) : Below w.heap.size w (((w.alloc o).alloc o').alloc o2) := (below_two w o o').alloc (by simp; omega) o2
theorem box_a (w : World) (va vb : Value) (o : Obj) : (((w.alloc (.cells #[va] 22)).alloc (.cells #[vb] 22)).alloc o).cell? ⟨w.heap.size, 0, none⟩ = some va := cell_alloc_sl _ (box_two _ _ _)
theorem box_b (w : World) (va vb : Value) (o : Obj) : (((w.alloc (.cells #[va] 22)).alloc (.cells #[vb] 22)).alloc o).cell? ⟨w.heap.size + 1, 0, none⟩ = some vb := by
  have := box_two (w.alloc (.cells #[va] 22)) vb o
  simpa using this
theorem row_two (w : World) (va vb : Value) (t : Nat) (j : Nat) (v : Value) (h : #[va, vb][j]? = some v) : (((w.alloc (.cells #[va] 22)).alloc (.cells #[vb] 22)).alloc (.cells #[va, vb] t)).cell? ⟨w.heap.size + 2, j, none⟩ = some v := by
  rw [World.cell?_alloc_at _ _ _ _ (by simp)]
  exact h
theorem chkL_one (va : Value) (A : RL) : chkL [(va, A)] = checkE A := by
  unfold chkL chkL
  split
  · rename_i h; exact h.symm
  · rfl
/-- the first fault of two. -/
def chk2 (A B : RL) : Int := if checkE A = 0 then checkE B else checkE A
theorem chkL_two (va vb : Value) (A B : RL) : chkL [(va, A), (vb, B)] = chk2 A B := by
  unfold chk2
  rw [chkL, chkL_one]
theorem chk_two {A B : RL} (h : chk2 A B = 0) : checkE A = 0 ∧ checkE B = 0 := by
  unfold chk2 at h
  split at h
  · exact ⟨by assumption, h⟩
  · exact absurd h (by assumption)

theorem saysUnion : Says 76 (fun a b => a || b) := by
  intro a b w
  cases a <;> cases b
  all_goals
    go_enter Try.func76, Try.ntmps76
    go_wp2
    go_ret
    exact ⟨rfl, rfl⟩
theorem entersUnion11 (args : Array Value) (w : World) : (callFunc 76 args).run Try.prog w = .ok (.enter 76 args) w := enters_of Try.func76 (by kernel_rfl) rfl args w
theorem entersUnion1 (args : Array Value) (w : World) : (callFunc 74 args).run Try.prog w = .ok (.enter 74 args) w := enters_of Try.func74 (by kernel_rfl) rfl args w

set_option maxHeartbeats 1000000 in
theorem makesUnion (bx by' : Addr) (va vb : Value) (A B : RL) (w : World) (hbx : w.cell? bx = some va) (hby : w.cell? by' = some vb) (hA : Reads w va A) (hB : Reads w vb B) (cA : Canon A) (lA : A.length ≤ 2000) (cB : Canon B) (lB : B.length ≤ 2000) : Makes 74 #[.pointer (some bx), .pointer (some by')] (fun q => ins A q || ins B q) w := by
  have HK := hide (kept_any 76 _ saysUnion entersUnion11 va vb A B w hA hB cA cB lA lB)
  clear hA cA lA hB cB lB
  unfold Makes
  go_enter Try.func74, Try.ntmps74
  go_wp2_with fail
  refine HK.out.mono ?_
  rintro e w1 ⟨v, O, rfl, ho, hs, hb⟩
  obtain ⟨ao, c, rfl⟩ := own_shape ho
  go_wp2
  go_ret
  exact ⟨_, _, _, rfl, ho, hs, hb⟩
set_option maxHeartbeats 1000000 in
theorem union_any (va vb : Value) (A B : RL) (w : World) (hA : Reads w va A) (hB : Reads w vb B) : Calls Try.prog 69 #[va, vb] w fun e w' => Res (fun q => ins A q || ins B q) (chk2 A B) w e w' := by
  obtain ⟨ao, ca, hva⟩ := hA.shape
  obtain ⟨bo, cb, hvb⟩ := hB.shape
  have hb2 := below_three w (.cells #[va] 22) (.cells #[vb] 22) (.cells #[va, vb] 22)
  have HM := hide (made_any 74 #[.pointer (some ⟨w.heap.size, 0, none⟩), .pointer (some ⟨w.heap.size + 1, 0, none⟩)] (fun q => ins A q || ins B q) (w.heap.size + 2) [(va, A), (vb, B)] (((w.alloc (.cells #[va] 22)).alloc (.cells #[vb] 22)).alloc (.cells #[va, vb] 22)) entersUnion1 (by simp)
    (fun j hj => by
      match j, hj with
      | 0, _ => exact ⟨row_two w va vb _ 0 va rfl, hA.below hb2⟩
      | 1, _ => exact ⟨row_two w va vb _ 1 vb rfl, hB.below hb2⟩)
    (fun h0 w' hb' => by
      rw [chkL_two] at h0
      obtain ⟨h1, h2⟩ := chk_two h0
      obtain ⟨l, c⟩ := checkE_ok.1 h1
      obtain ⟨l', c'⟩ := checkE_ok.1 h2
      exact makesUnion _ _ va vb A B w' (below_cell hb' (by simp; omega) (box_a w va vb _)) (below_cell hb' (by simp) (box_b w va vb _)) ((hA.below hb2).below hb') ((hB.below hb2).below hb') c (by omega) c' (by omega)))
  rw [chkL_two] at HM
  have HB2 := hide hb2
  clear hA hB hb2
  rw [hva, hvb] at HM HB2 ⊢
  clear hva hvb
  go_enter Try.func69, Try.ntmps69
  go_wp2_with fail
  refine HM.out.mono ?_
  rintro e w1 ⟨v, err, O, rfl, hr, hm, hb⟩
  go_wp2
  go_ret2
  exact ⟨_, _, O, rfl, hr, hm, HB2.out.trans (hb.mono HB2.out.size)⟩


end Go.Proofs.Ytdipfaahlofmgaa.SS

namespace Go.Proofs.Ytdipfaahlofmgaa.SS
open Go.RowKit
set_option linter.unusedVariables false

theorem cells_of {w : World} {x : Addr} {L : RL} (h : Cells2 w x L) : ∀ j u, (cells2 L)[j]? = some u → w.cell? (x.add j) = some u := by
  intro j u hj
  have hlt : j < (cells2 L).length := (List.getElem?_eq_some_iff.1 hj).1
  rw [cells2_len] at hlt
  obtain ⟨c1, c2⟩ := h (j / 2) (by omega)
  obtain ⟨d1, d2⟩ := cells2_get L (j / 2) (by omega)
  rcases (show j % 2 = 0 ∨ j % 2 = 1 from by omega) with hm | hm
  · have e : j / 2 * 2 = j := by omega
    rw [e] at c1 d1
    rw [hj] at d1
    rw [c1, ← d1]
  · have e : j / 2 * 2 + 1 = j := by omega
    rw [e, hj] at d2
    have e2 : x.add j = ⟨(x.add (j / 2 * 2)).block, (x.add (j / 2 * 2)).off + 1, none⟩ := by
      unfold Addr.add
      rw [if_neg (by omega)]
      split
      · rename_i h0; first | (simp; omega) | simp_all
      · first | (simp; omega) | simp
    rw [e2, c2, ← d2]
theorem cells2_one (L : RL) : ∀ u ∈ cells2 L, u.oneCell' = true := by
  intro u hu
  unfold cells2 at hu
  rw [List.mem_flatMap] at hu
  obtain ⟨r, _, hu⟩ := hu
  simp [encR] at hu
  rcases hu with rfl | rfl <;> rfl
theorem own_empty (w : World) : (w.alloc (.cells #[] 51)).ownsRow w.heap.size 51 2 (.slice (some ⟨w.heap.size, 0, none⟩) 0 0) 0 [] := by
  have h := World.ownsRow_lit (base := w.heap.size) (e := 51) (size := 2) w #[] 0 (by simp) (by unfold maxLen; omega) (by simp)
  simpa using h

set_option maxHeartbeats 1000000 in
set_option maxRecDepth 100000 in
theorem clone_any (v : Value) (L : RL) (w : World) (hv : Reads w v L) (hl : L.length ≤ 3000) : Calls Try.prog 38 #[v] w fun e w' => ∃ v', e = .returned v' ∧ w'.ownsRow w.heap.size 51 2 v' L.length (cells2 L) ∧ Below w.heap.size w w' := by
  obtain ⟨i0, hi, hz0, hz1, hz2⟩ := info_parts infoR
  have nil0 : ∀ W, (binOp .eql 22 (.slice none 0 0) (.slice none 0 0)).run Try.prog W = .ok (.bool true) W := fun W => rfl
  have nil1 : ∀ a n c W, (binOp .eql 22 (.slice (some a) n c) (.slice none 0 0)).run Try.prog W = .ok (.bool false) W := fun a n c W => rfl
  rcases hv with ⟨rfl, rfl⟩ | ⟨x, c, rfl, hc⟩
  · go_enter Try.func38, Try.ntmps38
    go_wp2
    go_ret
    exact ⟨_, rfl, World.ownsRow_nil _ _ _ _, Below.refl _ _⟩
  · have HC := hide hc
    clear hc
    obtain ⟨n, hn⟩ : ∃ n, n = L.length := ⟨_, rfl⟩
    have hcl := cells2_len L
    rw [← hn] at hl hcl ⊢
    have HCL := hide hcl
    clear hn hcl
    have hb0 : Hid (Below w.heap.size w (w.alloc (.cells #[] 51))) := (Below.refl _ w).alloc (Nat.le_refl _) _
    go_enter Try.func38, Try.ntmps38
    go_wp2_with (at_builtin; refine wpList_append_own _ rfl _ _ 22 rfl w.heap.size 51 i0 (.agg #[.int .i64 0, .int .i64 0]) 2 16 Try.underlying22 hi hz0 hz1 hz2 rfl (by decide) _ 0 [] rfl (own_empty w) x n c (cells2 L) rfl HCL.out (cells_of (HC.out.below hb0.out)) (cells2_one L) (by unfold maxLen; omega) (by omega) (by simp) ?_)
    intro v' w3 hown' hgrow _
    have HO3 := hide hown'
    have hb3 := hide (hb0.out.grown hgrow (by simp) (fun k hk => by simp [Value.ownBlock] at hk; omega))
    clear hown' hgrow
    go_wp2
    go_ret
    exact ⟨_, rfl, HO3.out, hb3.out⟩

end Go.Proofs.Ytdipfaahlofmgaa.SS

namespace Go.Proofs.Ytdipfaahlofmgaa.SS
open Go.RowKit
set_option linter.unusedVariables false

theorem drewN_more {w wr : World} {q : Nat} (h : wr = w.drewN q) (n : Nat) : ∃ m, wr.drewN n = w.drewN m := ⟨q + n, by subst h; simp [World.drewN, Nat.add_assoc]⟩
theorem _root_.Go.Proofs.Ytdipfaahlofmgaa.Cells2.drew {w : World} {x : Addr} {L : RL} (h : Cells2 w x L) (q : Nat) : Cells2 (w.drewN q) x L := h
theorem list_ext_take {A B : RL} (hl : A.length = B.length) (k : Nat) (h : A.take k = B.take k) (hk : A.length ≤ k) : A = B := by
  rw [List.take_of_length_le hk, List.take_of_length_le (by omega)] at h
  exact h
theorem take_succ_eq {A B : RL} {k : Nat} (hA : k < A.length) (hB : k < B.length) (h : A.take k = B.take k) (e : A[k] = B[k]) : A.take (k + 1) = B.take (k + 1) := by
  rw [List.take_add_one, List.take_add_one, h, List.getElem?_eq_getElem hA, List.getElem?_eq_getElem hB, e]

set_option maxHeartbeats 2000000 in
theorem sameSet_any (va vb : Value) (A B : RL) (w : World) (hA : Reads w va A) (hB : Reads w vb B) (lA : A.length ≤ 1000000) :
    Calls Try.prog 16 #[va, vb] w fun e w' => e = .returned (.bool (decide (A = B))) ∧ ∃ q, w' = w.drewN q := by
  by_cases hlen : A.length = B.length
  · rcases hA with ⟨rfl, rfl⟩ | ⟨x, c, rfl, hc⟩
    · obtain rfl : B = [] := List.eq_nil_of_length_eq_zero (by simpa using hlen.symm)
      obtain ⟨bo, cb, rfl⟩ := hB.shape
      clear hB hlen
      go_enter Try.func16, Try.ntmps16
      go_wp2
      go_loop [5] (fun i => i = .int .i64 0) (fun i => 0)
      case atStart => exact rfl
      case round =>
        subst hrel
        go_wp2
        go_ret
        exact ⟨rfl, 0, rfl⟩
    · obtain ⟨bo, cb, rfl⟩ := hB.shape
      have HB := hide hB
      have HC := hide hc
      obtain ⟨n, hn⟩ : ∃ n, n = A.length := ⟨_, rfl⟩
      have HN := hide hn
      have HL := hide hlen
      rw [← hlen, ← hn] at HB ⊢
      rw [← hn] at lA
      clear hc hB hn hlen
      go_enter Try.func16, Try.ntmps16
      go_wp2
      go_loopw [5] (fun i wr => ∃ k q : Nat, k ≤ n ∧ i = .int .i64 k ∧ wr = w.drewN q ∧ A.take k = B.take k) (fun i _ => n - (intOf i).toNat)
      case atStart => exact ⟨0, 0, Nat.zero_le _, rfl, rfl, by simp⟩
      case round =>
        obtain ⟨k, q, hk, rfl, hw, hf⟩ := hrel
        have HW := hide hw
        have HF := hide hf
        by_cases hlt : k < n
        · have hkA : k < A.length := by have := HN.out; omega
          have hkB : k < B.length := by have := HN.out; have := HL.out; omega
          obtain ⟨y, cy, hy, hcB⟩ := HB.out.some (by omega)
          obtain ⟨rfl, _⟩ : bo = some y ∧ True := by cases hy; exact ⟨rfl, trivial⟩
          have hcw : Cells2 wr x A := by rw [hw]; exact HC.out.drew q
          have hcy : Cells2 wr y B := by rw [hw]; exact hcB.drew q
          obtain ⟨c1, c2⟩ := hcw k hkA
          obtain ⟨d1, d2⟩ := hcy k hkB
          obtain ⟨r, hr⟩ : ∃ r, r = A[k] := ⟨_, rfl⟩
          obtain ⟨s, hs⟩ : ∃ s, s = B[k] := ⟨_, rfl⟩
          rw [← hr] at c1 c2
          rw [← hs] at d1 d2
          obtain ⟨a, b⟩ := r
          obtain ⟨a', b'⟩ := s
          simp only at c1 c2 d1 d2
          have HR := hide hr
          have HS := hide hs
          have e1 : (k : Int) < (n : Int) := by omega
          have e0 : (0 : Int) ≤ (k : Int) := by omega
          clear hcw hcy hcB hw hf hy hr hs
          by_cases heq : a = a' ∧ b = b'
          · obtain ⟨rfl, rfl⟩ := heq
            have ht : Hid (A.take (k + 1) = B.take (k + 1)) := take_succ_eq hkA hkB HF.out (by rw [← HR.out, ← HS.out])
            go_wp2
            go_quiet (fail)
            go_wp2
            go_roundw
            case rel => obtain ⟨q2, hq2⟩ := drewN_more HW.out nq; exact ⟨k + 1, q2, by omega, by go_num, hq2, ht.out⟩
            case measure => simp [intOf]; omega
          · have hne : Hid (A ≠ B) := by
              intro h
              subst h
              have := HR.out.trans HS.out.symm
              exact heq (by simpa using this)
            by_cases ha : a = a'
            · subst ha
              have hd : (b == b') = false := by rw [Bool.eq_false_iff]; intro h; exact heq ⟨rfl, by simpa using h⟩
              clear heq
              go_wp2
              go_quiet (fail)
              go_wp2
              go_ret
              exact ⟨ret_bool (by have := hne.out; simp [this]), drewN_more HW.out _⟩
            · have hd : (a == a') = false := by simpa using ha
              clear heq ha
              go_wp2
              go_quiet (fail)
              go_wp2
              go_ret
              exact ⟨ret_bool (by have := hne.out; simp [this]), drewN_more HW.out _⟩
        · clear hw hf
          have he : Hid (A = B) := list_ext_take HL.out k HF.out (by have := HN.out; omega)
          go_wp2
          go_ret
          exact ⟨ret_bool (by have := he.out; simp [this]), _, HW.out⟩
  · have hne : Hid (A ≠ B) := fun h => hlen (by rw [h])
    obtain ⟨ao, ca, rfl⟩ := hA.shape
    obtain ⟨bo, cb, rfl⟩ := hB.shape
    obtain ⟨n, hn⟩ : ∃ n, n = A.length := ⟨_, rfl⟩
    obtain ⟨m, hm⟩ : ∃ m, m = B.length := ⟨_, rfl⟩
    rw [← hn, ← hm] at hlen ⊢
    have hd : ((n : Int) == (m : Int)) = false := by simp; omega
    clear hA hB hn hm hlen
    go_enter Try.func16, Try.ntmps16
    go_wp2
    go_ret
    exact ⟨ret_bool (by have := hne.out; simp [this]), 0, rfl⟩

theorem same_yes (va vb : Value) (A : RL) (w : World) (hA : Reads w va A) (hB : Reads w vb A) (lA : A.length ≤ 1000000) : Calls Try.prog 16 #[va, vb] w fun e w' => e = .returned (.bool true) ∧ Below w.heap.size w w' :=
  (sameSet_any va vb A A w hA hB lA).mono fun e w' ⟨h, q, hq⟩ => ⟨by rw [h]; simp, by rw [hq]; exact below_drewN (Below.refl _ _) q⟩
end Go.Proofs.Ytdipfaahlofmgaa.SS
