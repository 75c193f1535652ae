/- What the function literal of Class, and joined, do: ranges that are appended; ranges that touch made one. -/
import Derived.Test.YtjhombfcbfhinaaDoorSortr
namespace Go.Proofs.YtjhombfcbfhinaaDoor
open Go.RowKit
set_option linter.unusedVariables false

theorem Tryd.info49 : (Tryd.prog.info? 49).map (fun i => (i.zero, i.size, i.bytes)) = some (some (.agg #[.int .i64 0, .int .i64 0]), 2, 16) := by kernel_rfl

theorem cells_two49 (X : World) (g : Nat) (hg : g = X.heap.size) (z u : Int) : ∀ j v, [Value.int .i64 z, .int .i64 u][j]? = some v → (X.alloc (.cells #[.int .i64 z, .int .i64 u] 49)).cell? ((⟨g, 0, none⟩ : Addr).add j) = some v := by
  subst hg
  intro j v hj
  match j, hj with
  | 0, hj => simp at hj; subst hj; exact World.cell?_alloc_at _ _ _ _ rfl
  | 1, hj => simp at hj; subst hj; exact World.cell?_alloc_at _ _ _ _ rfl
  | (j + 2), hj => simp at hj
theorem two49 (z u : Int) : ∀ v ∈ [Value.int .i64 z, .int .i64 u], v.oneCell' = true := by
  intro v hv; simp at hv; rcases hv with rfl | rfl <;> rfl
theorem own_block49 {B : Nat} {w : World} {v : Value} {n : Nat} {xs : List Value} (h : w.ownsRow B 49 2 v n xs) {k : Nat} {o : Obj} (hk : w.heap[k]? = some o) (ho : ∀ cs fr, o ≠ .cells cs 49 fr) : some k ≠ v.ownBlock := by
  intro e
  rcases h.2 with ⟨rfl, _⟩ | ⟨g, cap, cur, rfl, _, hg, _⟩
  · simp [Value.ownBlock] at e
  · simp [Value.ownBlock] at e
    subst e
    rw [hk] at hg
    simp at hg
    exact ho _ _ hg
theorem below_app49 {B : Nat} {w w' : World} {v : Value} {n : Nat} {xs : List Value} (hown : w.ownsRow B 49 2 v n xs) (hB : B ≤ w.heap.size) {o : Obj} (hg : (w.alloc o).grownBy w' v.ownBlock) : Below B w w' :=
  ((Below.refl B w).alloc hB o).grown hg (by simp; omega) (fun k hk => (hown.lt k hk).1)

set_option maxHeartbeats 1000000 in
/-- the function literal of Class. -/
theorem takeC (B b : Nat) (hBb : B ≤ b) (v : Value) (L : List (Int × Int)) (p q : Int) (w : World) (hbox : w.heap[b]? = some (.cells #[v] 32 (0, 0))) (hown : w.ownsRow B 49 2 v L.length (cells2 L)) (hn : L.length ≤ 3000) (hB : B ≤ w.heap.size) :
    Calls Tryd.prog 30 #[.int .i64 p, .int .i64 q, .pointer (some ⟨b, 0, none⟩)] w fun e w' => e = .returned (.tuple #[]) ∧ (∃ v', w'.heap[b]? = some (.cells #[v'] 32 (0, 0)) ∧ w'.ownsRow B 49 2 v' (L.length + 1) (cells2 (L ++ [(p, q)]))) ∧ Below B w w' ∧ Keep3 w w' := by
  obtain ⟨i0, hi, hz0, hz1, hz2⟩ := info_parts Tryd.info49
  have hlt : b < w.heap.size := lt_of_block hbox
  have hcb := cell_of_one hbox
  have hfb := free_of_one hbox
  have HB := hide hbox
  have HO := hide hown
  have hE : Hid (cells2 (L ++ [(p, q)]) = cells2 L ++ [.int .i64 p, .int .i64 q]) := by show _ = _; rw [cells2_append]; rfl
  clear hbox
  obtain ⟨ao, c, rfl⟩ := own_shape hown
  clear hown
  go_enter Tryd.func30, Tryd.ntmps30
  go_wp2_with (at_builtin; refine wpList_append_own _ rfl _ _ 32 rfl B 49 i0 (.agg #[.int .i64 0, .int .i64 0]) 2 16 Tryd.underlying32 hi hz0 hz1 hz2 rfl (by decide) _ _ _ rfl (HO.out.alloc _) ⟨w.heap.size, 0, none⟩ 1 1 [.int .i64 p, .int .i64 q] rfl rfl (cells_two49 _ _ (by simp) p q) (two49 p q) (by unfold maxLen; omega) (by omega) (by simp; omega) ?_)
  intro v' w2 hown' hgrow _
  have hob := own_block49 HO.out HB.out (by simp)
  have hb2 : w2.heap[b]? = some (.cells #[.slice ao L.length c] 32 (0, 0)) := by
    rw [hgrow.block b (by simp; omega) hob, Below.heap_alloc _ _ _ hlt]; exact HB.out
  have hc2 := cell_of_one hb2
  have hf2 := free_of_one hb2
  obtain ⟨ao', c', hv'⟩ := own_shape hown'
  have HG := hide hgrow
  have HO2 := hide hown'
  have HB2 := hide hb2
  clear hgrow hown' hb2 hcb hfb
  rw [hv'] at HO2
  rw [hv']
  clear hv'
  go_wp2
  go_end0
  have hb3 := one_setCell (u := .slice ao' (L.length + 1) c') HB2.out
  have hne : (Value.slice ao' (L.length + 1) c').ownBlock ≠ some b := fun e => own_block49 HO2.out HB2.out (by simp) e.symm
  refine ⟨rfl, ⟨_, hb3, by rw [hE.out]; exact ownsRow_setCell_other HO2.out hne _⟩, (below_app49 HO.out hB HG.out).setCell hBb _, ?_⟩
  intro k cs hk
  have hkb : k ≠ b := fun e => by
    subst e
    have := HB.out
    rw [hk] at this
    simp at this
  rw [Below.heap_setCell _ _ _ _ hkb, HG.out.block k (by have := lt_of_block hk; simp; omega) (own_block49 HO.out hk (by simp)), Below.heap_alloc _ _ _ (lt_of_block hk)]
  exact hk

/-- ranges that touch made one. -/
def joinStep (O : List (Int × Int)) (r : Int × Int) : List (Int × Int) :=
  match O.getLast? with
  | some last => if r.1 ≤ last.2 + 1 then O.dropLast ++ [(last.1, max last.2 r.2)] else O ++ [r]
  | none => O ++ [r]
def joinL (l : List (Int × Int)) : List (Int × Int) := l.foldl joinStep []
theorem joinStep_nil (r : Int × Int) : joinStep [] r = [r] := rfl
theorem joinStep_in (O : List (Int × Int)) (a b : Int) (r : Int × Int) (h : r.1 ≤ b + 1) : joinStep (O ++ [(a, b)]) r = O ++ [(a, max b r.2)] := by
  simp [joinStep, h]
theorem joinStep_out (O : List (Int × Int)) (a b : Int) (r : Int × Int) (h : ¬ r.1 ≤ b + 1) : joinStep (O ++ [(a, b)]) r = O ++ [(a, b)] ++ [r] := by
  simp [joinStep, h]
theorem joinStep_len (O : List (Int × Int)) (r : Int × Int) : (joinStep O r).length ≤ O.length + 1 := by
  unfold joinStep
  split
  · split
    · simp <;> omega
    · simp
  · simp

theorem own_cell49 {B : Nat} {w : World} {g cap : Nat} {l : List (Int × Int)} (h : w.ownsRow B 49 2 (.slice (some ⟨g, 0, none⟩) l.length cap) l.length (cells2 l)) (k : Nat) (hk : k < l.length) : w.cell? ⟨g, k * 2, none⟩ = some (.int .i64 l[k].1) ∧ w.cell? ⟨g, k * 2 + 1, none⟩ = some (.int .i64 l[k].2) := by
  obtain ⟨h1, h2⟩ := cells2_get l k hk
  rw [h.cellAt (k * 2) (by omega), h.cellAt (k * 2 + 1) (by omega)]
  exact ⟨h1, h2⟩

theorem foldl_join_len (S : List (Int × Int)) (k : Nat) : ((S.take k).foldl joinStep []).length ≤ k := by
  induction k with
  | zero => simp
  | succ k ih =>
    rw [List.take_add_one]
    by_cases h : k < S.length
    · rw [List.getElem?_eq_getElem h, List.foldl_append]
      simp only [Option.toList_some, List.foldl_cons, List.foldl_nil]
      have := joinStep_len ((S.take k).foldl joinStep []) S[k]
      omega
    · rw [List.getElem?_eq_none (by omega)]; simp; omega
theorem joinStep_rng (O : List (Int × Int)) (r : Int × Int) (hO : ∀ x ∈ O, 0 ≤ x.2 ∧ x.2 ≤ 1114111) (hr : 0 ≤ r.2 ∧ r.2 ≤ 1114111) : ∀ x ∈ joinStep O r, 0 ≤ x.2 ∧ x.2 ≤ 1114111 := by
  rcases List.eq_nil_or_concat O with rfl | ⟨O', y, rfl⟩
  · intro x hx
    rw [joinStep_nil] at hx
    simp at hx; rw [hx]; exact hr
  · obtain ⟨a, b⟩ := y
    rw [List.concat_eq_append] at hO ⊢
    have hb := hO (a, b) (by simp)
    by_cases h : r.1 ≤ b + 1
    · rw [joinStep_in _ _ _ _ h]
      intro x hx
      rcases List.mem_append.1 hx with hx | hx
      · exact hO x (by simp [hx])
      · simp at hx; rw [hx]; simp only; omega
    · rw [joinStep_out _ _ _ _ h]
      intro x hx
      rcases List.mem_append.1 hx with hx | hx
      · exact hO x hx
      · simp at hx; rw [hx]; exact hr
theorem foldl_join_rng (S : List (Int × Int)) (h : ∀ x ∈ S, 0 ≤ x.1 ∧ x.1 ≤ 1114111 ∧ 0 ≤ x.2 ∧ x.2 ≤ 1114111) (k : Nat) : ∀ x ∈ (S.take k).foldl joinStep [], 0 ≤ x.2 ∧ x.2 ≤ 1114111 := by
  induction k with
  | zero => simp
  | succ k ih =>
    rw [List.take_add_one]
    by_cases hk : k < S.length
    · rw [List.getElem?_eq_getElem hk, List.foldl_append]
      simp only [Option.toList_some, List.foldl_cons, List.foldl_nil]
      have := h S[k] (List.getElem_mem _)
      exact joinStep_rng _ _ ih ⟨this.2.2.1, this.2.2.2⟩
    · rw [List.getElem?_eq_none (by omega)]; simpa using ih

theorem own_drewN {B e k : Nat} {w : World} {v : Value} {n : Nat} {xs : List Value} (h : w.ownsRow B e k v n xs) (q : Nat) : (w.drewN q).ownsRow B e k v n xs := h
theorem own_last {B : Nat} {w : World} {g cap m : Nat} {O : List (Int × Int)} {a b : Int} (h : w.ownsRow B 49 2 (.slice (some ⟨g, 0, none⟩) (m + 1) cap) (m + 1) (cells2 (O ++ [(a, b)]))) (hm : m = O.length) : w.cell? ⟨g, m * 2, none⟩ = some (.int .i64 a) ∧ w.cell? ⟨g, m * 2 + 1, none⟩ = some (.int .i64 b) := by
  obtain ⟨h1, h2⟩ := cells2_get (O ++ [(a, b)]) m (by simp [hm])
  rw [h.cellAt (m * 2) (by omega), h.cellAt (m * 2 + 1) (by omega)]
  subst hm
  simpa using And.intro h1 h2
theorem cells2_turn (O : List (Int × Int)) (a b M : Int) : (cells2 (O ++ [(a, b)])).set (O.length * 2 + 1) (.int .i64 M) = cells2 (O ++ [(a, M)]) := by
  rw [cells2_append, cells2_append]
  have e : (cells2 O).length = O.length * 2 := cells2_len O
  rw [← e, List.set_append_right _ _ (by omega)]
  simp [cells2, encR]
theorem own_turn {B : Nat} {w : World} {g cap m : Nat} {O : List (Int × Int)} {a b : Int} (h : w.ownsRow B 49 2 (.slice (some ⟨g, 0, none⟩) (m + 1) cap) (m + 1) (cells2 (O ++ [(a, b)]))) (hm : m = O.length) (M : Int) (o : Obj) (q : Nat) : (((w.alloc o).drewN q).setCell ⟨g, m * 2 + 1, none⟩ (.int .i64 M)).ownsRow B 49 2 (.slice (some ⟨g, 0, none⟩) (m + 1) cap) (m + 1) (cells2 (O ++ [(a, M)])) := by
  have := ((own_drewN (h.alloc o) q).stored (m * 2 + 1) (.int .i64 M)).1
  subst hm
  rw [cells2_turn] at this
  exact this
theorem size_da (w : World) (o : Obj) (q : Nat) : w.heap.size + 1 = ((w.alloc o).drewN q).heap.size := by show _ = (w.alloc o).heap.size; simp
theorem size_dB {B : Nat} {w : World} (h : B ≤ w.heap.size) (o : Obj) (q : Nat) (o' : Obj) : B ≤ (((w.alloc o).drewN q).alloc o').heap.size := by rw [World.size_alloc]; rw [← size_da]; omega
theorem below_app49d {B : Nat} {w w' : World} {v : Value} {n : Nat} {xs : List Value} (hown : w.ownsRow B 49 2 v n xs) (hB : B ≤ w.heap.size) {o o' : Obj} {q : Nat} (hg : (((w.alloc o).drewN q).alloc o').grownBy w' v.ownBlock) : Below B w w' :=
  ((below_drewN ((Below.refl B w).alloc hB o) q).alloc (by rw [← size_da]; omega) o').grown hg (size_dB hB o q o') (fun k hk => (hown.lt k hk).1)

set_option maxHeartbeats 4000000 in
theorem add_any (B : Nat) (v : Value) (O : List (Int × Int)) (p t : Int) (w : World) (hB : B ≤ w.heap.size) (hO : ∀ x ∈ O, 0 ≤ x.2 ∧ x.2 ≤ 1114111) (hl : O.length ≤ 1114112) (ho : w.ownsRow B 49 2 v O.length (cells2 O)) :
    Calls Tryd.prog 49 #[v, .agg #[.int .i64 p, .int .i64 t]] w fun e w' => ∃ v', e = .returned v' ∧ w'.ownsRow B 49 2 v' (joinStep O (p, t)).length (cells2 (joinStep O (p, t))) ∧ Below B w w' := by
  obtain ⟨i0, hi, hz0, hz1, hz2⟩ := info_parts Tryd.info49
  rcases List.eq_nil_or_concat O with rfl | ⟨O', y, rfl⟩
  · have HOw := hide ho
    obtain ⟨ao, c, rfl⟩ := own_shape ho
    clear ho
    go_enter Tryd.func49, Tryd.ntmps49
    go_wp2
    go_quiet (fail)
    go_wp2_with (at_builtin; refine wpList_append_own _ rfl _ _ 32 rfl B 49 i0 (.agg #[.int .i64 0, .int .i64 0]) 2 16 Tryd.underlying32 hi hz0 hz1 hz2 rfl (by decide) _ _ _ rfl ((own_drewN (HOw.out.alloc _) nq).alloc _) ⟨w.heap.size + 1, 0, none⟩ 1 1 [.int .i64 p, .int .i64 t] rfl rfl (cells_two49 _ _ (size_da _ _ _) p t) (two49 p t) (by decide) (by decide) (size_dB hB _ _ _) ?_)
    intro v' w3 hown' hgrow _
    have HO3 := hide hown'
    have hb3 := below_app49d HOw.out hB hgrow
    clear hown' hgrow
    go_wp2
    go_ret
    exact ⟨_, rfl, HO3.out, hb3⟩
  · obtain ⟨ya, yb⟩ := y
    rw [List.concat_eq_append] at ho hl hO ⊢
    obtain ⟨y0, y1⟩ := hO (ya, yb) (by simp)
    simp only at y0 y1
    obtain ⟨m, hm⟩ : ∃ m, m = O'.length := ⟨_, rfl⟩
    have hlen : (O' ++ [(ya, yb)]).length = m + 1 := by simp [hm]
    have HM := hide hm
    rw [hlen] at ho hl
    obtain ⟨g', c, rfl⟩ := own_some ho (by omega)
    obtain ⟨e1, e2⟩ := own_last ho hm
    have HOw := hide ho
    have ef := ho.frozenAt (m * 2 + 1)
    clear ho hlen hm hO
    have hgw : g' < w.heap.size := (HOw.out.lt g' rfl).2
    have m0 : (0 : Int) ≤ (m : Int) := by omega
    have m1 : (m : Int) < (m : Int) + 1 := by omega
    have m2 : m < m + 1 := by omega
    have m3 : ((m : Int) < 0) = False := by simp
    have wy : IntKind.i64.wrap (yb + 1) = yb + 1 := by rw [IntKind.wrap_i64]; omega
    by_cases hin : p ≤ yb + 1
    · have hJ := hide (joinStep_in O' ya yb (p, t) hin)
      have hd : decide (yb + 1 < p) = false := by simp; omega
      clear hin
      by_cases hmx : t ≤ yb
      · have hE : Hid (max yb t = yb) := by show _ = _; omega
        go_enter Tryd.func49, Tryd.ntmps49
        go_wp2
        go_quiet (fail)
        go_wp2
        go_region
        all_goals go_wp2
        go_ret
        exact ⟨_, rfl, by rw [hJ.out, show (O' ++ [(ya, max yb (p, t).2)]).length = m + 1 from by simp [HM.out]]; simp only; rw [hE.out]; exact own_turn HOw.out HM.out _ _ _, (below_drewN ((Below.refl B w).alloc hB _) _).setCell (HOw.out.lt g' rfl).1 _⟩
      · have hE : Hid (max yb t = t) := by show _ = _; omega
        go_enter Tryd.func49, Tryd.ntmps49
        go_wp2
        go_quiet (fail)
        go_wp2
        go_region
        all_goals go_wp2
        go_ret
        exact ⟨_, rfl, by rw [hJ.out, show (O' ++ [(ya, max yb (p, t).2)]).length = m + 1 from by simp [HM.out]]; simp only; rw [hE.out]; exact own_turn HOw.out HM.out _ _ _, (below_drewN ((Below.refl B w).alloc hB _) _).setCell (HOw.out.lt g' rfl).1 _⟩
    · have hJ := hide (joinStep_out O' ya yb (p, t) hin)
      have hd : yb + 1 < p := by omega
      clear hin
      go_enter Tryd.func49, Tryd.ntmps49
      go_wp2
      go_quiet (fail)
      go_wp2_with (at_builtin; refine wpList_append_own _ rfl _ _ 32 rfl B 49 i0 (.agg #[.int .i64 0, .int .i64 0]) 2 16 Tryd.underlying32 hi hz0 hz1 hz2 rfl (by decide) _ _ _ rfl ((own_drewN (HOw.out.alloc _) nq).alloc _) ⟨w.heap.size + 1, 0, none⟩ 1 1 [.int .i64 p, .int .i64 t] rfl rfl (cells_two49 _ _ (size_da _ _ _) p t) (two49 p t) (by unfold maxLen; omega) (by omega) (size_dB hB _ _ _) ?_)
      intro v' w3 hown' hgrow _
      have HO3 := hide hown'
      have hb3 := below_app49d HOw.out hB hgrow
      clear hown' hgrow
      go_wp2
      go_ret
      exact ⟨_, rfl, by rw [hJ.out, show (O' ++ [(ya, yb)] ++ [(p, t)]).length = m + 1 + 1 from by simp [HM.out], cells2_append]; exact HO3.out, hb3⟩

theorem foldl_take (S : List (Int × Int)) (k : Nat) (hk : k < S.length) : (S.take (k + 1)).foldl joinStep [] = joinStep ((S.take k).foldl joinStep []) S[k] := by
  rw [List.take_add_one, List.getElem?_eq_getElem hk, List.foldl_append]
  rfl

set_option maxHeartbeats 2000000 in
theorem joined_any (B g cap : Nat) (l : List (Int × Int)) (w : World) (hl : l.length ≤ 1000) (h1 : 1 ≤ l.length) (hrg : ∀ x ∈ l, 0 ≤ x.1 ∧ x.1 ≤ 1114111 ∧ 0 ≤ x.2 ∧ x.2 ≤ 1114111) (hkd : KD l) (hB : B ≤ w.heap.size) (hown : w.ownsRow B 49 2 (.slice (some ⟨g, 0, none⟩) l.length cap) l.length (cells2 l)) :
    Calls Tryd.prog 31 #[.slice (some ⟨g, 0, none⟩) l.length cap] w fun e w' => ∃ v', e = .returned v' ∧ w'.ownsRow B 49 2 v' (joinL (srtR l)).length (cells2 (joinL (srtR l))) ∧ Below B w w' := by
  have HS := hide (sortR_any B g cap l w (by omega) (fun x hx => ⟨(hrg x hx).1, (hrg x hx).2.1⟩) hkd hown)
  have HO := hide hown
  have hsl := srtR_len l
  obtain ⟨S, hS⟩ : ∃ S, S = srtR l := ⟨_, rfl⟩
  have hrgS : Hid (∀ x ∈ S, 0 ≤ x.1 ∧ x.1 ≤ 1114111 ∧ 0 ≤ x.2 ∧ x.2 ≤ 1114111) := fun x hx => hrg x ((srtR_perm l).mem_iff.1 (by rw [← hS]; exact hx))
  rw [← hS] at HS hsl ⊢
  obtain ⟨n, hn⟩ : ∃ n, n = l.length := ⟨_, rfl⟩
  rw [← hn] at HS HO hsl hl h1 ⊢
  have HSL := hide hsl
  clear hS hrg hkd hown hn hsl
  go_enter Tryd.func31, Tryd.ntmps31
  go_wp2_with fail
  refine HS.out.mono ?_
  rintro e w2 ⟨rfl, ho2, hg2⟩
  have hb2 : Below B w w2 := (Below.refl B w).grown hg2 hB (fun j hj => (HO.out.lt j hj).1)
  have HO2 := hide ho2
  clear ho2 hg2 HS
  go_wp2
  go_loopw [3, 10] (fun v i wr => ∃ k : Nat, k ≤ n ∧ i = .int .i64 k ∧ wr.ownsRow w2.heap.size 49 2 v ((S.take k).foldl joinStep []).length (cells2 ((S.take k).foldl joinStep [])) ∧ Below w2.heap.size w2 wr) (fun _ i _ => n - (intOf i).toNat)
  case atStart => exact ⟨0, Nat.zero_le _, rfl, World.ownsRow_nil _ _ _ _, Below.refl _ _⟩
  case round =>
    obtain ⟨k, hk, rfl, ho, hbl⟩ := hrel
    by_cases hlt : k < n
    · have hkS : k < S.length := by have := HSL.out; omega
      have hsrc : wr.ownsRow B 49 2 (.slice (some ⟨g, 0, none⟩) S.length cap) S.length (cells2 S) := by
        rw [HSL.out]; exact own_below HO2.out hbl
      obtain ⟨c1, c2⟩ := own_cell49 hsrc k hkS
      have hfs := hide (foldl_take S k hkS)
      have hOrg := foldl_join_rng S hrgS.out k
      have hOlen := foldl_join_len S k
      obtain ⟨x, hx⟩ : ∃ x, x = S[k] := ⟨_, rfl⟩
      rw [← hx] at c1 c2 hfs
      obtain ⟨O, hO⟩ : ∃ O, O = (S.take k).foldl joinStep [] := ⟨_, rfl⟩
      rw [← hO] at ho hOlen hOrg hfs
      obtain ⟨a, b⟩ := x
      simp only at c1 c2
      obtain ⟨ao', c', rfl⟩ := own_shape ho
      have hBw : w2.heap.size ≤ wr.heap.size := hbl.size
      have HAdd := hide (add_any w2.heap.size _ O a b (wr.alloc (.cells #[.int .i64 a, .int .i64 b] 49)) (by simp; omega) hOrg (by omega) (ho.alloc _))
      have HBL := hide hbl
      clear hx hO ho hsrc hbl hOlen hOrg
      go_wp2_with fail
      refine HAdd.out.mono ?_
      rintro e w3 ⟨v', rfl, ho3, hb3⟩
      have HO3 := hide ho3
      obtain ⟨ao'', c'', hv''⟩ := own_shape ho3
      rw [hv''] at HO3 ⊢
      clear ho3 hv''
      go_wp2
      go_roundw
      case rel => exact ⟨k + 1, by omega, by go_num, by rw [hfs.out]; exact HO3.out, (HBL.out.alloc hBw _).trans hb3⟩
      case measure => simp [intOf]; omega
    · have hkn : k = n := by omega
      subst hkn
      have hfull : S.take k = S := List.take_of_length_le (by have := HSL.out; omega)
      rw [hfull] at ho
      have HO3 := hide ho
      obtain ⟨ao', c', rfl⟩ := own_shape ho
      have HBL := hide hbl
      have HB2 := hide hb2
      clear ho hbl hb2
      go_wp2
      go_ret
      exact ⟨_, rfl, own_base HO3.out (Nat.le_trans hB HB2.out.size), HB2.out.trans (HBL.out.mono (Nat.le_trans hB HB2.out.size))⟩

end Go.Proofs.YtjhombfcbfhinaaDoor
