/- What points.Add does to a row of the call's own. -/
import Derived.Test.YtojjfmnbpfpanaaDoorSbase
namespace Go.Proofs.YtojjfmnbpfpanaaDoor
open Go.RowKit
set_option linter.unusedVariables false

def encR (x : Int × Int) : List Value := [.int .i64 x.1, .int .i64 x.2]
def cells2 (L : List (Int × Int)) : List Value := L.flatMap encR
theorem cells2_len (ps : List (Int × Int)) : (cells2 ps).length = ps.length * 2 := by
  induction ps with
  | nil => rfl
  | cons x xs ih => simp [cells2, encR] at ih ⊢; omega
theorem cells2_get (ps : List (Int × Int)) (k : Nat) (h : k < ps.length) : (cells2 ps)[k * 2]? = some (.int .i64 ps[k].1) ∧ (cells2 ps)[k * 2 + 1]? = some (.int .i64 ps[k].2) := by
  induction ps generalizing k with
  | nil => simp at h
  | cons x xs ih =>
    have e : cells2 (x :: xs) = .int .i64 x.1 :: .int .i64 x.2 :: cells2 xs := rfl
    match k with
    | 0 => rw [e]; simp
    | k + 1 =>
      have := ih k (by simpa using h)
      rw [e, show (k + 1) * 2 = k * 2 + 1 + 1 from by omega]
      simpa using this
theorem cells2_append (a b : List (Int × Int)) : cells2 (a ++ b) = cells2 a ++ cells2 b := by simp [cells2]

theorem own_shape {B e : Nat} {w : World} {v : Value} {n k : Nat} {xs : List Value} (h : w.ownsRow B e k v n xs) : ∃ ao cap, v = .slice ao n cap := by
  rcases h.2 with ⟨rfl, rfl⟩ | ⟨g, cap, cur, rfl, _⟩
  · exact ⟨_, _, rfl⟩
  · exact ⟨_, _, rfl⟩
theorem own_some {B e : Nat} {w : World} {v : Value} {n k : Nat} {xs : List Value} (h : w.ownsRow B e k v n xs) (hn : 1 ≤ n) : ∃ g cap, v = .slice (some ⟨g, 0, none⟩) n cap := by
  rcases h.2 with ⟨rfl, rfl⟩ | ⟨g, cap, cur, rfl, _⟩
  · omega
  · exact ⟨_, _, rfl⟩
theorem own_below {B e : Nat} {w w' : World} {v : Value} {n k : Nat} {xs : List Value} (h : w.ownsRow B e k v n xs) (hb : Below w.heap.size w w') : w'.ownsRow B e k v n xs := by
  refine ⟨h.1, ?_⟩
  rcases h.2 with h2 | ⟨g, cap, cur, rfl, h3, hg, h4⟩
  · exact Or.inl h2
  · exact Or.inr ⟨g, cap, cur, rfl, h3, by rw [hb.block g (Array.getElem?_eq_some_iff.1 hg).1]; exact hg, h4⟩
theorem own_base {B B' e : Nat} {w : World} {v : Value} {n k : Nat} {xs : List Value} (h : w.ownsRow B' e k v n xs) (hb : B ≤ B') : w.ownsRow B e k v n xs := by
  refine ⟨h.1, ?_⟩
  rcases h.2 with h2 | ⟨g, cap, cur, rfl, h3, h4⟩
  · exact Or.inl h2
  · exact Or.inr ⟨g, cap, cur, rfl, by omega, h4⟩

theorem infoR : (Tryd.prog.info? 35).map (fun i => (i.zero, i.size, i.bytes)) = some (some (.agg #[.int .i64 0, .int .i64 0]), 2, 16) := by kernel_rfl
theorem info_parts {o : Option TypeInfo} {z : Option Value} {s b : Nat} (h : o.map (fun i => (i.zero, i.size, i.bytes)) = some (z, s, b)) : ∃ i, o = some i ∧ i.zero = z ∧ i.size = s ∧ i.bytes = b := by
  cases o with
  | none => simp at h
  | some i => simp at h; exact ⟨i, rfl, h.1, h.2.1, h.2.2⟩
theorem cells_twoR (X : World) (g : Nat) (hg : g = X.heap.size) (z u : Int) : ∀ j v, [Value.int .i64 z, .int .i64 u][j]? = some v → (X.alloc (.cells #[.int .i64 z, .int .i64 u] 35)).cell? ((⟨g, 0, none⟩ : Addr).add j) = some v := by
  subst hg
  intro j v hj
  match j, hj with
  | 0, hj => simp at hj; subst hj; exact World.cell?_alloc_at _ _ _ _ rfl
  | 1, hj => simp at hj; subst hj; exact World.cell?_alloc_at _ _ _ _ rfl
  | (j + 2), hj => simp at hj
theorem two_one (z u : Int) : ∀ v ∈ [Value.int .i64 z, .int .i64 u], v.oneCell' = true := by
  intro v hv; simp at hv; rcases hv with rfl | rfl <;> rfl
theorem own_drewN {B e k : Nat} {w : World} {v : Value} {n : Nat} {xs : List Value} (h : w.ownsRow B e k v n xs) (q : Nat) : (w.drewN q).ownsRow B e k v n xs := h
theorem own_last {B : Nat} {w : World} {g cap m : Nat} {O : List (Int × Int)} {a b : Int} (h : w.ownsRow B 35 2 (.slice (some ⟨g, 0, none⟩) (m + 1) cap) (m + 1) (cells2 (O ++ [(a, b)]))) (hm : m = O.length) : w.cell? ⟨g, m * 2, none⟩ = some (.int .i64 a) ∧ w.cell? ⟨g, m * 2 + 1, none⟩ = some (.int .i64 b) := by
  obtain ⟨h1, h2⟩ := cells2_get (O ++ [(a, b)]) m (by simp [hm])
  rw [h.cellAt (m * 2) (by omega), h.cellAt (m * 2 + 1) (by omega)]
  subst hm
  simpa using And.intro h1 h2
theorem cells2_turn (O : List (Int × Int)) (a b M : Int) : (cells2 (O ++ [(a, b)])).set (O.length * 2 + 1) (.int .i64 M) = cells2 (O ++ [(a, M)]) := by
  rw [cells2_append, cells2_append]
  have e : (cells2 O).length = O.length * 2 := cells2_len O
  rw [← e, List.set_append_right _ _ (by omega)]
  simp [cells2, encR]
theorem own_turn {B : Nat} {w : World} {g cap m : Nat} {O : List (Int × Int)} {a b : Int} (h : w.ownsRow B 35 2 (.slice (some ⟨g, 0, none⟩) (m + 1) cap) (m + 1) (cells2 (O ++ [(a, b)]))) (hm : m = O.length) (M : Int) (o : Obj) (q : Nat) : (((w.alloc o).drewN q).setCell ⟨g, m * 2 + 1, none⟩ (.int .i64 M)).ownsRow B 35 2 (.slice (some ⟨g, 0, none⟩) (m + 1) cap) (m + 1) (cells2 (O ++ [(a, M)])) := by
  have := ((own_drewN (h.alloc o) q).stored (m * 2 + 1) (.int .i64 M)).1
  subst hm
  rw [cells2_turn] at this
  exact this
theorem size_da (w : World) (o : Obj) (q : Nat) : w.heap.size + 1 = ((w.alloc o).drewN q).heap.size := by show _ = (w.alloc o).heap.size; simp
theorem size_dB {B : Nat} {w : World} (h : B ≤ w.heap.size) (o : Obj) (q : Nat) (o' : Obj) : B ≤ (((w.alloc o).drewN q).alloc o').heap.size := by rw [World.size_alloc]; rw [← size_da]; omega
theorem below_appd {B : Nat} {w w' : World} {v : Value} {n : Nat} {xs : List Value} (hown : w.ownsRow B 35 2 v n xs) (hB : B ≤ w.heap.size) {o o' : Obj} {q : Nat} (hg : (((w.alloc o).drewN q).alloc o').grownBy w' v.ownBlock) : Below B w w' :=
  ((below_drewN ((Below.refl B w).alloc hB o) q).alloc (by rw [← size_da]; omega) o').grown hg (size_dB hB o q o') (fun k hk => (hown.lt k hk).1)

set_option maxHeartbeats 4000000 in
theorem add_any (B : Nat) (v : Value) (O : RL) (p t : Int) (w : World) (hB : B ≤ w.heap.size) (hO : ∀ x ∈ O, 0 ≤ x.2 ∧ x.2 ≤ 1114111) (hl : O.length ≤ 1114112) (ho : w.ownsRow B 35 2 v O.length (cells2 O)) :
    Calls Tryd.prog 39 #[v, .agg #[.int .i64 p, .int .i64 t]] w fun e w' => ∃ v', e = .returned v' ∧ w'.ownsRow B 35 2 v' (joinStep O (p, t)).length (cells2 (joinStep O (p, t))) ∧ Below B w w' := by
  obtain ⟨i0, hi, hz0, hz1, hz2⟩ := info_parts infoR
  rcases List.eq_nil_or_concat O with rfl | ⟨O', y, rfl⟩
  · have HOw := hide ho
    obtain ⟨ao, c, rfl⟩ := own_shape ho
    clear ho
    go_enter Tryd.func39, Tryd.ntmps39
    go_wp2
    go_quiet (fail)
    go_wp2_with (at_builtin; refine wpList_append_own _ rfl _ _ 22 rfl B 35 i0 (.agg #[.int .i64 0, .int .i64 0]) 2 16 Tryd.underlying22 hi hz0 hz1 hz2 rfl (by decide) _ _ _ rfl ((own_drewN (HOw.out.alloc _) nq).alloc _) ⟨w.heap.size + 1, 0, none⟩ 1 1 [.int .i64 p, .int .i64 t] rfl rfl (cells_twoR _ _ (size_da _ _ _) p t) (two_one p t) (by decide) (by decide) (size_dB hB _ _ _) ?_)
    intro v' w3 hown' hgrow _
    have HO3 := hide hown'
    have hb3 := below_appd HOw.out hB hgrow
    clear hown' hgrow
    go_wp2
    go_ret
    exact ⟨_, rfl, HO3.out, hb3⟩
  · obtain ⟨ya, yb⟩ := y
    rw [List.concat_eq_append] at ho hl hO ⊢
    obtain ⟨y0, y1⟩ := hO (ya, yb) (by simp)
    simp only at y0 y1
    obtain ⟨m, hm⟩ : ∃ m, m = O'.length := ⟨_, rfl⟩
    have hlen : (O' ++ [(ya, yb)]).length = m + 1 := by simp [hm]
    have HM := hide hm
    rw [hlen] at ho hl
    obtain ⟨g', c, rfl⟩ := own_some ho (by omega)
    obtain ⟨e1, e2⟩ := own_last ho hm
    have HOw := hide ho
    have ef := ho.frozenAt (m * 2 + 1)
    clear ho hlen hm hO
    have hgw : g' < w.heap.size := (HOw.out.lt g' rfl).2
    have m0 : (0 : Int) ≤ (m : Int) := by omega
    have m1 : (m : Int) < (m : Int) + 1 := by omega
    have m2 : m < m + 1 := by omega
    have m3 : ((m : Int) < 0) = False := by simp
    have wy : IntKind.i64.wrap (yb + 1) = yb + 1 := by rw [IntKind.wrap_i64]; omega
    by_cases hin : p ≤ yb + 1
    · have hJ := hide (joinStep_in O' ya yb (p, t) hin)
      have hd : decide (yb + 1 < p) = false := by simp; omega
      clear hin
      by_cases hmx : t ≤ yb
      · have hE : Hid (max yb t = yb) := by show _ = _; omega
        go_enter Tryd.func39, Tryd.ntmps39
        go_wp2
        go_quiet (fail)
        go_wp2
        go_region
        all_goals go_wp2
        go_ret
        exact ⟨_, rfl, by rw [hJ.out, show (O' ++ [(ya, max yb (p, t).2)]).length = m + 1 from by simp [HM.out]]; simp only; rw [hE.out]; exact own_turn HOw.out HM.out _ _ _, (below_drewN ((Below.refl B w).alloc hB _) _).setCell (HOw.out.lt g' rfl).1 _⟩
      · have hE : Hid (max yb t = t) := by show _ = _; omega
        go_enter Tryd.func39, Tryd.ntmps39
        go_wp2
        go_quiet (fail)
        go_wp2
        go_region
        all_goals go_wp2
        go_ret
        exact ⟨_, rfl, by rw [hJ.out, show (O' ++ [(ya, max yb (p, t).2)]).length = m + 1 from by simp [HM.out]]; simp only; rw [hE.out]; exact own_turn HOw.out HM.out _ _ _, (below_drewN ((Below.refl B w).alloc hB _) _).setCell (HOw.out.lt g' rfl).1 _⟩
    · have hJ := hide (joinStep_out O' ya yb (p, t) hin)
      have hd : yb + 1 < p := by omega
      clear hin
      go_enter Tryd.func39, Tryd.ntmps39
      go_wp2
      go_quiet (fail)
      go_wp2_with (at_builtin; refine wpList_append_own _ rfl _ _ 22 rfl B 35 i0 (.agg #[.int .i64 0, .int .i64 0]) 2 16 Tryd.underlying22 hi hz0 hz1 hz2 rfl (by decide) _ _ _ rfl ((own_drewN (HOw.out.alloc _) nq).alloc _) ⟨w.heap.size + 1, 0, none⟩ 1 1 [.int .i64 p, .int .i64 t] rfl rfl (cells_twoR _ _ (size_da _ _ _) p t) (two_one p t) (by unfold maxLen; omega) (by omega) (size_dB hB _ _ _) ?_)
      intro v' w3 hown' hgrow _
      have HO3 := hide hown'
      have hb3 := below_appd HOw.out hB hgrow
      clear hown' hgrow
      go_wp2
      go_ret
      exact ⟨_, rfl, by rw [hJ.out, show (O' ++ [(ya, yb)] ++ [(p, t)]).length = m + 1 + 1 from by simp [HM.out], cells2_append]; exact HO3.out, hb3⟩

end Go.Proofs.YtojjfmnbpfpanaaDoor
