/- What the function literal of set.Fold does with a letter: it adds the points of its orbit. -/
import Derived.Test.YtojjfmnbpfpanaaDoorGcls
import Derived.Maps.AppendAt
namespace Go.Proofs.YtojjfmnbpfpanaaDoor
open Go.RowKit
set_option linter.unusedVariables false

/-- points, each as a range. -/
def rowQ (l : List Int) : RL := l.map fun q => (q, q)
theorem rowQ_len (l : List Int) : (rowQ l).length = l.length := by simp [rowQ]
theorem rowQ_take (l : List Int) (k : Nat) (h : k < l.length) : rowQ (l.take (k + 1)) = rowQ (l.take k) ++ [(l.getD k 0, l.getD k 0)] := by
  unfold rowQ
  rw [List.take_add_one, List.map_append, List.getElem?_eq_getElem h, List.getD_eq_getElem?_getD, List.getElem?_eq_getElem h]
  rfl
theorem orb_len (p : Int) (h0 : 0 ≤ p) (h1 : p ≤ 1114111) : (Fo.orb p).length ≤ 3 := by
  have := (Fo.orbS_ok p h0 h1 3 (by omega)).2.1
  show (Fo.srt _).length ≤ 3
  rw [Fo.srt_len]
  exact this
theorem own_is {B e : Nat} {w : World} {g n c : Nat} {xs : List Value} (h : w.ownsRow B e 1 (.slice (some ⟨g, 0, none⟩) n c) n xs) : ∃ cur, w.heap[g]? = some (.cells cur e (0, 0)) := by
  rcases h.2 with ⟨h1, _⟩ | ⟨g', cap, cur, h1, _, hh, _⟩
  · simp at h1
  · simp at h1
    rw [h1.1]
    exact ⟨_, hh⟩
theorem cell_block {w w' : World} {a : Addr} (h : w'.heap[a.block]? = w.heap[a.block]?) : w'.cell? a = w.cell? a := by
  unfold World.cell?
  rw [h]

/-- what was there stays, but the box and the row in it; and that row is the old one or a new one. -/
def KB (b : Nat) (v : Value) (w : World) (v' : Value) (w' : World) : Prop :=
  (∀ k, k < w.heap.size → k ≠ b → some k ≠ v.ownBlock → w'.heap[k]? = w.heap[k]?) ∧ (v'.ownBlock = v.ownBlock ∨ ∃ j, w.heap.size ≤ j ∧ v'.ownBlock = some j)
theorem KB.refl (b : Nat) (v : Value) (w : World) : KB b v w v w := ⟨fun _ _ _ _ => rfl, .inl rfl⟩
theorem KB.trans {b : Nat} {v1 v2 v3 : Value} {w1 w2 w3 : World} (h : KB b v1 w1 v2 w2) (g : KB b v2 w2 v3 w3) (hs : w1.heap.size ≤ w2.heap.size) : KB b v1 w1 v3 w3 := by
  refine ⟨fun k hk hb hv => ?_, ?_⟩
  · rw [g.1 k (by omega) hb ?_, h.1 k hk hb hv]
    rcases h.2 with e | ⟨j, hj, e⟩
    · rw [e]; exact hv
    · rw [e]; intro e; have := Option.some.inj e; omega
  · rcases g.2 with e | ⟨j, hj, e⟩
    · rw [e]; exact h.2
    · exact .inr ⟨j, by omega, e⟩
theorem KB.below {b : Nat} {v : Value} {w w' : World} (h : Below w.heap.size w w') : KB b v w v w' := ⟨fun k hk _ _ => h.block k hk, .inl rfl⟩
theorem KB.app {b : Nat} {v v' : Value} {w w' : World} {o : Obj} (u : Value) (hg : (w.alloc o).grownBy w' v.ownBlock) (hv : v'.ownBlock = v.ownBlock ∨ v'.ownBlock = some (w.heap.size + 1)) : KB b v w v' (w'.setCell ⟨b, 0, none⟩ u) := by
  refine ⟨fun k hk hb hv' => ?_, ?_⟩
  · rw [Below.heap_setCell _ _ _ _ hb, hg.block k (by simp; omega) hv', Below.heap_alloc _ _ _ hk]
  · rcases hv with e | e
    · exact .inl e
    · exact .inr ⟨_, by omega, e⟩

set_option maxHeartbeats 2000000 in
theorem takeF (B b : Nat) (hB0 : 0 < B) (hBb : B ≤ b) (v : Value) (L : RL) (p : Int) (h0 : 0 ≤ p) (h1 : p ≤ 1114111) (w : World) (hT : Fo.Tab w) (hbox : w.heap[b]? = some (.cells #[v] 22 (0, 0))) (hown : w.ownsRow B 35 2 v L.length (cells2 L)) (hn : L.length ≤ 3000) (hB : B ≤ w.heap.size) :
    Calls Tryd.prog 16 #[.int .i64 p, .pointer (some ⟨b, 0, none⟩)] w fun e w' => e = .returned (.tuple #[]) ∧ (∃ v', w'.heap[b]? = some (.cells #[v'] 22 (0, 0)) ∧ w'.ownsRow B 35 2 v' (L ++ rowQ (Fo.orb p)).length (cells2 (L ++ rowQ (Fo.orb p))) ∧ KB b v w v' w') ∧ Below B w w' := by
  obtain ⟨i0, hi, hz0, hz1, hz2⟩ := info_parts infoR
  have HR := hide (Fo.Orbit_yes p w h0 h1 hT (by omega))
  have hl3 := orb_len p h0 h1
  obtain ⟨l, hl⟩ : ∃ l, l = Fo.orb p := ⟨_, rfl⟩
  rw [← hl] at HR hl3 ⊢
  obtain ⟨n, hnl⟩ : ∃ n, n = l.length := ⟨_, rfl⟩
  rw [← hnl] at HR hl3
  have HB := hide hbox
  have HO := hide hown
  have HN := hide hnl
  clear hbox hown hT hl hnl
  go_enter Tryd.func16, Tryd.ntmps16
  go_wp2_with fail
  refine HR.out.mono ?_
  rintro e w1 ⟨g, cap, rfl, ho1, hb1⟩
  obtain ⟨cur, hcur⟩ := own_is ho1
  have HC := hide hcur
  have HO1 := hide ho1
  have HB1 := hide hb1
  clear HR hcur ho1 hb1
  go_wp2_with fail
  go_loopw [14] (fun i wr => ∃ (k : Nat) (u : Value), k ≤ n ∧ i = .int .i64 k ∧ wr.heap[b]? = some (.cells #[u] 22 (0, 0)) ∧ wr.ownsRow B 35 2 u (L.length + k) (cells2 (L ++ rowQ (l.take k))) ∧ Below B w wr ∧ wr.heap[g]? = some (.cells cur 3 (0, 0)) ∧ KB b v w u wr) (fun i _ => n - (intOf i).toNat)
  case atStart => exact ⟨0, v, by omega, rfl, by rw [HB1.out.block b (lt_of_block HB.out)]; exact HB.out, by rw [show L ++ rowQ (l.take 0) = L from by simp [rowQ]]; exact own_below HO.out HB1.out, HB1.out.mono hB, HC.out, KB.below HB1.out⟩
  case round =>
    obtain ⟨k, u, hk, rfl, hb, ho, hbl, hg, hkb⟩ := hrel
    obtain ⟨ao, c, rfl⟩ := own_shape ho
    have hcb := cell_of_one hb
    have hlt := lt_of_block hb
    have HBk := hide hb
    have HOk := hide ho
    have HBl := hide hbl
    have HG := hide hg
    have HK := hide hkb
    have hBw := hbl.size
    clear hb ho hbl hg hkb
    by_cases hlk : k < n
    · obtain ⟨q, hq⟩ : ∃ q, q = l.getD k 0 := ⟨_, rfl⟩
      have hcq : wr.cell? ⟨g, k, none⟩ = some (.int .i64 q) := by
        rw [cell_block (w := w1) (by rw [HG.out, HC.out])]
        have := Fo.own_cells (by rw [HN.out] at HO1; exact HO1.out) k (by rw [← HN.out]; exact hlk)
        rw [Addr.add_lit, Nat.zero_add] at this
        rw [hq]; exact this
      have hE : Hid (cells2 (L ++ rowQ (l.take (k + 1))) = cells2 (L ++ rowQ (l.take k)) ++ [.int .i64 q, .int .i64 q]) := by
        show _ = _
        rw [rowQ_take l k (by rw [← HN.out]; exact hlk), ← List.append_assoc, cells2_append (L ++ _), ← hq]
        rfl
      clear hq
      go_wp2_with (at_builtin; refine wpList_append_own_at _ rfl _ _ 22 rfl B 35 i0 (.agg #[.int .i64 0, .int .i64 0]) 2 16 Tryd.underlying22 hi hz0 hz1 hz2 rfl (by decide) _ _ _ rfl (HOk.out.alloc _) ⟨wr.heap.size, 0, none⟩ 1 1 [.int .i64 q, .int .i64 q] rfl rfl (cells_twoR _ _ (by simp) q q) (two_one q q) (by unfold maxLen; omega) (by omega) (by simp; omega) ?_)
      intro v' w2 hown' hgrow _ hat
      have hob := own_blockR HOk.out HBk.out (by simp)
      have hog := own_blockR HOk.out HG.out (by simp)
      have hb2 : w2.heap[b]? = some (.cells #[.slice ao (L.length + k) c] 22 (0, 0)) := by
        rw [hgrow.block b (by simp; omega) hob, Below.heap_alloc _ _ _ hlt]; exact HBk.out
      have hg2 : w2.heap[g]? = some (.cells cur 3 (0, 0)) := by
        have := lt_of_block HG.out
        rw [hgrow.block g (by simp; omega) hog, Below.heap_alloc _ _ _ this]; exact HG.out
      have hgb : g ≠ b := fun e => by
        subst e
        have := HBk.out
        rw [HG.out] at this
        simp at this
      have hc2 := cell_of_one hb2
      have hf2 := free_of_one hb2
      obtain ⟨ao', c', hv'⟩ := own_shape hown'
      have HGr := hide hgrow
      have HO2 := hide hown'
      have HB2 := hide hb2
      have HG2 := hide hg2
      have HGB := hide hgb
      have HAT := hide hat
      clear hgrow hown' hb2 hcb hcq hob hog hg2 hgb hat
      rw [hv'] at HO2 HAT
      rw [hv']
      clear hv'
      go_wp2
      go_roundw
      case rel =>
        have hb3 := one_setCell (u := .slice ao' (L.length + k + 1) c') HB2.out
        have hne : (Value.slice ao' (L.length + k + 1) c').ownBlock ≠ some b := fun e => own_blockR HO2.out HB2.out (by simp) e.symm
        exact ⟨k + 1, _, by omega, by go_num, hb3, by rw [hE.out]; exact ownsRow_setCell_other HO2.out hne _, HBl.out.trans ((below_appR HOk.out (Nat.le_trans hB hBw) HGr.out).setCell hBb _), by rw [Below.heap_setCell _ _ _ _ HGB.out]; exact HG2.out, HK.out.trans (KB.app _ HGr.out HAT.out) hBw⟩
      case measure => simp [intOf]; omega
    · obtain rfl : k = n := by omega
      go_wp2
      go_end0
      refine ⟨rfl, ⟨_, HBk.out, ?_, HK.out⟩, HBl.out⟩
      have := HOk.out
      rw [HN.out, List.take_length] at this
      rw [List.length_append, rowQ_len]
      rw [← HN.out] at this ⊢
      exact this

end Go.Proofs.YtojjfmnbpfpanaaDoor
