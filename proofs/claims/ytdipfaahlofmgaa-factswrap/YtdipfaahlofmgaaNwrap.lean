/- FactsWrap: the walk. -/
import Derived.Test.YtdipfaahlofmgaaNbeg
namespace Go.Proofs.Ytdipfaahlofmgaa
open Go.RowKit
set_option linter.unusedVariables false

abbrev wrA (t : Tr) : Tr := .mk 13 0 0 0 0 false [] [t]
abbrev wrR (t : Tr) : Tr := .mk 12 0 2 2 2 false [] [t]
abbrev wvA (b : Nat) : NV := ⟨13, none, 0, 0, some ⟨b, 0, none⟩, 1, 1, 0, 0, 0, 0, false⟩
abbrev wvR (b : Nat) : NV := ⟨12, none, 0, 0, some ⟨b, 0, none⟩, 1, 1, 0, 2, 2, 2, false⟩
theorem wrapN {w : World} {b : Nat} {n : NV} {t : Tr} (hN : NodeC w n t) (hb : w.heap[b]? = some (nvO n)) : NodeC w (wvA b) (wrA t) ∧ NodeC w (wvR b) (wrR t) := by
  have hc := nv_cells hb
  have ha : (⟨b, 0, none⟩ : Addr).add (0 * 8) = ⟨b, 0, none⟩ := by simp [Addr.add]
  refine ⟨.mk (wvA b) [] [t] (fun _ => n) (.inl ⟨rfl, rfl⟩) (.inr ⟨⟨b, 0, none⟩, rfl, rfl, ⟨Nat.le_refl _, (by decide : 1 ≤ 9223372036854775807)⟩, fun j hj => ?_⟩) (fun j hj => ?_), .mk (wvR b) [] [t] (fun _ => n) (.inl ⟨rfl, rfl⟩) (.inr ⟨⟨b, 0, none⟩, rfl, rfl, ⟨Nat.le_refl _, (by decide : 1 ≤ 9223372036854775807)⟩, fun j hj => ?_⟩) (fun j hj => ?_)⟩
  all_goals (have h0 : j = 0 := by simpa using hj); subst h0
  · rw [ha]; exact hc
  · exact hN
  · rw [ha]; exact hc
  · exact hN
/-- too many, with one more around it. -/
def wide1 (t : Tr) : Int := if cntT 200 t 1 < 1001 then 0 else 2
theorem nodeS_A (t : Tr) (s : St) : nodeS (wrA t) s = .ok s := by
  unfold nodeS
  rw [if_neg (by simp [Tr.kind]), if_neg (by simp [kidsB, fieldsB, Tr.kind, Tr.kids, Tr.set, Tr.num, Tr.least, Tr.most, Tr.way, Tr.fold]), if_neg (by simp [Tr.set]; decide), if_neg (by simp [Tr.kind]), if_neg (by simp [Tr.kind]), if_neg (by simp [Tr.kind])]
theorem nodeS_R (t : Tr) (s : St) : nodeS (wrR t) s = .ok s := by
  unfold nodeS
  rw [if_neg (by simp [Tr.kind]), if_neg (by simp [kidsB, fieldsB, Tr.kind, Tr.kids, Tr.set, Tr.num, Tr.least, Tr.most, Tr.way, Tr.fold]), if_neg (by simp [Tr.set]; decide), if_pos (by simp [Tr.kind]), if_pos (by simp [repE, Tr.least, Tr.most, Tr.way])]
theorem chkL_one (t : Tr) (s : St) : chkL [t] s = chkT t s := by
  unfold chkL
  cases chkT t s with
  | error z => rfl
  | ok s' => rfl
theorem cnt_wrap {u t : Tr} (h : u.kids = [t]) : cntA u = cntT 200 t 1 := by
  have key : ∀ f, cntT (f + 1) u 0 = cntT f t 1 := fun f => by rw [cntT, h]; simp [cntL]
  exact key 200
theorem alone_wrap {t : Tr} (h : aloneE t = 0) : aloneE (wrA t) = wide1 t ∧ aloneE (wrR t) = wide1 t := by
  have hT : treeE t (grpT t : Nat) = 0 := by
    unfold aloneE checkP at h
    split at h
    · exact h
    · omega
  have key : ∀ u : Tr, cntA u = cntT 200 t 1 → grpT u = grpT t → chkT u (0, []) = chkT t (0, []) → aloneE u = wide1 t := by
    intro u h1 h2 h3
    unfold aloneE checkP wide1
    rw [h1, h2]
    have : treeE u (grpT t : Nat) = treeE t (grpT t : Nat) := by unfold treeE; rw [h3]
    rw [this, hT]
  refine ⟨key _ ?_ ?_ ?_, key _ ?_ ?_ ?_⟩
  · exact cnt_wrap rfl
  · show (if (13 : Int) = 11 then 1 else 0) + grpL [t] = grpT t
    rw [if_neg (by omega), grpL, grpL]; omega
  · rw [chkT_kids, nodeS_A]; exact chkL_one t _
  · exact cnt_wrap rfl
  · show (if (12 : Int) = 11 then 1 else 0) + grpL [t] = grpT t
    rw [if_neg (by omega), grpL, grpL]; omega
  · rw [chkT_kids, nodeS_R]; exact chkL_one t _

theorem fact_wrap (t : Tr) : factT (wrA t) = factT t ∧ factT (wrR t) = repF (factT t) 2 2 := by
  constructor
  · show factK 13 0 0 (factL [t]) = _
    rw [factL, factL]; rfl
  · show factK 12 2 2 (factL [t]) = _
    rw [factL, factL]; rfl
/-- what is wanted of the three answers. -/
theorem wrap_pure {t : Tr} (h : aloneE t = 0) : (aloneE (wrA t) = 2 ∧ aloneE (wrR t) = 2) ∨ (aloneE (wrA t) = 0 ∧ aloneE (wrR t) = 0 ∧ ofF (wrA t) = ofF t ∧ ofF (wrR t) = repF (ofF t) 2 2 ∧ okF (ofF t)) := by
  obtain ⟨h1, h2⟩ := alone_wrap h
  have hf := fact_wrap t
  have hok := factT_ok t (alone_good h)
  unfold wide1 at h1 h2
  split at h1
  · rename_i hc
    rw [if_pos hc] at h2
    refine .inr ⟨h1, h2, ?_, ?_, ?_⟩
    · unfold ofF; rw [if_pos h1, if_pos h, hf.1]
    · unfold ofF; rw [if_pos h2, if_pos h, hf.2]
    · unfold ofF; rw [if_pos h]; exact hok
  · rename_i hc
    rw [if_neg hc] at h2
    exact .inl ⟨h1, h2⟩

set_option maxRecDepth 100000 in
set_option maxHeartbeats 4000000 in
theorem factsWrap_walk (n : NV) (t : Tr) (w : World) (h : NodeC w n t) : Calls Try.prog 6 #[nvV n] w fun e w' => e = .returned (.bool true) ∧ Below w.heap.size w w' := by
  have hb1 : Below w.heap.size w (w.alloc (nvO n)) := (Below.refl _ w).alloc (Nat.le_refl _) _
  obtain ⟨w1, hw1⟩ : ∃ w1, w1 = w.alloc (nvO n) := ⟨_, rfl⟩
  have hX1 : w1.heap[w.heap.size]? = some (nvO n) := by rw [hw1]; exact at_new _ _
  rw [← hw1] at hb1
  have HN := hide h
  have HB1 := hide hb1
  have HX1 := hide hX1
  have HC0 := hide (factsBegun_any w1)
  have HP := hide (wrap_pure (t := t))
  have HQ : Hid (∀ b w, NodeC w n t → w.heap[b]? = some (nvO n) → Calls Try.prog 7 #[nvV (wvA b)] w fun e w' => e = .returned (.tuple #[ftV (ofF (wrA t)), .int .i64 (aloneE (wrA t))]) ∧ Below w.heap.size w w') := fun b w h1 h2 => of_any _ _ _ (wrapN h1 h2).1
  have HR : Hid (∀ b w, NodeC w n t → w.heap[b]? = some (nvO n) → Calls Try.prog 7 #[nvV (wvR b)] w fun e w' => e = .returned (.tuple #[ftV (ofF (wrR t)), .int .i64 (aloneE (wrR t))]) ∧ Below w.heap.size w w') := fun b w h1 h2 => of_any _ _ _ (wrapN h1 h2).2
  have HO : Hid (∀ w, NodeC w n t → Calls Try.prog 7 #[nvV n] w fun e w' => e = .returned (.tuple #[ftV (ofF t), .int .i64 (aloneE t)]) ∧ Below w.heap.size w w') := fun w h1 => of_any _ _ _ h1
  obtain ⟨A, hA⟩ : ∃ A, A = ofF (wrA t) := ⟨_, rfl⟩
  obtain ⟨F, hF⟩ : ∃ F, F = ofF t := ⟨_, rfl⟩
  obtain ⟨G, hG⟩ : ∃ G, G = ofF (wrR t) := ⟨_, rfl⟩
  obtain ⟨a, ha⟩ : ∃ a, a = aloneE (wrA t) := ⟨_, rfl⟩
  obtain ⟨f, hf⟩ : ∃ f, f = aloneE t := ⟨_, rfl⟩
  obtain ⟨g, hg⟩ : ∃ g, g = aloneE (wrR t) := ⟨_, rfl⟩
  rw [← hA, ← hF, ← hG, ← ha, ← hf, ← hg] at HP
  rw [← hA, ← ha] at HQ
  rw [← hG, ← hg] at HR
  rw [← hF, ← hf] at HO
  simp only [nvO] at hw1
  clear h hb1 hX1 hA hF hG ha hf hg
  obtain ⟨al, am, ap⟩ := A
  obtain ⟨fl, fm, fp⟩ := F
  obtain ⟨gl, gm, gp⟩ := G
  simp only [nvV, ftV] at HQ HR HO
  go_enter Try.func6, Try.ntmps6
  go_wp2_with fail
  rw [← hw1]
  clear hw1
  refine HC0.out.mono ?_
  rintro e w2 ⟨rfl, hb2⟩
  have HB2 := hide (HB1.out.trans (hb2.mono HB1.out.size))
  have HX2 := hide (show w2.heap[w.heap.size]? = some (nvO n) by rw [hb2.block _ (lt_of_block HX1.out)]; exact HX1.out)
  clear hb2 HC0 HB1 HX1
  obtain ⟨d0, d1, d2, d3, d4, d5, d6, d7⟩ := nv_cells HX2.out
  go_wp2_with fail
  refine (HO.out w2 (HN.out.keep HB2.out)).mono ?_
  rintro e w3 ⟨rfl, hb3⟩
  have HB3 := hide (HB2.out.trans (hb3.mono HB2.out.size))
  have HX3 := hide (show w3.heap[w.heap.size]? = some (nvO n) by rw [hb3.block _ (lt_of_block HX2.out)]; exact HX2.out)
  clear hb3 HB2 HX2 HO d0 d1 d2 d3 d4 d5 d6 d7
  obtain ⟨w4, hw4⟩ : ∃ w4, w4 = w3.alloc (ftO ⟨fl, fm, fp⟩) := ⟨_, rfl⟩
  have HB4 : Hid (Below w.heap.size w w4) := by show Below _ _ _; rw [hw4]; exact HB3.out.alloc HB3.out.size _
  have HX4 : Hid (w4.heap[w.heap.size]? = some (nvO n)) := by show _ = _; rw [hw4]; exact at_old HX3.out
  have HF4 : Hid (w4.heap[w3.heap.size]? = some (ftO ⟨fl, fm, fp⟩)) := by show _ = _; rw [hw4]; exact at_new _ _
  obtain ⟨p3, hp3⟩ : ∃ p3, p3 = w3.heap.size := ⟨_, rfl⟩
  have hp3' : w.heap.size ≤ p3 := by rw [hp3]; exact HB3.out.size
  have HP3 := hide hp3'
  rw [← hp3] at HF4
  simp only [ftO] at hw4
  obtain ⟨d0, d1, d2, d3, d4, d5, d6, d7⟩ := nv_cells HX4.out
  obtain ⟨w5, hw5⟩ : ∃ w5, w5 = w4.alloc (nvO n) := ⟨_, rfl⟩
  have HB5 : Hid (Below w.heap.size w w5) := by show Below _ _ _; rw [hw5]; exact HB4.out.alloc HB4.out.size _
  have HX5 : Hid (w5.heap[w.heap.size]? = some (nvO n)) := by show _ = _; rw [hw5]; exact at_old HX4.out
  have HF5 : Hid (w5.heap[p3]? = some (ftO ⟨fl, fm, fp⟩)) := by show _ = _; rw [hw5]; exact at_old HF4.out
  have HK5 : Hid (w5.heap[w4.heap.size]? = some (nvO n)) := by show _ = _; rw [hw5]; exact at_new _ _
  simp only [nvO] at hw5
  clear hp3' HB3 HX3
  go_upto_region 4 with fail
  rw [← hw4, ← hp3]
  clear hw4 hp3
  go_wp2_with fail
  rw [← hw5]
  clear hw5
  refine (HQ.out _ w5 (HN.out.keep HB5.out) HK5.out).mono ?_
  rintro e w6 ⟨rfl, hb6⟩
  have HB6 := hide (HB5.out.trans (hb6.mono HB5.out.size))
  have HX6 := hide (show w6.heap[w.heap.size]? = some (nvO n) by rw [hb6.block _ (lt_of_block HX5.out)]; exact HX5.out)
  have HF6 := hide (show w6.heap[p3]? = some (ftO ⟨fl, fm, fp⟩) by rw [hb6.block _ (lt_of_block HF5.out)]; exact HF5.out)
  clear hb6 HB4 HX4 HF4 HB5 HX5 HF5 HK5 HQ d0 d1 d2 d3 d4 d5 d6 d7
  obtain ⟨w7, hw7⟩ : ∃ w7, w7 = w6.alloc (ftO ⟨al, am, ap⟩) := ⟨_, rfl⟩
  have HB7 : Hid (Below w.heap.size w w7) := by show Below _ _ _; rw [hw7]; exact HB6.out.alloc HB6.out.size _
  have HX7 : Hid (w7.heap[w.heap.size]? = some (nvO n)) := by show _ = _; rw [hw7]; exact at_old HX6.out
  have HF7 : Hid (w7.heap[p3]? = some (ftO ⟨fl, fm, fp⟩)) := by show _ = _; rw [hw7]; exact at_old HF6.out
  have HA7 : Hid (w7.heap[w6.heap.size]? = some (ftO ⟨al, am, ap⟩)) := by show _ = _; rw [hw7]; exact at_new _ _
  obtain ⟨p6, hp6⟩ : ∃ p6, p6 = w6.heap.size := ⟨_, rfl⟩
  rw [← hp6] at HA7
  simp only [ftO] at hw7
  obtain ⟨d0, d1, d2, d3, d4, d5, d6, d7⟩ := nv_cells HX7.out
  obtain ⟨w8, hw8⟩ : ∃ w8, w8 = w7.alloc (nvO n) := ⟨_, rfl⟩
  have HB8 : Hid (Below w.heap.size w w8) := by show Below _ _ _; rw [hw8]; exact HB7.out.alloc HB7.out.size _
  have HF8 : Hid (w8.heap[p3]? = some (ftO ⟨fl, fm, fp⟩)) := by show _ = _; rw [hw8]; exact at_old HF7.out
  have HA8 : Hid (w8.heap[p6]? = some (ftO ⟨al, am, ap⟩)) := by show _ = _; rw [hw8]; exact at_old HA7.out
  have HK8 : Hid (w8.heap[w7.heap.size]? = some (nvO n)) := by show _ = _; rw [hw8]; exact at_new _ _
  simp only [nvO] at hw8
  clear HB6 HX6
  go_upto_region 5 with fail
  rw [← hw7, ← hp6]
  clear hw7 hp6
  go_wp2_with fail
  rw [← hw8]
  clear hw8
  refine (HR.out _ w8 (HN.out.keep HB8.out) HK8.out).mono ?_
  rintro e w9 ⟨rfl, hb9⟩
  have HB9 := hide (HB8.out.trans (hb9.mono HB8.out.size))
  have HF9 := hide (show w9.heap[p3]? = some (ftO ⟨fl, fm, fp⟩) by rw [hb9.block _ (lt_of_block HF8.out)]; exact HF8.out)
  have HA9 := hide (show w9.heap[p6]? = some (ftO ⟨al, am, ap⟩) by rw [hb9.block _ (lt_of_block HA8.out)]; exact HA8.out)
  clear hb9 HB7 HX7 HF7 HA7 HB8 HF8 HA8 HK8 HR d0 d1 d2 d3 d4 d5 d6 d7
  obtain ⟨w10, hw10⟩ : ∃ w10, w10 = w9.alloc (ftO ⟨gl, gm, gp⟩) := ⟨_, rfl⟩
  have HB10 : Hid (Below w.heap.size w w10) := by show Below _ _ _; rw [hw10]; exact HB9.out.alloc HB9.out.size _
  have HF10 : Hid (w10.heap[p3]? = some (ftO ⟨fl, fm, fp⟩)) := by show _ = _; rw [hw10]; exact at_old HF9.out
  have HA10 : Hid (w10.heap[p6]? = some (ftO ⟨al, am, ap⟩)) := by show _ = _; rw [hw10]; exact at_old HA9.out
  have HG10 : Hid (w10.heap[w9.heap.size]? = some (ftO ⟨gl, gm, gp⟩)) := by show _ = _; rw [hw10]; exact at_new _ _
  obtain ⟨p9, hp9⟩ : ∃ p9, p9 = w9.heap.size := ⟨_, rfl⟩
  rw [← hp9] at HG10
  simp only [ftO] at hw10
  clear HB9 HF9 HA9 HN
  go_upto_region 6 with fail
  rw [← hw10, ← hp9]
  clear hw10 hp9
  obtain ⟨f0, f1, f2, ff⟩ := ft_cells HF10.out
  obtain ⟨a0, a1, a2, af⟩ := ft_cells HA10.out
  obtain ⟨g0, g1, g2, gf⟩ := ft_cells HG10.out
  simp only at f0 f1 f2 a0 a1 a2 g0 g1 g2
  clear ff af gf HF10 HA10 HG10
  by_cases hf0 : f = 0
  · subst hf0
    rcases HP.out rfl with ⟨ha2, hg2⟩ | ⟨ha0, hg0, hAF, hGF, hok⟩
    · subst ha2 hg2
      clear HP
      go_wp2
      go_ret
      exact ⟨rfl, HB10.out⟩
    · subst ha0 hg0
      cases hAF
      unfold okF at hok
      simp only at hok
      obtain ⟨o1, o2, o3, o4⟩ := hok
      have hgl : gl = leastF (al * 2) := congrArg FT.least hGF
      have hgm : gm = timM am 2 := congrArg FT.most hGF
      have hgp : gp = ap := congrArg FT.plain hGF
      have wl : IntKind.i64.wrap (2 * al) = 2 * al := by rw [IntKind.wrap_i64]; omega
      have wm : IntKind.i64.wrap (2 * am) = 2 * am := by rw [IntKind.wrap_i64]; omega
      subst hgp
      clear hGF HP
      have hgl' : (2 * al < 1000000 ∧ gl = 2 * al) ∨ (¬ 2 * al < 1000000 ∧ gl = 1000000) := by rw [hgl]; unfold leastF; split <;> omega
      have hgm' : (am < 0 ∧ gm = -1) ∨ (¬ am < 0 ∧ 1000000 < 2 * am ∧ gm = -1) ∨ (¬ am < 0 ∧ ¬ 1000000 < 2 * am ∧ gm = 2 * am) := by
        rw [hgm]; unfold timM mostF; repeat' split
        all_goals omega
      clear hgl hgm
      rcases hgl' with ⟨l1, rfl⟩ | ⟨l1, rfl⟩ <;> rcases hgm' with ⟨m1, rfl⟩ | ⟨m1, m2, rfl⟩ | ⟨m1, m2, rfl⟩ <;>
        (go_wp2; go_ret; exact ⟨rfl, HB10.out⟩)
  · clear HP
    have hf1 : ¬ f = 0 := hf0
    go_wp2
    go_ret
    exact ⟨rfl, HB10.out⟩

end Go.Proofs.Ytdipfaahlofmgaa
