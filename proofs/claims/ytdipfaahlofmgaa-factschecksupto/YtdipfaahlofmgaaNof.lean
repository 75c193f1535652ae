/- What facts.Of answers. -/
import Derived.Test.YtdipfaahlofmgaaNfacts
import Derived.Test.YtdipfaahlofmgaaNalone
namespace Go.Proofs.Ytdipfaahlofmgaa
open Go.RowKit
set_option linter.unusedVariables false

theorem nodeS_err {t : Tr} {s : St} {z : Int} (h : nodeS t s = .error z) : z ≠ 0 := by
  unfold nodeS at h
  split at h
  · injection h with h; omega
  · split at h
    · injection h with h; omega
    · split at h
      · rename_i h3; injection h with h; rw [← h]; exact h3
      · split at h
        · split at h
          · cases h
          · rename_i h4; injection h with h; rw [← h]; exact h4
        · split at h
          · split at h
            · cases h
            · injection h with h; omega
          · split at h <;> cases h
mutual
theorem chkT_err : ∀ (t : Tr) (s : St) (z : Int), chkT t s = .error z → z ≠ 0
  | .mk k a b c d e f kids, s, z, h => by
    rw [chkT_kids] at h
    cases hn : nodeS (.mk k a b c d e f kids) s with
    | error y => rw [hn] at h; injection h with h; rw [← h]; exact nodeS_err hn
    | ok s1 => rw [hn] at h; exact chkL_err kids s1 z h
theorem chkL_err : ∀ (ts : List Tr) (s : St) (z : Int), chkL ts s = .error z → z ≠ 0
  | [], s, z, h => by cases h
  | t :: ts, s, z, h => by
    unfold chkL at h
    cases hn : chkT t s with
    | error y => rw [hn] at h; injection h with h; rw [← h]; exact chkT_err t s y hn
    | ok s1 => rw [hn] at h; exact chkL_err ts s1 z h
end
theorem alone_good {t : Tr} (h : aloneE t = 0) : good t := by
  unfold aloneE checkP at h
  split at h
  · unfold treeE at h
    split at h
    · rename_i z hz; exact absurd h (chkT_err _ _ _ hz)
    · rename_i s hs; exact ⟨_, _, hs⟩
  · omega
def ofF (t : Tr) : FT := if aloneE t = 0 then factT t else ⟨0, 0, false⟩
theorem ret_f2 {f : Func} {tmps : Array Value} {W : World} {N s s2 : Nat} {F : FT} {z : Int} {R : Ending → World → Prop} (hres : f.results = #[ResultVar.cell s 27, .tmp s2]) (h2 : tmps[s]? = some (.pointer (some ⟨N, 0, none⟩))) (h3 : tmps[s2]? = some (.int .i64 z)) (q : W.heap[N]? = some (ftO F)) (hF : R (.returned (.tuple #[ftV F, .int .i64 z])) W) : bodyPost Try.prog f R Exit.ret { tmps := tmps, defers := [] } W := by
  obtain ⟨m0, m1, m2, mf⟩ := ft_cells q
  refine bodyPost_ret (v := .tuple #[ftV F, .int .i64 z]) ?_ rfl hF
  simp [results, hres, go_sem, h2, h3, m0, m1, m2]
set_option maxRecDepth 100000 in
set_option maxHeartbeats 4000000 in
theorem of_any (n : NV) (t : Tr) (w : World) (h : NodeC w n t) : Calls Try.prog 7 #[nvV n] w fun e w' => e = .returned (.tuple #[ftV (ofF t), .int .i64 (aloneE t)]) ∧ Below w.heap.size w w' := by
  have hb1 : Below w.heap.size w ((w.alloc (nvO n)).alloc (ftO ⟨0, 0, false⟩)) := ((Below.refl _ w).alloc (Nat.le_refl _) _).alloc (by simp) _
  obtain ⟨w1, hw1⟩ : ∃ w1, w1 = (w.alloc (nvO n)).alloc (ftO ⟨0, 0, false⟩) := ⟨_, rfl⟩
  have hX1 : w1.heap[w.heap.size]? = some (nvO n) := by rw [hw1]; exact at_old (at_new _ _)
  have hR1 : w1.heap[w.heap.size + 1]? = some (ftO ⟨0, 0, false⟩) := by rw [hw1]; exact at_new' _ _ (by simp)
  rw [← hw1] at hb1
  have HC := hide (checkTree_any n t w1 (h.keep hb1))
  have HH := hide (fun hg => facts_any h (alone_good hg))
  have HB1 := hide hb1
  have HX1 := hide hX1
  have HR1 := hide hR1
  obtain ⟨d0, d1, d2, d3, d4, d5, d6, d7⟩ := nv_cells hX1
  obtain ⟨r0, r1, r2, rf⟩ := ft_cells hR1
  simp only at r0 r1 r2
  simp only [nvO, ftO] at hw1
  obtain ⟨z, hz⟩ : ∃ z, z = aloneE t := ⟨_, rfl⟩
  obtain ⟨G, hG⟩ : ∃ G, G = ofF t := ⟨_, rfl⟩
  have HGG : Hid (G = if z = 0 then factT t else ⟨0, 0, false⟩) := by show _ = _; rw [hz, hG]; rfl
  rw [← hz] at HC HH
  rw [← hz, ← hG]
  clear h hb1 hX1 hR1 hz hG
  by_cases hz0 : z = 0
  · subst hz0
    have HF := HH.out rfl
    have HFF := hide HF
    have HG : Hid (G = factT t) := by show _ = _; rw [HGG.out, if_pos rfl]
    obtain ⟨FF, hFF⟩ : ∃ FF, FF = factT t := ⟨_, rfl⟩
    rw [← hFF] at HFF HG
    clear HF HH HGG hFF
    go_enter Try.func7, Try.ntmps7
    go_upto_region 1 with fail
    rw [← hw1]
    clear hw1
    go_wp2_with fail
    refine HC.out.mono ?_
    rintro e w2 ⟨rfl, hb2⟩
    have HB2 := hide (HB1.out.trans (hb2.mono HB1.out.size))
    have HX2 := hide (show w2.heap[w.heap.size]? = some (nvO n) by rw [hb2.block _ (lt_of_block HX1.out)]; exact HX1.out)
    have HR2 := hide (show w2.heap[w.heap.size + 1]? = some (ftO ⟨0, 0, false⟩) by rw [hb2.block _ (lt_of_block HR1.out)]; exact HR1.out)
    clear hb2 HC HB1 HX1 HR1 d0 d1 d2 d3 d4 d5 d6 d7 r0 r1 r2 rf
    obtain ⟨d0, d1, d2, d3, d4, d5, d6, d7⟩ := nv_cells HX2.out
    go_wp2_with fail
    refine (HFF.out w2 HB2.out).mono ?_
    rintro e w3 ⟨rfl, hb3⟩
    have HB3 := hide (HB2.out.trans (hb3.mono HB2.out.size))
    have HR3 := hide (show w3.heap[w.heap.size + 1]? = some (ftO ⟨0, 0, false⟩) by rw [hb3.block _ (lt_of_block HR2.out)]; exact HR2.out)
    clear hb3 HB2 HX2 HR2 d0 d1 d2 d3 d4 d5 d6 d7 HFF
    obtain ⟨r0, r1, r2, rf⟩ := ft_cells HR3.out
    simp only at r0 r1 r2
    obtain ⟨fl, fm, fp⟩ := FF
    simp only [ftV]
    go_wp2
    exact ret_f2 (N := w.heap.size + 1) (F := ⟨fl, fm, fp⟩) rfl rfl rfl (fset_at HR3.out ⟨fl, fm, fp⟩) ⟨by rw [HG.out], fset_below HB3.out (by omega) ⟨fl, fm, fp⟩⟩
  · have HG : Hid (G = ⟨0, 0, false⟩) := by show _ = _; rw [HGG.out, if_neg hz0]
    clear HH HGG
    go_enter Try.func7, Try.ntmps7
    go_upto_region 1 with fail
    rw [← hw1]
    clear hw1
    go_wp2_with fail
    refine HC.out.mono ?_
    rintro e w2 ⟨rfl, hb2⟩
    have HB2 := hide (HB1.out.trans (hb2.mono HB1.out.size))
    have HR2 := hide (show w2.heap[w.heap.size + 1]? = some (ftO ⟨0, 0, false⟩) by rw [hb2.block _ (lt_of_block HR1.out)]; exact HR1.out)
    clear hb2 HC HB1 HX1 HR1 d0 d1 d2 d3 d4 d5 d6 d7 r0 r1 r2 rf
    obtain ⟨r0, r1, r2, rf⟩ := ft_cells HR2.out
    simp only at r0 r1 r2
    go_wp2
    exact ret_f2 (N := w.heap.size + 1) (F := ⟨0, 0, false⟩) rfl rfl rfl (fset_at HR2.out ⟨0, 0, false⟩) ⟨by rw [HG.out], fset_below HB2.out (by omega) ⟨0, 0, false⟩⟩

end Go.Proofs.Ytdipfaahlofmgaa
