/- What Wide answers, whatever tree was checked. -/
import Derived.Test.YtdipfaahlofmgaaQwide2
namespace Go.Proofs.Ytdipfaahlofmgaa
open Go.RowKit
set_option linter.unusedVariables false

theorem repE_zero {t : Tr} (h : repE t = 0) : (0 ≤ t.least ∧ t.least ≤ 100) ∧ (-1 ≤ t.most ∧ t.most ≤ 100) := by
  unfold repE at h
  by_cases h1 : 0 ≤ t.least ∧ t.least ≤ 100
  · rw [if_neg (fun hh => hh h1)] at h
    by_cases h2 : t.most = -1 ∨ (t.least ≤ t.most ∧ t.most ≤ 100)
    · exact ⟨h1, by omega⟩
    · rw [if_pos h2] at h; omega
  · rw [if_pos h1] at h; omega
set_option maxRecDepth 100000 in
set_option maxHeartbeats 8000000 in
theorem wide_any {w0 : World} {n : NV} {t : Tr} (h : NodeC w0 n t) : good t → ∀ w : World, Below w0.heap.size w0 w → Calls Try.prog 9 #[nvV n] w fun e w' => e = .returned (wdV (factT t)) ∧ Below w.heap.size w w' := by
  induction h with
  | mk n set ks vs hs hk hkids ih =>
    intro hg w hw0
    have hgn := good_node hg
    have hgk := good_kids hg
    have hkind : (Tr.mk n.kind n.num n.least n.most n.way n.fold set ks).kind = n.kind := rfl
    have hkb := hgn.2.1
    unfold kidsB at hkb
    rw [hkind] at hkb
    have HIH := hide (fun j hj W hW => ih j hj (hgk j hj) W hW)
    have HOk := hide (fun j (hj : j < ks.length) => factT_ok ks[j] (hgk j hj))
    have HK := hide hk
    have hrep := hgn.2.2
    rw [hkind] at hrep
    have hk1 := hgn.1
    rw [hkind] at hk1
    have HGet := hide (factL_get ks)
    have hb1 : Below w.heap.size w (w.alloc (nvO n)) := (Below.refl _ w).alloc (Nat.le_refl _) _
    obtain ⟨w1, hw1⟩ : ∃ w1, w1 = w.alloc (nvO n) := ⟨_, rfl⟩
    have hX1 : w1.heap[w.heap.size]? = some (nvO n) := by rw [hw1]; exact at_new _ _
    rw [← hw1] at hb1
    have hB1' := hw0.trans (hb1.mono hw0.size)
    have HB1' := hide hB1'
    have HB1 := hide hb1
    have HX1 := hide hX1
    have HW0 := hide hw0
    obtain ⟨d0, d1, d2, d3, d4, d5, d6, d7⟩ := nv_cells hX1
    simp only [nvO] at hw1
    obtain ⟨G, hG⟩ : ∃ G, G = factT (.mk n.kind n.num n.least n.most n.way n.fold set ks) := ⟨_, rfl⟩
    have HG : Hid (G = factK n.kind n.least n.most (factL ks)) := hG
    rw [← hG]
    have hrepE : repE (.mk n.kind n.num n.least n.most n.way n.fold set ks) = repE (.mk n.kind n.num n.least n.most n.way n.fold set ks) := rfl
    clear hs hk hkids ih hg hgn hgk hkind hb1 hX1 hB1' hw0 hG hrepE
    by_cases h2 : n.kind = 2
    · have b2 : (n.kind == 2) = true := by simpa using h2
      have hF : Hid (G = ⟨1, 1, true⟩) := by show _ = _; rw [HG.out]; unfold factK; simp [h2]
      clear hrep hkb hk1 h2
      go_enter Try.func9, Try.ntmps9
      go_upto_region 1 with fail
      rw [← hw1]
      clear hw1
      go_wp2
      go_ret2
      exact ⟨by rw [hF.out]; rfl, HB1.out⟩
    · by_cases h11 : n.kind = 11
      · have b2 : (n.kind == 2) = false := by simp only [beq_eq_false_iff_ne, ne_eq]; omega
        have b11 : (n.kind == 11) = true := by simpa using h11
        have hF : Hid (G = headF (factL ks)) := by show _ = _; rw [HG.out]; unfold factK; simp [h11]
        have hl1 : ks.length = 1 := by
          rw [if_neg (by omega), if_neg (by omega), if_pos (by omega)] at hkb
          exact of_decide_eq_true hkb
        have hhd : headF (factL ks) = factT (ks[0]'(by omega)) := by
          have h1 := HGet.out 0 (by omega)
          cases hq : factL ks with
          | nil => rw [hq] at h1; cases h1
          | cons f fs => rw [hq] at h1; exact Option.some.inj h1
        clear hkb hrep hk1 h2 h11
        rcases HK.out with ⟨_, _, _, h00⟩ | ⟨x, hx, hkk, hmx, hcl⟩
        · exact absurd h00 (by omega)
        · have hcx : NCells w0 x (vs 0) := by have := hcl 0 (by omega); simpa [add_zero'] using this
          have HC := hide (HIH.out 0 (by omega) w1 HB1'.out)
          obtain ⟨c0, c1, c2, c3, c4, c5, c6, c7⟩ := hcx.below HB1'.out
          obtain ⟨FF, hFF⟩ : ∃ FF, FF = factT (ks[0]'(by omega)) := ⟨_, rfl⟩
          rw [hhd, ← hFF] at hF
          rw [← hFF] at HC
          rw [hx, hkk, hl1] at d2
          obtain ⟨fl, fm, fp⟩ := FF
          clear hcl hFF hx hkk hmx hhd hcx hl1
          simp only [wdV] at HC
          go_enter Try.func9, Try.ntmps9
          go_upto_region 1 with fail
          rw [← hw1]
          clear hw1
          go_wp2_with fail
          refine HC.out.mono ?_
          rintro e w2 ⟨rfl, hb2⟩
          have HB2 := hide (HB1.out.trans (hb2.mono HB1.out.size))
          clear hb2 d0 d1 d2 d3 d4 d5 d6 d7 c0 c1 c2 c3 c4 c5 c6 c7
          go_wp2
          go_ret2
          exact ⟨by rw [hF.out]; rfl, HB2.out⟩
      · by_cases h13 : n.kind = 13
        · have b2 : (n.kind == 2) = false := by simp only [beq_eq_false_iff_ne, ne_eq]; omega
          have b11 : (n.kind == 11) = false := by simp only [beq_eq_false_iff_ne, ne_eq]; omega
          have b13 : (n.kind == 13) = true := by simpa using h13
          have hF : Hid (G = headF (factL ks)) := by show _ = _; rw [HG.out]; unfold factK; simp [h13]
          have hl1 : ks.length = 1 := by
            rw [if_neg (by omega), if_neg (by omega), if_pos (by omega)] at hkb
            exact of_decide_eq_true hkb
          have hhd : headF (factL ks) = factT (ks[0]'(by omega)) := by
            have h1 := HGet.out 0 (by omega)
            cases hq : factL ks with
            | nil => rw [hq] at h1; cases h1
            | cons f fs => rw [hq] at h1; exact Option.some.inj h1
          clear hkb hrep hk1 h2 h11 h13
          rcases HK.out with ⟨_, _, _, h00⟩ | ⟨x, hx, hkk, hmx, hcl⟩
          · exact absurd h00 (by omega)
          · have hcx : NCells w0 x (vs 0) := by have := hcl 0 (by omega); simpa [add_zero'] using this
            have HC := hide (HIH.out 0 (by omega) w1 HB1'.out)
            obtain ⟨c0, c1, c2, c3, c4, c5, c6, c7⟩ := hcx.below HB1'.out
            obtain ⟨FF, hFF⟩ : ∃ FF, FF = factT (ks[0]'(by omega)) := ⟨_, rfl⟩
            rw [hhd, ← hFF] at hF
            rw [← hFF] at HC
            rw [hx, hkk, hl1] at d2
            obtain ⟨fl, fm, fp⟩ := FF
            clear hcl hFF hx hkk hmx hhd hcx hl1
            simp only [wdV] at HC
            go_enter Try.func9, Try.ntmps9
            go_upto_region 1 with fail
            rw [← hw1]
            clear hw1
            go_wp2_with fail
            refine HC.out.mono ?_
            rintro e w2 ⟨rfl, hb2⟩
            have HB2 := hide (HB1.out.trans (hb2.mono HB1.out.size))
            clear hb2 d0 d1 d2 d3 d4 d5 d6 d7 c0 c1 c2 c3 c4 c5 c6 c7
            go_wp2
            go_ret2
            exact ⟨by rw [hF.out]; rfl, HB2.out⟩
        · by_cases h18 : n.kind = 18
          · have b2 : (n.kind == 2) = false := by simp only [beq_eq_false_iff_ne, ne_eq]; omega
            have b11 : (n.kind == 11) = false := by simp only [beq_eq_false_iff_ne, ne_eq]; omega
            have b13 : (n.kind == 13) = false := by simp only [beq_eq_false_iff_ne, ne_eq]; omega
            have b18 : (n.kind == 18) = true := by simpa using h18
            have hF : Hid (G = ⟨0, -1, false⟩) := by show _ = _; rw [HG.out]; unfold factK; simp [h18]
            clear hrep hkb hk1 h2 h11 h13 h18
            go_enter Try.func9, Try.ntmps9
            go_upto_region 1 with fail
            rw [← hw1]
            clear hw1
            go_wp2
            go_ret2
            exact ⟨by rw [hF.out]; rfl, HB1.out⟩
          · by_cases h9 : n.kind = 9
            · have hl2 : 2 ≤ ks.length := by
                rw [if_pos h9] at hkb
                simp only [Bool.and_eq_true, decide_eq_true_eq] at hkb
                exact hkb.1.1
              have hF : G = foldF addF (factL ks) := by rw [HG.out]; unfold factK; simp [h9]
              rw [hF]
              exact wide_row h9 HK.out HIH.out HOk.out hl2 w HW0.out
            · by_cases h10 : n.kind = 10
              · have hl2 : 2 ≤ ks.length := by
                  rw [if_neg (by omega), if_pos h10] at hkb
                  simp only [Bool.and_eq_true, decide_eq_true_eq] at hkb
                  exact hkb.1
                have hF : G = foldF orF (factL ks) := by rw [HG.out]; unfold factK; simp [h10]
                rw [hF]
                exact wide_either h10 HK.out HIH.out HOk.out hl2 w HW0.out
              · by_cases h12 : n.kind = 12
                · have hl1 : ks.length = 1 := by
                    rw [if_neg (by omega), if_neg (by omega), if_pos (by omega)] at hkb
                    exact of_decide_eq_true hkb
                  have hhd : headF (factL ks) = factT (ks[0]'(by omega)) := by
                    have h1 := HGet.out 0 (by omega)
                    cases hq : factL ks with
                    | nil => rw [hq] at h1; cases h1
                    | cons f fs => rw [hq] at h1; exact Option.some.inj h1
                  have hF : G = repF (factT (ks[0]'(by omega))) n.least n.most := by rw [HG.out]; unfold factK; simp [h12, hhd]
                  have hr := repE_zero (hrep h12)
                  rcases HK.out with ⟨_, _, _, h00⟩ | ⟨x, hx, hkk, hmx, hcl⟩
                  · exact absurd h00 (by omega)
                  · have hcx : NCells w0 x (vs 0) := by have := hcl 0 (by omega); simpa [add_zero'] using this
                    rw [hF]
                    exact wide_repeat h12 hx (by omega) hcx _ (fun W hW => HIH.out 0 (by omega) W hW) (HOk.out 0 (by omega)) hr.1 hr.2 w HW0.out
                · have b2 : (n.kind == 2) = false := by simp only [beq_eq_false_iff_ne, ne_eq]; omega
                  have b11 : (n.kind == 11) = false := by simp only [beq_eq_false_iff_ne, ne_eq]; omega
                  have b13 : (n.kind == 13) = false := by simp only [beq_eq_false_iff_ne, ne_eq]; omega
                  have b18 : (n.kind == 18) = false := by simp only [beq_eq_false_iff_ne, ne_eq]; omega
                  have b9 : (n.kind == 9) = false := by simp only [beq_eq_false_iff_ne, ne_eq]; omega
                  have b10 : (n.kind == 10) = false := by simp only [beq_eq_false_iff_ne, ne_eq]; omega
                  have b12 : (n.kind == 12) = false := by simp only [beq_eq_false_iff_ne, ne_eq]; omega
                  have hF : Hid (G.least = 0 ∧ G.most = 0) := by show _ ∧ _; rw [HG.out]; unfold factK; simp only [h9, h10, h11, h12, h13, h18, h2, if_false, or_self]; split <;> exact ⟨rfl, rfl⟩
                  clear hrep hkb hk1 h2 h11 h13 h18 h9 h10 h12
                  go_enter Try.func9, Try.ntmps9
                  go_upto_region 1 with fail
                  rw [← hw1]
                  clear hw1
                  go_wp2
                  go_ret2
                  exact ⟨by rw [show wdV G = .tuple #[.int .i64 0, .int .i64 0] by simp only [wdV]; rw [hF.out.1, hF.out.2]]; rfl, HB1.out⟩

end Go.Proofs.Ytdipfaahlofmgaa
