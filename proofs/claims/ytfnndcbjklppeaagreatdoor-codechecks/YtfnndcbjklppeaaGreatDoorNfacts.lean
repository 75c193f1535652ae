import Derived.Test.YtfnndcbjklppeaaGreatDoorVA
set_option maxHeartbeats 8000000
set_option maxRecDepth 100000
set_option linter.unusedVariables false
namespace Go.Proofs.YtfnndcbjklppeaaGreatDoor
open Go.RowKit
theorem repeatFacts_any {w0 : World} (n m : NV) {x : Addr} (hka : n.ka = some x) (hkl : n.kl = 1) (hc0 : NCells w0 x m) (F : FT) (ih : ∀ W : World, Below w0.heap.size w0 W → Calls Tryz.prog 64 #[nvV m] W fun e w' => e = .returned (ftV F) ∧ Below W.heap.size W w') (hok : okF F) (hl : 0 ≤ n.least ∧ n.least ≤ 100) (hm : -1 ≤ n.most ∧ n.most ≤ 100) (w : World) (hw0 : Below w0.heap.size w0 w) :
  Calls Tryz.prog 107 #[nvV n] w fun e w' => e = .returned (ftV (repF F n.least n.most)) ∧ Below w.heap.size w w' := by
 have hb1 : Below w.heap.size w ((w.alloc (nvO n)).alloc (ftO ⟨0, 0, false⟩)) := ((Below.refl _ w).alloc (Nat.le_refl _) _).alloc (by simp) _
 obtain ⟨w1, hw1⟩ : ∃ w1, w1 = (w.alloc (nvO n)).alloc (ftO ⟨0, 0, false⟩) := ⟨_, rfl⟩
 have hX1 : w1.heap[w.heap.size]? = some (nvO n) := by rw [hw1]; exact at_old (at_new _ _)
 have hR1 : w1.heap[w.heap.size + 1]? = some (ftO ⟨0, 0, false⟩) := by rw [hw1]; exact at_new' _ _ (by simp)
 rw [← hw1] at hb1
 have hB1' := hw0.trans (hb1.mono hw0.size)
 have HC := hide (ih w1 hB1')
 obtain ⟨c0, c1, c2, c3, c4, c5, c6, c7⟩ := hc0.below hB1'
 have HB1 := hide hb1
 have HX1 := hide hX1
 have HR1 := hide hR1
 obtain ⟨d0, d1, d2, d3, d4, d5, d6, d7⟩ := nv_cells hX1
 rw [hka, hkl] at d2
 simp only [nvO, ftO] at hw1
 obtain ⟨fl, fm, fp⟩ := F
 unfold okF at hok
 simp only at hok
 obtain ⟨f1, f2, f3, f4⟩ := hok
 have hms := mul_small f1 f2 hl.1 hl.2
 have hmw : IntKind.i64.wrap (fl * n.least) = fl * n.least := by rw [IntKind.wrap_i64]; omega
 obtain ⟨G, hG⟩ : ∃ G, G = repF ⟨fl, fm, fp⟩ n.least n.most := ⟨_, rfl⟩
 have HG : Hid (G = ⟨leastF (fl * n.least), timM fm n.most, fp⟩) := hG
 rw [← hG]
 clear ih hw0 hb1 hX1 hR1 hB1' hc0 hG hms hka hkl
 go_enter Tryz.func107, Tryz.ntmps107
 go_upto_region 1 with fail
 rw [← hw1]
 clear hw1
 go_wp2_with fail
 refine HC.out.mono ?_
 rintro e w2 ⟨rfl, hb2⟩
 have HB2 := hide (HB1.out.trans (hb2.mono HB1.out.size))
 have HX2 := hide (show w2.heap[w.heap.size]? = some (nvO n) by rw [hb2.block _ (lt_of_block HX1.out)]; exact HX1.out)
 have HR2 := hide (show w2.heap[w.heap.size + 1]? = some (ftO ⟨0, 0, false⟩) by rw [hb2.block _ (lt_of_block HR1.out)]; exact HR1.out)
 clear hb2 HC HB1 HX1 HR1 c0 c1 c2 c3 c4 c5 c6 c7 d0 d1 d2 d3 d4 d5 d6 d7
 obtain ⟨w3, hw3⟩ : ∃ w3, w3 = w2.alloc (ftO ⟨fl, fm, fp⟩) := ⟨_, rfl⟩
 have HT3 : Hid (w3.heap[w2.heap.size]? = some (ftO ⟨fl, fm, fp⟩)) := by show _ = _; rw [hw3]; exact at_new _ _
 have HX3 : Hid (w3.heap[w.heap.size]? = some (nvO n)) := by show _ = _; rw [hw3]; exact at_old HX2.out
 have HR3 : Hid (w3.heap[w.heap.size + 1]? = some (ftO ⟨0, 0, false⟩)) := by show _ = _; rw [hw3]; exact at_old HR2.out
 have HB3 : Hid (Below w.heap.size w w3) := by show Below _ _ _; rw [hw3]; exact HB2.out.alloc HB2.out.size _
 have hlt : w.heap.size + 1 < w2.heap.size := lt_of_block HR2.out
 obtain ⟨T, hT⟩ : ∃ T, T = w2.heap.size := ⟨_, rfl⟩
 rw [← hT] at HT3 hlt
 have q1 : ¬ T = w.heap.size := by omega
 have q2 : ¬ w.heap.size = T := by omega
 have q3 : ¬ T = w.heap.size + 1 := by omega
 have q4 : ¬ w.heap.size + 1 = T := by omega
 have HTq := hide hT
 obtain ⟨t0, t1, t2, tf⟩ := ft_cells HT3.out
 obtain ⟨r0, r1, r2, rf⟩ := ft_cells HR3.out
 obtain ⟨d0, d1, d2, d3, d4, d5, d6, d7⟩ := nv_cells HX3.out
 simp only at t0 t1 t2 r0 r1 r2
 simp only [ftO] at hw3
 simp only [ftV]
 clear HX2 HR2 HB2 hT
 go_upto_region 2 with fail
 rw [← hw3, ← HTq.out]
 clear hw3 HTq
 go_wp2_with fail
 refine (leastTaken_any (fl * n.least) _).mono ?_
 rintro e w' ⟨rfl, rfl⟩
 go_wp2_with fail
 refine (mostTimes_any fm n.most _ f4 hm.2).mono ?_
 rintro e w' ⟨rfl, rfl⟩
 go_upto_region 4 with fail
 obtain ⟨w4, hw4⟩ : ∃ w4, w4 = (w3.setCell ⟨T, 0, none⟩ (.int .i64 (leastF (fl * n.least)))).setCell ⟨T, 1, none⟩ (.int .i64 (timM fm n.most)) := ⟨_, rfl⟩
 have HT4 : Hid (w4.heap[T]? = some (ftO ⟨leastF (fl * n.least), timM fm n.most, fp⟩)) := by show _ = _; rw [hw4, set_one' (set_one' HT3.out _ _) _ _]; rfl
 have HR4 : Hid (w4.heap[w.heap.size + 1]? = some (ftO ⟨0, 0, false⟩)) := by show _ = _; rw [hw4, Below.heap_setCell _ _ _ _ (fun e => q4 e), Below.heap_setCell _ _ _ _ (fun e => q4 e)]; exact HR3.out
 have HB4 : Hid (Below w.heap.size w w4) := by show Below _ _ _; rw [hw4]; exact (HB3.out.setCell (p := ⟨T, 0, none⟩) (by show w.heap.size ≤ T; omega) _).setCell (p := ⟨T, 1, none⟩) (by show w.heap.size ≤ T; omega) _
 rw [← hw4]
 clear hw4 t0 t1 t2 tf r0 r1 r2 rf d0 d1 d2 d3 d4 d5 d6 d7 HT3 HX3 HR3 HB3
 obtain ⟨A, hA⟩ : ∃ A, A = leastF (fl * n.least) := ⟨_, rfl⟩
 obtain ⟨B, hB⟩ : ∃ B, B = timM fm n.most := ⟨_, rfl⟩
 rw [← hA, ← hB] at HT4 HG
 rw [← hA, ← hB]
 clear hA hB
 obtain ⟨t0, t1, t2, tf⟩ := ft_cells HT4.out
 obtain ⟨r0, r1, r2, rf⟩ := ft_cells HR4.out
 simp only at t0 t1 t2 r0 r1 r2
 go_wp2
 exact ret_f (N := w.heap.size + 1) (F := ⟨A, B, fp⟩) rfl rfl (fset_at HR4.out ⟨A, B, fp⟩) ⟨by rw [HG.out], fset_below HB4.out (by omega) ⟨A, B, fp⟩⟩
theorem facts_any {w0 : World} {n : NV} {t : Tr} (h : NodeC w0 n t) : good t → ∀ w : World, Below w0.heap.size w0 w → Calls Tryz.prog 64 #[nvV n] w fun e w' => e = .returned (ftV (factT t)) ∧ Below w.heap.size w w' := by
 induction h with
 | mk n set ks vs hs hk hkids ih =>
  intro hg w hw0
  have hgn := good_node hg
  have hgk := good_kids hg
  have hkind : (Tr.mk n.kind n.num n.least n.most n.way n.fold set ks).kind = n.kind := rfl
  have hkb := hgn.2.1
  unfold kidsB at hkb
  rw [hkind] at hkb
  have HIH := hide (fun j hj W hW => ih j hj (hgk j hj) W hW)
  have HOk := hide (fun j (hj : j < ks.length) => factT_ok ks[j] (hgk j hj))
  have HK := hide hk
  have hrep := hgn.2.2
  rw [hkind] at hrep
  have hk1 := hgn.1
  rw [hkind] at hk1
  have HFT : Hid (factT (.mk n.kind n.num n.least n.most n.way n.fold set ks) = factK n.kind n.least n.most (factL ks)) := rfl
  have HLen := hide (factL_len ks)
  have HGet := hide (factL_get ks)
  have hb1 : Below w.heap.size w ((w.alloc (nvO n)).alloc (ftO ⟨0, 0, false⟩)) := ((Below.refl _ w).alloc (Nat.le_refl _) _).alloc (by simp) _
  obtain ⟨w1, hw1⟩ : ∃ w1, w1 = (w.alloc (nvO n)).alloc (ftO ⟨0, 0, false⟩) := ⟨_, rfl⟩
  have hX1 : w1.heap[w.heap.size]? = some (nvO n) := by rw [hw1]; exact at_old (at_new _ _)
  have hR1 : w1.heap[w.heap.size + 1]? = some (ftO ⟨0, 0, false⟩) := by rw [hw1]; exact at_new' _ _ (by simp)
  rw [← hw1] at hb1
  have hB1' := hw0.trans (hb1.mono hw0.size)
  have HB1' := hide hB1'
  have HB1 := hide hb1
  have HX1 := hide hX1
  have HR1 := hide hR1
  have HW0 := hide hw0
  obtain ⟨d0, d1, d2, d3, d4, d5, d6, d7⟩ := nv_cells hX1
  obtain ⟨r0, r1, r2, rf⟩ := ft_cells hR1
  simp only at r0 r1 r2
  simp only [nvO, ftO] at hw1
  obtain ⟨G, hG⟩ : ∃ G, G = factT (.mk n.kind n.num n.least n.most n.way n.fold set ks) := ⟨_, rfl⟩
  have HG : Hid (G = factK n.kind n.least n.most (factL ks)) := hG
  rw [← hG]
  clear hs hk hkids ih hg hgn hgk hkind hb1 hX1 hR1 hB1' hw0 hG HFT
  by_cases h1 : n.kind = 1
  ·have hF : Hid (G = ⟨0, 0, true⟩) := by show _ = _; rw [HG.out]; unfold factK; rw [if_pos h1]
   have b1 : (n.kind == 1) = true := by simpa using h1
   clear hrep hkb hk1  h1
   go_enter Tryz.func64, Tryz.ntmps64
   go_upto_region 1 with fail
   rw [← hw1]
   clear hw1
   go_wp2
   exact ret_f (N := w.heap.size + 1) (F := ⟨0, 0, true⟩) rfl rfl (fset_at HR1.out ⟨0, 0, true⟩) ⟨by rw [hF.out], fset_below HB1.out (by omega) ⟨0, 0, true⟩⟩
  ·by_cases h2 : n.kind = 2
   ·have hF : Hid (G = ⟨1, 1, true⟩) := by show _ = _; rw [HG.out]; unfold factK; rw [if_neg (by omega), if_pos h2]
    have b1 : (n.kind == 1) = false := by simp only [beq_eq_false_iff_ne, ne_eq]; omega
    have b2 : (n.kind == 2) = true := by simpa using h2
    clear hrep hkb hk1 h1 h2
    go_enter Tryz.func64, Tryz.ntmps64
    go_upto_region 1 with fail
    rw [← hw1]
    clear hw1
    go_wp2
    exact ret_f (N := w.heap.size + 1) (F := ⟨1, 1, true⟩) rfl rfl (fset_at HR1.out ⟨1, 1, true⟩) ⟨by rw [hF.out], fset_below HB1.out (by omega) ⟨1, 1, true⟩⟩
   ·by_cases h9 : n.kind = 9
    ·have hF : Hid (G = foldF addF (factL ks)) := by show _ = _; rw [HG.out]; unfold factK; rw [if_neg (by omega), if_neg (by omega), if_pos h9]
     have b1 : (n.kind == 1) = false := by simp only [beq_eq_false_iff_ne, ne_eq]; omega
     have b2 : (n.kind == 2) = false := by simp only [beq_eq_false_iff_ne, ne_eq]; omega
     have b9 : (n.kind == 9) = true := by simpa using h9
     have hl2 : 2 ≤ ks.length := by
      rw [if_pos h9] at hkb
      simp only [Bool.and_eq_true, decide_eq_true_eq] at hkb
      exact hkb.1.1
     clear hkb hrep hk1 h1 h2 h9
     rcases HK.out with ⟨_, _, _, h00⟩ | ⟨x, hx, hkk, hmx, hcl⟩
     ·exact absurd h00 (by omega)
     ·have HC := hide (rowFacts_any hcl hl2 hmx HIH.out HOk.out w1 HB1'.out)
      obtain ⟨FF, hFF⟩ : ∃ FF, FF = foldF addF (factL ks) := ⟨_, rfl⟩
      rw [← hFF] at HC hF
      rw [hx, hkk] at d2
      obtain ⟨q, hq⟩ : ∃ q, q = ks.length := ⟨_, rfl⟩
      rw [← hq] at HC d2
      clear hcl hFF hx hkk hq hl2 hmx
      go_enter Tryz.func64, Tryz.ntmps64
      go_upto_region 1 with fail
      rw [← hw1]
      clear hw1
      go_wp2_with fail
      refine HC.out.mono ?_
      rintro e w2 ⟨rfl, hb2⟩
      have HB2 := hide (HB1.out.trans (hb2.mono HB1.out.size))
      have HR2 := hide (show w2.heap[w.heap.size + 1]? = some (ftO ⟨0, 0, false⟩) by rw [hb2.block _ (lt_of_block HR1.out)]; exact HR1.out)
      clear hb2 d0 d1 d2 d3 d4 d5 d6 d7 r0 r1 r2 rf
      obtain ⟨r0, r1, r2, rf⟩ := ft_cells HR2.out
      simp only at r0 r1 r2
      obtain ⟨fl, fm, fp⟩ := FF
      simp only [ftV]
      go_wp2
      exact ret_f (N := w.heap.size + 1) (F := ⟨fl, fm, fp⟩) rfl rfl (fset_at HR2.out ⟨fl, fm, fp⟩) ⟨by rw [hF.out], fset_below HB2.out (by omega) ⟨fl, fm, fp⟩⟩
    ·by_cases h10 : n.kind = 10
     ·have hF : Hid (G = foldF orF (factL ks)) := by show _ = _; rw [HG.out]; unfold factK; rw [if_neg (by omega), if_neg (by omega), if_neg (by omega), if_pos h10]
      have b1 : (n.kind == 1) = false := by simp only [beq_eq_false_iff_ne, ne_eq]; omega
      have b2 : (n.kind == 2) = false := by simp only [beq_eq_false_iff_ne, ne_eq]; omega
      have b9 : (n.kind == 9) = false := by simp only [beq_eq_false_iff_ne, ne_eq]; omega
      have b10 : (n.kind == 10) = true := by simpa using h10
      have hl2 : 2 ≤ ks.length := by
       rw [if_neg (by omega), if_pos h10] at hkb
       simp only [Bool.and_eq_true, decide_eq_true_eq] at hkb
       exact hkb.1
      clear hkb hrep hk1 h1 h2 h9 h10
      rcases HK.out with ⟨_, _, _, h00⟩ | ⟨x, hx, hkk, hmx, hcl⟩
      ·exact absurd h00 (by omega)
      ·have HC := hide (eitherFacts_any hcl hl2 hmx HIH.out HOk.out w1 HB1'.out)
       obtain ⟨FF, hFF⟩ : ∃ FF, FF = foldF orF (factL ks) := ⟨_, rfl⟩
       rw [← hFF] at HC hF
       rw [hx, hkk] at d2
       obtain ⟨q, hq⟩ : ∃ q, q = ks.length := ⟨_, rfl⟩
       rw [← hq] at HC d2
       clear hcl hFF hx hkk hq hl2 hmx
       go_enter Tryz.func64, Tryz.ntmps64
       go_upto_region 1 with fail
       rw [← hw1]
       clear hw1
       go_wp2_with fail
       refine HC.out.mono ?_
       rintro e w2 ⟨rfl, hb2⟩
       have HB2 := hide (HB1.out.trans (hb2.mono HB1.out.size))
       have HR2 := hide (show w2.heap[w.heap.size + 1]? = some (ftO ⟨0, 0, false⟩) by rw [hb2.block _ (lt_of_block HR1.out)]; exact HR1.out)
       clear hb2 d0 d1 d2 d3 d4 d5 d6 d7 r0 r1 r2 rf
       obtain ⟨r0, r1, r2, rf⟩ := ft_cells HR2.out
       simp only at r0 r1 r2
       obtain ⟨fl, fm, fp⟩ := FF
       simp only [ftV]
       go_wp2
       exact ret_f (N := w.heap.size + 1) (F := ⟨fl, fm, fp⟩) rfl rfl (fset_at HR2.out ⟨fl, fm, fp⟩) ⟨by rw [hF.out], fset_below HB2.out (by omega) ⟨fl, fm, fp⟩⟩
     ·by_cases h11 : n.kind = 11
      ·have hF : Hid (G = headF (factL ks)) := by show _ = _; rw [HG.out]; unfold factK; rw [if_neg (by omega), if_neg (by omega), if_neg (by omega), if_neg (by omega), if_pos (by omega)]
       have b1 : (n.kind == 1) = false := by simp only [beq_eq_false_iff_ne, ne_eq]; omega
       have b2 : (n.kind == 2) = false := by simp only [beq_eq_false_iff_ne, ne_eq]; omega
       have b9 : (n.kind == 9) = false := by simp only [beq_eq_false_iff_ne, ne_eq]; omega
       have b10 : (n.kind == 10) = false := by simp only [beq_eq_false_iff_ne, ne_eq]; omega
       have b11 : (n.kind == 11) = true := by simpa using h11
       have hl1 : ks.length = 1 := by
        rw [if_neg (by omega), if_neg (by omega), if_pos (by omega)] at hkb
        exact of_decide_eq_true hkb
       have hhd : headF (factL ks) = factT (ks[0]'(by omega)) := by
        have h1 := HGet.out 0 (by omega)
        cases hq : factL ks with
        | nil => rw [hq] at h1; cases h1
        | cons f fs => rw [hq] at h1; exact Option.some.inj h1
       clear hkb hrep hk1 h1 h2 h9 h10 h11
       rcases HK.out with ⟨_, _, _, h00⟩ | ⟨x, hx, hkk, hmx, hcl⟩
       ·exact absurd h00 (by omega)
       ·have hcx : NCells w0 x (vs 0) := by have := hcl 0 (by omega); simpa [add_zero'] using this
        have HC := hide (HIH.out 0 (by omega) w1 HB1'.out)
        obtain ⟨c0, c1, c2, c3, c4, c5, c6, c7⟩ := hcx.below HB1'.out
        obtain ⟨FF, hFF⟩ : ∃ FF, FF = factT (ks[0]'(by omega)) := ⟨_, rfl⟩
        rw [hhd, ← hFF] at hF
        rw [← hFF] at HC
        rw [hx, hkk, hl1] at d2
        clear hcl hFF hx hkk hmx hhd hcx hl1
        go_enter Tryz.func64, Tryz.ntmps64
        go_upto_region 1 with fail
        rw [← hw1]
        clear hw1
        go_wp2_with fail
        refine HC.out.mono ?_
        rintro e w2 ⟨rfl, hb2⟩
        have HB2 := hide (HB1.out.trans (hb2.mono HB1.out.size))
        have HR2 := hide (show w2.heap[w.heap.size + 1]? = some (ftO ⟨0, 0, false⟩) by rw [hb2.block _ (lt_of_block HR1.out)]; exact HR1.out)
        clear hb2 c0 c1 c2 c3 c4 c5 c6 c7 d0 d1 d2 d3 d4 d5 d6 d7 r0 r1 r2 rf
        obtain ⟨r0, r1, r2, rf⟩ := ft_cells HR2.out
        simp only at r0 r1 r2
        obtain ⟨fl, fm, fp⟩ := FF
        simp only [ftV]
        go_wp2
        exact ret_f (N := w.heap.size + 1) (F := ⟨fl, fm, fp⟩) rfl rfl (fset_at HR2.out ⟨fl, fm, fp⟩) ⟨by rw [hF.out], fset_below HB2.out (by omega) ⟨fl, fm, fp⟩⟩
      ·by_cases h13 : n.kind = 13
       ·have hF : Hid (G = headF (factL ks)) := by show _ = _; rw [HG.out]; unfold factK; rw [if_neg (by omega), if_neg (by omega), if_neg (by omega), if_neg (by omega), if_pos (by omega)]
        have b1 : (n.kind == 1) = false := by simp only [beq_eq_false_iff_ne, ne_eq]; omega
        have b2 : (n.kind == 2) = false := by simp only [beq_eq_false_iff_ne, ne_eq]; omega
        have b9 : (n.kind == 9) = false := by simp only [beq_eq_false_iff_ne, ne_eq]; omega
        have b10 : (n.kind == 10) = false := by simp only [beq_eq_false_iff_ne, ne_eq]; omega
        have b11 : (n.kind == 11) = false := by simp only [beq_eq_false_iff_ne, ne_eq]; omega
        have b13 : (n.kind == 13) = true := by simpa using h13
        have hl1 : ks.length = 1 := by
         rw [if_neg (by omega), if_neg (by omega), if_pos (by omega)] at hkb
         exact of_decide_eq_true hkb
        have hhd : headF (factL ks) = factT (ks[0]'(by omega)) := by
         have h1 := HGet.out 0 (by omega)
         cases hq : factL ks with
         | nil => rw [hq] at h1; cases h1
         | cons f fs => rw [hq] at h1; exact Option.some.inj h1
        clear hkb hrep hk1 h1 h2 h9 h10 h11 h13
        rcases HK.out with ⟨_, _, _, h00⟩ | ⟨x, hx, hkk, hmx, hcl⟩
        ·exact absurd h00 (by omega)
        ·have hcx : NCells w0 x (vs 0) := by have := hcl 0 (by omega); simpa [add_zero'] using this
         have HC := hide (HIH.out 0 (by omega) w1 HB1'.out)
         obtain ⟨c0, c1, c2, c3, c4, c5, c6, c7⟩ := hcx.below HB1'.out
         obtain ⟨FF, hFF⟩ : ∃ FF, FF = factT (ks[0]'(by omega)) := ⟨_, rfl⟩
         rw [hhd, ← hFF] at hF
         rw [← hFF] at HC
         rw [hx, hkk, hl1] at d2
         clear hcl hFF hx hkk hmx hhd hcx hl1
         go_enter Tryz.func64, Tryz.ntmps64
         go_upto_region 1 with fail
         rw [← hw1]
         clear hw1
         go_wp2_with fail
         refine HC.out.mono ?_
         rintro e w2 ⟨rfl, hb2⟩
         have HB2 := hide (HB1.out.trans (hb2.mono HB1.out.size))
         have HR2 := hide (show w2.heap[w.heap.size + 1]? = some (ftO ⟨0, 0, false⟩) by rw [hb2.block _ (lt_of_block HR1.out)]; exact HR1.out)
         clear hb2 c0 c1 c2 c3 c4 c5 c6 c7 d0 d1 d2 d3 d4 d5 d6 d7 r0 r1 r2 rf
         obtain ⟨r0, r1, r2, rf⟩ := ft_cells HR2.out
         simp only at r0 r1 r2
         obtain ⟨fl, fm, fp⟩ := FF
         simp only [ftV]
         go_wp2
         exact ret_f (N := w.heap.size + 1) (F := ⟨fl, fm, fp⟩) rfl rfl (fset_at HR2.out ⟨fl, fm, fp⟩) ⟨by rw [hF.out], fset_below HB2.out (by omega) ⟨fl, fm, fp⟩⟩
       ·by_cases h12 : n.kind = 12
        ·have hF : Hid (G = repF (headF (factL ks)) n.least n.most) := by show _ = _; rw [HG.out]; unfold factK; rw [if_neg (by omega), if_neg (by omega), if_neg (by omega), if_neg (by omega), if_neg (by omega), if_pos h12]
         have b1 : (n.kind == 1) = false := by simp only [beq_eq_false_iff_ne, ne_eq]; omega
         have b2 : (n.kind == 2) = false := by simp only [beq_eq_false_iff_ne, ne_eq]; omega
         have b9 : (n.kind == 9) = false := by simp only [beq_eq_false_iff_ne, ne_eq]; omega
         have b10 : (n.kind == 10) = false := by simp only [beq_eq_false_iff_ne, ne_eq]; omega
         have b11 : (n.kind == 11) = false := by simp only [beq_eq_false_iff_ne, ne_eq]; omega
         have b13 : (n.kind == 13) = false := by simp only [beq_eq_false_iff_ne, ne_eq]; omega
         have b12 : (n.kind == 12) = true := by simpa using h12
         have hl1 : ks.length = 1 := by
          rw [if_neg (by omega), if_neg (by omega), if_pos (by omega)] at hkb
          exact of_decide_eq_true hkb
         have hrp := hrep h12
         have hbd : (0 ≤ n.least ∧ n.least ≤ 100) ∧ (-1 ≤ n.most ∧ n.most ≤ 100) := by
          unfold repE at hrp
          have e1 : (Tr.mk n.kind n.num n.least n.most n.way n.fold set ks).least = n.least := rfl
          have e2 : (Tr.mk n.kind n.num n.least n.most n.way n.fold set ks).most = n.most := rfl
          rw [e1, e2] at hrp
          split at hrp
          ·omega
          ·split at hrp
           ·omega
           ·omega
         clear hrp
         have hhd : headF (factL ks) = factT (ks[0]'(by omega)) := by
          have h1 := HGet.out 0 (by omega)
          cases hq : factL ks with
          | nil => rw [hq] at h1; cases h1
          | cons f fs => rw [hq] at h1; exact Option.some.inj h1
         clear hkb hrep hk1 h1 h2 h9 h10 h11 h13 h12
         rcases HK.out with ⟨_, _, _, h00⟩ | ⟨x, hx, hkk, hmx, hcl⟩
         ·exact absurd h00 (by omega)
         ·have hcx : NCells w0 x (vs 0) := by have := hcl 0 (by omega); simpa [add_zero'] using this
          have HC := hide (repeatFacts_any n (vs 0) hx (hkk.trans hl1) hcx (factT (ks[0]'(by omega))) (fun W hW => HIH.out 0 (by omega) W hW) (HOk.out 0 (by omega)) hbd.1 hbd.2 w1 HB1'.out)
          rw [hhd] at hF
          obtain ⟨FF, hFF⟩ : ∃ FF, FF = repF (factT (ks[0]'(by omega))) n.least n.most := ⟨_, rfl⟩
          rw [← hFF] at HC hF
          clear hcl hFF hx hkk hmx hhd hcx hl1 hbd
          go_enter Tryz.func64, Tryz.ntmps64
          go_upto_region 1 with fail
          rw [← hw1]
          clear hw1
          go_wp2_with fail
          refine HC.out.mono ?_
          rintro e w2 ⟨rfl, hb2⟩
          have HB2 := hide (HB1.out.trans (hb2.mono HB1.out.size))
          have HR2 := hide (show w2.heap[w.heap.size + 1]? = some (ftO ⟨0, 0, false⟩) by rw [hb2.block _ (lt_of_block HR1.out)]; exact HR1.out)
          clear hb2 d0 d1 d2 d3 d4 d5 d6 d7 r0 r1 r2 rf
          obtain ⟨r0, r1, r2, rf⟩ := ft_cells HR2.out
          simp only at r0 r1 r2
          obtain ⟨fl, fm, fp⟩ := FF
          simp only [ftV]
          go_wp2
          exact ret_f (N := w.heap.size + 1) (F := ⟨fl, fm, fp⟩) rfl rfl (fset_at HR2.out ⟨fl, fm, fp⟩) ⟨by rw [hF.out], fset_below HB2.out (by omega) ⟨fl, fm, fp⟩⟩
        ·by_cases h18 : n.kind = 18
         ·have hF : Hid (G = ⟨0, -1, false⟩) := by show _ = _; rw [HG.out]; unfold factK; rw [if_neg (by omega), if_neg (by omega), if_neg (by omega), if_neg (by omega), if_neg (by omega), if_neg (by omega), if_pos h18]
          have b1 : (n.kind == 1) = false := by simp only [beq_eq_false_iff_ne, ne_eq]; omega
          have b2 : (n.kind == 2) = false := by simp only [beq_eq_false_iff_ne, ne_eq]; omega
          have b9 : (n.kind == 9) = false := by simp only [beq_eq_false_iff_ne, ne_eq]; omega
          have b10 : (n.kind == 10) = false := by simp only [beq_eq_false_iff_ne, ne_eq]; omega
          have b11 : (n.kind == 11) = false := by simp only [beq_eq_false_iff_ne, ne_eq]; omega
          have b13 : (n.kind == 13) = false := by simp only [beq_eq_false_iff_ne, ne_eq]; omega
          have b12 : (n.kind == 12) = false := by simp only [beq_eq_false_iff_ne, ne_eq]; omega
          have b18 : (n.kind == 18) = true := by simpa using h18
          clear hrep hkb hk1 h1 h2 h9 h10 h11 h13 h12 h18
          go_enter Tryz.func64, Tryz.ntmps64
          go_upto_region 1 with fail
          rw [← hw1]
          clear hw1
          go_wp2
          exact ret_f (N := w.heap.size + 1) (F := ⟨0, -1, false⟩) rfl rfl (fset_at HR1.out ⟨0, -1, false⟩) ⟨by rw [hF.out], fset_below HB1.out (by omega) ⟨0, -1, false⟩⟩
         ·have hF : Hid (G = ⟨0, 0, false⟩) := by show _ = _; rw [HG.out]; unfold factK; rw [if_neg (by omega), if_neg (by omega), if_neg (by omega), if_neg (by omega), if_neg (by omega), if_neg (by omega), if_neg (by omega)]
          have b1 : (n.kind == 1) = false := by simp only [beq_eq_false_iff_ne, ne_eq]; omega
          have b2 : (n.kind == 2) = false := by simp only [beq_eq_false_iff_ne, ne_eq]; omega
          have b9 : (n.kind == 9) = false := by simp only [beq_eq_false_iff_ne, ne_eq]; omega
          have b10 : (n.kind == 10) = false := by simp only [beq_eq_false_iff_ne, ne_eq]; omega
          have b11 : (n.kind == 11) = false := by simp only [beq_eq_false_iff_ne, ne_eq]; omega
          have b13 : (n.kind == 13) = false := by simp only [beq_eq_false_iff_ne, ne_eq]; omega
          have b12 : (n.kind == 12) = false := by simp only [beq_eq_false_iff_ne, ne_eq]; omega
          have b18 : (n.kind == 18) = false := by simp only [beq_eq_false_iff_ne, ne_eq]; omega
          clear hrep hkb hk1 h1 h2 h9 h10 h11 h13 h12 h18 
          go_enter Tryz.func64, Tryz.ntmps64
          go_upto_region 1 with fail
          rw [← hw1]
          clear hw1
          go_wp2
          exact ret_f (N := w.heap.size + 1) (F := ⟨0, 0, false⟩) rfl rfl (fset_at HR1.out ⟨0, 0, false⟩) ⟨by rw [hF.out], fset_below HB1.out (by omega) ⟨0, 0, false⟩⟩
end Go.Proofs.YtfnndcbjklppeaaGreatDoor
