/- What Wide answers. -/
import Derived.Test.YtdipfaahlofmgaaQwide
import Derived.Test.YtdipfaahlofmgaaNfacts
namespace Go.Proofs.Ytdipfaahlofmgaa
open Go.RowKit
set_option linter.unusedVariables false

set_option maxRecDepth 100000 in
set_option maxHeartbeats 8000000 in
theorem wide_either {w0 : World} {n : NV} {ks : List Tr} {vs : Nat → NV} (hk10 : n.kind = 10) (hk : KidsC w0 n.ka n.kl n.kc ks.length vs)
    (ih : ∀ j (hj : j < ks.length) (W : World), Below w0.heap.size w0 W → Calls Try.prog 9 #[nvV (vs j)] W fun e w' => e = .returned (wdV (factT ks[j])) ∧ Below W.heap.size W w')
    (hok : ∀ j (hj : j < ks.length), okF (factT ks[j])) (hl : 2 ≤ ks.length) (w : World) (hw0 : Below w0.heap.size w0 w) :
    Calls Try.prog 9 #[nvV n] w fun e w' => e = .returned (wdV (foldF orF (factL ks))) ∧ Below w.heap.size w w' := by
  have hb1 : Below w.heap.size w (w.alloc (nvO n)) := (Below.refl _ w).alloc (Nat.le_refl _) _
  obtain ⟨w1, hw1⟩ : ∃ w1, w1 = w.alloc (nvO n) := ⟨_, rfl⟩
  have hX1 : w1.heap[w.heap.size]? = some (nvO n) := by rw [hw1]; exact at_new _ _
  rw [← hw1] at hb1
  have HB1 := hide hb1
  have HX1 := hide hX1
  have HIH := hide ih
  have HOK := hide hok
  have HW0 := hide hw0
  have HKL := hide hk.len
  have HZ := hide (fold_head orF ks (by omega))
  obtain ⟨d0, d1, d2, d3, d4, d5, d6, d7⟩ := nv_cells hX1
  have b2 : (n.kind == 2) = false := by rw [hk10]; rfl
  have b11 : (n.kind == 11) = false := by rw [hk10]; rfl
  have b13 : (n.kind == 13) = false := by rw [hk10]; rfl
  have b18 : (n.kind == 18) = false := by rw [hk10]; rfl
  have b9 : (n.kind == 9) = false := by rw [hk10]; rfl
  have b10 : (n.kind == 10) = true := by rw [hk10]; rfl
  simp only [nvO] at hw1
  obtain ⟨G, hG⟩ : ∃ G, G = foldF orF (factL ks) := ⟨_, rfl⟩
  rw [← hG] at HZ ⊢
  obtain ⟨m, hm⟩ : ∃ m, m = ks.length := ⟨_, rfl⟩
  have HM := hide hm
  have hl2 : 2 ≤ m := by omega
  rcases hk with ⟨_, _, _, h0⟩ | ⟨x, hx, hkk, hmx, hcl⟩
  · exact absurd h0 (by omega)
  · have hmx1 : m ≤ 9223372036854775807 := by omega
    have HCL := hide hcl
    have hB0 : Below w0.heap.size w0 w1 := hw0.trans (hb1.mono hw0.size)
    obtain ⟨c0, c1, c2, c3, c4, c5, c6, c7⟩ : NCells w1 x (vs 0) := by have := (hcl 0 (by omega)).below hB0; simpa [add_zero'] using this
    have HC0 := hide (ih 0 (by omega) w1 hB0)
    have hko := hok 0 (by omega)
    obtain ⟨kf, hkf⟩ : ∃ kf, kf = factT (ks[0]'(by omega)) := ⟨_, rfl⟩
    rw [← hkf] at HC0 HZ hko
    have HKO := hide hko
    obtain ⟨kl, km, kp⟩ := kf
    rw [hx] at d2
    have hn0 : (0 : Int) < (n.kl : Int) := by have := HKL.out; omega
    have HXx := hide hx
    clear ih hok hw0 hb1 hX1 hG hl hm hk10 hcl hkk hmx hB0 hkf hko hx
    simp only [wdV] at HC0
    go_enter Try.func9, Try.ntmps9
    go_upto_region 1 with fail
    rw [← hw1]
    clear hw1
    go_wp2_with fail
    refine HC0.out.mono ?_
    rintro e w2 ⟨rfl, hb2⟩
    have HB2 := hide (HB1.out.trans (hb2.mono HB1.out.size))
    have HX2 := hide (show w2.heap[w.heap.size]? = some (nvO n) by rw [hb2.block _ (lt_of_block HX1.out)]; exact HX1.out)
    clear hb2 HC0 HB1 HX1 c0 c1 c2 c3 c4 c5 c6 c7 d0 d1 d2 d3 d4 d5 d6 d7
    go_wp2
    go_loopw [10, 11, 12] (fun a b c wr => ∃ (j : Nat) (f : FT), j ≤ m ∧ 1 ≤ j ∧ c = .int .i64 j ∧ a = .int .i64 f.least ∧ b = .int .i64 f.most ∧ okF f ∧ G = ((factL ks).drop j).foldl orF f ∧ wr.heap[w.heap.size]? = some (nvO n) ∧ Below w.heap.size w wr) (fun _ _ c _ => m - (intOf c).toNat)
    case atStart => exact ⟨1, ⟨kl, km, kp⟩, by omega, Nat.le_refl _, rfl, rfl, rfl, HKO.out, HZ.out, HX2.out, HB2.out⟩
    case round =>
      obtain ⟨j, f, hj, hj1, rfl, rfl, rfl, hf, hG, hx, hb⟩ := hrel
      obtain ⟨w3, hw3⟩ : ∃ w3, w3 = wr := ⟨_, rfl⟩
      subst hw3
      obtain ⟨fl, fm, fp⟩ := f
      have HFK := hide hf
      unfold okF at hf
      simp only at hf
      obtain ⟨f1, f2, f3, f4⟩ := hf
      have HG := hide hG
      have HX := hide hx
      have HB := hide hb
      obtain ⟨d0, d1, d2, d3, d4, d5, d6, d7⟩ := nv_cells hx
      clear hG hx hb HX2 HB2
      simp only
      by_cases hlt : j < m
      · have hjk : j < ks.length := by have := HM.out; omega
        have hB0 : Below w0.heap.size w0 w3 := HW0.out.trans (HB.out.mono HW0.out.size)
        obtain ⟨c0, c1, c2, c3, c4, c5, c6, c7⟩ := (HCL.out j hjk).below hB0
        have HC := hide (HIH.out j hjk w3 hB0)
        have hdr := factL_drop hjk
        have hko := HOK.out j hjk
        obtain ⟨kf, hkf⟩ : ∃ kf, kf = factT ks[j] := ⟨_, rfl⟩
        rw [← hkf] at HC hdr hko
        have HKO2 := hide hko
        obtain ⟨yl, ym, yp⟩ := kf
        unfold okF at hko
        simp only at hko
        obtain ⟨g1, g2, g3, g4⟩ := hko
        have HN : Hid (G = ((factL ks).drop (j + 1)).foldl orF (orF ⟨fl, fm, fp⟩ ⟨yl, ym, yp⟩)) := by show _ = _; rw [HG.out, hdr]; rfl
        have HNO := hide (orF_ok HFK.out HKO2.out)
        have e1 : (j : Int) < (n.kl : Int) := by have := HKL.out; omega
        have e2 : (0 : Int) ≤ (j : Int) := by omega
        have e3 : IntKind.i64.wrap ((j : Int) + 1) = (j : Int) + 1 := by rw [IntKind.wrap_i64]; omega
        rw [HXx.out] at d2
        clear hB0 hdr hkf
        simp only [wdV] at HC
        go_wp2_with fail
        refine HC.out.mono ?_
        rintro e w4 ⟨rfl, hb4⟩
        have HB4 := hide (HB.out.trans (hb4.mono HB.out.size))
        have HX4 := hide (show w4.heap[w.heap.size]? = some (nvO n) by rw [hb4.block _ (lt_of_block HX.out)]; exact HX.out)
        clear hb4 HC c0 c1 c2 c3 c4 c5 c6 c7 d0 d1 d2 d3 d4 d5 d6 d7
        have key : Hid (orF ⟨fl, fm, fp⟩ ⟨yl, ym, yp⟩ = ⟨if fl < yl then fl else yl, if fm < 0 ∨ ym < 0 then -1 else if fm < ym then ym else fm, fp && yp⟩) := rfl
        by_cases n1 : fm < 0
        · by_cases n3 : fl ≤ yl
          · have key2 : Hid ((orF ⟨fl, fm, fp⟩ ⟨yl, ym, yp⟩).least = fl ∧ (orF ⟨fl, fm, fp⟩ ⟨yl, ym, yp⟩).most = -1) := by show _ ∧ _; rw [key.out]; simp only; constructor <;> (repeat' split) <;> omega
            go_wp2
            go_roundw
            case rel => exact ⟨j + 1, orF ⟨fl, fm, fp⟩ ⟨yl, ym, yp⟩, by omega, by omega, by go_num, by rw [key2.out.1], by rw [key2.out.2], HNO.out, HN.out, HX4.out, HB4.out⟩
            case measure => simp [intOf]; omega
          · have key2 : Hid ((orF ⟨fl, fm, fp⟩ ⟨yl, ym, yp⟩).least = yl ∧ (orF ⟨fl, fm, fp⟩ ⟨yl, ym, yp⟩).most = -1) := by show _ ∧ _; rw [key.out]; simp only; constructor <;> (repeat' split) <;> omega
            go_wp2
            go_roundw
            case rel => exact ⟨j + 1, orF ⟨fl, fm, fp⟩ ⟨yl, ym, yp⟩, by omega, by omega, by go_num, by rw [key2.out.1], by rw [key2.out.2], HNO.out, HN.out, HX4.out, HB4.out⟩
            case measure => simp [intOf]; omega
        · by_cases n2 : ym < 0
          · by_cases n3 : fl ≤ yl
            · have key2 : Hid ((orF ⟨fl, fm, fp⟩ ⟨yl, ym, yp⟩).least = fl ∧ (orF ⟨fl, fm, fp⟩ ⟨yl, ym, yp⟩).most = -1) := by show _ ∧ _; rw [key.out]; simp only; constructor <;> (repeat' split) <;> omega
              go_wp2
              go_roundw
              case rel => exact ⟨j + 1, orF ⟨fl, fm, fp⟩ ⟨yl, ym, yp⟩, by omega, by omega, by go_num, by rw [key2.out.1], by rw [key2.out.2], HNO.out, HN.out, HX4.out, HB4.out⟩
              case measure => simp [intOf]; omega
            · have key2 : Hid ((orF ⟨fl, fm, fp⟩ ⟨yl, ym, yp⟩).least = yl ∧ (orF ⟨fl, fm, fp⟩ ⟨yl, ym, yp⟩).most = -1) := by show _ ∧ _; rw [key.out]; simp only; constructor <;> (repeat' split) <;> omega
              go_wp2
              go_roundw
              case rel => exact ⟨j + 1, orF ⟨fl, fm, fp⟩ ⟨yl, ym, yp⟩, by omega, by omega, by go_num, by rw [key2.out.1], by rw [key2.out.2], HNO.out, HN.out, HX4.out, HB4.out⟩
              case measure => simp [intOf]; omega
          · by_cases n3 : fl ≤ yl <;> by_cases n4 : fm < ym
            · have key2 : Hid ((orF ⟨fl, fm, fp⟩ ⟨yl, ym, yp⟩).least = fl ∧ (orF ⟨fl, fm, fp⟩ ⟨yl, ym, yp⟩).most = ym) := by show _ ∧ _; rw [key.out]; simp only; constructor <;> (repeat' split) <;> omega
              go_wp2
              go_roundw
              case rel => exact ⟨j + 1, orF ⟨fl, fm, fp⟩ ⟨yl, ym, yp⟩, by omega, by omega, by go_num, by rw [key2.out.1], by rw [key2.out.2], HNO.out, HN.out, HX4.out, HB4.out⟩
              case measure => simp [intOf]; omega
            · have key2 : Hid ((orF ⟨fl, fm, fp⟩ ⟨yl, ym, yp⟩).least = fl ∧ (orF ⟨fl, fm, fp⟩ ⟨yl, ym, yp⟩).most = fm) := by show _ ∧ _; rw [key.out]; simp only; constructor <;> (repeat' split) <;> omega
              go_wp2
              go_roundw
              case rel => exact ⟨j + 1, orF ⟨fl, fm, fp⟩ ⟨yl, ym, yp⟩, by omega, by omega, by go_num, by rw [key2.out.1], by rw [key2.out.2], HNO.out, HN.out, HX4.out, HB4.out⟩
              case measure => simp [intOf]; omega
            · have key2 : Hid ((orF ⟨fl, fm, fp⟩ ⟨yl, ym, yp⟩).least = yl ∧ (orF ⟨fl, fm, fp⟩ ⟨yl, ym, yp⟩).most = ym) := by show _ ∧ _; rw [key.out]; simp only; constructor <;> (repeat' split) <;> omega
              go_wp2
              go_roundw
              case rel => exact ⟨j + 1, orF ⟨fl, fm, fp⟩ ⟨yl, ym, yp⟩, by omega, by omega, by go_num, by rw [key2.out.1], by rw [key2.out.2], HNO.out, HN.out, HX4.out, HB4.out⟩
              case measure => simp [intOf]; omega
            · have key2 : Hid ((orF ⟨fl, fm, fp⟩ ⟨yl, ym, yp⟩).least = yl ∧ (orF ⟨fl, fm, fp⟩ ⟨yl, ym, yp⟩).most = fm) := by show _ ∧ _; rw [key.out]; simp only; constructor <;> (repeat' split) <;> omega
              go_wp2
              go_roundw
              case rel => exact ⟨j + 1, orF ⟨fl, fm, fp⟩ ⟨yl, ym, yp⟩, by omega, by omega, by go_num, by rw [key2.out.1], by rw [key2.out.2], HNO.out, HN.out, HX4.out, HB4.out⟩
              case measure => simp [intOf]; omega
      · have e1 : ¬ (j : Int) < (n.kl : Int) := by have := HKL.out; have := HM.out; omega
        have hE : Hid (G = ⟨fl, fm, fp⟩) := by show _ = _; rw [HG.out, List.drop_eq_nil_of_le (by rw [factL_len]; have := HM.out; omega)]; rfl
        go_wp2
        go_ret2
        exact ⟨by rw [hE.out]; rfl, HB.out⟩

set_option maxRecDepth 100000 in
set_option maxHeartbeats 8000000 in
theorem wide_repeat {w0 : World} {n m : NV} {x : Addr} (hk12 : n.kind = 12) (hka : n.ka = some x) (hkl : n.kl = 1) (hc0 : NCells w0 x m) (F : FT) (ih : ∀ W : World, Below w0.heap.size w0 W → Calls Try.prog 9 #[nvV m] W fun e w' => e = .returned (wdV F) ∧ Below W.heap.size W w') (hok : okF F) (hl : 0 ≤ n.least ∧ n.least ≤ 100) (hm : -1 ≤ n.most ∧ n.most ≤ 100) (w : World) (hw0 : Below w0.heap.size w0 w) :
    Calls Try.prog 9 #[nvV n] w fun e w' => e = .returned (wdV (repF F n.least n.most)) ∧ Below w.heap.size w w' := by
  have hb1 : Below w.heap.size w (w.alloc (nvO n)) := (Below.refl _ w).alloc (Nat.le_refl _) _
  obtain ⟨w1, hw1⟩ : ∃ w1, w1 = w.alloc (nvO n) := ⟨_, rfl⟩
  have hX1 : w1.heap[w.heap.size]? = some (nvO n) := by rw [hw1]; exact at_new _ _
  rw [← hw1] at hb1
  have hB0 := hw0.trans (hb1.mono hw0.size)
  have HC := hide (ih w1 hB0)
  obtain ⟨c0, c1, c2, c3, c4, c5, c6, c7⟩ := hc0.below hB0
  have HB1 := hide hb1
  have HX1 := hide hX1
  obtain ⟨d0, d1, d2, d3, d4, d5, d6, d7⟩ := nv_cells hX1
  rw [hka, hkl] at d2
  have b2 : (n.kind == 2) = false := by rw [hk12]; rfl
  have b11 : (n.kind == 11) = false := by rw [hk12]; rfl
  have b13 : (n.kind == 13) = false := by rw [hk12]; rfl
  have b18 : (n.kind == 18) = false := by rw [hk12]; rfl
  have b9 : (n.kind == 9) = false := by rw [hk12]; rfl
  have b10 : (n.kind == 10) = false := by rw [hk12]; rfl
  have b12 : (n.kind == 12) = true := by rw [hk12]; rfl
  simp only [nvO] at hw1
  obtain ⟨fl, fm, fp⟩ := F
  unfold okF at hok
  simp only at hok
  obtain ⟨f1, f2, f3, f4⟩ := hok
  have hms := mul_small f1 f2 hl.1 hl.2
  have hmw : IntKind.i64.wrap (fl * n.least) = fl * n.least := by rw [IntKind.wrap_i64]; omega
  obtain ⟨G, hG⟩ : ∃ G, G = repF ⟨fl, fm, fp⟩ n.least n.most := ⟨_, rfl⟩
  have HG : Hid (G = ⟨leastF (fl * n.least), timM fm n.most, fp⟩) := hG
  rw [← hG]
  clear ih hw0 hb1 hX1 hB0 hc0 hG hms hka hkl hk12
  simp only [wdV] at HC
  go_enter Try.func9, Try.ntmps9
  go_upto_region 1 with fail
  rw [← hw1]
  clear hw1
  go_wp2_with fail
  refine HC.out.mono ?_
  rintro e w2 ⟨rfl, hb2⟩
  have HB2 := hide (HB1.out.trans (hb2.mono HB1.out.size))
  have HX2 := hide (show w2.heap[w.heap.size]? = some (nvO n) by rw [hb2.block _ (lt_of_block HX1.out)]; exact HX1.out)
  clear hb2 HC HB1 HX1 c0 c1 c2 c3 c4 c5 c6 c7 d0 d1 d2 d3 d4 d5 d6 d7
  obtain ⟨d0, d1, d2, d3, d4, d5, d6, d7⟩ := nv_cells HX2.out
  clear d1 d2 d3 d6 d7
  by_cases z1 : fm = 0
  · have hE : Hid (timM fm n.most = mostF 0) := by show _ = _; unfold timM mostF; rw [if_pos (Or.inl z1)]; rfl
    have y1 : (fm == 0) = true := by simpa using z1
    clear z1
    go_wp2_with fail
    refine (cap_any _ _ _).mono ?_
    rintro e w4 ⟨rfl, hh⟩
    subst hh
    go_wp2
    go_ret2
    exact ⟨by rw [HG.out, hE.out]; rfl, HB2.out⟩
  · have y1 : (fm == 0) = false := by simpa using z1
    by_cases z2 : n.most = 0
    · have hE : Hid (timM fm n.most = mostF 0) := by show _ = _; unfold timM mostF; rw [if_pos (Or.inr z2)]; rfl
      have y2 : (n.most == 0) = true := by simpa using z2
      clear z1 z2
      go_wp2_with fail
      refine (cap_any _ _ _).mono ?_
      rintro e w4 ⟨rfl, hh⟩
      subst hh
      go_wp2
      go_ret2
      exact ⟨by rw [HG.out, hE.out]; rfl, HB2.out⟩
    · have y2 : (n.most == 0) = false := by simpa using z2
      by_cases z3 : fm < 0
      · have hE : Hid (timM fm n.most = mostF (-1)) := by show _ = _; unfold timM mostF; rw [if_neg (by omega), if_pos (Or.inl z3)]; rfl
        clear z1 z2
        go_wp2_with fail
        refine (cap_any _ _ _).mono ?_
        rintro e w4 ⟨rfl, hh⟩
        subst hh
        go_wp2
        go_ret2
        exact ⟨by rw [HG.out, hE.out]; rfl, HB2.out⟩
      · by_cases z4 : n.most < 0
        · have hE : Hid (timM fm n.most = mostF (-1)) := by show _ = _; unfold timM mostF; rw [if_neg (by omega), if_pos (Or.inr z4)]; rfl
          clear z1 z2
          go_wp2_with fail
          refine (cap_any _ _ _).mono ?_
          rintro e w4 ⟨rfl, hh⟩
          subst hh
          go_wp2
          go_ret2
          exact ⟨by rw [HG.out, hE.out]; rfl, HB2.out⟩
        · have hE : Hid (timM fm n.most = mostF (fm * n.most)) := by show _ = _; unfold timM; rw [if_neg (by omega), if_neg (by omega)]
          have hms2 := mul_small (show 0 ≤ fm by omega) f4 (show 0 ≤ n.most by omega) hm.2
          have hmw2 : IntKind.i64.wrap (fm * n.most) = fm * n.most := by rw [IntKind.wrap_i64]; omega
          clear z1 z2 hms2
          go_wp2_with fail
          refine (cap_any _ _ _).mono ?_
          rintro e w4 ⟨rfl, hh⟩
          subst hh
          go_wp2
          go_ret2
          exact ⟨by rw [HG.out, hE.out]; rfl, HB2.out⟩

end Go.Proofs.Ytdipfaahlofmgaa
