/- FactsFirst: the walk. -/
import Derived.Test.YtdipfaahlofmgaaQalone
import Derived.Test.YtdipfaahlofmgaaQwide3
import Derived.Test.YtdipfaahlofmgaaNbeg
import Derived.Test.YtdipfaahlofmgaaQfall
import Derived.Test.YtdipfaahlofmgaaSFall
import Derived.Deep.RegionWith

namespace Go.Proofs.Ytdipfaahlofmgaa
open Go.RowKit
set_option linter.unusedVariables false

/-- what First answers. -/
def FstE (t : Tr) (w : World) (e : Ending) (w' : World) : Prop :=
  (aloneE t ≠ 0 ∧ e = .returned (.tuple #[.slice none 0 0, .bool false, .int .i64 (aloneE t)]) ∧ Below w.heap.size w w') ∨
  (aloneE t = 0 ∧ ∃ a c L, e = .returned (.tuple #[.slice a (List.length L) c, .bool (decide ((factT t).least = 0)), .int .i64 0]) ∧ Reads w' (.slice a (List.length L) c) L ∧ checkE L = 0 ∧ (((factT t).most = 0 → L = []) ∧ (t.kind = 2 → L = t.set)) ∧ Below w.heap.size w w')
set_option maxRecDepth 100000 in
set_option maxHeartbeats 4000000 in
theorem first_any (n : NV) (t : Tr) (w : World) (h : NodeC w n t) : Calls Try.prog 14 #[nvV n] w (FstE t w) := by
  have hb1 : Below w.heap.size w (w.alloc (nvO n)) := (Below.refl _ w).alloc (Nat.le_refl _) _
  obtain ⟨w1, hw1⟩ : ∃ w1, w1 = w.alloc (nvO n) := ⟨_, rfl⟩
  have hX1 : w1.heap[w.heap.size]? = some (nvO n) := by rw [hw1]; exact at_new _ _
  rw [← hw1] at hb1
  have HB1 := hide hb1
  have HX1 := hide hX1
  have HC := hide (checkTree_any n t w1 (h.keep hb1))
  have HF := hide (fun hz W (hW : Below w.heap.size w W) => firstOf_any h (alone_good hz) W hW)
  have HM := hide (fun hz W (hW : Below w.heap.size w W) => mayNone_any h (alone_good hz) W hW)
  obtain ⟨d0, d1, d2, d3, d4, d5, d6, d7⟩ := nv_cells hX1
  simp only [nvO] at hw1
  have HE1 : Hid (∀ w', aloneE t ≠ 0 → Below w.heap.size w w' → FstE t w (.returned (.tuple #[.slice none 0 0, .bool false, .int .i64 (aloneE t)])) w') := fun w' h1 h2 => .inl ⟨h1, rfl, h2⟩
  have HE2 : Hid (∀ w' a c L, aloneE t = 0 → Reads w' (.slice a (List.length L) c) L → checkE L = 0 → (((factT t).most = 0 → L = []) ∧ (t.kind = 2 → L = t.set)) → Below w.heap.size w w' → FstE t w (.returned (.tuple #[.slice a (List.length L) c, .bool (decide ((factT t).least = 0)), .int .i64 0])) w') := fun w' a c L h0 h1 h2 h3 h4 => .inr ⟨h0, a, c, L, rfl, h1, h2, h3, h4⟩
  obtain ⟨b, hb⟩ : ∃ b, b = decide ((factT t).least = 0) := ⟨_, rfl⟩
  rw [← hb] at HM HE2
  obtain ⟨z, hz⟩ : ∃ z, z = aloneE t := ⟨_, rfl⟩
  rw [← hz] at HC HF HM HE1 HE2
  clear h hb1 hX1 hb hz
  by_cases hz0 : z = 0
  · subst hz0
    have HF2 := hide (HF.out rfl)
    have HM2 := hide (HM.out rfl)
    have HE3 := hide (fun w' a c L => HE2.out w' a c L rfl)
    clear HF HM HE1 HE2
    go_enter Try.func14, Try.ntmps14
    go_wp2_with fail
    rw [← hw1]
    clear hw1
    refine HC.out.mono ?_
    rintro e w2 ⟨rfl, hb2⟩
    have HB2 := hide (HB1.out.trans (hb2.mono HB1.out.size))
    have HX2 := hide (show w2.heap[w.heap.size]? = some (nvO n) by rw [hb2.block _ (lt_of_block HX1.out)]; exact HX1.out)
    obtain ⟨b0, b1, b2, b3, b4, b5, b6, b7⟩ := nv_cells HX2.out
    clear hb2 HC HB1 HX1 d0 d1 d2 d3 d4 d5 d6 d7
    have HB2d : Hid (Below w.heap.size w w2.drew) := HB2.out.trans ⟨rfl, rfl, rfl, Nat.le_refl _, fun _ _ => rfl⟩
    have HFq := hide (HF2.out w2.drew HB2d.out)
    clear HF2
    go_wp2_with fail
    go_region_with (first
      | (go_at_call 27; refine HFq.out.mono ?_; rintro e w3 ⟨v3, L3, rfl, hr3, hc3, hn3, hb3⟩; obtain ⟨oa, oc, hv3⟩ := reads_shape hr3; rw [hv3] at hr3 ⊢; have HR3 := hide hr3; have HC3 := hide hc3; have HN3 := hide hn3; have HB3 := hide (HB2d.out.trans (hb3.mono HB2d.out.size)); have HX3 := hide (show w3.heap[w.heap.size]? = some (nvO n) from (by rw [hb3.block _ (lt_of_block HX2.out)]; exact HX2.out)); obtain ⟨e0, e1, e2, e3, e4, e5, e6, e7⟩ := nv_cells HX3.out; clear hb3 hr3 hc3 hn3 hv3)
      | (go_at_call 28; refine (HM2.out _ HB3.out).mono ?_; rintro e w4 ⟨rfl, hb4⟩; have HB4 := hide (HB3.out.trans (hb4.mono HB3.out.size)); have HR4 := hide (HR3.out.below hb4); clear hb4))
    all_goals (go_wp2; go_ret3; exact HE3.out _ _ _ L3 HR4.out HC3.out HN3.out HB4.out)
  · have HE3 := hide (fun w' => HE1.out w' hz0)
    have bz : (z == 0) = false := by simpa using hz0
    have bz2 : (z != 0) = true := by simpa using hz0
    clear HF HM HE1 HE2 hz0
    go_enter Try.func14, Try.ntmps14
    go_wp2_with fail
    rw [← hw1]
    clear hw1
    refine HC.out.mono ?_
    rintro e w2 ⟨rfl, hb2⟩
    have HB2 := hide (HB1.out.trans (hb2.mono HB1.out.size))
    clear hb2 HC HB1 HX1 d0 d1 d2 d3 d4 d5 d6 d7
    go_wp2
    go_ret3
    exact HE3.out _ HB2.out

end Go.Proofs.Ytdipfaahlofmgaa

namespace Go.Proofs.Ytdipfaahlofmgaa
open Go.RowKit
set_option linter.unusedVariables false

set_option maxRecDepth 100000 in
set_option maxHeartbeats 8000000 in
theorem factsFirst_walk (n : NV) (t : Tr) (w : World) (h : NodeC w n t) (hsm : smT t) : Calls Try.prog 5 #[nvV n] w fun e w' => e = .returned (.bool true) ∧ Below w.heap.size w w' := by
  have hb1 : Below w.heap.size w (w.alloc (nvO n)) := (Below.refl _ w).alloc (Nat.le_refl _) _
  obtain ⟨w1, hw1⟩ : ∃ w1, w1 = w.alloc (nvO n) := ⟨_, rfl⟩
  have hX1 : w1.heap[w.heap.size]? = some (nvO n) := by rw [hw1]; exact at_new _ _
  rw [← hw1] at hb1
  have HB1 := hide hb1
  have HX1 := hide hX1
  have HO := hide (first_any n t w1 (h.keep hb1))
  have HA := hide (fun W (hW : Below w.heap.size w W) => aloneOf_any h hsm W hW)
  have HWd := hide (fun hz W (hW : Below w.heap.size w W) => wide_any h (alone_good hz) W hW)
  have HSet : Hid (∀ W, Below w.heap.size w W → Reads W (.slice n.sa n.sl n.sc) t.set) := fun W hW => h.open.2.2.2.2.2.2.1.below hW
  have hkd : t.kind = n.kind := h.open.1
  have HKd := hide hkd
  obtain ⟨d0, d1, d2, d3, d4, d5, d6, d7⟩ := nv_cells hX1
  simp only [nvO] at hw1
  clear h hsm hb1 hX1 hkd
  go_enter Try.func5, Try.ntmps5
  go_wp2_with fail
  rw [← hw1]
  clear hw1
  refine HO.out.mono ?_
  rintro e w2 (⟨hz, rfl, hb2⟩ | ⟨hz, a, c, L, rfl, hr, hc, hn, hb2⟩)
  · have HB2 := hide (HB1.out.trans (hb2.mono HB1.out.size))
    have HX2 := hide (show w2.heap[w.heap.size]? = some (nvO n) by rw [hb2.block _ (lt_of_block HX1.out)]; exact HX1.out)
    clear hb2 HO HB1 HX1 d0 d1 d2 d3 d4 d5 d6 d7
    obtain ⟨d0, d1, d2, d3, d4, d5, d6, d7⟩ := nv_cells HX2.out
    have HAA := hide (HA.out w2 HB2.out)
    obtain ⟨z, hzz⟩ : ∃ z, z = aloneE t := ⟨_, rfl⟩
    rw [← hzz] at HAA hz ⊢
    have bz : (z == 0) = false := by simpa using hz
    have bz2 : (z != 0) = true := by simpa using hz
    have bz3 : (z == z) = true := by simp
    have bz4 : (z != z) = false := by simp
    clear hz hzz HA HWd
    go_wp2_with fail
    refine HAA.out.mono ?_
    rintro e w3 ⟨rfl, hb3⟩
    have HB3 := hide (HB2.out.trans (hb3.mono HB2.out.size))
    clear hb3 HAA d0 d1 d2 d3 d4 d5 d6 d7
    go_wp2_with fail
    refine (factsBegun_any w3).mono ?_
    rintro e w4 ⟨rfl, hb4⟩
    have HB4 := hide (HB3.out.trans (hb4.mono HB3.out.size))
    clear hb4
    go_wp2_with fail
    refine (factsBegun_any w4).mono ?_
    rintro e w5 ⟨rfl, hb5⟩
    have HB5 := hide (HB4.out.trans (hb5.mono HB4.out.size))
    clear hb5
    go_wp2
    go_ret
    exact ⟨by simp, HB5.out⟩
  · have HB2 := hide (HB1.out.trans (hb2.mono HB1.out.size))
    have HX2 := hide (show w2.heap[w.heap.size]? = some (nvO n) by rw [hb2.block _ (lt_of_block HX1.out)]; exact HX1.out)
    clear hb2 HO HB1 HX1 d0 d1 d2 d3 d4 d5 d6 d7
    obtain ⟨d0, d1, d2, d3, d4, d5, d6, d7⟩ := nv_cells HX2.out
    have HAA := hide (HA.out w2 HB2.out)
    rw [hz] at HAA
    have HWW := hide (HWd.out hz)
    have HR := hide hr
    have HC := hide hc
    have hL0 : (factT t).most = 0 → L.length = 0 := fun hh => by rw [hn.1 hh]; rfl
    have hLs : n.kind = 2 → L = t.set := fun hh => hn.2 (by rw [HKd.out]; exact hh)
    have HL0 := hide hL0
    have HLs := hide hLs
    have hlen := (checkE_ok.1 hc).1
    obtain ⟨F, hF⟩ : ∃ F, F = factT t := ⟨_, rfl⟩
    rw [← hF] at HWW HL0 ⊢
    obtain ⟨fl, fm, fp⟩ := F
    simp only [wdV] at HWW
    obtain ⟨ll, hll⟩ : ∃ ll, ll = L.length := ⟨_, rfl⟩
    have HLL := hide hll
    rw [← hll] at HR HL0 ⊢
    clear hz HA HWd hr hc hn hL0 hLs hF hll
    simp only
    go_wp2_with fail
    refine HAA.out.mono ?_
    rintro e w3 ⟨rfl, hb3⟩
    have HB3 := hide (HB2.out.trans (hb3.mono HB2.out.size))
    have HX3 := hide (show w3.heap[w.heap.size]? = some (nvO n) by rw [hb3.block _ (lt_of_block HX2.out)]; exact HX2.out)
    have HR3 := hide (HR.out.below hb3)
    clear hb3 HAA d0 d1 d2 d3 d4 d5 d6 d7 HB2 HX2 HR
    go_wp2_with fail
    refine (factsBegun_any w3).mono ?_
    rintro e w4 ⟨rfl, hb4⟩
    have HB4 := hide (HB3.out.trans (hb4.mono HB3.out.size))
    have HX4 := hide (show w4.heap[w.heap.size]? = some (nvO n) by rw [hb4.block _ (lt_of_block HX3.out)]; exact HX3.out)
    have HR4 := hide (HR3.out.below hb4)
    clear hb4 HB3 HX3 HR3
    obtain ⟨d0, d1, d2, d3, d4, d5, d6, d7⟩ := nv_cells HX4.out
    go_wp2_with fail
    refine (HWW.out w4 HB4.out).mono ?_
    rintro e w5 ⟨rfl, hb5⟩
    have HB5 := hide (HB4.out.trans (hb5.mono HB4.out.size))
    have HX5 := hide (show w5.heap[w.heap.size]? = some (nvO n) by rw [hb5.block _ (lt_of_block HX4.out)]; exact HX4.out)
    have HR5 := hide (HR4.out.below hb5)
    clear hb5 HB4 HX4 HR4 HWW d0 d1 d2 d3 d4 d5 d6 d7
    have HCS := hide (checkSet_any _ L w5 HR5.out)
    rw [HC.out] at HCS
    go_wp2_with fail
    refine HCS.out.mono ?_
    rintro e w6 ⟨rfl, hb6⟩
    have HB6 := hide (HB5.out.trans (hb6.mono HB5.out.size))
    have HX6 := hide (show w6.heap[w.heap.size]? = some (nvO n) by rw [hb6.block _ (lt_of_block HX5.out)]; exact HX5.out)
    have HR6 := hide (HR5.out.below hb6)
    clear hb6 HB5 HX5 HR5 HCS
    obtain ⟨d0, d1, d2, d3, d4, d5, d6, d7⟩ := nv_cells HX6.out
    clear d2 d3 d4 d5 d6 d7
    have hl0 : fm = 0 → ((ll : Int) == 0) = true := fun hh => by have := HL0.out hh; simp; omega
    by_cases h2 : n.kind = 2
    · have hSl := HLs.out h2
      have hsr := HSet.out w6 HB6.out
      rw [← hSl] at hsr
      have HSS := hide (SS.same_yes _ _ L w6 HR6.out hsr (by omega))
      have y2 : (n.kind == 2) = true := by simpa using h2
      have y2' : (n.kind != 2) = false := by simpa using h2
      clear h2 hSl hsr
      go_wp2_with fail
      refine HSS.out.mono ?_
      rintro e w7 ⟨rfl, hb7⟩
      have HB7 := hide (HB6.out.trans (hb7.mono HB6.out.size))
      clear hb7 HSS d0 d1
      by_cases hf : fm = 0
      · have hll := hl0 hf
        have yf : (fm == 0) = true := by simpa using hf
        have yf' : (fm != 0) = false := by simpa using hf
        clear hf hl0
        go_wp2
        go_ret
        exact ⟨by simp, HB7.out⟩
      · have yf : (fm == 0) = false := by simpa using hf
        have yf' : (fm != 0) = true := by simpa using hf
        clear hf hl0
        go_wp2
        go_ret
        exact ⟨by simp, HB7.out⟩
    · have y2 : (n.kind == 2) = false := by simpa using h2
      have y2' : (n.kind != 2) = true := by simpa using h2
      clear h2
      by_cases hf : fm = 0
      · have hll := hl0 hf
        have yf : (fm == 0) = true := by simpa using hf
        have yf' : (fm != 0) = false := by simpa using hf
        clear hf hl0
        go_wp2
        go_ret
        exact ⟨by simp, HB6.out⟩
      · have yf : (fm == 0) = false := by simpa using hf
        have yf' : (fm != 0) = true := by simpa using hf
        clear hf hl0
        go_wp2
        go_ret
        exact ⟨by simp, HB6.out⟩

end Go.Proofs.Ytdipfaahlofmgaa
