/- What hasWidths answers. -/
import Derived.Test.YtdipfaahlofmgaaNfacts
import Derived.Test.YtdipfaahlofmgaaQpure
import Derived.Test.YtdipfaahlofmgaaMall
import Derived.Test.YtdipfaahlofmgaaMrq
import Derived.Test.YtdipfaahlofmgaaQwide3
import Derived.Test.YtdipfaahlofmgaaNbeg
import Derived.Deep.RegionWith

namespace Go.Proofs.Ytdipfaahlofmgaa
open Go.RowKit
set_option linter.unusedVariables false

/-- the greatest width of a node's first kid. -/
def most0 : List Tr → Int
  | [] => 0
  | t :: _ => (factT t).most
theorem most0_at {ts : List Tr} (h : 0 < ts.length) : most0 ts = (factT ts[0]).most := by
  cases ts with
  | nil => simp at h
  | cons t ts => rfl
/-- may a node look behind so far. -/
def bhB (t : Tr) : Bool := !(decide (t.kind = 16) || decide (t.kind = 17)) || (decide (0 ≤ most0 t.kids) && decide (most0 t.kids ≤ 100))
def bhA (t : Tr) : Bool := (flatT t).all bhB
theorem flatL_all (f : Tr → Bool) : ∀ ts : List Tr, (flatL ts).all f = ts.all (fun t => (flatT t).all f)
  | [] => rfl
  | t :: ts => by rw [flatL, List.all_append, flatL_all f ts]; rfl
theorem bhA_kids (t : Tr) : bhA t = (bhB t && t.kids.all bhA) := by
  unfold bhA
  rw [flatT_kids, List.all_cons, flatL_all]
theorem all_kid {ts : List Tr} (h : ∀ j (hj : j < ts.length), bhA ts[j] = true) : ts.all bhA = true := by
  rw [List.all_eq_true]
  intro x hx
  obtain ⟨j, hj, rfl⟩ := List.getElem_of_mem hx
  exact h j hj
theorem not_kid {ts : List Tr} {j : Nat} (hj : j < ts.length) (h : bhA ts[j] = false) : ts.all bhA = false := by
  rw [List.all_eq_false]
  exact ⟨ts[j], List.getElem_mem _, by simp [h]⟩

set_option maxRecDepth 100000 in
set_option maxHeartbeats 8000000 in
theorem hasWidths_any {w0 : World} {n : NV} {t : Tr} (h : NodeC w0 n t) : good t → ∀ w : World, Below w0.heap.size w0 w → Calls Try.prog 26 #[nvV n] w fun e w' => e = .returned (.bool (bhA t)) ∧ Below w.heap.size w w' := by
  induction h with
  | mk n set ks vs hs hk hkids ih =>
    intro hg w hw0
    have hgn := good_node hg
    have hgk := good_kids hg
    have hkind : (Tr.mk n.kind n.num n.least n.most n.way n.fold set ks).kind = n.kind := rfl
    have hkb := hgn.2.1
    unfold kidsB at hkb
    rw [hkind] at hkb
    have HIH := hide (fun j hj W hW => ih j hj (hgk j hj) W hW)
    have HFa := hide (fun j (hj : j < ks.length) W hW => facts_any (hkids j hj) (hgk j hj) W hW)
    have HK := hide hk
    have HKL := hide hk.len
    have hb1 : Below w.heap.size w (w.alloc (nvO n)) := (Below.refl _ w).alloc (Nat.le_refl _) _
    obtain ⟨w1, hw1⟩ : ∃ w1, w1 = w.alloc (nvO n) := ⟨_, rfl⟩
    have hX1 : w1.heap[w.heap.size]? = some (nvO n) := by rw [hw1]; exact at_new _ _
    rw [← hw1] at hb1
    have HB1' := hide (hw0.trans (hb1.mono hw0.size))
    have HB1 := hide hb1
    have HX1 := hide hX1
    have HW0 := hide hw0
    obtain ⟨d0, d1, d2, d3, d4, d5, d6, d7⟩ := nv_cells hX1
    obtain ⟨R, hR⟩ : ∃ R, R = bhA (.mk n.kind n.num n.least n.most n.way n.fold set ks) := ⟨_, rfl⟩
    have HRb : Hid (R = (bhB (.mk n.kind n.num n.least n.most n.way n.fold set ks) && ks.all bhA)) := by show _ = _; rw [hR, bhA_kids]; rfl
    have HBb : Hid (bhB (.mk n.kind n.num n.least n.most n.way n.fold set ks) = (!(decide (n.kind = 16) || decide (n.kind = 17)) || (decide (0 ≤ most0 ks) && decide (most0 ks ≤ 100)))) := rfl
    rw [← hR]
    simp only [nvO] at hw1
    clear hs hk hkids ih hg hgn hgk hkind hb1 hX1 hw0 hR
    by_cases h16 : n.kind = 16
    · have hl1 : ks.length = 1 := by
        rw [if_neg (by omega), if_neg (by omega), if_pos (by omega)] at hkb
        exact of_decide_eq_true hkb
      have b16 : (n.kind == 16) = true := by simpa using h16
      have hkd : (decide (n.kind = 16) || decide (n.kind = 17)) = true := by simp [h16]
      rcases HK.out with ⟨_, _, _, h00⟩ | ⟨x, hx, hkk, hmx, hcl⟩
      · exact absurd h00 (by omega)
      · have hcx : NCells w0 x (vs 0) := by have := hcl 0 (by omega); simpa [add_zero'] using this
        have HC := hide (HFa.out 0 (by omega) w1 HB1'.out)
        obtain ⟨c0, c1, c2, c3, c4, c5, c6, c7⟩ := hcx.below HB1'.out
        obtain ⟨FF, hFF⟩ : ∃ FF, FF = factT (ks[0]'(by omega)) := ⟨_, rfl⟩
        have HM0 : Hid (most0 ks = FF.most) := by show _ = _; rw [hFF, most0_at (by omega)]
        rw [← hFF] at HC
        obtain ⟨kl, hkl⟩ : ∃ kl, kl = n.kl := ⟨_, rfl⟩
        have hkl1 : kl = 1 := by omega
        rw [hx, ← hkl, hkl1] at d2
        have HBv : Hid (bhB (.mk n.kind n.num n.least n.most n.way n.fold set ks) = (decide (0 ≤ FF.most) && decide (FF.most ≤ 100))) := by show _ = _; rw [HBb.out, hkd, HM0.out]; rfl
        clear hcl hFF hx hkk hmx hcx hkl hkl1 hkd HM0 HBb hkb h16 hl1
        obtain ⟨fl, fm, fp⟩ := FF
        simp only [ftV] at HC HBv
        go_enter Try.func26, Try.ntmps26
        go_upto_region 1 with fail
        rw [← hw1]
        clear hw1
        go_wp2_with fail
        refine HC.out.mono ?_
        rintro e w2 ⟨rfl, hb2⟩
        have HB2 := hide (HB1.out.trans (hb2.mono HB1.out.size))
        have HX2 := hide (show w2.heap[w.heap.size]? = some (nvO n) by rw [hb2.block _ (lt_of_block HX1.out)]; exact HX1.out)
        clear hb2 c0 c1 c2 c3 c4 c5 c6 c7 d0 d1 d2 d3 d4 d5 d6 d7 HC
        have hfd : ∀ W : World, (Instr.field 27 (.agg #[.int .i64 fl, .int .i64 fm, .bool fp]) 1).run Try.prog W = .ok (.int .i64 fm) W := fun W => by rfl
        by_cases hm0 : fm < 0
        · have HE : Hid (R = false) := by show _ = _; rw [HRb.out, HBv.out, show decide (0 ≤ fm) = false from decide_eq_false (by omega)]; rfl
          go_wp2
          go_ret
          exact ⟨by rw [HE.out]; rfl, HB2.out⟩
        · by_cases hm1 : 100 < fm
          · have HE : Hid (R = false) := by show _ = _; rw [HRb.out, HBv.out, show decide (fm ≤ 100) = false from decide_eq_false (by omega)]; simp
            go_wp2
            go_ret
            exact ⟨by rw [HE.out]; rfl, HB2.out⟩
          · have HRk : Hid (R = ks.all bhA) := by show _ = _; rw [HRb.out, HBv.out, show decide (fm ≤ 100) = true from decide_eq_true (by omega), show decide (0 ≤ fm) = true from decide_eq_true (by omega)]; rfl
            clear HRb HBv
            have HNot : Hid (∀ j (hj : j < ks.length), bhA ks[j] = false → R = false) := fun j hj hh => by rw [HRk.out]; exact not_kid hj hh
            have HAllk : Hid ((∀ j (hj : j < ks.length), bhA ks[j] = true) → R = true) := fun hh => by rw [HRk.out]; exact all_kid hh
            clear HRk
            obtain ⟨d0, d1, d2, d3, d4, d5, d6, d7⟩ := nv_cells HX2.out
            go_wp2
            go_loopw [29] (fun v wr => ∃ (j : Nat), j ≤ ks.length ∧ v = .int .i64 j ∧ (∀ i (hi : i < ks.length), i < j → bhA ks[i] = true) ∧ Below w.heap.size w wr) (fun v _ => ks.length - (intOf v).toNat)
            case atStart => exact ⟨0, Nat.zero_le _, rfl, fun i hi h0 => by omega, HB2.out⟩
            case round =>
              obtain ⟨j, hj, rfl, hA, hb⟩ := hrel
              obtain ⟨w5, hw5⟩ : ∃ w5, w5 = wr := ⟨_, rfl⟩
              subst hw5
              have HA := hide hA
              have HB5 := hide hb
              clear hA hb d0 d1 d2 d3 d4 d5 d6 d7
              by_cases hlt : j < ks.length
              · have e2 : (j : Int) < (n.kl : Int) := by have := HKL.out; omega
                have e4 : (0 : Int) ≤ (j : Int) := by omega
                rcases HK.out with ⟨_, _, _, h0⟩ | ⟨x, hx, hkk, hmx, hcl⟩
                · exact absurd h0 (by omega)
                · obtain ⟨d0, d1, d2, d3, d4, d5, d6, d7⟩ := (hcl j hlt).below (HW0.out.trans (HB5.out.mono HW0.out.size))
                  have hB6 : Below w.heap.size w (w5.alloc (nvO (vs j))) := HB5.out.alloc HB5.out.size _
                  have HC := hide (HIH.out j hlt (w5.alloc (nvO (vs j))) (HW0.out.trans (hB6.mono HW0.out.size)))
                  obtain ⟨w6, hw6⟩ : ∃ w6, w6 = w5.alloc (nvO (vs j)) := ⟨_, rfl⟩
                  have hbx : w6.heap[w5.heap.size]? = some (nvO (vs j)) := by rw [hw6]; exact at_new _ _
                  rw [← hw6] at HC hB6
                  have HB6 := hide hB6
                  obtain ⟨b0, b1, b2, b3, b4, b5, b6, b7⟩ := nv_cells hbx
                  simp only [nvO] at hw6
                  obtain ⟨z, hz⟩ : ∃ z, z = bhA ks[j] := ⟨_, rfl⟩
                  have HZ : Hid (bhA ks[j] = z) := hz.symm
                  rw [← hz] at HC
                  have hjw : IntKind.i64.wrap ((j : Int) + 1) = (j : Int) + 1 := by rw [IntKind.wrap_i64]; omega
                  rw [hx]
                  clear hcl hx hB6 hbx hz hkk
                  go_wp2_with fail
                  rw [← hw6]
                  clear hw6
                  refine HC.out.mono ?_
                  rintro e w7 ⟨rfl, hb7⟩
                  have HB7 := hide (HB6.out.trans (hb7.mono HB6.out.size))
                  clear hb7 HC HB5 HB6 d0 d1 d2 d3 d4 d5 d6 d7 b0 b1 b2 b3 b4 b5 b6 b7
                  cases z with
                  | true =>
                    go_wp2
                    go_roundw
                    case rel => exact ⟨j + 1, by omega, by go_num, fun i hi h0 => by
                      by_cases hij : i = j
                      · subst hij; exact HZ.out
                      · exact HA.out i hi (by omega), HB7.out⟩
                    case measure => simp [intOf]; omega
                  | false =>
                    have HE : Hid (R = false) := HNot.out j hlt HZ.out
                    go_wp2
                    go_ret
                    exact ⟨by rw [HE.out]; rfl, HB7.out⟩
              · have e2 : ¬ (j : Int) < (n.kl : Int) := by have := HKL.out; omega
                have HE : Hid (R = true) := HAllk.out (fun i hi => HA.out i hi (by omega))
                go_wp2
                go_ret
                exact ⟨by rw [HE.out]; rfl, HB5.out⟩
    · by_cases h17 : n.kind = 17
      · have hl1 : ks.length = 1 := by
          rw [if_neg (by omega), if_neg (by omega), if_pos (by omega)] at hkb
          exact of_decide_eq_true hkb
        have b16 : (n.kind == 16) = false := by simpa using h16
        have b17 : (n.kind == 17) = true := by simpa using h17
        have hkd : (decide (n.kind = 16) || decide (n.kind = 17)) = true := by simp [h17]
        rcases HK.out with ⟨_, _, _, h00⟩ | ⟨x, hx, hkk, hmx, hcl⟩
        · exact absurd h00 (by omega)
        · have hcx : NCells w0 x (vs 0) := by have := hcl 0 (by omega); simpa [add_zero'] using this
          have HC := hide (HFa.out 0 (by omega) w1 HB1'.out)
          obtain ⟨c0, c1, c2, c3, c4, c5, c6, c7⟩ := hcx.below HB1'.out
          obtain ⟨FF, hFF⟩ : ∃ FF, FF = factT (ks[0]'(by omega)) := ⟨_, rfl⟩
          have HM0 : Hid (most0 ks = FF.most) := by show _ = _; rw [hFF, most0_at (by omega)]
          rw [← hFF] at HC
          obtain ⟨kl, hkl⟩ : ∃ kl, kl = n.kl := ⟨_, rfl⟩
          have hkl1 : kl = 1 := by omega
          rw [hx, ← hkl, hkl1] at d2
          have HBv : Hid (bhB (.mk n.kind n.num n.least n.most n.way n.fold set ks) = (decide (0 ≤ FF.most) && decide (FF.most ≤ 100))) := by show _ = _; rw [HBb.out, hkd, HM0.out]; rfl
          clear hcl hFF hx hkk hmx hcx hkl hkl1 hkd HM0 HBb hkb h17 hl1
          obtain ⟨fl, fm, fp⟩ := FF
          simp only [ftV] at HC HBv
          go_enter Try.func26, Try.ntmps26
          go_upto_region 1 with fail
          rw [← hw1]
          clear hw1
          go_wp2_with fail
          refine HC.out.mono ?_
          rintro e w2 ⟨rfl, hb2⟩
          have HB2 := hide (HB1.out.trans (hb2.mono HB1.out.size))
          have HX2 := hide (show w2.heap[w.heap.size]? = some (nvO n) by rw [hb2.block _ (lt_of_block HX1.out)]; exact HX1.out)
          clear hb2 c0 c1 c2 c3 c4 c5 c6 c7 d0 d1 d2 d3 d4 d5 d6 d7 HC
          have hfd : ∀ W : World, (Instr.field 27 (.agg #[.int .i64 fl, .int .i64 fm, .bool fp]) 1).run Try.prog W = .ok (.int .i64 fm) W := fun W => by rfl
          by_cases hm0 : fm < 0
          · have HE : Hid (R = false) := by show _ = _; rw [HRb.out, HBv.out, show decide (0 ≤ fm) = false from decide_eq_false (by omega)]; rfl
            go_wp2
            go_ret
            exact ⟨by rw [HE.out]; rfl, HB2.out⟩
          · by_cases hm1 : 100 < fm
            · have HE : Hid (R = false) := by show _ = _; rw [HRb.out, HBv.out, show decide (fm ≤ 100) = false from decide_eq_false (by omega)]; simp
              go_wp2
              go_ret
              exact ⟨by rw [HE.out]; rfl, HB2.out⟩
            · have HRk : Hid (R = ks.all bhA) := by show _ = _; rw [HRb.out, HBv.out, show decide (fm ≤ 100) = true from decide_eq_true (by omega), show decide (0 ≤ fm) = true from decide_eq_true (by omega)]; rfl
              clear HRb HBv
              have HNot : Hid (∀ j (hj : j < ks.length), bhA ks[j] = false → R = false) := fun j hj hh => by rw [HRk.out]; exact not_kid hj hh
              have HAllk : Hid ((∀ j (hj : j < ks.length), bhA ks[j] = true) → R = true) := fun hh => by rw [HRk.out]; exact all_kid hh
              clear HRk
              obtain ⟨d0, d1, d2, d3, d4, d5, d6, d7⟩ := nv_cells HX2.out
              go_wp2
              go_loopw [29] (fun v wr => ∃ (j : Nat), j ≤ ks.length ∧ v = .int .i64 j ∧ (∀ i (hi : i < ks.length), i < j → bhA ks[i] = true) ∧ Below w.heap.size w wr) (fun v _ => ks.length - (intOf v).toNat)
              case atStart => exact ⟨0, Nat.zero_le _, rfl, fun i hi h0 => by omega, HB2.out⟩
              case round =>
                obtain ⟨j, hj, rfl, hA, hb⟩ := hrel
                obtain ⟨w5, hw5⟩ : ∃ w5, w5 = wr := ⟨_, rfl⟩
                subst hw5
                have HA := hide hA
                have HB5 := hide hb
                clear hA hb d0 d1 d2 d3 d4 d5 d6 d7
                by_cases hlt : j < ks.length
                · have e2 : (j : Int) < (n.kl : Int) := by have := HKL.out; omega
                  have e4 : (0 : Int) ≤ (j : Int) := by omega
                  rcases HK.out with ⟨_, _, _, h0⟩ | ⟨x, hx, hkk, hmx, hcl⟩
                  · exact absurd h0 (by omega)
                  · obtain ⟨d0, d1, d2, d3, d4, d5, d6, d7⟩ := (hcl j hlt).below (HW0.out.trans (HB5.out.mono HW0.out.size))
                    have hB6 : Below w.heap.size w (w5.alloc (nvO (vs j))) := HB5.out.alloc HB5.out.size _
                    have HC := hide (HIH.out j hlt (w5.alloc (nvO (vs j))) (HW0.out.trans (hB6.mono HW0.out.size)))
                    obtain ⟨w6, hw6⟩ : ∃ w6, w6 = w5.alloc (nvO (vs j)) := ⟨_, rfl⟩
                    have hbx : w6.heap[w5.heap.size]? = some (nvO (vs j)) := by rw [hw6]; exact at_new _ _
                    rw [← hw6] at HC hB6
                    have HB6 := hide hB6
                    obtain ⟨b0, b1, b2, b3, b4, b5, b6, b7⟩ := nv_cells hbx
                    simp only [nvO] at hw6
                    obtain ⟨z, hz⟩ : ∃ z, z = bhA ks[j] := ⟨_, rfl⟩
                    have HZ : Hid (bhA ks[j] = z) := hz.symm
                    rw [← hz] at HC
                    have hjw : IntKind.i64.wrap ((j : Int) + 1) = (j : Int) + 1 := by rw [IntKind.wrap_i64]; omega
                    rw [hx]
                    clear hcl hx hB6 hbx hz hkk
                    go_wp2_with fail
                    rw [← hw6]
                    clear hw6
                    refine HC.out.mono ?_
                    rintro e w7 ⟨rfl, hb7⟩
                    have HB7 := hide (HB6.out.trans (hb7.mono HB6.out.size))
                    clear hb7 HC HB5 HB6 d0 d1 d2 d3 d4 d5 d6 d7 b0 b1 b2 b3 b4 b5 b6 b7
                    cases z with
                    | true =>
                      go_wp2
                      go_roundw
                      case rel => exact ⟨j + 1, by omega, by go_num, fun i hi h0 => by
                        by_cases hij : i = j
                        · subst hij; exact HZ.out
                        · exact HA.out i hi (by omega), HB7.out⟩
                      case measure => simp [intOf]; omega
                    | false =>
                      have HE : Hid (R = false) := HNot.out j hlt HZ.out
                      go_wp2
                      go_ret
                      exact ⟨by rw [HE.out]; rfl, HB7.out⟩
                · have e2 : ¬ (j : Int) < (n.kl : Int) := by have := HKL.out; omega
                  have HE : Hid (R = true) := HAllk.out (fun i hi => HA.out i hi (by omega))
                  go_wp2
                  go_ret
                  exact ⟨by rw [HE.out]; rfl, HB5.out⟩
      · have b16 : (n.kind == 16) = false := by simpa using h16
        have b17 : (n.kind == 17) = false := by simpa using h17
        have HRk : Hid (R = ks.all bhA) := by show _ = _; rw [HRb.out, HBb.out, show (decide (n.kind = 16) || decide (n.kind = 17)) = false by simp [h16, h17]]; rfl
        clear HRb HBb h16 h17 hkb d0 d1 d2 d3 d4 d5 d6 d7 HFa
        obtain ⟨d0, d1, d2, d3, d4, d5, d6, d7⟩ := nv_cells HX1.out
        go_enter Try.func26, Try.ntmps26
        go_upto_region 1 with fail
        rw [← hw1]
        clear hw1
        have HNot : Hid (∀ j (hj : j < ks.length), bhA ks[j] = false → R = false) := fun j hj hh => by rw [HRk.out]; exact not_kid hj hh
        have HAllk : Hid ((∀ j (hj : j < ks.length), bhA ks[j] = true) → R = true) := fun hh => by rw [HRk.out]; exact all_kid hh
        clear HRk
        obtain ⟨d0, d1, d2, d3, d4, d5, d6, d7⟩ := nv_cells HX1.out
        go_wp2
        go_loopw [29] (fun v wr => ∃ (j : Nat), j ≤ ks.length ∧ v = .int .i64 j ∧ (∀ i (hi : i < ks.length), i < j → bhA ks[i] = true) ∧ Below w.heap.size w wr) (fun v _ => ks.length - (intOf v).toNat)
        case atStart => exact ⟨0, Nat.zero_le _, rfl, fun i hi h0 => by omega, HB1.out⟩
        case round =>
          obtain ⟨j, hj, rfl, hA, hb⟩ := hrel
          obtain ⟨w5, hw5⟩ : ∃ w5, w5 = wr := ⟨_, rfl⟩
          subst hw5
          have HA := hide hA
          have HB5 := hide hb
          clear hA hb d0 d1 d2 d3 d4 d5 d6 d7
          by_cases hlt : j < ks.length
          · have e2 : (j : Int) < (n.kl : Int) := by have := HKL.out; omega
            have e4 : (0 : Int) ≤ (j : Int) := by omega
            rcases HK.out with ⟨_, _, _, h0⟩ | ⟨x, hx, hkk, hmx, hcl⟩
            · exact absurd h0 (by omega)
            · obtain ⟨d0, d1, d2, d3, d4, d5, d6, d7⟩ := (hcl j hlt).below (HW0.out.trans (HB5.out.mono HW0.out.size))
              have hB6 : Below w.heap.size w (w5.alloc (nvO (vs j))) := HB5.out.alloc HB5.out.size _
              have HC := hide (HIH.out j hlt (w5.alloc (nvO (vs j))) (HW0.out.trans (hB6.mono HW0.out.size)))
              obtain ⟨w6, hw6⟩ : ∃ w6, w6 = w5.alloc (nvO (vs j)) := ⟨_, rfl⟩
              have hbx : w6.heap[w5.heap.size]? = some (nvO (vs j)) := by rw [hw6]; exact at_new _ _
              rw [← hw6] at HC hB6
              have HB6 := hide hB6
              obtain ⟨b0, b1, b2, b3, b4, b5, b6, b7⟩ := nv_cells hbx
              simp only [nvO] at hw6
              obtain ⟨z, hz⟩ : ∃ z, z = bhA ks[j] := ⟨_, rfl⟩
              have HZ : Hid (bhA ks[j] = z) := hz.symm
              rw [← hz] at HC
              have hjw : IntKind.i64.wrap ((j : Int) + 1) = (j : Int) + 1 := by rw [IntKind.wrap_i64]; omega
              rw [hx]
              clear hcl hx hB6 hbx hz hkk
              go_wp2_with fail
              rw [← hw6]
              clear hw6
              refine HC.out.mono ?_
              rintro e w7 ⟨rfl, hb7⟩
              have HB7 := hide (HB6.out.trans (hb7.mono HB6.out.size))
              clear hb7 HC HB5 HB6 d0 d1 d2 d3 d4 d5 d6 d7 b0 b1 b2 b3 b4 b5 b6 b7
              cases z with
              | true =>
                go_wp2
                go_roundw
                case rel => exact ⟨j + 1, by omega, by go_num, fun i hi h0 => by
                  by_cases hij : i = j
                  · subst hij; exact HZ.out
                  · exact HA.out i hi (by omega), HB7.out⟩
                case measure => simp [intOf]; omega
              | false =>
                have HE : Hid (R = false) := HNot.out j hlt HZ.out
                go_wp2
                go_ret
                exact ⟨by rw [HE.out]; rfl, HB7.out⟩
          · have e2 : ¬ (j : Int) < (n.kl : Int) := by have := HKL.out; omega
            have HE : Hid (R = true) := HAllk.out (fun i hi => HA.out i hi (by omega))
            go_wp2
            go_ret
            exact ⟨by rw [HE.out]; rfl, HB5.out⟩

end Go.Proofs.Ytdipfaahlofmgaa

namespace Go.Proofs.Ytdipfaahlofmgaa
open Go.RowKit
set_option linter.unusedVariables false

theorem pat_right {t : Tr} {g : Int} {N : NmL} (h : PatE t g N 0) : cntA t < 1001 ∧ good t := by
  rcases h with ⟨_, h⟩ | ⟨h1, h⟩
  · omega
  · refine ⟨h1, ?_⟩
    have hz : treeE t g = 0 := by
      rcases h with ⟨h2, h3⟩ | ⟨h2, _, h3⟩ | ⟨h2, _⟩
      · exact h3.symm
      · exact h2
      · exact h2
    unfold treeE at hz
    split at hz
    · rename_i z hz2; exact absurd hz (chkT_errz _ _ _ hz2)
    · rename_i s hs; exact ⟨_, _, hs⟩
/-- what is wrong with a pattern, its looks behind among it. -/
def BehE (t : Tr) (g : Int) (N : NmL) (z : Int) : Prop := (PatE t g N z ∧ z ≠ 0) ∨ (PatE t g N 0 ∧ z = if bhA t then 0 else 9)
theorem BehE.one {t : Tr} {g : Int} {N : NmL} {z z' : Int} (h : BehE t g N z) (h' : BehE t g N z') : z = z' := by
  rcases h with ⟨h1, h2⟩ | ⟨h1, h2⟩ <;> rcases h' with ⟨h3, h4⟩ | ⟨h3, h4⟩
  · exact h1.one h3
  · exact absurd (h1.one h3) h2
  · exact absurd (h3.one h1) h4
  · rw [h2, h4]

set_option maxRecDepth 100000 in
set_option maxHeartbeats 4000000 in
theorem factsCheck_any (n : NV) (t : Tr) (g : Int) (na : Option Addr) (nl nc : Nat) (N : NmL) (w : World) (h : NodeC w n t) (hNm : NamesC w (.slice na nl nc) N) : Calls Try.prog 12 #[patNV n g na nl nc] w fun e w' => ∃ z, BehE t g N z ∧ e = .returned (.int .i64 z) ∧ Below w.heap.size w w' := by
  have hb : Below w.heap.size w (w.alloc (patNO n g na nl nc)) := (Below.refl _ _).alloc (Nat.le_refl _) _
  have HC := hide (showCheck_any n t g na nl nc N _ (h.box (patNO n g na nl nc)) (hNm.below hb))
  have HHW := hide (fun hg W hW => hasWidths_any h hg W hW)
  obtain ⟨w1, hw1⟩ : ∃ w1, w1 = w.alloc (patNO n g na nl nc) := ⟨_, rfl⟩
  have hbox : w1.heap[w.heap.size]? = some (patNO n g na nl nc) := by rw [hw1]; exact at_new _ _
  rw [← hw1] at hb HC
  have HB := hide hb
  have HX := hide hbox
  obtain ⟨⟨d0, d1, d2, d3, d4, d5, d6, d7⟩, d8, d9⟩ := patN_cells hbox
  simp only [patNO] at hw1
  simp only [patNV] at HC ⊢
  clear h hNm hb hbox
  go_enter Try.func12, Try.ntmps12
  go_wp2_with fail
  rw [← hw1]
  clear hw1
  refine HC.out.mono ?_
  rintro e w2 ⟨z, hz, rfl, hb2⟩
  have HB2 := hide (HB.out.trans (hb2.mono HB.out.size))
  have HX2 := hide (show w2.heap[w.heap.size]? = some (patNO n g na nl nc) by rw [hb2.block _ (lt_of_block HX.out)]; exact HX.out)
  clear hb2 HC d0 d1 d2 d3 d4 d5 d6 d7 d8 d9 HX HB
  by_cases hz0 : z = 0
  · subst hz0
    obtain ⟨⟨d0, d1, d2, d3, d4, d5, d6, d7⟩, d8, d9⟩ := patN_cells HX2.out
    have HCh := hide (HHW.out (pat_right hz).2 w2 HB2.out)
    have HBz : Hid (∀ y, y = (if bhA t then 0 else 9) → BehE t g N y) := fun y hy => .inr ⟨hz, hy⟩
    obtain ⟨b, hb⟩ : ∃ b, b = bhA t := ⟨_, rfl⟩
    rw [← hb] at HCh HBz
    clear hz hb HHW
    go_wp2_with fail
    refine HCh.out.mono ?_
    rintro e w3 ⟨rfl, hb3⟩
    have HB3 := hide (HB2.out.trans (hb3.mono HB2.out.size))
    clear hb3 HCh d0 d1 d2 d3 d4 d5 d6 d7 d8 d9
    cases b with
    | true =>
      have HE := hide (HBz.out 0 rfl)
      clear HBz
      go_wp2
      go_ret
      exact ⟨0, HE.out, rfl, HB3.out⟩
    | false =>
      have HE := hide (HBz.out 9 rfl)
      clear HBz
      go_wp2
      go_ret
      exact ⟨9, HE.out, rfl, HB3.out⟩
  · have HE : Hid (BehE t g N z) := .inl ⟨hz, hz0⟩
    have bz : (z == 0) = false := by simpa using hz0
    have bz2 : (z != 0) = true := by simpa using hz0
    clear hz hz0 HHW
    go_wp2
    go_ret
    exact ⟨z, HE.out, rfl, HB2.out⟩

end Go.Proofs.Ytdipfaahlofmgaa

namespace Go.Proofs.Ytdipfaahlofmgaa
open Go.RowKit
set_option linter.unusedVariables false

theorem nameE_nil : NameE [] 0 := .inr (.inr (.inr ⟨rfl, fun i hi => by simp at hi, fun i hi => by simp at hi, fun i _ hi => by simp at hi⟩))
theorem patE_nil (t : Tr) (g : Int) : PatE t g [] (checkP t g) := by
  unfold checkP PatE
  by_cases h : cntA t < 1001
  · rw [if_pos h]
    refine .inr ⟨h, ?_⟩
    by_cases hz : treeE t g = 0
    · rw [hz]; exact .inr (.inr ⟨hz, rfl, nameE_nil⟩)
    · exact .inl ⟨hz, rfl⟩
  · rw [if_neg h]; exact .inl ⟨h, rfl⟩
theorem checkPat_any {w0 : World} {n : NV} {t : Tr} (h : NodeC w0 n t) (hsm : smT t) (g : Int) (na : Option Addr) (nl nc : Nat) (N : NmL) (w : World) (hw0 : Below w0.heap.size w0 w) (hN : NamesC w (.slice na nl nc) N) (hnz : ∀ i, i < N.length → (ntx N i).size ≤ 1048576) : Calls Try.prog 20 #[patNV n g na nl nc] w fun e w' => ∃ z, PatE t g N z ∧ e = .returned (.int .i64 z) ∧ Below w.heap.size w w' := by
  rcases hN with ⟨hv, rfl⟩ | ⟨x, c, hv, hc, hcl⟩
  · injection hv with h1 h2 h3
    subst h1; subst h2; subst h3
    refine (checkPat_nil h hsm g w hw0).mono ?_
    rintro e w' ⟨rfl, hb⟩
    exact ⟨_, patE_nil t g, rfl, hb⟩
  · injection hv with h1 h2 h3
    subst h1; subst h2; subst h3
    exact checkPat_some h hsm g x _ N w hw0 hc hcl hnz
mutual
theorem good_flat : ∀ t : Tr, good t → ∀ u ∈ flatT t, good u
  | .mk k a b c d e f kids, h, u, hu => by
    rw [flatT] at hu
    rcases List.mem_cons.1 hu with rfl | hu
    · exact h
    · exact good_flatL kids (fun t ht => by obtain ⟨j, hj, rfl⟩ := List.getElem_of_mem ht; exact good_kids h j hj) u hu
theorem good_flatL : ∀ ts : List Tr, (∀ t ∈ ts, good t) → ∀ u ∈ flatL ts, good u
  | [], h, u, hu => by cases hu
  | t :: ts, h, u, hu => by
    rw [flatL] at hu
    rcases List.mem_append.1 hu with hu | hu
    · exact good_flat t (h t (List.mem_cons_self ..)) u hu
    · exact good_flatL ts (fun x hx => h x (List.mem_cons_of_mem _ hx)) u hu
end
theorem all_take {l : List Tr} {f : Tr → Bool} (h : ∀ i (hi : i < l.length), f l[i] = true) : l.all f = true := by
  rw [List.all_eq_true]
  intro x hx
  obtain ⟨j, hj, rfl⟩ := List.getElem_of_mem hx
  exact h j hj
theorem not_take {l : List Tr} {f : Tr → Bool} {j : Nat} (hj : j < l.length) (h : f l[j] = false) : l.all f = false := by
  rw [List.all_eq_false]
  exact ⟨l[j], List.getElem_mem _, by simp [h]⟩

set_option maxRecDepth 100000 in
set_option maxHeartbeats 8000000 in
theorem checkBehind_any {w0 : World} {n : NV} {t : Tr} (h : NodeC w0 n t) (hsm : smT t) (g : Int) (na : Option Addr) (nl nc : Nat) (N : NmL) (w : World) (hw0 : Below w0.heap.size w0 w) (hN : NamesC w (.slice na nl nc) N) (hnz : ∀ i, i < N.length → (ntx N i).size ≤ 1048576) : Calls Try.prog 13 #[patNV n g na nl nc] w fun e w' => ∃ z, BehE t g N z ∧ e = .returned (.int .i64 z) ∧ Below w.heap.size w w' := by
  have hb : Below w.heap.size w (w.alloc (patNO n g na nl nc)) := (Below.refl _ _).alloc (Nat.le_refl _) _
  have HC := hide (checkPat_any h hsm g na nl nc N (w.alloc (patNO n g na nl nc)) (hw0.trans (hb.mono hw0.size)) (hN.below hb) hnz)
  have HFl := hide (fun hs W hW => flat_any' h hs W hW)
  obtain ⟨w1, hw1⟩ : ∃ w1, w1 = w.alloc (patNO n g na nl nc) := ⟨_, rfl⟩
  have hbox : w1.heap[w.heap.size]? = some (patNO n g na nl nc) := by rw [hw1]; exact at_new _ _
  rw [← hw1] at hb HC
  have HB := hide hb
  have HX := hide hbox
  have HW0 := hide hw0
  obtain ⟨⟨d0, d1, d2, d3, d4, d5, d6, d7⟩, d8, d9⟩ := patN_cells hbox
  simp only [patNO] at hw1
  simp only [patNV] at HC ⊢
  clear h hsm hw0 hN hb hbox hnz
  go_enter Try.func13, Try.ntmps13
  go_wp2_with fail
  rw [← hw1]
  clear hw1
  refine HC.out.mono ?_
  rintro e w2 ⟨z, hz, rfl, hb2⟩
  have HB2 := hide (HB.out.trans (hb2.mono HB.out.size))
  have HX2 := hide (show w2.heap[w.heap.size]? = some (patNO n g na nl nc) by rw [hb2.block _ (lt_of_block HX.out)]; exact HX.out)
  clear hb2 HC d0 d1 d2 d3 d4 d5 d6 d7 d8 d9 HX HB
  by_cases hz0 : z = 0
  · subst hz0
    obtain ⟨⟨d0, d1, d2, d3, d4, d5, d6, d7⟩, d8, d9⟩ := patN_cells HX2.out
    have HSz := hide (cntA_sz (pat_right hz).1)
    have HGo := hide (good_flat t (pat_right hz).2)
    have HF2 := hide (HFl.out HSz.out w2 (HW0.out.trans (HB2.out.mono HW0.out.size)))
    have HBy : Hid ((∀ i (hi : i < (flatT t).length), bhB (flatT t)[i] = true) → BehE t g N 0) := fun hh => .inr ⟨hz, by unfold bhA; rw [all_take hh]; rfl⟩
    have HBn : Hid (∀ i (hi : i < (flatT t).length), bhB (flatT t)[i] = false → BehE t g N 9) := fun i hi hh => .inr ⟨hz, by unfold bhA; rw [not_take hi hh]; rfl⟩
    clear hz HFl
    go_wp2_with fail
    refine HF2.out.mono ?_
    rintro e w3 ⟨v, F, rfl, hF, hb3⟩
    have HB3 := hide (HB2.out.trans (hb3.mono HB2.out.size))
    have hlen := hF.len
    obtain ⟨gr, cap, hv, _⟩ := hF.form
    rw [hv] at hF ⊢
    obtain ⟨m, hm⟩ : ∃ m, m = F.length := ⟨_, rfl⟩
    have hm1 : m ≤ 1000 := by have := HSz.out; omega
    have HM := hide hm
    rw [← hm] at hF ⊢
    have HF := hide hF
    obtain ⟨B, hB⟩ : ∃ B, B = w2.heap.size := ⟨_, rfl⟩
    rw [← hB] at HF
    have hfl : (flatT t).length = m := by rw [flat_len]; omega
    have HLen := hide hfl
    clear hF hv hlen hb3 HB2 HX2 d0 d1 d2 d3 d4 d5 d6 d7 d8 d9 hm HF2 hB hfl HSz
    go_wp2
    go_loopw [5] (fun c wr => ∃ (j : Nat), j ≤ m ∧ c = .int .i64 j ∧ (∀ i (hi : i < (flatT t).length), i < j → bhB (flatT t)[i] = true) ∧ FlatR w0 B wr (.slice (some ⟨gr, 0, none⟩) m cap) F t ∧ Below w.heap.size w wr) (fun c _ => m - (intOf c).toNat)
    case atStart => exact ⟨0, Nat.zero_le _, rfl, fun i hi h0 => by omega, HF.out, HB3.out⟩
    case round =>
      obtain ⟨j, hj, rfl, hA, hF, hb⟩ := hrel
      obtain ⟨w4, hw4⟩ : ∃ w4, w4 = wr := ⟨_, rfl⟩
      subst hw4
      have HA := hide hA
      have HF4 := hide hF
      have HB4 := hide hb
      clear hA hF hb HF HB3
      by_cases hlt : j < m
      · have hjF : j < F.length := by have := HM.out; omega
        obtain ⟨h2, hg1, hg2, hg3⟩ := HF4.out.get hjF
        obtain ⟨gr', cap', hv', hcl⟩ := HF4.out.form
        have hgr : gr' = gr := by injection hv' with h1; injection h1 with h1; injection h1 with h1; exact h1.symm
        rw [hgr] at hcl
        clear hv' hgr
        have hcj := hcl j hjF
        have hN : NodeC w0 F[j].1 F[j].2 := HF4.out.nd _ (List.getElem_mem _)
        have hgd : good F[j].2 := by rw [← hg1]; exact HGo.out _ (List.getElem_mem _)
        have hBd : bhB (flatT t)[j] = bhB F[j].2 := by rw [hg1]
        obtain ⟨u, hu⟩ : ∃ u, u = F[j].2 := ⟨_, rfl⟩
        obtain ⟨xn, hxn⟩ : ∃ xn, xn = F[j].1 := ⟨_, rfl⟩
        rw [← hu] at hN hgd hBd hg2
        rw [← hxn] at hN hcj hg2
        have HNx : Hid (bhB u = true → ∀ i (hi : i < (flatT t).length), i < j + 1 → bhB (flatT t)[i] = true) := fun hh i hi h0 => by
          by_cases hij : i = j
          · subst hij; rw [hBd]; exact hh
          · exact HA.out i hi (by omega)
        have HBx : Hid (bhB u = false → BehE t g N 9) := fun hh => HBn.out j h2 (by rw [hBd]; exact hh)
        have HBu : Hid (bhB u = (!(decide (xn.kind = 16) || decide (xn.kind = 17)) || (decide (0 ≤ most0 u.kids) && decide (most0 u.kids ≤ 100)))) := by show _ = _; unfold bhB; rw [hg2]
        have hgn := good_node hgd
        have hgk := good_kids hgd
        have hkb := hgn.2.1
        unfold kidsB at hkb
        rw [hg2] at hkb
        obtain ⟨-, -, -, -, -, -, -, vs, hkc, hkn⟩ := hN.open
        have c0 := hcj.c0
        have c2 := hcj.c2
        simp only at c2
        have e1 : (j : Int) < (m : Int) := by omega
        have e2 : (0 : Int) ≤ (j : Int) := by omega
        have hjw : IntKind.i64.wrap ((j : Int) + 1) = (j : Int) + 1 := by rw [IntKind.wrap_i64]; omega
        have HB04 := hide (HW0.out.trans (HB4.out.mono HW0.out.size))
        have HKc := hide hkc
        have HWd := hide (fun i hi W hW => wide_any (hkn i hi) (hgk i hi) W hW)
        clear h2 hg1 hg2 hg3 hcl hN hgd hBd hu hxn hgn hgk hkc hkn hcj HA
        by_cases hbk : xn.kind = 16 ∨ xn.kind = 17
        · have hl1 : u.kids.length = 1 := by
            rw [if_neg (by omega), if_neg (by omega), if_pos (by omega)] at hkb
            exact of_decide_eq_true hkb
          have hkd : (decide (xn.kind = 16) || decide (xn.kind = 17)) = true := by simpa using hbk
          rcases HKc.out with ⟨_, _, _, h00⟩ | ⟨x, hx, hkk, hmx, hcl⟩
          · exact absurd h00 (by omega)
          · have hcx : NCells w0 x (vs 0) := by have := hcl 0 (by omega); simpa [add_zero'] using this
            have HC := hide (HWd.out 0 (by omega) w4 HB04.out)
            obtain ⟨f0, f1, f2, f3, f4, f5, f6, f7⟩ := hcx.below HB04.out
            obtain ⟨FF, hFF⟩ : ∃ FF, FF = factT (u.kids[0]'(by omega)) := ⟨_, rfl⟩
            have hM0 : most0 u.kids = FF.most := by rw [hFF, most0_at (by omega)]
            rw [← hFF] at HC
            rw [hx, hkk, hl1] at c2
            have HBv : Hid (bhB u = (decide (0 ≤ FF.most) && decide (FF.most ≤ 100))) := by show _ = _; rw [HBu.out, hkd, hM0]; rfl
            obtain ⟨fl, fm, fp⟩ := FF
            simp only [wdV] at HC HBv
            have HB5 : Hid (∀ W, Below w4.heap.size w4 W → Below w.heap.size w W ∧ FlatR w0 B W (.slice (some ⟨gr, 0, none⟩) m cap) F t) := fun W hW => ⟨HB4.out.trans (hW.mono HB4.out.size), HF4.out.keep hW⟩
            clear hcl hFF hx hkk hmx hcx hkd hM0 HBu hkb hl1 HWd HKc
            have fin : ∀ W : World, True := fun _ => trivial
            clear fin
            by_cases h16 : xn.kind = 16
            · have b16 : (xn.kind == 16) = true := by simpa using h16
              clear h16 hbk
              go_wp2_with fail
              refine HC.out.mono ?_
              rintro e w5 ⟨rfl, hb5⟩
              obtain ⟨hB5, hF5⟩ := HB5.out w5 hb5
              have HB6 := hide hB5
              have HF6 := hide hF5
              clear hb5 hB5 hF5 HC HB5 c0 c2 f0 f1 f2 f3 f4 f5 f6 f7
              by_cases hm0 : fm < 0
              · have HE := hide (HBx.out (by rw [HBv.out, show decide (0 ≤ fm) = false from decide_eq_false (by omega)]; rfl))
                go_wp2
                go_ret
                exact ⟨9, HE.out, rfl, HB6.out⟩
              · by_cases hm1' : 100 < fm
                · have HE := hide (HBx.out (by rw [HBv.out, show decide (fm ≤ 100) = false from decide_eq_false (by omega)]; simp))
                  go_wp2
                  go_ret
                  exact ⟨9, HE.out, rfl, HB6.out⟩
                · have HNy := hide (HNx.out (by rw [HBv.out, show decide (fm ≤ 100) = true from decide_eq_true (by omega), show decide (0 ≤ fm) = true from decide_eq_true (by omega)]; rfl))
                  go_wp2
                  go_roundw
                  case rel => exact ⟨j + 1, by omega, by go_num, HNy.out, HF6.out, HB6.out⟩
                  case measure => simp [intOf]; omega
            · have h17 : xn.kind = 17 := by omega
              have b16 : (xn.kind == 16) = false := by simpa using h16
              have b17 : (xn.kind == 17) = true := by simpa using h17
              clear h16 h17 hbk
              go_wp2_with fail
              refine HC.out.mono ?_
              rintro e w5 ⟨rfl, hb5⟩
              obtain ⟨hB5, hF5⟩ := HB5.out w5 hb5
              have HB6 := hide hB5
              have HF6 := hide hF5
              clear hb5 hB5 hF5 HC HB5 c0 c2 f0 f1 f2 f3 f4 f5 f6 f7
              by_cases hm0 : fm < 0
              · have HE := hide (HBx.out (by rw [HBv.out, show decide (0 ≤ fm) = false from decide_eq_false (by omega)]; rfl))
                go_wp2
                go_ret
                exact ⟨9, HE.out, rfl, HB6.out⟩
              · by_cases hm1' : 100 < fm
                · have HE := hide (HBx.out (by rw [HBv.out, show decide (fm ≤ 100) = false from decide_eq_false (by omega)]; simp))
                  go_wp2
                  go_ret
                  exact ⟨9, HE.out, rfl, HB6.out⟩
                · have HNy := hide (HNx.out (by rw [HBv.out, show decide (fm ≤ 100) = true from decide_eq_true (by omega), show decide (0 ≤ fm) = true from decide_eq_true (by omega)]; rfl))
                  go_wp2
                  go_roundw
                  case rel => exact ⟨j + 1, by omega, by go_num, HNy.out, HF6.out, HB6.out⟩
                  case measure => simp [intOf]; omega
        · have b16 : (xn.kind == 16) = false := by simp; omega
          have b17 : (xn.kind == 17) = false := by simp; omega
          have HE : Hid (bhB u = true) := by
            show _ = _
            rw [HBu.out, show (decide (xn.kind = 16) || decide (xn.kind = 17)) = false by simpa using hbk]; rfl
          have HNy := hide (HNx.out HE.out)
          clear hbk hkb HKc HWd HBu HE HNx HBx
          go_wp2
          go_roundw
          case rel => exact ⟨j + 1, by omega, by go_num, HNy.out, HF4.out, HB4.out⟩
          case measure => simp [intOf]; omega
      · have e1 : ¬ (j : Int) < (m : Int) := by omega
        have HE := hide (HBy.out (fun i hi => HA.out i hi (by have := HLen.out; omega)))
        go_wp2
        go_ret
        exact ⟨0, HE.out, rfl, HB4.out⟩
  · have HE : Hid (BehE t g N z) := .inl ⟨hz, hz0⟩
    have bz : (z == 0) = false := by simpa using hz0
    have bz2 : (z != 0) = true := by simpa using hz0
    clear hz hz0 HFl
    go_wp2
    go_ret
    exact ⟨z, HE.out, rfl, HB2.out⟩

end Go.Proofs.Ytdipfaahlofmgaa

namespace Go.Proofs.Ytdipfaahlofmgaa
open Go.RowKit
set_option linter.unusedVariables false

set_option maxRecDepth 100000 in
set_option maxHeartbeats 4000000 in
theorem factsChecks_walk (n : NV) (t : Tr) (g : Int) (na : Option Addr) (nl nc : Nat) (N : NmL) (w : World) (h : NodeC w n t) (hsm : smT t) (hN : NamesC w (.slice na nl nc) N) (hnz : ∀ i, i < N.length → (ntx N i).size ≤ 1048576) : Calls Try.prog 4 #[patNV n g na nl nc] w fun e w' => e = .returned (.bool true) ∧ Below w.heap.size w w' := by
  have hb : Below w.heap.size w (w.alloc (patNO n g na nl nc)) := (Below.refl _ _).alloc (Nat.le_refl _) _
  have HP := hide (fun W (hW : Below w.heap.size w W) => factsCheck_any n t g na nl nc N W (h.keep hW) (hN.below hW))
  have HQ := hide (fun W (hW : Below w.heap.size w W) => checkBehind_any h hsm g na nl nc N W hW (hN.below hW) hnz)
  obtain ⟨w1, hw1⟩ : ∃ w1, w1 = w.alloc (patNO n g na nl nc) := ⟨_, rfl⟩
  have hbox : w1.heap[w.heap.size]? = some (patNO n g na nl nc) := by rw [hw1]; exact at_new _ _
  rw [← hw1] at hb
  have HB := hide hb
  have HX := hide hbox
  simp only [patNO] at hw1
  simp only [patNV] at HP HQ ⊢
  clear h hsm hN hnz hb hbox
  go_enter Try.func4, Try.ntmps4
  go_wp2
  rw [← hw1]
  clear hw1
  have HBd : Hid (Below w.heap.size w w1.drew) := HB.out.trans ⟨rfl, rfl, rfl, Nat.le_refl _, fun _ _ => rfl⟩
  have HXd : Hid (w1.drew.heap[w.heap.size]? = some (patNO n g na nl nc)) := HX.out
  go_region_with (first
    | (go_at_call 11; refine (factsBegun_any _).mono ?_; rintro e w2 ⟨rfl, hb2⟩; have HB2 := hide (HBd.out.trans (hb2.mono HBd.out.size)); have HX2 := hide (show w2.heap[w.heap.size]? = some (patNO n g na nl nc) from (by rw [hb2.block _ (lt_of_block HXd.out)]; exact HXd.out)); obtain ⟨⟨d0, d1, d2, d3, d4, d5, d6, d7⟩, d8, d9⟩ := patN_cells HX2.out; clear hb2)
    | (go_at_call 12; refine (HP.out _ HB2.out).mono ?_; rintro e w3 ⟨z, hz, rfl, hb3⟩; have HB3 := hide (HB2.out.trans (hb3.mono HB2.out.size)); have HX3 := hide (show w3.heap[w.heap.size]? = some (patNO n g na nl nc) from (by rw [hb3.block _ (lt_of_block HX2.out)]; exact HX2.out)); have HZ := hide hz; clear hb3 hz d0 d1 d2 d3 d4 d5 d6 d7 d8 d9; obtain ⟨⟨d0, d1, d2, d3, d4, d5, d6, d7⟩, d8, d9⟩ := patN_cells HX3.out)
    | (go_at_call 13; refine (HQ.out _ HB3.out).mono ?_; rintro e w4 ⟨z', hz', rfl, hb4⟩; have hzz := HZ.out.one hz'; subst hzz; have hze : (z == z) = true := (by simp); have HB4 := hide (HB3.out.trans (hb4.mono HB3.out.size)); clear hb4 hz' d0 d1 d2 d3 d4 d5 d6 d7 d8 d9))
  all_goals (go_wp2; go_ret; exact ⟨by first | rfl | (rw [hze]; rfl) | simp [go_sem], HB4.out⟩)

end Go.Proofs.Ytdipfaahlofmgaa
