/- What CheckPattern answers, where there are no names. -/
import Derived.Test.YtpcohmbipbiglaaDoorQgrph
import Derived.Test.YtpcohmbipbiglaaDoorQgreat
import Derived.Test.YtpcohmbipbiglaaDoorNshow
namespace Go.Proofs.YtpcohmbipbiglaaDoor
open Go.RowKit
set_option linter.unusedVariables false

theorem ckF_drop {l : List Tr} {j : Nat} (hj : j < l.length) (g : Int) : ckF (l.drop j) g = if rnE l[j] ≠ 0 then .error (rnE l[j]) else if l[j].kind = 11 then (if l[j].num = g + 1 then ckF (l.drop (j + 1)) (g + 1) else .error 4) else ckF (l.drop (j + 1)) g := by
  rw [List.drop_eq_getElem_cons hj, ckF_cons]
theorem agF_drop {l : List Tr} {j : Nat} (hj : j < l.length) : agF (l.drop j) = if l[j].kind = 18 then l[j].num :: agF (l.drop (j + 1)) else agF (l.drop (j + 1)) := by
  rw [List.drop_eq_getElem_cons hj]
  unfold agF
  rw [List.filter_cons]
  by_cases h : l[j].kind = 18 <;> simp [h]

set_option maxRecDepth 100000 in
set_option maxHeartbeats 8000000 in
theorem checkPat_nil {w0 : World} {n : NV} {t : Tr} (h : NodeC w0 n t) (hsm : smT t) (g : Int) (w : World) (hw0 : Below w0.heap.size w0 w) : Calls Tryd.prog 11 #[patV n g] w fun e w' => e = .returned (.int .i64 (checkP t g)) ∧ Below w.heap.size w w' := by
  have hb1 : Below w.heap.size w (w.alloc (patO n g)) := (Below.refl _ w).alloc (Nat.le_refl _) _
  obtain ⟨w1, hw1⟩ : ∃ w1, w1 = w.alloc (patO n g) := ⟨_, rfl⟩
  have hX1 : w1.heap[w.heap.size]? = some (patO n g) := by rw [hw1]; exact at_new _ _
  rw [← hw1] at hb1
  have HB1 := hide hb1
  have HX1 := hide hX1
  have HW0 := hide hw0
  have HTG := hide (tooGreat_any h hsm w1 (hw0.trans (hb1.mono hw0.size)))
  have HFl := hide (fun hs W hW => flat_any' h hs W hW)
  have HSm := hide (sm_flat t hsm)
  obtain ⟨⟨d0, d1, d2, d3, d4, d5, d6, d7⟩, d8, d9⟩ := pat_cells hX1
  obtain ⟨R, hR⟩ : ∃ R, R = checkP t g := ⟨_, rfl⟩
  have HRb : Hid (¬ cntA t < 1001 → R = 2) := fun hh => by rw [hR]; unfold checkP; rw [if_neg hh]
  have HRg : Hid (cntA t < 1001 → R = patR (ckF (flatT t) 0) g (agF (flatT t))) := fun hh => by rw [hR]; unfold checkP; rw [if_pos hh, treeE_ck]
  rw [← hR]
  simp only [patO] at hw1
  clear h hsm hw0 hb1 hX1 hR
  by_cases hlt : cntA t < 1001
  · have hRg := HRg.out hlt
    have hsz := cntA_sz hlt
    rw [show (!decide (cntA t < 1001)) = false by simp [hlt]] at HTG
    have HR := hide hRg
    have HSz := hide hsz
    clear HRb HRg hRg hsz hlt
    go_enter Tryd.func11, Tryd.ntmps11
    go_wp2_with fail
    rw [← hw1]
    clear hw1
    refine HTG.out.mono ?_
    rintro e w2 ⟨rfl, hb2⟩
    have HB2 := hide (HB1.out.trans (hb2.mono HB1.out.size))
    have HX2 := hide (show w2.heap[w.heap.size]? = some (patO n g) by rw [hb2.block _ (lt_of_block HX1.out)]; exact HX1.out)
    clear hb2 HTG HB1 HX1 d0 d1 d2 d3 d4 d5 d6 d7 d8 d9
    obtain ⟨⟨d0, d1, d2, d3, d4, d5, d6, d7⟩, d8, d9⟩ := pat_cells HX2.out
    have HFl2 := hide (HFl.out HSz.out w2 (HW0.out.trans (HB2.out.mono HW0.out.size)))
    clear HFl
    go_wp2_with fail
    refine HFl2.out.mono ?_
    rintro e w3 ⟨v, F, rfl, hF, hb3⟩
    have HB3 := hide (HB2.out.trans (hb3.mono HB2.out.size))
    have HX3 := hide (show w3.heap[w.heap.size]? = some (patO n g) by rw [hb3.block _ (lt_of_block HX2.out)]; exact HX2.out)
    have hlen := hF.len
    obtain ⟨gr, cap, hv, _⟩ := hF.form
    rw [hv] at hF ⊢
    obtain ⟨m, hm⟩ : ∃ m, m = F.length := ⟨_, rfl⟩
    have hm1 : m ≤ 1000 := by have := HSz.out; omega
    have HM := hide hm
    rw [← hm] at hF ⊢
    have HF := hide hF
    obtain ⟨B, hB⟩ : ∃ B, B = w2.heap.size := ⟨_, rfl⟩
    rw [← hB] at HF
    have hfl : (flatT t).length = m := by rw [flat_len]; omega
    have HLen := hide hfl
    clear hF hv hlen hb3 HB2 HX2 d0 d1 d2 d3 d4 d5 d6 d7 d8 d9 hm HFl2 hB hfl
    go_wp2
    go_loopw [4, 5] (fun a c wr => ∃ (j : Nat) (q : Int), j ≤ m ∧ c = .int .i64 j ∧ a = .int .i64 q ∧ (0 ≤ q ∧ q ≤ j) ∧ ckF (flatT t) 0 = ckF ((flatT t).drop j) q ∧ FlatR w0 B wr (.slice (some ⟨gr, 0, none⟩) m cap) F t ∧ wr.heap[w.heap.size]? = some (patO n g) ∧ Below w.heap.size w wr) (fun _ c _ => m - (intOf c).toNat)
    case atStart => exact ⟨0, 0, Nat.zero_le _, rfl, rfl, ⟨Int.le_refl _, by omega⟩, by simp, HF.out, HX3.out, HB3.out⟩
    case round =>
      obtain ⟨j, q, hj, rfl, rfl, hq, hC, hF, hx, hb⟩ := hrel
      obtain ⟨w4, hw4⟩ : ∃ w4, w4 = wr := ⟨_, rfl⟩
      subst hw4
      have HC := hide hC
      have HF4 := hide hF
      have HX4 := hide hx
      have HB4 := hide hb
      clear hC hF hx hb HF HX3 HB3
      by_cases hlt : j < m
      · have hjF : j < F.length := by have := HM.out; omega
        obtain ⟨h2, hg1, hg2, hg3⟩ := HF4.out.get hjF
        obtain ⟨gr', cap', hv', hcl⟩ := HF4.out.form
        have hgr : gr' = gr := by injection hv' with h1; injection h1 with h1; injection h1 with h1; exact h1.symm
        rw [hgr] at hcl
        clear hv' hgr
        have hcj := hcl j hjF
        have hN : NodeC w0 F[j].1 F[j].2 := HF4.out.nd _ (List.getElem_mem _)
        have hD := ckF_drop h2 q
        rw [hg1, hg2, hg3] at hD
        have hsx : F[j].2.kids.length ≤ 4611686018427387904 := by
          have := HSm.out (flatT t)[j] (List.getElem_mem _)
          rw [hg1, smT_kids] at this
          exact this.1
        have hB0 : Below w0.heap.size w0 w4 := HW0.out.trans (HB4.out.mono HW0.out.size)
        have HRN := hide (rightNode_any F[j].1 F[j].2 w4 (hN.keep hB0) hsx)
        obtain ⟨xn, hxn⟩ : ∃ xn, xn = F[j].1 := ⟨_, rfl⟩
        obtain ⟨z, hz⟩ : ∃ z, z = rnE F[j].2 := ⟨_, rfl⟩
        rw [← hxn, ← hz] at HRN hD
        rw [← hxn] at hcj
        have HD := hide hD
        have HXn := hide hxn
        obtain ⟨f0, f1, f2, f3, f4, f5, f6, f7⟩ := hcj
        simp only at f1 f2 f3 f4 f5 f6 f7
        have e1 : (j : Int) < (m : Int) := by omega
        have e2 : (0 : Int) ≤ (j : Int) := by omega
        clear h2 hg1 hg2 hg3 hcl hN hD hsx hB0 hxn hz
        go_wp2_with fail
        refine HRN.out.mono ?_
        rintro e w5 ⟨rfl, hb5⟩
        have HB5 := hide (HB4.out.trans (hb5.mono HB4.out.size))
        have HX5 := hide (show w5.heap[w.heap.size]? = some (patO n g) by rw [hb5.block _ (lt_of_block HX4.out)]; exact HX4.out)
        have HF5 := hide (HF4.out.keep hb5)
        obtain ⟨gr', cap', hv', hcl⟩ := HF5.out.form
        have hgr : gr' = gr := by injection hv' with h1; injection h1 with h1; injection h1 with h1; exact h1.symm
        rw [hgr] at hcl
        clear hv' hgr
        have hcj := hcl j hjF
        rw [← HXn.out] at hcj
        have c0 := hcj.c0
        have c3 := hcj.c3
        simp only at c3
        clear hb5 HRN HF4 HX4 HB4 f0 f1 f2 f3 f4 f5 f6 f7 hcl hcj
        by_cases hz0 : z = 0
        · subst hz0
          by_cases h11 : xn.kind = 11
          · have b11 : (xn.kind == 11) = true := by simpa using h11
            have hqw : IntKind.i64.wrap (q + 1) = q + 1 := by rw [IntKind.wrap_i64]; omega
            by_cases hnm : xn.num = q + 1
            · have hN2 : Hid (ckF (flatT t) 0 = ckF ((flatT t).drop (j + 1)) (q + 1)) := by show _ = _; rw [HC.out, HD.out, if_neg (fun hh => hh rfl), if_pos h11, if_pos hnm]
              have bn : (xn.num == q + 1) = true := by simpa using hnm
              have bn2 : (xn.num != q + 1) = false := by simpa using hnm
              clear h11 hnm
              go_wp2
              go_roundw
              case rel => exact ⟨j + 1, q + 1, by omega, by go_num, by go_num, ⟨by omega, by omega⟩, hN2.out, HF5.out, HX5.out, HB5.out⟩
              case measure => simp [intOf]; omega
            · have hE : Hid (R = 4) := by show _ = _; rw [HR.out, HC.out, HD.out, if_neg (fun hh => hh rfl), if_pos h11, if_neg hnm]; rfl
              have bn : (xn.num == q + 1) = false := by simpa using hnm
              have bn2 : (xn.num != q + 1) = true := by simpa using hnm
              clear h11 hnm
              go_wp2
              go_ret
              exact ⟨by rw [hE.out]; rfl, HB5.out⟩
          · have hN2 : Hid (ckF (flatT t) 0 = ckF ((flatT t).drop (j + 1)) q) := by show _ = _; rw [HC.out, HD.out, if_neg (fun hh => hh rfl), if_neg h11]
            have b11 : (xn.kind == 11) = false := by simpa using h11
            clear h11
            go_wp2
            go_roundw
            case rel => exact ⟨j + 1, q, by omega, by go_num, rfl, ⟨by omega, by omega⟩, hN2.out, HF5.out, HX5.out, HB5.out⟩
            case measure => simp [intOf]; omega
        · have hE : Hid (R = z) := by show _ = _; rw [HR.out, HC.out, HD.out, if_pos hz0]; rfl
          have bz : (z == 0) = false := by simpa using hz0
          have bz2 : (z != 0) = true := by simpa using hz0
          clear hz0
          go_wp2
          go_ret
          exact ⟨by rw [hE.out]; rfl, HB5.out⟩
      · have e1 : ¬ (j : Int) < (m : Int) := by omega
        have hE : R = if 20 < q then 2 else if q = g then numsE q (agF (flatT t)) else 4 := by
          rw [HR.out, HC.out, List.drop_eq_nil_of_le (by rw [HLen.out]; omega)]; rfl
        obtain ⟨-, d8, d9⟩ := pat_cells HX4.out
        have hq20 : q ≤ 1000 := by omega
        clear HR HC
        by_cases h20 : 20 < q
        · rw [if_pos h20] at hE
          subst hE
          go_wp2
          go_ret
          exact ⟨rfl, HB4.out⟩
        · rw [if_neg h20] at hE
          by_cases hgq : q = g
          · rw [if_pos hgq] at hE
            have bq : (g == q) = true := by simpa using hgq.symm
            have bq2 : (g != q) = false := by simpa using hgq.symm
            have HE := hide hE
            have HGQ := hide hgq
            clear hE hgq
            go_wp2
            go_loopw [7] (fun c wr => ∃ (j : Nat), j ≤ m ∧ c = .int .i64 j ∧ numsE q (agF (flatT t)) = numsE q (agF ((flatT t).drop j)) ∧ wr = w4) (fun c _ => m - (intOf c).toNat)
            case atStart => exact ⟨0, Nat.zero_le _, rfl, by simp, rfl⟩
            case round =>
              obtain ⟨j2, hj2, rfl, hA, hwr⟩ := hrel
              obtain ⟨w5, hw5⟩ : ∃ w5, w5 = wr := ⟨_, rfl⟩
              rw [← hw5] at hwr ⊢
              subst hwr
              clear hw5
              have HA := hide hA
              clear hA
              by_cases hlt2 : j2 < m
              · have hjF : j2 < F.length := by have := HM.out; omega
                obtain ⟨h2, hg1, hg2, hg3⟩ := HF4.out.get hjF
                obtain ⟨gr', cap', hv', hcl⟩ := HF4.out.form
                have hgr : gr' = gr := by injection hv' with h1; injection h1 with h1; injection h1 with h1; exact h1.symm
                rw [hgr] at hcl
                have hcj := hcl j2 hjF
                have hD := agF_drop h2
                rw [hg1, hg2, hg3] at hD
                obtain ⟨xn, hxn⟩ : ∃ xn, xn = F[j2].1 := ⟨_, rfl⟩
                rw [← hxn] at hD hcj
                have c0 := hcj.c0
                have c3 := hcj.c3
                simp only at c3
                have HD := hide hD
                have f1 : (j2 : Int) < (m : Int) := by omega
                have f2 : (0 : Int) ≤ (j2 : Int) := by omega
                clear h2 hg1 hg2 hg3 hv' hgr hcl hcj hD hxn
                by_cases h18 : xn.kind = 18
                · have b18 : (xn.kind == 18) = true := by simpa using h18
                  have HQ := hide (q_betw xn.num 1 q w5)
                  have hN : Hid (numsE q (agF (flatT t)) = if numE q xn.num = 0 then numsE q (agF ((flatT t).drop (j2 + 1))) else 5) := by show _ = _; rw [HA.out, HD.out, if_pos h18]; rfl
                  by_cases hb : 1 ≤ xn.num ∧ xn.num ≤ q
                  · rw [show decide (1 ≤ xn.num ∧ xn.num ≤ q) = true by simpa using hb] at HQ
                    have hN2 : Hid (numsE q (agF (flatT t)) = numsE q (agF ((flatT t).drop (j2 + 1)))) := by show _ = _; rw [hN.out, if_pos (by unfold numE; rw [if_pos hb])]
                    clear h18 hb
                    go_wp2_with fail
                    refine HQ.out.mono ?_
                    rintro e w6 ⟨rfl, hh⟩
                    subst hh
                    go_wp2
                    go_roundw
                    case rel => exact ⟨j2 + 1, by omega, by go_num, hN2.out, trivial⟩
                    case measure => simp [intOf]; omega
                  · rw [show decide (1 ≤ xn.num ∧ xn.num ≤ q) = false by simpa using hb] at HQ
                    have hN2 : Hid (R = 5) := by show _ = _; rw [HE.out, hN.out, if_neg (by unfold numE; rw [if_neg hb]; omega)]
                    clear h18 hb
                    go_wp2_with fail
                    refine HQ.out.mono ?_
                    rintro e w6 ⟨rfl, hh⟩
                    subst hh
                    go_wp2
                    go_ret
                    exact ⟨by rw [hN2.out]; rfl, HB4.out⟩
                · have b18 : (xn.kind == 18) = false := by simpa using h18
                  have hN : Hid (numsE q (agF (flatT t)) = numsE q (agF ((flatT t).drop (j2 + 1)))) := by show _ = _; rw [HA.out, HD.out, if_neg h18]
                  clear h18
                  go_wp2
                  go_roundw
                  case rel => exact ⟨j2 + 1, by omega, by go_num, hN.out, trivial⟩
                  case measure => simp [intOf]; omega
              · have f1 : ¬ (j2 : Int) < (m : Int) := by omega
                have hN : Hid (R = 0) := by show _ = _; rw [HE.out, HA.out, List.drop_eq_nil_of_le (by rw [HLen.out]; omega)]; rfl
                go_wp2
                go_loopw [8] (fun c wr => c = .int .i64 0 ∧ wr = w5) (fun _ _ => 0)
                case atStart => exact ⟨rfl, rfl⟩
                case round =>
                  obtain ⟨rfl, hwr⟩ := hrel
                  subst hwr
                  go_wp2
                  go_loopw [9] (fun c wr2 => c = .int .i64 0 ∧ wr2 = wr) (fun _ _ => 0)
                  case atStart => exact ⟨rfl, rfl⟩
                  case round =>
                    obtain ⟨rfl, hwr⟩ := hrel
                    subst hwr
                    go_wp2
                    go_loopw [10] (fun c wr3 => c = .int .i64 0 ∧ wr3 = wr) (fun _ _ => 0)
                    case atStart => exact ⟨rfl, rfl⟩
                    case round =>
                      obtain ⟨rfl, hwr⟩ := hrel
                      subst hwr
                      go_wp2
                      go_loopw [12] (fun c wr4 => c = .int .i64 1 ∧ wr4 = wr) (fun _ _ => 0)
                      case atStart => exact ⟨rfl, rfl⟩
                      case round =>
                        obtain ⟨rfl, hwr⟩ := hrel
                        subst hwr
                        go_wp2
                        go_ret
                        exact ⟨by rw [hN.out]; rfl, HB4.out⟩
          · have hE2 : R = 4 := by rw [hE, if_neg hgq]
            have bq : (g == q) = false := by simp; omega
            have bq2 : (g != q) = true := by simp; omega
            subst hE2
            clear hE hgq
            go_wp2
            go_ret
            exact ⟨rfl, HB4.out⟩
  · have hE := HRb.out hlt
    subst hE
    rw [show (!decide (cntA t < 1001)) = true by simp; omega] at HTG
    clear HRb HRg hlt HFl
    go_enter Tryd.func11, Tryd.ntmps11
    go_wp2_with fail
    rw [← hw1]
    clear hw1
    refine HTG.out.mono ?_
    rintro e w2 ⟨rfl, hb2⟩
    have HB2 := hide (HB1.out.trans (hb2.mono HB1.out.size))
    clear hb2 HTG HB1 HX1 d0 d1 d2 d3 d4 d5 d6 d7 d8 d9
    go_wp2
    go_ret
    exact ⟨rfl, HB2.out⟩

end Go.Proofs.YtpcohmbipbiglaaDoor
