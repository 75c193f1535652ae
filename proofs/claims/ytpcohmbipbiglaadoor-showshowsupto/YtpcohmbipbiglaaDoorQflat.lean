/- What Flat answers. -/
import Derived.Test.YtpcohmbipbiglaaDoorQpure
namespace Go.Proofs.YtpcohmbipbiglaaDoor
open Go.RowKit
set_option linter.unusedVariables false

set_option maxRecDepth 100000 in
set_option maxHeartbeats 4000000 in
theorem flat_any {w0 : World} {n : NV} {t : Tr} (h : NodeC w0 n t) : szT t ≤ 1000 → ∀ w : World, Below w0.heap.size w0 w → Calls Tryd.prog 16 #[nvV n] w (FlatE w0 w t) := by
  induction h with
  | mk n set ks vs hs hk hkids ih =>
    intro hsz w hw0
    obtain ⟨i0, hi, hz0, hz1, hz2⟩ := info_parts infoN
    obtain ⟨T, hT⟩ : ∃ T, T = Tr.mk n.kind n.num n.least n.most n.way n.fold set ks := ⟨_, rfl⟩
    have HN0 : Hid (NodeC w0 n T) := by show NodeC _ _ _; rw [hT]; exact .mk n set ks vs hs hk hkids
    have HTk : Hid (flatT T = T :: flatL ks) := by show _ = _; rw [hT]; rfl
    have hsL : szL ks + 1 ≤ 1000 := by rw [szT] at hsz; omega
    rw [← hT]
    have HK := hide hk
    have HIH := hide ih
    have hkl := hk.len
    have HKL := hide hkl
    have HW0 := hide hw0
    have HSL := hide hsL
    have hb2 : Below w.heap.size w ((w.alloc (nvO n)).alloc (nvO n)) := ((Below.refl _ w).alloc (Nat.le_refl _) _).alloc (by simp) _
    have ho2 : ((w.alloc (nvO n)).alloc (nvO n)).ownsRow (w.heap.size + 1) 25 8 (.slice (some ⟨w.heap.size + 1, 0, none⟩) 1 1) 1 (rowN [(n, T)]) := by
      have := World.ownsRow_lit (base := w.heap.size + 1) (e := 25) (size := 8) (w.alloc (nvO n)) #[.int .i64 n.kind, .slice n.sa n.sl n.sc, .slice n.ka n.kl n.kc, .int .i64 n.num, .int .i64 n.least, .int .i64 n.most, .int .i64 n.way, .bool n.fold] 1 (by simp) (by decide) rfl
      simpa [rowN] using this
    obtain ⟨w1, hw1⟩ : ∃ w1, w1 = w.alloc (nvO n) := ⟨_, rfl⟩
    have hX1 : w1.heap[w.heap.size]? = some (nvO n) := by rw [hw1]; exact at_new _ _
    have hs1 : w1.heap.size = w.heap.size + 1 := by rw [hw1]; simp
    rw [← hw1] at hb2 ho2
    obtain ⟨w2, hw2⟩ : ∃ w2, w2 = w1.alloc (nvO n) := ⟨_, rfl⟩
    have hX2 : w2.heap[w.heap.size]? = some (nvO n) := by rw [hw2]; exact at_old hX1
    rw [← hw2] at hb2 ho2
    have HB2 := hide hb2
    have HO2 := hide ho2
    have HX2 := hide hX2
    obtain ⟨d0, d1, d2, d3, d4, d5, d6, d7⟩ := nv_cells hX1
    simp only [nvO] at hw1 hw2
    clear hs hk hkids ih hsz hw0 hT hb2 ho2 hX2 hX1 hkl hsL
    go_enter Tryd.func16, Tryd.ntmps16
    go_upto_region 1 with fail
    rw [← hw1]
    clear hw1
    go_upto_region 2 with fail
    rw [← hw2]
    clear hw2 hs1 d0 d1 d2 d3 d4 d5 d6 d7
    go_wp2
    go_loopw [3, 4] (fun v i wr => ∃ (j : Nat) (F : List (NV × Tr)), j ≤ ks.length ∧ i = .int .i64 j ∧ F.map (·.2) = T :: flatL (ks.take j) ∧ (∀ x ∈ F, NodeC w0 x.1 x.2) ∧ wr.ownsRow (w.heap.size + 1) 25 8 v F.length (rowN F) ∧ wr.heap[w.heap.size]? = some (nvO n) ∧ Below w.heap.size w wr) (fun _ i _ => ks.length - (intOf i).toNat)
    case atStart => exact ⟨0, [(n, T)], Nat.zero_le _, rfl, rfl, fun x hx => by simp at hx; subst hx; exact HN0.out, HO2.out, HX2.out, HB2.out⟩
    case round =>
      obtain ⟨j, F, hj, rfl, hF, hFn, ho, hx, hb⟩ := hrel
      have hFl : F.length = 1 + szL (ks.take j) := by
        have := congrArg List.length hF
        rw [List.length_map, List.length_cons, flat_lenL] at this
        omega
      have HFl := hide hFl
      have HF := hide hF
      have HFn := hide hFn
      obtain ⟨m, hm⟩ : ∃ m, m = F.length := ⟨_, rfl⟩
      have HM := hide hm
      rw [← hm] at ho
      obtain ⟨va, vc, rfl⟩ := own_shape ho
      have hob : (Value.slice va m vc).ownBlock ≠ some w.heap.size := fun e => by have := (ho.lt _ e).1; omega
      have HO := hide ho
      have HX := hide hx
      have HB := hide hb
      have HOB := hide hob
      obtain ⟨d0, d1, d2, d3, d4, d5, d6, d7⟩ := nv_cells hx
      obtain ⟨w3, hw3⟩ : ∃ w3, w3 = wr := ⟨_, rfl⟩
      subst hw3
      clear hF hFn ho hx hb hm hFl hob HB2 HO2 HX2
      by_cases hlt : j < ks.length
      · have e2 : (j : Int) < (n.kl : Int) := by have := HKL.out; omega
        have e4 : (0 : Int) ≤ (j : Int) := by omega
        have hjw : IntKind.i64.wrap ((j : Int) + 1) = (j : Int) + 1 := by
          have := szL_get hlt
          have := HSL.out
          have : j ≤ 1000 := by
            have h1 : (ks.take j).length ≤ szL (ks.take j) := by
              have := flat_lenL (ks.take j)
              clear this
              generalize ks.take j = l
              induction l with
              | nil => simp
              | cons t ts ih => rw [szL, List.length_cons]; have := szT_pos t; omega
            rw [List.length_take] at h1
            omega
          rw [IntKind.wrap_i64]; omega
        rcases HK.out with ⟨_, _, _, h0⟩ | ⟨x, hx, hkk, hmx, hcl⟩
        · exact absurd h0 (by omega)
        · have hB0 := HW0.out.trans (HB.out.mono HW0.out.size)
          have hcj := (hcl j hlt).below hB0
          obtain ⟨f0, f1, f2, f3, f4, f5, f6, f7⟩ := hcj
          have hget := szL_get hlt
          have HC := hide (HIH.out j hlt (by have := HSL.out; omega) w3 hB0)
          have HG := hide hget
          rw [hx] at d2
          clear hcl hx hB0 hget hkk hmx
          go_wp2_with fail
          refine HC.out.mono ?_
          rintro e w4 ⟨v2, F2, rfl, hF2, hFn2, ho4, hb4⟩
          have hl2 : F2.length = szT ks[j] := by
            have := congrArg List.length hF2
            rw [List.length_map, flat_len] at this
            exact this
          have hp2 := szT_pos ks[j]
          have hrl := rowN_len F2
          obtain ⟨m2, hm2⟩ : ∃ m2, m2 = F2.length := ⟨_, rfl⟩
          rw [← hm2] at ho4 hl2 hrl
          have hbd : m + m2 ≤ 1000 ∧ 0 < m2 := by
            have h1 := HFl.out
            have h2 := HM.out
            have h3 := HG.out
            have h4 := HSL.out
            omega
          have HM2 := hide hm2
          have HRL := hide hrl
          clear hl2 hp2 hm2 hrl
          obtain ⟨g, cap, rfl, hg1, hg2⟩ := ho4.form hbd.2
          have hown := own_keep HO.out hb4
          have hx4 : w4.heap[w.heap.size]? = some (nvO n) := by rw [hb4.block _ (lt_of_block HX.out)]; exact HX.out
          have hB4 := HB.out.trans (hb4.mono HB.out.size)
          have hs4 : w.heap.size < w4.heap.size := Nat.lt_of_lt_of_le (lt_of_block HX.out) hb4.size
          have hnews : ∀ i u, (rowN F2)[i]? = some u → w4.cell? ((⟨g, 0, none⟩ : Addr).add i) = some u := ho4.cells rfl
          have HBD := hide hbd
          clear hbd
          have HO4 := hide hown
          have HX4 := hide hx4
          have HB4 := hide hB4
          have HF2 := hide hF2
          have HFn2 := hide hFn2
          have HNW := hide hnews
          clear hb4 ho4 hown hx4 hB4 hF2 hFn2 hnews HC f0 f1 f2 f3 f4 f5 f6 f7 d0 d1 d2 d3 d4 d5 d6 d7 HO HX HB
          go_wp2_with (at_builtin; refine wpList_append_own _ rfl _ _ 23 rfl (w.heap.size + 1) 25 i0 _ 8 96 Tryd.underlying23 hi hz0 hz1 hz2 rfl (by decide) _ _ _ rfl HO4.out ⟨g, 0, none⟩ m2 cap (rowN F2) rfl HRL.out HNW.out (rowN_one F2) (by have := HBD.out; unfold maxLen; omega) (by have := HBD.out; omega) (by omega) ?_)
          intro v5 w5 hown5 hgrow5 _
          have hx5 : w5.heap[w.heap.size]? = some (nvO n) := by
            rw [hgrow5.block _ (by omega) (fun e => HOB.out e.symm)]
            exact HX4.out
          have hb5 : Below w.heap.size w w5 := HB4.out.grown hgrow5 (by omega) (fun q hq => by have := (HO4.out.lt q hq).1; omega)
          obtain ⟨a5, k5, rfl⟩ := own_shape hown5
          have HO5 := hide hown5
          have HX5 := hide hx5
          have HB5 := hide hb5
          have HF5 : Hid ((F ++ F2).map (·.2) = T :: flatL (ks.take (j + 1))) := by
            show _ = _
            rw [List.map_append, HF.out, HF2.out, flatL_take hlt]; rfl
          have HFn5 : Hid (∀ x ∈ F ++ F2, NodeC w0 x.1 x.2) := fun x hx => by
            rcases List.mem_append.1 hx with hx | hx
            · exact HFn.out x hx
            · exact HFn2.out x hx
          clear hown5 hgrow5 hx5 hb5 HO4 HX4 HB4
          go_wp2
          go_roundw
          case rel => exact ⟨j + 1, F ++ F2, by omega, by go_num, HF5.out, HFn5.out, by rw [rowN_append, List.length_append, ← HM.out, ← HM2.out]; exact HO5.out, HX5.out, HB5.out⟩
          case measure => simp [intOf]; omega
      · have e2 : ¬ (j : Int) < (n.kl : Int) := by have := HKL.out; omega
        go_wp2
        go_ret
        refine ⟨_, F, rfl, ?_, HFn.out, ?_, HB.out⟩
        · rw [HF.out, HTk.out, List.take_of_length_le (by omega)]
        · rw [← HM.out]; exact HO.out.mono (by omega)

end Go.Proofs.YtpcohmbipbiglaaDoor
