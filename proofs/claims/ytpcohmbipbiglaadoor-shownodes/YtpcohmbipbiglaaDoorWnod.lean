/- What NodesOf answers. -/
import Derived.Test.YtpcohmbipbiglaaDoorQpure
namespace Go.Proofs.YtpcohmbipbiglaaDoor
open Go.RowKit
set_option linter.unusedVariables false

set_option maxRecDepth 100000 in
set_option maxHeartbeats 2000000 in
theorem nodesOf_any {w0 : World} {n : NV} {t : Tr} (h : NodeC w0 n t) : szT t ≤ 1000 → ∀ w, Below w0.heap.size w0 w → Calls Tryd.prog 9 #[nvV n] w fun e w' => e = .returned (.int .i64 (szT t : Nat)) ∧ Below w.heap.size w w' := by
  induction h with
  | mk n set ks vs hs hk hkids ih =>
    intro hsz w hw0
    rw [szT] at hsz ⊢
    have HK := hide hk
    have HIH := hide ih
    have HKL := hide hk.len
    have HW0 := hide hw0
    have HSz := hide hsz
    obtain ⟨G, hG⟩ : ∃ G, G = 1 + szL ks := ⟨_, rfl⟩
    have HGG := hide hG
    rw [← hG]
    clear hG
    obtain ⟨w1, hw1⟩ : ∃ w1, w1 = w.alloc (nvO n) := ⟨_, rfl⟩
    have hX1 : w1.heap[w.heap.size]? = some (nvO n) := by rw [hw1]; exact at_new _ _
    have hb1 : Below w.heap.size w w1 := by rw [hw1]; exact (Below.refl _ w).alloc (Nat.le_refl _) _
    have HX1 := hide hX1
    have HB1 := hide hb1
    simp only [nvO] at hw1
    clear hs hk hkids ih hsz hw0 hX1 hb1
    go_enter Tryd.func9, Tryd.ntmps9
    go_upto_region 1 with fail
    rw [← hw1]
    clear hw1
    go_wp2
    go_loopw [3, 4] (fun a c wr => ∃ (j q : Nat), j ≤ ks.length ∧ c = .int .i64 j ∧ a = .int .i64 q ∧ q = 1 + szL (ks.take j) ∧ wr.heap[w.heap.size]? = some (nvO n) ∧ Below w.heap.size w wr) (fun _ c _ => ks.length - (intOf c).toNat)
    case atStart => exact ⟨0, 1, Nat.zero_le _, rfl, rfl, by simp [szL], HX1.out, HB1.out⟩
    case round =>
      obtain ⟨j, q, hj, rfl, rfl, hq, hx, hb⟩ := hrel
      obtain ⟨w2, hw2⟩ : ∃ w2, w2 = wr := ⟨_, rfl⟩
      subst hw2
      have HQ := hide hq
      have HX := hide hx
      have HB := hide hb
      obtain ⟨d0, d1, d2, d3, d4, d5, d6, d7⟩ := nv_cells hx
      clear hq hx hb HX1 HB1
      by_cases hlt : j < ks.length
      · have e1 : (j : Int) < (n.kl : Int) := by have := HKL.out; omega
        have e2 : (0 : Int) ≤ (j : Int) := by omega
        rcases HK.out with ⟨_, _, _, h0⟩ | ⟨x, hx, hkk, hmx, hcl⟩
        · exact absurd h0 (by omega)
        · have hB0 := HW0.out.trans (HB.out.mono HW0.out.size)
          obtain ⟨c0, c1, c2, c3, c4, c5, c6, c7⟩ := (hcl j hlt).below hB0
          have hget := szL_get hlt
          have HC := hide (HIH.out j hlt (by have := HSz.out; omega) w2 hB0)
          have hq2 : q + szT ks[j] ≤ 1000 := by have := HQ.out; have := HSz.out; omega
          have HNx : Hid (q + szT ks[j] = 1 + szL (ks.take (j + 1))) := by
            show _ = _
            rw [List.take_add_one, List.getElem?_eq_getElem hlt, szL_append, HQ.out]
            simp [szL]; omega
          obtain ⟨z, hz⟩ : ∃ z, z = szT ks[j] := ⟨_, rfl⟩
          rw [← hz] at HC hq2 HNx
          have e3 : IntKind.i64.wrap ((j : Int) + 1) = (j : Int) + 1 := by rw [IntKind.wrap_i64]; omega
          have e4 : IntKind.i64.wrap ((q : Int) + (z : Int)) = ((q + z : Nat) : Int) := by rw [IntKind.wrap_i64]; omega
          rw [hx] at d2
          clear hcl hx hkk hmx hB0 hget hz
          go_wp2_with fail
          refine HC.out.mono ?_
          rintro e w3 ⟨rfl, hb3⟩
          have HB3 := hide (HB.out.trans (hb3.mono HB.out.size))
          have HX3 := hide (show w3.heap[w.heap.size]? = some (nvO n) by rw [hb3.block _ (lt_of_block HX.out)]; exact HX.out)
          clear hb3 HC c0 c1 c2 c3 c4 c5 c6 c7 d0 d1 d2 d3 d4 d5 d6 d7
          go_wp2
          go_roundw
          case rel => exact ⟨j + 1, q + z, by omega, by go_num, by first | rfl | go_num, HNx.out, HX3.out, HB3.out⟩
          case measure => simp [intOf]; omega
      · have e1 : ¬ (j : Int) < (n.kl : Int) := by have := HKL.out; omega
        have hE : Hid (q = G) := by show _ = _; rw [HGG.out, HQ.out, List.take_of_length_le (by omega)]
        go_wp2
        go_ret
        exact ⟨by rw [hE.out]; rfl, HB.out⟩

end Go.Proofs.YtpcohmbipbiglaaDoor
