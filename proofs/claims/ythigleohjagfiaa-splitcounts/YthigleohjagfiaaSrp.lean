/- SplitCounts: the walk. -/
import Derived.Test.YthigleohjagfiaaSro
import Derived.Test.YthigleohjagfiaaSrc
import Derived.Test.YthigleohjagfiaaSqc
import Derived.Test.YthigleohjagfiaaSFbegun
import Derived.Test.YthigleohjagfiaaShasc
namespace Go.Proofs.Ythigleohjagfiaa
open Go.RowKit Go.PlainAid
set_option linter.unusedVariables false

theorem may_canon (enc : Int) : Canon (mayL enc) ∧ (mayL enc).length ≤ 400 := by
  unfold mayL
  split
  · exact ⟨⟨by simp [okR], by simp⟩, by simp⟩
  · exact ⟨⟨by simp [okR], by simp⟩, by simp⟩
theorem may_check (enc : Int) : checkE (mayL enc) = 0 := checkE_ok.2 ⟨(may_canon enc).2, (may_canon enc).1⟩
theorem cells2_two {w : World} {g : Nat} {a b c d : Int} (h : w.heap[g]? = some (.cells #[.int .i64 a, .int .i64 b, .int .i64 c, .int .i64 d] 28 (0, 0))) : Reads w (.slice (some ⟨g, 0, none⟩) 2 2) [(a, b), (c, d)] := by
  refine .inr ⟨_, _, rfl, fun j hj => ?_⟩
  rcases (by simp at hj; omega : j = 0 ∨ j = 1) with rfl | rfl
  · exact ⟨cells_at h 0, cells_at h 1⟩
  · exact ⟨cells_at h 2, cells_at h 3⟩
theorem cells2_one {w : World} {g : Nat} {a b : Int} (h : w.heap[g]? = some (.cells #[.int .i64 a, .int .i64 b] 28 (0, 0))) : Reads w (.slice (some ⟨g, 0, none⟩) 1 1) [(a, b)] := by
  refine .inr ⟨_, _, rfl, fun j hj => ?_⟩
  have : j = 0 := by simp at hj; omega
  subst this
  exact ⟨cells_at h 0, cells_at h 1⟩
set_option maxRecDepth 100000 in
set_option maxHeartbeats 4000000 in
theorem counts_bad (enc : Int) (v : Value) (z : Int) (hz : z ≠ 0) (w : World) (hR : ∀ W, Below w.heap.size w W → Calls Try.prog 10 #[.int .i64 enc, v] W fun e w' => e = .returned (.tuple #[.slice none 0 0, .int .i64 z]) ∧ Below W.heap.size W w') :
    Calls Try.prog 5 #[.int .i64 enc, v] w fun e w' => e = .returned (.bool true) ∧ Below w.heap.size w w' := by
  have HR := hide hR
  have HBe := hide splitBegun_any
  have HSe := hide SS.begun_any
  have zb : (z != 0) = true := by simpa using hz
  have HB : Hid (Below w.heap.size w w) := Below.refl _ _
  clear hR
  go_enter Try.func5, Try.ntmps5
  go_wp2_with (first | (go_at_call 9; refine (HBe.out _).mono ?_; rintro e w5 ⟨rfl, hb5⟩; replace HB := hide (below_tr HB.out hb5); clear hb5) | (go_at_call 17; refine (HSe.out _).mono ?_; rintro e w6 ⟨rfl, hb6⟩; replace HB := hide (below_tr HB.out hb6); clear hb6) | (go_at_call 10; refine (HR.out _ HB.out).mono ?_; rintro e w7 ⟨rfl, hb7⟩; replace HB := hide (below_tr HB.out hb7); clear hb7))
  go_ret
  exact ⟨rfl, HB.out⟩
set_option maxRecDepth 100000 in
set_option maxHeartbeats 40000000 in
theorem counts_good (w : World) (enc : Int) (he : isEnc enc) (v : Value) (A : RL) (hv : Reads w v A) (hC : A.length ≤ 400 ∧ Canon A)
    (hR : ∀ W, Below w.heap.size w W → Calls Try.prog 10 #[.int .i64 enc, v] W fun e w' => Below W.heap.size W w' ∧ ∃ ao c LL MM us, e = .returned (.tuple #[.slice ao MM.length c, .int .i64 0]) ∧ RAll A (shapesP enc) LL ∧ MM.Perm LL ∧ Rise MM ∧ RowR W.heap.size w' (.slice ao MM.length c) MM us)
    (hbig : ∀ LL MM : List RL, RAll A (shapesP enc) LL → MM.Perm LL → MM.length ≤ 10000000000) :
    Calls Try.prog 5 #[.int .i64 enc, v] w fun e w' => e = .returned (.bool true) ∧ Below w.heap.size w w' := by
  have HR := hide hR
  have HBe := hide splitBegun_any
  have HSe := hide SS.begun_any
  have HEn := hide he
  have HC := hide hC
  have HBg := hide hbig
  have HV : Hid (∀ W, Below w.heap.size w W → Reads W v A) := fun W hW => hv.below hW
  have HB : Hid (Below w.heap.size w w) := Below.refl _ _
  clear hR hv hC he hbig
  go_enter Try.func5, Try.ntmps5
  go_upto_region 3 with (first | (go_at_call 9; refine (HBe.out _).mono ?_; rintro e w5 ⟨rfl, hb5⟩; replace HB := hide (below_tr HB.out hb5); clear hb5) | (go_at_call 17; refine (HSe.out _).mono ?_; rintro e w6 ⟨rfl, hb6⟩; replace HB := hide (below_tr HB.out hb6); clear hb6))
  clear HBe HSe
  go_wp2_with fail
  refine (HR.out _ HB.out).mono ?_
  rintro e w1 ⟨hb1, ao, c, LL, MM, us, rfl, hAll, hPm, hRi, hRow⟩
  replace HB := hide (below_tr HB.out hb1)
  have hok : ∀ L ∈ MM, okRoad L := fun L hL => hAll.len_ok HEn.out L (hPm.mem_iff.1 hL)
  have HRd := hide (hRow.rdC hok)
  have HOk : Hid (∀ i (h : i < MM.length), okRoad MM[i]) := fun i h => hok _ (List.getElem_mem h)
  have htot : sumP MM = card (fun q => ins A q && ins (mayL enc) q) := by rw [sumP_perm hPm]; exact roads_sum HEn.out HC.out.2 hAll
  have HTot := hide htot
  have HSl : Hid (∀ k, 0 ≤ sumP (MM.take k) ∧ sumP (MM.take k) ≤ 1114112) := fun k => by
    have h1 := sumP_le (LL := MM) (fun L hL => by
      have h2 := prodR_rng (hok L hL).2 4 (by decide)
      rw [List.take_of_length_le (hok L hL).1.2] at h2
      omega) k
    have h3 := card_le (fun q => ins A q && ins (mayL enc) q)
    omega
  have hml : MM.length ≤ 10000000000 := HBg.out LL MM hAll hPm
  have HBt : Hid (∀ W, Below w1.heap.size w1 W → Below w.heap.size w W) := fun W hW => below_tr HB.out hW
  obtain ⟨m, hm⟩ : ∃ m, m = MM.length := ⟨_, rfl⟩
  have HM := hide hm
  rw [← hm] at HRd hml ⊢
  clear hAll hPm hRi hRow hok hb1 hm HR HBg htot HB
  go_upto_region 8 with fail
  go_wp2
  go_loopw [7, 8] (fun a q wr => ∃ i : Nat, i ≤ m ∧ a = .int .i64 (sumP (MM.take i)) ∧ q = .int .i64 i ∧ Below w1.heap.size w1 wr) (fun _ q _ => m - (intOf q).toNat)
  case atStart => exact ⟨0, Nat.zero_le _, rfl, rfl, Below.refl _ _⟩
  case round =>
    obtain ⟨i, hi, rfl, rfl, hbi⟩ := hrel
    obtain ⟨w6, hw6⟩ : ∃ w6, w6 = wr := ⟨_, rfl⟩
    subst hw6
    have HBc := hide hbi
    clear hbi
    by_cases hlt : i < m
    · have hiM : i < MM.length := by have := HM.out; omega
      obtain ⟨x, u, hao, hcc, hu, hru⟩ : ∃ x u, ao = some x ∧ (m ≤ c ∧ c ≤ 9223372036854775807) ∧ (∀ W, Below w1.heap.size w1 W → W.cell? (x.add (i * 1)) = some u) ∧ Reads w1 u MM[i] := by
        rcases HRd.out with ⟨_, h0⟩ | ⟨x, c', h1, h2, h3⟩
        · rw [h0] at hiM; simp at hiM
        · injection h1 with h1 h4 h5
          obtain ⟨u, a1, a2, a3⟩ := h3 i hiM
          exact ⟨x, u, h1, by rw [h4, h5]; exact h2, fun W hW => below_cell hW (lt_of_cell a1) a1, a2⟩
      subst hao
      have hok := HOk.out i hiM
      have hst := sumP_take hiM
      have hs1 := HSl.out i
      have hs2 := HSl.out (i + 1)
      obtain ⟨ux, uc, rfl, hcl0⟩ := hru.some (by have := hok.1; omega)
      have hcl : ∀ W, Below w1.heap.size w1 W → Cells2 W ux MM[i] := fun W hW => hcl0.below hW
      obtain ⟨L, hL⟩ : ∃ L, L = MM[i] := ⟨_, rfl⟩
      obtain ⟨um, hum⟩ : ∃ um, um = L.length := ⟨_, rfl⟩
      rw [← hL] at hu hcl hok hst
      rw [← hum] at hu
      simp only [Nat.mul_one] at hu
      have hum4 : 1 ≤ um ∧ um ≤ 4 := by rw [hum]; exact hok.1
      obtain ⟨sa, hsa⟩ : ∃ sa, sa = sumP (MM.take i) := ⟨_, rfl⟩
      obtain ⟨sb, hsb⟩ : ∃ sb, sb = sumP (MM.take (i + 1)) := ⟨_, rfl⟩
      rw [← hsa] at hst hs1 ⊢
      rw [← hsb] at hst hs2
      have HU := hide hu
      have HCl := hide hcl
      have HUm := hide hum
      have HSb := hide hsb
      have HPr : Hid (∀ k, k ≤ 4 → 1 ≤ prodR (L.take k) ∧ prodR (L.take k) ≤ 256 ^ k) := prodR_rng hok.2
      have HPf : Hid (∀ k, um ≤ k → sa + prodR (L.take k) = sb) := fun k hk => by rw [List.take_of_length_le (by omega)]; omega
      have HOkL : Hid (∀ k (h : k < L.length), 0 ≤ L[k].1 ∧ L[k].2 ≤ 255 ∧ L[k].1 ≤ L[k].2) := fun k h => hok.2 _ (List.getElem_mem h)
      have e5 : (i : Int) < (m : Int) := by omega
      have e6 : (0 : Int) ≤ (i : Int) := by omega
      have hkw : IntKind.i64.wrap ((i : Int) + 1) = (i : Int) + 1 := by rw [IntKind.wrap_i64]; omega
      have y6 := HU.out _ HBc.out
      clear hu hcl hum hL hok hcl0 hru hiM hst hsa hsb
      go_upto_region 12 with fail
      go_wp2
      go_loopw [9, 10] (fun a q wr => ∃ k : Nat, k ≤ um ∧ a = .int .i64 (prodR (L.take k)) ∧ q = .int .i64 k ∧ Below w1.heap.size w1 wr) (fun _ q _ => um - (intOf q).toNat)
      case atStart => exact ⟨0, Nat.zero_le _, rfl, rfl, HBc.out⟩
      case round =>
        obtain ⟨k, hk, rfl, rfl, hbk⟩ := hrel
        obtain ⟨w7, hw7⟩ : ∃ w7, w7 = wr := ⟨_, rfl⟩
        subst hw7
        clear HBc y6
        have HBc := hide hbk
        clear hbk
        have y7 := HU.out _ HBc.out
        by_cases hlt2 : k < um
        · have hkL : k < L.length := by have := HUm.out; omega
          obtain ⟨m0, m1⟩ := HCl.out _ HBc.out k hkL
          have hr := HOkL.out k hkL
          have hpt := prodR_take hkL
          have hp2 := HPr.out (k + 1) (by omega)
          obtain ⟨r, hre⟩ : ∃ r, r = L[k] := ⟨_, rfl⟩
          rw [← hre] at m0 m1 hr hpt
          obtain ⟨lo, hi2⟩ := r
          simp only at m0 m1 hr hpt
          obtain ⟨pa, hpa⟩ : ∃ pa, pa = prodR (L.take k) := ⟨_, rfl⟩
          obtain ⟨pb, hpb⟩ : ∃ pb, pb = prodR (L.take (k + 1)) := ⟨_, rfl⟩
          rw [← hpa, ← hpb] at hpt
          rw [← hpb] at hp2
          rw [← hpa]
          have hp3 : pb ≤ 4294967296 := by
            rcases (by omega : k = 0 ∨ k = 1 ∨ k = 2 ∨ k = 3) with rfl | rfl | rfl | rfl <;> simp at hp2 <;> omega
          have HPb := hide hpb
          have e7 : (k : Int) < (um : Int) := by omega
          have e8 : (0 : Int) ≤ (k : Int) := by omega
          have hkw2 : IntKind.i64.wrap ((k : Int) + 1) = (k : Int) + 1 := by rw [IntKind.wrap_i64]; omega
          have hq1 : IntKind.i64.wrap (hi2 - lo) = hi2 - lo := by rw [IntKind.wrap_i64]; omega
          have hq2 : IntKind.i64.wrap (hi2 - lo + 1) = hi2 - lo + 1 := by rw [IntKind.wrap_i64]; omega
          have hq3 : IntKind.i64.wrap (pa * (hi2 - lo + 1)) = pb := by rw [← hpt, IntKind.wrap_i64]; omega
          clear hre hkL hpt hpa hpb hp2
          go_upto_region 14 with fail
          go_quiet (fail)
          go_wp2
          go_roundw
          case rel => exact ⟨k + 1, by omega, by first | (rw [← HPb.out]; done) | (rw [← HPb.out]; go_num), by go_num, below_drewN HBc.out _⟩
          case measure => simp [intOf]; omega
        · have e7 : ¬ (k : Int) < (um : Int) := by omega
          have hpf := HPf.out k (by omega)
          obtain ⟨pa, hpa⟩ : ∃ pa, pa = prodR (L.take k) := ⟨_, rfl⟩
          rw [← hpa] at hpf ⊢
          have hq : IntKind.i64.wrap (sa + pa) = sb := by rw [hpf, IntKind.wrap_i64]; omega
          clear hpa hpf
          go_wp2
          go_roundw
          case rel => exact ⟨i + 1, by omega, by first | (rw [← HSb.out]; done) | (rw [← HSb.out]; go_num), by go_num, HBc.out⟩
          case measure => simp [intOf]; omega
    · have e5 : ¬ (i : Int) < (m : Int) := by omega
      have hfin : sumP (MM.take i) = card (fun q => ins A q && ins (mayL enc) q) := by rw [List.take_of_length_le (by have := HM.out; omega)]; exact HTot.out
      obtain ⟨sa, hsa⟩ : ∃ sa, sa = sumP (MM.take i) := ⟨_, rfl⟩
      rw [← hsa] at hfin ⊢
      have HFin := hide hfin
      clear hsa hfin hlt
      have HMt : Hid (∀ W vb, Below w1.heap.size w1 W → Reads W vb (mayL enc) → Calls Try.prog 18 #[v, vb] W fun e w' => SS.Res (fun q => ins A q && ins (mayL enc) q) 0 W e w') := fun W vb hW hvb => by
        have h := SS.meet_any v vb A (mayL enc) W (HV.out _ (HBt.out _ hW)) hvb
        have e : SS.chk2 A (mayL enc) = 0 := by unfold SS.chk2; rw [checkE_ok.2 HC.out, if_pos rfl, may_check]
        rw [e] at h
        exact h
      obtain ⟨W2, hW2⟩ : ∃ W2, W2 = w6.alloc (.cells #[.int .i64 0, .int .i64 55295, .int .i64 57344, .int .i64 1114111] 28) := ⟨_, rfl⟩
      have hX2 : W2.heap[w6.heap.size]? = some (.cells #[.int .i64 0, .int .i64 55295, .int .i64 57344, .int .i64 1114111] 28) := by rw [hW2]; exact at_newS _ _
      have hB2 : Below w1.heap.size w1 W2 := by rw [hW2]; exact below_tr HBc.out ((Below.refl _ _).alloc (Nat.le_refl _) _)
      have HFi : Hid (∀ (W : World) v' err O, Below w1.heap.size w1 W → SS.Made (fun q => ins A q && ins (mayL enc) q) 0 err O → Reads W v' O → (err = 2 ∧ True) ∨ (err = 0 ∧ Calls Try.prog 19 #[v'] W fun e w' => e = .returned (.tuple #[.int .i64 sa, .int .i64 0]) ∧ Below W.heap.size W w')) := fun W v' err O hW hm hr => by
        rcases hm with ⟨h, _⟩ | ⟨_, S, hS, ⟨hl, rfl, rfl⟩ | ⟨_, rfl, _⟩⟩
        · exact absurd rfl h
        · refine .inr ⟨rfl, ?_⟩
          have hc := count_ok v' O W hr (checkE_ok.2 ⟨hl, hS.1⟩)
          rw [cnt_isSet hS, ← HFin.out] at hc
          exact hc
        · exact .inl ⟨rfl, trivial⟩
      by_cases h4 : enc = 4
      · subst h4
        obtain ⟨W3, hW3⟩ : ∃ W3, W3 = W2.alloc (.cells #[.int .i64 0, .int .i64 255] 28) := ⟨_, rfl⟩
        have hX3 : W3.heap[W2.heap.size]? = some (.cells #[.int .i64 0, .int .i64 255] 28) := by rw [hW3]; exact at_newS _ _
        have hB3 : Below w1.heap.size w1 W3 := by rw [hW3]; exact below_tr hB2 ((Below.refl _ _).alloc (Nat.le_refl _) _)
        have HMe := hide (HMt.out W3 _ hB3 (by have := cells2_one hX3; exact this))
        obtain ⟨g2, hg2⟩ : ∃ g2, g2 = W2.heap.size := ⟨_, rfl⟩
        rw [← hg2] at HMe
        have HB3 := hide hB3
        clear hX2 hB2 hX3 hB3 HMt HBc
        go_upto_region 17 with fail
        rw [← hW2]
        clear hW2
        go_upto_region 19 with fail
        rw [← hW3, ← hg2]
        clear hW3 hg2
        go_wp2_with fail
        refine HMe.out.mono ?_
        rintro e w8 ⟨v', err, O, rfl, hr8, hm8, hb8⟩
        have HB8 := hide (below_tr HB3.out hb8)
        have hfi := HFi.out w8 v' err O HB8.out hm8 hr8
        clear hr8 hm8 hb8 HMe HFi
        rcases hfi with ⟨rfl, _⟩ | ⟨rfl, hc⟩
        · go_wp2
          go_ret
          exact ⟨rfl, HBt.out _ HB8.out⟩
        · have HCo := hide hc
          clear hc
          go_wp2_with fail
          refine HCo.out.mono ?_
          rintro e w9 ⟨rfl, hb9⟩
          have HB9 := hide (below_tr HB8.out hb9)
          clear hb9 HCo
          go_wp2
          go_ret
          exact ⟨by first | rfl | simp, HBt.out _ HB9.out⟩
      · have hml : mayL enc = [(0, 55295), (57344, 1114111)] := by unfold mayL; rw [if_neg h4]
        have b4 : (enc == 4) = false := by simpa using h4
        have HMe := hide (HMt.out W2 _ hB2 (by rw [hml]; exact cells2_two hX2))
        obtain ⟨g2, hg2⟩ : ∃ g2, g2 = w6.heap.size := ⟨_, rfl⟩
        rw [← hg2] at HMe
        have HB3 := hide hB2
        clear hX2 hB2 HMt HBc hml
        go_upto_region 17 with fail
        rw [← hW2, ← hg2]
        clear hW2 hg2
        go_wp2_with fail
        refine HMe.out.mono ?_
        rintro e w8 ⟨v', err, O, rfl, hr8, hm8, hb8⟩
        have HB8 := hide (below_tr HB3.out hb8)
        have hfi := HFi.out w8 v' err O HB8.out hm8 hr8
        clear hr8 hm8 hb8 HMe HFi
        rcases hfi with ⟨rfl, _⟩ | ⟨rfl, hc⟩
        · go_wp2
          go_ret
          exact ⟨rfl, HBt.out _ HB8.out⟩
        · have HCo := hide hc
          clear hc
          go_wp2_with fail
          refine HCo.out.mono ?_
          rintro e w9 ⟨rfl, hb9⟩
          have HB9 := hide (below_tr HB8.out hb9)
          clear hb9 HCo
          go_wp2
          go_ret
          exact ⟨by first | rfl | simp, HBt.out _ HB9.out⟩

end Go.Proofs.Ythigleohjagfiaa
