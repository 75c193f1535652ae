/- SplitRoads: the walk. -/
import Derived.Test.YthigleohjagfiaaSrc
import Derived.Test.YthigleohjagfiaaSrzz
import Derived.Test.YthigleohjagfiaaSrefw
import Derived.Test.YthigleohjagfiaaSchkd
import Derived.Test.YthigleohjagfiaaSqc
namespace Go.Proofs.Ythigleohjagfiaa
open Go.RowKit Go.PlainAid
set_option linter.unusedVariables false

set_option maxRecDepth 100000 in
theorem isEncR_any (enc : Int) (w : World) : Calls Try.prog 7 #[.int .i64 enc] w fun e w' => e = .returned (.bool (EE.encB enc)) ∧ w' = w := EE.isEnc_any enc w
def YesE (w : World) (e : Ending) (w' : World) : Prop := e = .returned (.bool true) ∧ Below w.heap.size w w'
set_option maxRecDepth 100000 in
set_option maxHeartbeats 4000000 in
theorem roads_law_bad (enc : Int) (v : Value) (z : Int) (hz : z ≠ 0) (p : Int) (s : ByteArray) (w : World) (hR : Calls Try.prog 10 #[.int .i64 enc, v] w fun e w' => e = .returned (.tuple #[.slice none 0 0, .int .i64 z]) ∧ Below w.heap.size w w') (hw : (¬ isEnc enc ∧ z = 7) ∨ (isEnc enc ∧ ∀ W, Below w.heap.size w W → Calls Try.prog 11 #[v] W fun e w' => e = .returned (.int .i64 z) ∧ Below W.heap.size W w')) :
    Calls Try.prog 4 #[.int .i64 enc, v, .int .i64 p, .string s] w fun e w' => YesE w e w' := by
  have HR := hide hR
  have HBe := hide splitBegun_any
  have HE := hide (isEncR_any enc)
  have zb : (z != 0) = true := by simpa using hz
  clear hR
  rcases hw with ⟨hn, rfl⟩ | ⟨hy, hck⟩
  · have hf : EE.encB enc = false := by rw [Bool.eq_false_iff]; exact fun hh => hn (EE.encB_iff.1 hh)
    rw [hf] at HE
    clear hn hf hz zb
    go_enter Try.func4, Try.ntmps4
    go_wp2_with fail
    refine HR.out.mono ?_
    rintro e w1 ⟨rfl, hb1⟩
    have HB1 := hide hb1
    clear hb1 HR
    go_wp2_with (first | (go_at_call 7; refine (HE.out _).mono ?_; rintro e w2 ⟨rfl, hw2⟩; have hw3 := hw2.symm; subst hw3; clear hw2) | (go_at_call 9; refine (HBe.out _).mono ?_; rintro e w5 ⟨rfl, hb5⟩; replace HB1 := hide (below_tr HB1.out hb5); clear hb5))
    go_ret
    exact ⟨rfl, HB1.out⟩
  · rw [EE.encB_iff.2 hy] at HE
    have HCk := hide hck
    clear hy hck
    go_enter Try.func4, Try.ntmps4
    go_wp2_with fail
    refine HR.out.mono ?_
    rintro e w1 ⟨rfl, hb1⟩
    have HB1 := hide hb1
    clear hb1 HR
    go_wp2_with (first | (go_at_call 7; refine (HE.out _).mono ?_; rintro e w2 ⟨rfl, hw2⟩; have hw3 := hw2.symm; subst hw3; clear hw2) | (go_at_call 11; refine (HCk.out _ HB1.out).mono ?_; rintro e w4 ⟨rfl, hb4⟩; replace HB1 := hide (below_tr HB1.out hb4); clear hb4) | (go_at_call 9; refine (HBe.out _).mono ?_; rintro e w5 ⟨rfl, hb5⟩; replace HB1 := hide (below_tr HB1.out hb5); clear hb5))
    go_ret
    exact ⟨rfl, HB1.out⟩
set_option maxRecDepth 100000 in
set_option maxHeartbeats 40000000 in
theorem roads_law_good (w : World) (enc : Int) (he : isEnc enc) (v : Value) (A : RL) (hv : Reads w v A) (hC : A.length ≤ 400 ∧ Canon A) (p : Int) (s : ByteArray) (hs : s.size ≤ 1000000000000000)
    (hR : Calls Try.prog 10 #[.int .i64 enc, v] w fun e w' => Below w.heap.size w w' ∧ ∃ ao c LL MM us, e = .returned (.tuple #[.slice ao MM.length c, .int .i64 0]) ∧ RAll A (shapesP enc) LL ∧ MM.Perm LL ∧ Rise MM ∧ RowR w.heap.size w' (.slice ao MM.length c) MM us)
    (hck : ∀ W, Below w.heap.size w W → Calls Try.prog 11 #[v] W fun e w' => e = .returned (.int .i64 0) ∧ Below W.heap.size W w') (hbig : ∀ LL MM : List RL, RAll A (shapesP enc) LL → MM.Perm LL → MM.length ≤ 10000000000) :
    Calls Try.prog 4 #[.int .i64 enc, v, .int .i64 p, .string s] w fun e w' => YesE w e w' := by
  have HR := hide hR
  have HBe := hide splitBegun_any
  have HE := hide (isEncR_any enc)
  rw [EE.encB_iff.2 he] at HE
  have HCk := hide hck
  have HEn := hide he
  have HWi : Hid (∀ W, Below w.heap.size w W → ∀ q, Calls Try.prog 15 #[v, .int .i64 q] W fun e w' => e = .returned (.bool (ins A q)) ∧ ∃ k, w' = W.drewN k) := fun W hW q => within_any v A q W (hv.below hW) (by omega)
  have HSc := hide (EE.isScalarR_any enc p)
  have HCa := hide hC.2
  have HBg := hide hbig
  clear hR hck hv hC he hbig
  go_enter Try.func4, Try.ntmps4
  go_wp2_with fail
  refine HR.out.mono ?_
  rintro e w1 ⟨hb1, ao, c, LL, MM, us, rfl, hAll, hPm, hRi, hRow⟩
  have hok : ∀ L ∈ MM, okRoad L := fun L hL => hAll.len_ok HEn.out L (hPm.mem_iff.1 hL)
  have hrd := hRow.rdC hok
  have HRd := hide hrd
  have HOk : Hid (∀ i (h : i < MM.length), okRoad MM[i]) := fun i h => hok _ (List.getElem_mem h)
  have HRs : Hid (∀ i (h : i + 1 < MM.length), cmpL (MM[i]'(by omega)) MM[i + 1] < 0) := fun i h => roads_rise HEn.out HCa.out hAll hPm hRi i h
  have HGo : Hid (∀ t : ByteArray, t.size ≤ 4 → ∀ W, Below w1.heap.size w1 W → Calls Try.prog 8 #[.slice ao MM.length c, .string t] W fun e w' => e = .returned (.int .i64 (MM.countP (goesB · (tl t)))) ∧ Below W.heap.size W w') := fun t ht W hW => goes_g _ MM t W (hrd.below hW) hok ht (HBg.out LL MM hAll hPm)
  have HCt : Hid (∀ t : ByteArray, (((MM.countP (goesB · (tl t)) : Nat) : Int) = 1 ∧ ∃ p, Scal enc p ∧ ins A p = true ∧ tl t = bytesR enc p) ∨ (((MM.countP (goesB · (tl t)) : Nat) : Int) = 0 ∧ ¬ ∃ p, Scal enc p ∧ ins A p = true ∧ tl t = bytesR enc p)) := fun t => by
    rw [hPm.countP_eq, roads_count HEn.out _ HCa.out hAll]
    by_cases hc : ∃ p, Scal enc p ∧ ins A p = true ∧ tl t = bytesR enc p
    · rw [if_pos hc]; exact .inl ⟨rfl, hc⟩
    · rw [if_neg hc]; exact .inr ⟨rfl, hc⟩
  have HBt : Hid (∀ W, Below w1.heap.size w1 W → Below w.heap.size w W) := fun W hW => below_tr hb1 hW
  have hml : MM.length ≤ 10000000000 := HBg.out LL MM hAll hPm
  obtain ⟨m, hm⟩ : ∃ m, m = MM.length := ⟨_, rfl⟩
  have HM := hide hm
  rw [← hm] at HRd HGo hml ⊢
  have HBc : Hid (Below w1.heap.size w1 w1) := Below.refl _ _
  clear hAll hPm hRi hRow hok hrd hb1 hm HR HBg
  go_upto_region 7 with (first | (go_at_call 7; refine (HE.out _).mono ?_; rintro e w2 ⟨rfl, hw2⟩; have hw3 := hw2.symm; subst hw3; clear hw2) | (go_at_call 11; refine (HCk.out _ (HBt.out _ HBc.out)).mono ?_; rintro e w4 ⟨rfl, hb4⟩; replace HBc := hide (below_tr HBc.out hb4); clear hb4) | (go_at_call 9; refine (HBe.out _).mono ?_; rintro e w5 ⟨rfl, hb5⟩; replace HBc := hide (below_tr HBc.out hb5); clear hb5))
  clear HE HCk HBe
  go_wp2
  go_loopw [12] (fun q wr => ∃ i : Nat, i ≤ m ∧ q = .int .i64 i ∧ Below w1.heap.size w1 wr) (fun q _ => m - (intOf q).toNat)
  case atStart => exact ⟨0, Nat.zero_le _, rfl, HBc.out⟩
  case round =>
    obtain ⟨i, hi, rfl, hbi⟩ := hrel
    obtain ⟨w6, hw6⟩ : ∃ w6, w6 = wr := ⟨_, rfl⟩
    subst hw6
    clear HBc
    have HBc := hide hbi
    clear hbi
    by_cases hlt : i < m
    · have hiM : i < MM.length := by have := HM.out; omega
      obtain ⟨x, hao, hcc, hU⟩ : ∃ x, ao = some x ∧ (m ≤ c ∧ c ≤ 9223372036854775807) ∧ ∀ j (h : j < MM.length), ∃ u, (∀ W, Below w1.heap.size w1 W → W.cell? (x.add (j * 1)) = some u) ∧ ∀ W, Below w1.heap.size w1 W → Reads W u MM[j] := by
        rcases HRd.out with ⟨_, h0⟩ | ⟨x, c', h1, h2, h3⟩
        · rw [h0] at hiM; simp at hiM
        · injection h1 with h1 h4 h5
          refine ⟨x, h1, by rw [h4, h5]; exact h2, fun j hj => ?_⟩
          obtain ⟨u, a1, a2, a3⟩ := h3 j hj
          exact ⟨u, fun W hW => below_cell hW (lt_of_cell a1) a1, fun W hW => a2.below hW⟩
      subst hao
      obtain ⟨u, hu, hru⟩ := hU i hiM
      have hok := HOk.out i hiM
      obtain ⟨ux, uc, rfl, hcl0⟩ := (hru w1 (Below.refl _ _)).some (by have := hok.1; omega)
      have hcl : ∀ W, Below w1.heap.size w1 W → Cells2 W ux MM[i] := fun W hW => hcl0.below hW
      obtain ⟨L, hL⟩ : ∃ L, L = MM[i] := ⟨_, rfl⟩
      obtain ⟨um, hum⟩ : ∃ um, um = L.length := ⟨_, rfl⟩
      rw [← hL] at hu hcl hok
      rw [← hum] at hu
      simp only [Nat.mul_one] at hu
      have hum4 : 1 ≤ um ∧ um ≤ 4 := by rw [hum]; exact hok.1
      have HU := hide hu
      have HCl := hide hcl
      have HUm := hide hum
      have HOkL : Hid (∀ k (h : k < L.length), 0 ≤ L[k].1 ∧ L[k].2 ≤ 255 ∧ L[k].1 ≤ L[k].2) := fun k h => hok.2 _ (List.getElem_mem h)
      -- the road ahead
      have HPr : Hid (0 < i → ∃ vx vc vm, (1 ≤ vm ∧ vm ≤ 4) ∧ (∀ W, Below w1.heap.size w1 W → W.cell? (x.add (i - 1)) = some (.slice (some vx) vm vc)) ∧ ∀ W, Below w1.heap.size w1 W → Calls Try.prog 12 #[.slice (some vx) vm vc, .slice (some ux) um uc] W fun e w' => e = .returned (.bool true) ∧ ∃ q, w' = W.drewN q) := fun h0 => by
        have hi1 : i - 1 < MM.length := by omega
        obtain ⟨u1, hu1, hr1⟩ := hU (i - 1) hi1
        have hok1 := HOk.out (i - 1) hi1
        obtain ⟨vx, vc, rfl, hvl⟩ := (hr1 w1 (Below.refl _ _)).some (by have := hok1.1; omega)
        refine ⟨vx, vc, _, hok1.1, fun W hW => by have := hu1 W hW; simpa using this, fun W hW => ?_⟩
        have hlt' := HRs.out (i - 1) (by omega)
        have e1 : i - 1 + 1 = i := by omega
        have h := rises_g vx ux MM[i - 1].length um vc uc MM[i - 1] L W (hvl.below hW) (hcl W hW) rfl hum ⟨hok1.1.2, hum4.2⟩
        have e2 : decide (cmpL MM[i - 1] L < 0) = true := by
          apply decide_eq_true
          rw [hL]
          simp only [e1] at hlt'
          exact hlt'
        rw [e2] at h
        exact h
      have e5 : (i : Int) < (m : Int) := by omega
      have e6 : (0 : Int) ≤ (i : Int) := by omega
      have hkw : IntKind.i64.wrap ((i : Int) + 1) = (i : Int) + 1 := by rw [IntKind.wrap_i64]; omega
      have l1 : ¬ (um : Int) < 1 := by omega
      have l4 : ¬ (4 : Int) < (um : Int) := by omega
      have y6 := HU.out _ HBc.out
      clear hu hcl hum hL hok hcl0 hU hru hiM
      go_upto_region 13 with fail
      go_wp2
      go_loopw [13] (fun q wr => ∃ k : Nat, k ≤ um ∧ q = .int .i64 k ∧ Below w1.heap.size w1 wr) (fun q _ => um - (intOf q).toNat)
      case atStart => exact ⟨0, Nat.zero_le _, rfl, HBc.out⟩
      case round =>
        obtain ⟨k, hk, rfl, hbk⟩ := hrel
        obtain ⟨w7, hw7⟩ : ∃ w7, w7 = wr := ⟨_, rfl⟩
        subst hw7
        clear HBc y6
        have HBc := hide hbk
        clear hbk
        have y7 := HU.out _ HBc.out
        by_cases hlt2 : k < um
        · have hkL : k < L.length := by have := HUm.out; omega
          obtain ⟨m0, m1⟩ := HCl.out _ HBc.out k hkL
          have hr := HOkL.out k hkL
          obtain ⟨r, hre⟩ : ∃ r, r = L[k] := ⟨_, rfl⟩
          rw [← hre] at m0 m1 hr
          obtain ⟨lo, hi2⟩ := r
          simp only at m0 m1 hr
          have e7 : (k : Int) < (um : Int) := by omega
          have e8 : (0 : Int) ≤ (k : Int) := by omega
          have hkw2 : IntKind.i64.wrap ((k : Int) + 1) = (k : Int) + 1 := by rw [IntKind.wrap_i64]; omega
          have b1 : decide (lo < 0) = false := decide_eq_false (by omega)
          have b2 : decide (255 < hi2) = false := decide_eq_false (by omega)
          have b3 : decide (hi2 < lo) = false := decide_eq_false (by omega)
          have g1 : ¬ lo < 0 := by omega
          have g2 : ¬ 255 < hi2 := by omega
          have g3 : ¬ hi2 < lo := by omega
          clear hre hkL
          go_upto_region 15 with fail
          go_quiet (fail)
          go_wp2
          go_roundw
          case rel => exact ⟨k + 1, by omega, by go_num, below_drewN HBc.out _⟩
          case measure => simp [intOf]; omega
        · have e7 : ¬ (k : Int) < (um : Int) := by omega
          by_cases h0 : 0 < i
          · obtain ⟨vx, vc, vm, hvm, hv1, hrs⟩ := HPr.out h0
            have z7 := hv1 _ HBc.out
            have HRq : Hid (∀ q, Calls Try.prog 12 #[.slice (some vx) vm vc, .slice (some ux) um uc] (w7.drewN q) fun e w' => e = .returned (.bool true) ∧ ∃ k, w' = (w7.drewN q).drewN k) := fun q => hrs _ (below_drewN HBc.out q)
            have h0i : (0 : Int) < (i : Int) := by omega
            have hb0 : decide ((0 : Int) < (i : Int)) = true := decide_eq_true h0i
            have hsub : IntKind.i64.wrap ((i : Int) - 1) = (i : Int) - 1 := by rw [IntKind.wrap_i64]; omega
            have hs0 : (0 : Int) ≤ (i : Int) - 1 := by omega
            have hs1 : (i : Int) - 1 < (m : Int) := by omega
            have hnt : ((i : Int) - 1).toNat = i - 1 := by omega
            clear hv1 hrs HPr
            go_upto_region 17 with fail
            go_quiet (first | (go_at_call 12; refine Calls.quiet_of (HRq.out _)))
            go_wp2
            go_roundw
            case rel => exact ⟨i + 1, by omega, by go_num, below_drewN HBc.out _⟩
            case measure => simp [intOf]; omega
          · have h0i : ¬ (0 : Int) < (i : Int) := by omega
            have hb0 : decide ((0 : Int) < (i : Int)) = false := decide_eq_false h0i
            have hb1 : decide (0 < i) = false := decide_eq_false h0
            clear HPr
            go_upto_region 17 with fail
            go_quiet (fail)
            go_wp2
            go_roundw
            case rel => exact ⟨i + 1, by omega, by go_num, below_drewN HBc.out _⟩
            case measure => simp [intOf]; omega
    · have e5 : ¬ (i : Int) < (m : Int) := by omega
      clear hlt
      cases hh : EE.holdB enc p with
      | true =>
        have hsc := EE.holdB_iff.1 hh
        rw [hh] at HSc
        have HTx := hide (textOf_one enc p HEn.out hsc)
        have HInj : Hid (∀ p', Scal enc p' → bytesR enc p = bytesR enc p' → p = p') := fun p' h1 h2 => bytesR_inj HEn.out hsc h1 h2
        have HScp := hide hsc
        clear hh hsc
        go_wp2_with (first | (go_at_call 13; refine (HSc.out _).mono ?_; rintro e w2 ⟨rfl, hw2⟩; have hw3 := hw2.symm; subst hw3; clear hw2) | (go_at_call 14; refine (HTx.out _ _ (World.cell?_alloc_at _ _ _ _ rfl)).mono ?_; rintro e w7 ⟨⟨T0, rfl, hT0, hT1⟩, hb7⟩; have HB7 := hide (HBc.out.trans ((((Below.refl _ w6).alloc (Nat.le_refl _) _).trans (hb7.mono (by simp))).mono HBc.out.size)); have HT0 := hide hT0; have HT1 := hide hT1; clear hb7 hT0 hT1))
        clear HBc
        have HBc := HB7
        have HG0 := hide (HGo.out T0 HT0.out)
        refine (HG0.out _ HBc.out).mono ?_
        rintro e w8 ⟨rfl, hb8⟩
        replace HBc := hide (below_tr HBc.out hb8)
        have HWp := hide (HWi.out _ (HBt.out _ HBc.out) p)
        clear hb8 HG0 HB7
        rcases HCt.out T0 with ⟨hc, p0, hp1, hp2, hp3⟩ | ⟨hc, hno⟩
        · have hpp := HInj.out p0 hp1 (by rw [← HT1.out]; exact hp3)
          subst hpp
          rw [hp2] at HWp
          rw [hc]
          clear hp1 hp2 hp3 hc
          go_upto_region 24 with (go_at_call 15; refine HWp.out.mono ?_; rintro e w9 ⟨rfl, k, hk⟩; replace HBc : Hid (Below w1.heap.size w1 w9) := (by rw [hk]; exact below_drewN HBc.out k); clear hk)
          by_cases hbig : 4 < s.size
          · have hbI : (4 : Int) < (s.size : Int) := by omega
            have hT4 : (s.extract 0 4).size ≤ 4 := by rw [ByteArray.size_extract]; omega
            obtain ⟨T, hT⟩ : ∃ T, T = s.extract 0 4 := ⟨_, rfl⟩
            rw [← hT] at hT4
            go_upto_region 26 with fail
            rw [← hT]
            clear hT hbig hbI
            have HSt := hide (standing_g enc HEn.out T hT4)
            have HG := hide (HGo.out T hT4)
            go_wp2_with fail
            refine (HSt.out _).mono ?_
            rintro e w6 ⟨⟨q, n, rfl, hq⟩, hb6⟩
            have HQ := hide hq
            replace HBc := hide (below_tr HBc.out hb6)
            clear hq hb6 HSt
            go_wp2_with fail
            refine (HG.out _ HBc.out).mono ?_
            rintro e w7 ⟨rfl, hb7⟩
            replace HBc := hide (below_tr HBc.out hb7)
            clear hb7 HG
            rcases HCt.out T with ⟨hc, p0, hp1, hp2, hp3⟩ | ⟨hc, _⟩
            · obtain ⟨rfl, rfl⟩ := HQ.out p0 hp1 hp3
              have HWq := hide (HWi.out _ (HBt.out _ HBc.out) q)
              rw [hp2] at HWq
              rw [hc]
              clear HQ hp1 hp2 hp3 hc
              go_wp2_with (go_at_call 15; refine HWq.out.mono ?_; rintro e w8 ⟨rfl, k, hk⟩; replace HBc : Hid (Below w1.heap.size w1 w8) := (by rw [hk]; exact below_drewN HBc.out k); clear hk)
              go_ret
              exact ⟨by first | rfl | simp, HBt.out _ HBc.out⟩
            · rw [hc]
              clear HQ hc
              go_wp2
              go_ret
              exact ⟨by first | rfl | simp, HBt.out _ HBc.out⟩
          · have hbI : ¬ (4 : Int) < (s.size : Int) := by omega
            have hT4 : s.size ≤ 4 := by omega
            go_upto_region 26 with fail
            clear hbig hbI
            have HSt := hide (standing_g enc HEn.out s hT4)
            have HG := hide (HGo.out s hT4)
            go_wp2_with fail
            refine (HSt.out _).mono ?_
            rintro e w6 ⟨⟨q, n, rfl, hq⟩, hb6⟩
            have HQ := hide hq
            replace HBc := hide (below_tr HBc.out hb6)
            clear hq hb6 HSt
            go_wp2_with fail
            refine (HG.out _ HBc.out).mono ?_
            rintro e w7 ⟨rfl, hb7⟩
            replace HBc := hide (below_tr HBc.out hb7)
            clear hb7 HG
            rcases HCt.out s with ⟨hc, p0, hp1, hp2, hp3⟩ | ⟨hc, _⟩
            · obtain ⟨rfl, rfl⟩ := HQ.out p0 hp1 hp3
              have HWq := hide (HWi.out _ (HBt.out _ HBc.out) q)
              rw [hp2] at HWq
              rw [hc]
              clear HQ hp1 hp2 hp3 hc
              go_wp2_with (go_at_call 15; refine HWq.out.mono ?_; rintro e w8 ⟨rfl, k, hk⟩; replace HBc : Hid (Below w1.heap.size w1 w8) := (by rw [hk]; exact below_drewN HBc.out k); clear hk)
              go_ret
              exact ⟨by first | rfl | simp, HBt.out _ HBc.out⟩
            · rw [hc]
              clear HQ hc
              go_wp2
              go_ret
              exact ⟨by first | rfl | simp, HBt.out _ HBc.out⟩
        · have hf : ins A p = false := by
            rw [Bool.eq_false_iff]
            exact fun hh => hno ⟨p, HScp.out, hh, HT1.out⟩
          rw [hf] at HWp
          rw [hc]
          clear hc hno hf
          go_upto_region 24 with (go_at_call 15; refine HWp.out.mono ?_; rintro e w9 ⟨rfl, k, hk⟩; replace HBc : Hid (Below w1.heap.size w1 w9) := (by rw [hk]; exact below_drewN HBc.out k); clear hk)
          by_cases hbig : 4 < s.size
          · have hbI : (4 : Int) < (s.size : Int) := by omega
            have hT4 : (s.extract 0 4).size ≤ 4 := by rw [ByteArray.size_extract]; omega
            obtain ⟨T, hT⟩ : ∃ T, T = s.extract 0 4 := ⟨_, rfl⟩
            rw [← hT] at hT4
            go_upto_region 26 with fail
            rw [← hT]
            clear hT hbig hbI
            have HSt := hide (standing_g enc HEn.out T hT4)
            have HG := hide (HGo.out T hT4)
            go_wp2_with fail
            refine (HSt.out _).mono ?_
            rintro e w6 ⟨⟨q, n, rfl, hq⟩, hb6⟩
            have HQ := hide hq
            replace HBc := hide (below_tr HBc.out hb6)
            clear hq hb6 HSt
            go_wp2_with fail
            refine (HG.out _ HBc.out).mono ?_
            rintro e w7 ⟨rfl, hb7⟩
            replace HBc := hide (below_tr HBc.out hb7)
            clear hb7 HG
            rcases HCt.out T with ⟨hc, p0, hp1, hp2, hp3⟩ | ⟨hc, _⟩
            · obtain ⟨rfl, rfl⟩ := HQ.out p0 hp1 hp3
              have HWq := hide (HWi.out _ (HBt.out _ HBc.out) q)
              rw [hp2] at HWq
              rw [hc]
              clear HQ hp1 hp2 hp3 hc
              go_wp2_with (go_at_call 15; refine HWq.out.mono ?_; rintro e w8 ⟨rfl, k, hk⟩; replace HBc : Hid (Below w1.heap.size w1 w8) := (by rw [hk]; exact below_drewN HBc.out k); clear hk)
              go_ret
              exact ⟨by first | rfl | simp, HBt.out _ HBc.out⟩
            · rw [hc]
              clear HQ hc
              go_wp2
              go_ret
              exact ⟨by first | rfl | simp, HBt.out _ HBc.out⟩
          · have hbI : ¬ (4 : Int) < (s.size : Int) := by omega
            have hT4 : s.size ≤ 4 := by omega
            go_upto_region 26 with fail
            clear hbig hbI
            have HSt := hide (standing_g enc HEn.out s hT4)
            have HG := hide (HGo.out s hT4)
            go_wp2_with fail
            refine (HSt.out _).mono ?_
            rintro e w6 ⟨⟨q, n, rfl, hq⟩, hb6⟩
            have HQ := hide hq
            replace HBc := hide (below_tr HBc.out hb6)
            clear hq hb6 HSt
            go_wp2_with fail
            refine (HG.out _ HBc.out).mono ?_
            rintro e w7 ⟨rfl, hb7⟩
            replace HBc := hide (below_tr HBc.out hb7)
            clear hb7 HG
            rcases HCt.out s with ⟨hc, p0, hp1, hp2, hp3⟩ | ⟨hc, _⟩
            · obtain ⟨rfl, rfl⟩ := HQ.out p0 hp1 hp3
              have HWq := hide (HWi.out _ (HBt.out _ HBc.out) q)
              rw [hp2] at HWq
              rw [hc]
              clear HQ hp1 hp2 hp3 hc
              go_wp2_with (go_at_call 15; refine HWq.out.mono ?_; rintro e w8 ⟨rfl, k, hk⟩; replace HBc : Hid (Below w1.heap.size w1 w8) := (by rw [hk]; exact below_drewN HBc.out k); clear hk)
              go_ret
              exact ⟨by first | rfl | simp, HBt.out _ HBc.out⟩
            · rw [hc]
              clear HQ hc
              go_wp2
              go_ret
              exact ⟨by first | rfl | simp, HBt.out _ HBc.out⟩
      | false =>
        rw [hh] at HSc
        clear hh
        go_upto_region 24 with (go_at_call 13; refine (HSc.out _).mono ?_; rintro e w2 ⟨rfl, hw2⟩; have hw3 := hw2.symm; subst hw3; clear hw2)
        by_cases hbig : 4 < s.size
        · have hbI : (4 : Int) < (s.size : Int) := by omega
          have hT4 : (s.extract 0 4).size ≤ 4 := by rw [ByteArray.size_extract]; omega
          obtain ⟨T, hT⟩ : ∃ T, T = s.extract 0 4 := ⟨_, rfl⟩
          rw [← hT] at hT4
          go_upto_region 26 with fail
          rw [← hT]
          clear hT hbig hbI
          have HSt := hide (standing_g enc HEn.out T hT4)
          have HG := hide (HGo.out T hT4)
          go_wp2_with fail
          refine (HSt.out _).mono ?_
          rintro e w6 ⟨⟨q, n, rfl, hq⟩, hb6⟩
          have HQ := hide hq
          replace HBc := hide (below_tr HBc.out hb6)
          clear hq hb6 HSt
          go_wp2_with fail
          refine (HG.out _ HBc.out).mono ?_
          rintro e w7 ⟨rfl, hb7⟩
          replace HBc := hide (below_tr HBc.out hb7)
          clear hb7 HG
          rcases HCt.out T with ⟨hc, p0, hp1, hp2, hp3⟩ | ⟨hc, _⟩
          · obtain ⟨rfl, rfl⟩ := HQ.out p0 hp1 hp3
            have HWq := hide (HWi.out _ (HBt.out _ HBc.out) q)
            rw [hp2] at HWq
            rw [hc]
            clear HQ hp1 hp2 hp3 hc
            go_wp2_with (go_at_call 15; refine HWq.out.mono ?_; rintro e w8 ⟨rfl, k, hk⟩; replace HBc : Hid (Below w1.heap.size w1 w8) := (by rw [hk]; exact below_drewN HBc.out k); clear hk)
            go_ret
            exact ⟨by first | rfl | simp, HBt.out _ HBc.out⟩
          · rw [hc]
            clear HQ hc
            go_wp2
            go_ret
            exact ⟨by first | rfl | simp, HBt.out _ HBc.out⟩
        · have hbI : ¬ (4 : Int) < (s.size : Int) := by omega
          have hT4 : s.size ≤ 4 := by omega
          go_upto_region 26 with fail
          clear hbig hbI
          have HSt := hide (standing_g enc HEn.out s hT4)
          have HG := hide (HGo.out s hT4)
          go_wp2_with fail
          refine (HSt.out _).mono ?_
          rintro e w6 ⟨⟨q, n, rfl, hq⟩, hb6⟩
          have HQ := hide hq
          replace HBc := hide (below_tr HBc.out hb6)
          clear hq hb6 HSt
          go_wp2_with fail
          refine (HG.out _ HBc.out).mono ?_
          rintro e w7 ⟨rfl, hb7⟩
          replace HBc := hide (below_tr HBc.out hb7)
          clear hb7 HG
          rcases HCt.out s with ⟨hc, p0, hp1, hp2, hp3⟩ | ⟨hc, _⟩
          · obtain ⟨rfl, rfl⟩ := HQ.out p0 hp1 hp3
            have HWq := hide (HWi.out _ (HBt.out _ HBc.out) q)
            rw [hp2] at HWq
            rw [hc]
            clear HQ hp1 hp2 hp3 hc
            go_wp2_with (go_at_call 15; refine HWq.out.mono ?_; rintro e w8 ⟨rfl, k, hk⟩; replace HBc : Hid (Below w1.heap.size w1 w8) := (by rw [hk]; exact below_drewN HBc.out k); clear hk)
            go_ret
            exact ⟨by first | rfl | simp, HBt.out _ HBc.out⟩
          · rw [hc]
            clear HQ hc
            go_wp2
            go_ret
            exact ⟨by first | rfl | simp, HBt.out _ HBc.out⟩

end Go.Proofs.Ythigleohjagfiaa
