/- SplitAlongs: the walk. -/
import Derived.Test.YthigleohjagfiaaSqc
import Derived.Test.YthigleohjagfiaaSg1
namespace Go.Proofs.Ythigleohjagfiaa
open Go.RowKit Go.PlainAid
set_option linter.unusedVariables false

set_option maxRecDepth 100000 in
theorem isEnc_any (enc : Int) (w : World) : Calls Try.prog 7 #[.int .i64 enc] w fun e w' => e = .returned (.bool (encB enc)) ∧ w' = w := by
  have HE : Hid (encB enc = (decide (1 ≤ enc) && decide (enc ≤ 4))) := by show _ = _; unfold encB; rw [Bool.eq_iff_iff]; simp
  rw [HE.out]
  clear HE
  by_cases h1 : 1 ≤ enc
  · rw [decide_eq_true h1]
    go_enter Try.func7, Try.ntmps7
    go_wp2
    go_ret
    exact ⟨by first | rfl | simp, rfl⟩
  · have b1 : decide (1 ≤ enc) = false := decide_eq_false h1
    rw [b1]
    go_enter Try.func7, Try.ntmps7
    go_wp2
    go_ret
    exact ⟨by first | rfl | simp, rfl⟩
theorem any_take {α : Type} (f : α → Bool) (L : List α) (i : Nat) (h : i < L.length) : (L.take (i + 1)).any f = ((L.take i).any f || f L[i]) := by
  rw [List.take_add_one, List.getElem?_eq_getElem h, List.any_append]
  simp
def FstF (LL : List RL) (s : ByteArray) (a t : Nat) (n : Int) : Prop :=
  (∃ j, ∃ h : j < LL.length, t ≤ j ∧ GoesAt LL[j] s a ∧ (∀ i (hi : i < LL.length), t ≤ i → i < j → ¬ GoesAt LL[i] s a) ∧ n = LL[j].length) ∨ ((∀ i (hi : i < LL.length), t ≤ i → ¬ GoesAt LL[i] s a) ∧ n = 0)
theorem FstF.one {LL : List RL} {s : ByteArray} {a : Nat} {n n' : Int} (h : FstF LL s a 0 n) (h' : (∃ j, ∃ h : j < LL.length, GoesAt LL[j] s a ∧ (∀ i (hi : i < LL.length), i < j → ¬ GoesAt LL[i] s a) ∧ n' = LL[j].length) ∨ ((∀ i (hi : i < LL.length), ¬ GoesAt LL[i] s a) ∧ n' = 0)) : n' = n := by
  rcases h with ⟨j, hj, _, h1, h2, rfl⟩ | ⟨h1, rfl⟩
  · rcases h' with ⟨k, hk, k1, k2, rfl⟩ | ⟨k1, _⟩
    · have : j = k := by
        rcases Nat.lt_trichotomy j k with h | h | h
        · exact absurd h1 (k2 j hj h)
        · exact h
        · exact absurd k1 (h2 k hk (Nat.zero_le _) h)
      subst this; rfl
    · exact absurd h1 (k1 j hj)
  · rcases h' with ⟨k, hk, k1, _, _⟩ | ⟨_, rfl⟩
    · exact absurd k1 (h1 k hk (Nat.zero_le _))
    · rfl
set_option maxRecDepth 100000 in
set_option maxHeartbeats 40000000 in
theorem alongs_walk (enc : Int) (v : Value) (LL : List RL) (s : ByteArray) (a : Int) (w : World) (h : RdC w v LL) (hsz : s.size ≤ 1000000000000000) : Calls Try.prog 3 #[.int .i64 enc, v, .string s, .int .i64 a] w fun e w' => e = .returned (.bool true) ∧ Below w.heap.size w w' := by
  have HAl := hide (along_any enc v LL s a w h (by omega))
  have HRd := hide h
  obtain ⟨ao, c, rfl, hl⟩ := h.shape
  obtain ⟨m, hm⟩ : ∃ m, m = LL.length := ⟨_, rfl⟩
  have HM := hide hm
  rw [← hm] at HAl HRd hl ⊢
  have HSz := hide hsz
  clear h hm hsz
  go_enter Try.func3, Try.ntmps3
  go_wp2_with fail
  refine HAl.out.mono ?_
  rintro e w1 ⟨⟨n, z, rfl, hR⟩, hb1⟩
  have HR := hide hR
  have HW1 := hide hb1
  clear hR hb1 HAl
  go_wp2
  go_loopw [13, 14] (fun f q wr => ∃ i : Nat, i ≤ m ∧ f = .bool ((LL.take i).any noRd) ∧ q = .int .i64 i ∧ Below w.heap.size w wr) (fun _ q _ => m - (intOf q).toNat)
  case atStart => exact ⟨0, Nat.zero_le _, rfl, rfl, HW1.out⟩
  case round =>
    obtain ⟨i, hi, rfl, rfl, hbw⟩ := hrel
    obtain ⟨w3, hw3⟩ : ∃ w3, w3 = wr := ⟨_, rfl⟩
    subst hw3
    have HBw := hide hbw
    clear hbw HW1
    by_cases hlt : i < m
    · have hiL : i < LL.length := by have := HM.out; omega
      have hnext := any_take noRd LL i hiL
      obtain ⟨x, u, hao, hu, hru, hlu⟩ : ∃ x u, ao = some x ∧ (∀ W, Below w3.heap.size w3 W → W.cell? (x.add (i * 1)) = some u) ∧ Reads w3 u LL[i] ∧ LL[i].length ≤ 9223372036854775807 := by
        rcases HRd.out.below HBw.out with ⟨_, h0⟩ | ⟨x, c', h1, h2, h3⟩
        · rw [h0] at hiL; simp at hiL
        · injection h1 with h1
          obtain ⟨u, a1, a2, a3⟩ := h3 i hiL
          exact ⟨x, u, h1, fun W hW => below_cell hW (lt_of_cell a1) a1, a2, a3⟩
      subst hao
      obtain ⟨L, hL⟩ : ∃ L, L = LL[i] := ⟨_, rfl⟩
      rw [← hL] at hnext hru hlu
      obtain ⟨uo, uc, rfl⟩ := hru.shape
      obtain ⟨um, hum⟩ : ∃ um, um = L.length := ⟨_, rfl⟩
      have HUm := hide hum
      rw [← hum] at hu hlu
      have HRu := hide hru
      simp only [Nat.mul_one] at hu
      have hu3 := hu w3 (Below.refl _ _)
      have HU := hide hu
      obtain ⟨z0, hz0⟩ : ∃ z0, z0 = (LL.take i).any noRd := ⟨_, rfl⟩
      rw [← hz0] at hnext ⊢
      have HNx : Hid ((LL.take (i + 1)).any noRd = (z0 || (decide (um < 1) || decide (4 < um) || L.any badR))) := by show _ = _; rw [hnext, hum]; rfl
      have e5 : (i : Int) < (m : Int) := by omega
      have e6 : (0 : Int) ≤ (i : Int) := by omega
      have hkw : IntKind.i64.wrap ((i : Int) + 1) = (i : Int) + 1 := by rw [IntKind.wrap_i64]; omega
      clear hnext hiL hL hum hru hu hz0
      cases z0 with
      | true =>
        have HT : Hid ((LL.take (i + 1)).any noRd = true) := by show _ = _; rw [HNx.out]; simp [*]
        clear HNx
        go_wp2
        go_loopw [13, 15] (fun f q wr => ∃ k : Nat, k ≤ um ∧ f = .bool true ∧ q = .int .i64 k ∧ Below w3.heap.size w3 wr) (fun _ q _ => um - (intOf q).toNat)
        case atStart => exact ⟨0, Nat.zero_le _, rfl, rfl, Below.refl _ _⟩
        case round =>
          obtain ⟨k, hk, rfl, rfl, hb4⟩ := hrel
          obtain ⟨w4, hw4⟩ : ∃ w4, w4 = wr := ⟨_, rfl⟩
          subst hw4
          have HB4 := hide hb4
          have hu4 := HU.out _ hb4
          clear hb4 hu3
          by_cases hlt2 : k < um
          · have e7 : (k : Int) < (um : Int) := by omega
            have e8 : (0 : Int) ≤ (k : Int) := by omega
            have hkw2 : IntKind.i64.wrap ((k : Int) + 1) = (k : Int) + 1 := by rw [IntKind.wrap_i64]; omega
            go_upto_region 11 with fail
            go_quiet (fail)
            go_wp2
            go_roundw
            case rel => exact ⟨k + 1, by omega, by first | rfl | simp [*], by go_num, below_dN HB4.out _⟩
            case measure => simp [intOf]; omega
          · have e7 : ¬ (k : Int) < (um : Int) := by omega
            have e9 : ¬ k < um := hlt2
            go_wp2
            go_roundw
            case rel => exact ⟨i + 1, by omega, by rw [HT.out], by go_num, HBw.out.trans (HB4.out.mono HBw.out.size)⟩
            case measure => simp [intOf]; omega
      | false =>
        by_cases c1 : um < 1
        · have k1 : (um : Int) < 1 := by omega
          have k2 : decide ((um : Int) < 1) = true := decide_eq_true k1
          have k3 : decide (um < 1) = true := decide_eq_true c1
          have HT : Hid ((LL.take (i + 1)).any noRd = true) := by show _ = _; rw [HNx.out]; simp [*]
          clear HNx
          go_wp2
          go_loopw [13, 15] (fun f q wr => ∃ k : Nat, k ≤ um ∧ f = .bool true ∧ q = .int .i64 k ∧ Below w3.heap.size w3 wr) (fun _ q _ => um - (intOf q).toNat)
          case atStart => exact ⟨0, Nat.zero_le _, rfl, rfl, Below.refl _ _⟩
          case round =>
            obtain ⟨k, hk, rfl, rfl, hb4⟩ := hrel
            obtain ⟨w4, hw4⟩ : ∃ w4, w4 = wr := ⟨_, rfl⟩
            subst hw4
            have HB4 := hide hb4
            have hu4 := HU.out _ hb4
            clear hb4 hu3
            by_cases hlt2 : k < um
            · have e7 : (k : Int) < (um : Int) := by omega
              have e8 : (0 : Int) ≤ (k : Int) := by omega
              have hkw2 : IntKind.i64.wrap ((k : Int) + 1) = (k : Int) + 1 := by rw [IntKind.wrap_i64]; omega
              go_upto_region 11 with fail
              go_quiet (fail)
              go_wp2
              go_roundw
              case rel => exact ⟨k + 1, by omega, by first | rfl | simp [*], by go_num, below_dN HB4.out _⟩
              case measure => simp [intOf]; omega
            · have e7 : ¬ (k : Int) < (um : Int) := by omega
              have e9 : ¬ k < um := hlt2
              go_wp2
              go_roundw
              case rel => exact ⟨i + 1, by omega, by rw [HT.out], by go_num, HBw.out.trans (HB4.out.mono HBw.out.size)⟩
              case measure => simp [intOf]; omega
        · have k1 : ¬ (um : Int) < 1 := by omega
          have k2 : decide ((um : Int) < 1) = false := decide_eq_false k1
          have k3 : decide (um < 1) = false := decide_eq_false c1
          by_cases c2 : 4 < um
          · have k5 : (4 : Int) < (um : Int) := by omega
            have k6 : decide (4 < um) = true := decide_eq_true c2
            have HT : Hid ((LL.take (i + 1)).any noRd = true) := by show _ = _; rw [HNx.out]; simp [*]
            clear HNx
            go_wp2
            go_loopw [13, 15] (fun f q wr => ∃ k : Nat, k ≤ um ∧ f = .bool true ∧ q = .int .i64 k ∧ Below w3.heap.size w3 wr) (fun _ q _ => um - (intOf q).toNat)
            case atStart => exact ⟨0, Nat.zero_le _, rfl, rfl, Below.refl _ _⟩
            case round =>
              obtain ⟨k, hk, rfl, rfl, hb4⟩ := hrel
              obtain ⟨w4, hw4⟩ : ∃ w4, w4 = wr := ⟨_, rfl⟩
              subst hw4
              have HB4 := hide hb4
              have hu4 := HU.out _ hb4
              clear hb4 hu3
              by_cases hlt2 : k < um
              · have e7 : (k : Int) < (um : Int) := by omega
                have e8 : (0 : Int) ≤ (k : Int) := by omega
                have hkw2 : IntKind.i64.wrap ((k : Int) + 1) = (k : Int) + 1 := by rw [IntKind.wrap_i64]; omega
                go_upto_region 11 with fail
                go_quiet (fail)
                go_wp2
                go_roundw
                case rel => exact ⟨k + 1, by omega, by first | rfl | simp [*], by go_num, below_dN HB4.out _⟩
                case measure => simp [intOf]; omega
              · have e7 : ¬ (k : Int) < (um : Int) := by omega
                have e9 : ¬ k < um := hlt2
                go_wp2
                go_roundw
                case rel => exact ⟨i + 1, by omega, by rw [HT.out], by go_num, HBw.out.trans (HB4.out.mono HBw.out.size)⟩
                case measure => simp [intOf]; omega
          · have k5 : ¬ (4 : Int) < (um : Int) := by omega
            have k6 : decide (4 < um) = false := decide_eq_false c2
            have k7 : decide ((4 : Int) < (um : Int)) = false := decide_eq_false k5
            have HT : Hid ((LL.take (i + 1)).any noRd = L.any badR) := by show _ = _; rw [HNx.out]; simp [*]
            clear HNx
            go_wp2
            go_loopw [13, 15] (fun f q wr => ∃ k : Nat, k ≤ um ∧ f = .bool ((L.take k).any badR) ∧ q = .int .i64 k ∧ Below w3.heap.size w3 wr) (fun _ q _ => um - (intOf q).toNat)
            case atStart => exact ⟨0, Nat.zero_le _, by first | rfl | simp, rfl, Below.refl _ _⟩
            case round =>
              obtain ⟨k, hk, rfl, rfl, hb4⟩ := hrel
              obtain ⟨w4, hw4⟩ : ∃ w4, w4 = wr := ⟨_, rfl⟩
              subst hw4
              have HB4 := hide hb4
              have hu4 := HU.out _ hb4
              clear hb4 hu3
              by_cases hlt2 : k < um
              · have hkL : k < L.length := by have := HUm.out; omega
                have hnx := any_take badR L k hkL
                obtain ⟨ux, huo, hcl⟩ : ∃ ux, uo = some ux ∧ Cells2 w3 ux L := by
                  rcases HRu.out with ⟨_, h0⟩ | ⟨ux, c', h1, h2⟩
                  · rw [h0] at hkL; simp at hkL
                  · injection h1 with h1; exact ⟨ux, h1, h2⟩
                subst huo
                obtain ⟨m0, m1⟩ := hcl.below HB4.out k hkL
                obtain ⟨r, hr⟩ : ∃ r, r = L[k] := ⟨_, rfl⟩
                rw [← hr] at m0 m1 hnx
                obtain ⟨lo, hi2⟩ := r
                simp only at m0 m1
                obtain ⟨z2, hz2⟩ : ∃ z2, z2 = (L.take k).any badR := ⟨_, rfl⟩
                rw [← hz2] at hnx ⊢
                have HN2 : Hid ((L.take (k + 1)).any badR = (z2 || (decide (lo < 0) || decide (255 < hi2) || decide (hi2 < lo)))) := hnx
                have e7 : (k : Int) < (um : Int) := by omega
                have e8 : (0 : Int) ≤ (k : Int) := by omega
                have hkw2 : IntKind.i64.wrap ((k : Int) + 1) = (k : Int) + 1 := by rw [IntKind.wrap_i64]; omega
                clear hnx hcl hr hz2 hkL
                go_upto_region 11 with fail
                cases z2 with
                | true =>
                  have HF : Hid ((L.take (k + 1)).any badR = true) := by show _ = _; rw [HN2.out]; simp
                  go_quiet (fail)
                  go_wp2
                  go_roundw
                  case rel => exact ⟨k + 1, by omega, by rw [HF.out], by go_num, below_dN HB4.out _⟩
                  case measure => simp [intOf]; omega
                | false =>
                  by_cases d1 : lo < 0
                  · have b1 : decide (lo < 0) = true := decide_eq_true d1
                    have HF : Hid ((L.take (k + 1)).any badR = true) := by show _ = _; rw [HN2.out]; simp [*]
                    go_quiet (fail)
                    go_wp2
                    go_roundw
                    case rel => exact ⟨k + 1, by omega, by rw [HF.out], by go_num, below_dN HB4.out _⟩
                    case measure => simp [intOf]; omega
                  · have b1 : decide (lo < 0) = false := decide_eq_false d1
                    by_cases d2 : 255 < hi2
                    · have b2 : decide (255 < hi2) = true := decide_eq_true d2
                      have HF : Hid ((L.take (k + 1)).any badR = true) := by show _ = _; rw [HN2.out]; simp [*]
                      go_quiet (fail)
                      go_wp2
                      go_roundw
                      case rel => exact ⟨k + 1, by omega, by rw [HF.out], by go_num, below_dN HB4.out _⟩
                      case measure => simp [intOf]; omega
                    · have b2 : decide (255 < hi2) = false := decide_eq_false d2
                      by_cases d3 : hi2 < lo
                      · have b3 : decide (hi2 < lo) = true := decide_eq_true d3
                        have HF : Hid ((L.take (k + 1)).any badR = true) := by show _ = _; rw [HN2.out, b1, b2, b3]; rfl
                        go_quiet (fail)
                        go_wp2
                        go_roundw
                        case rel => exact ⟨k + 1, by omega, by rw [HF.out], by go_num, below_dN HB4.out _⟩
                        case measure => simp [intOf]; omega
                      · have b3 : decide (hi2 < lo) = false := decide_eq_false d3
                        have HF : Hid ((L.take (k + 1)).any badR = false) := by show _ = _; rw [HN2.out, b1, b2, b3]; rfl
                        go_quiet (fail)
                        go_wp2
                        go_roundw
                        case rel => exact ⟨k + 1, by omega, by rw [HF.out], by go_num, below_dN HB4.out _⟩
                        case measure => simp [intOf]; omega
              · have e7 : ¬ (k : Int) < (um : Int) := by omega
                have e9 : ¬ k < um := hlt2
                have hke : k = L.length := by have := HUm.out; omega
                have HTk : Hid ((LL.take (i + 1)).any noRd = (L.take k).any badR) := by show _ = _; rw [HT.out, hke, List.take_length]
                obtain ⟨z2, hz2⟩ : ∃ z2, z2 = (L.take k).any badR := ⟨_, rfl⟩
                rw [← hz2] at HTk ⊢
                clear hz2 hke
                go_wp2
                go_roundw
                case rel => exact ⟨i + 1, by omega, by rw [HTk.out], by go_num, HBw.out.trans (HB4.out.mono HBw.out.size)⟩
                case measure => simp [intOf]; omega
    · have e5 : ¬ (i : Int) < (m : Int) := by omega
      have e5n : ¬ i < m := hlt
      have hie : i = LL.length := by have := HM.out; omega
      have HFm : Hid ((LL.take i).any noRd = LL.any noRd) := by show _ = _; rw [hie, List.take_length]
      rw [HFm.out]
      obtain ⟨F, hF⟩ : ∃ F, F = LL.any noRd := ⟨_, rfl⟩
      have HF := hide hF
      rw [← hF]
      obtain ⟨E, hE⟩ : ∃ E, E = encB enc := ⟨_, rfl⟩
      have HE := hide hE
      have HIs := hide (isEnc_any enc w3)
      rw [← hE] at HIs
      have HBg := hide (fun W => splitBegun_any W)
      have hRR : AlongR enc LL s a n z := HR.out
      unfold AlongR at hRR
      rw [← hF, ← hE] at hRR
      have HRR := hide hRR
      clear hF hE hRR hie HFm
      go_wp2_with fail
      refine HIs.out.mono ?_
      rintro e w4 ⟨rfl, hh⟩
      subst hh
      clear HIs
      cases E with
      | false =>
        have hnz : n = 0 ∧ z = 7 := by
          rcases HRR.out with ⟨_, h1, h2⟩ | ⟨h1, _⟩ | ⟨h1, _⟩ | ⟨h1, _⟩
          · exact ⟨h1, h2⟩
          · exact absurd h1 (by decide)
          · exact absurd h1 (by decide)
          · exact absurd h1 (by decide)
        obtain ⟨rfl, rfl⟩ := hnz
        clear HRR
        go_wp2_with fail
        refine (HBg.out _).mono ?_
        rintro e w5 ⟨rfl, hb5⟩
        have HB5 := hide (HBw.out.trans (hb5.mono HBw.out.size))
        clear hb5 HBg
        go_wp2
        go_ret
        exact ⟨by first | rfl | simp, HB5.out⟩
      | true =>
        cases F with
        | true =>
          have hnz : n = 0 ∧ z = 1 := by
            rcases HRR.out with ⟨h1, _⟩ | ⟨_, _, h1, h2⟩ | ⟨_, h1, _⟩ | ⟨_, h1, _⟩
            · exact absurd h1 (by decide)
            · exact ⟨h1, h2⟩
            · exact absurd h1 (by decide)
            · exact absurd h1 (by decide)
          obtain ⟨rfl, rfl⟩ := hnz
          clear HRR
          go_wp2_with fail
          refine (HBg.out _).mono ?_
          rintro e w5 ⟨rfl, hb5⟩
          have HB5 := hide (HBw.out.trans (hb5.mono HBw.out.size))
          clear hb5 HBg
          go_wp2
          go_ret
          exact ⟨by first | rfl | simp, HB5.out⟩
        | false =>
          by_cases ha0 : a < 0
          · have hnz : n = 0 ∧ z = 3 := by
              rcases HRR.out with ⟨h1, _⟩ | ⟨_, h1, _⟩ | ⟨_, _, _, h1, h2⟩ | ⟨_, _, h1, _⟩
              · exact absurd h1 (by decide)
              · exact absurd h1 (by decide)
              · exact ⟨h1, h2⟩
              · omega
            obtain ⟨rfl, rfl⟩ := hnz
            clear HRR
            go_wp2_with fail
            refine (HBg.out _).mono ?_
            rintro e w5 ⟨rfl, hb5⟩
            have HB5 := hide (HBw.out.trans (hb5.mono HBw.out.size))
            clear hb5 HBg
            go_wp2
            go_ret
            exact ⟨by first | rfl | simp, HB5.out⟩
          · have c0 : decide (a < 0) = false := decide_eq_false ha0
            by_cases ha1 : (s.size : Int) < a
            · have hnz : n = 0 ∧ z = 3 := by
                rcases HRR.out with ⟨h1, _⟩ | ⟨_, h1, _⟩ | ⟨_, _, _, h1, h2⟩ | ⟨_, _, _, h1, _⟩
                · exact absurd h1 (by decide)
                · exact absurd h1 (by decide)
                · exact ⟨h1, h2⟩
                · omega
              obtain ⟨rfl, rfl⟩ := hnz
              clear HRR
              go_wp2_with fail
              refine (HBg.out _).mono ?_
              rintro e w5 ⟨rfl, hb5⟩
              have HB5 := hide (HBw.out.trans (hb5.mono HBw.out.size))
              clear hb5 HBg
              go_wp2
              go_ret
              exact ⟨by first | rfl | simp, HB5.out⟩
            · have c1 : decide ((s.size : Int) < a) = false := decide_eq_false ha1
              obtain ⟨k, rfl⟩ : ∃ k : Nat, a = k := ⟨a.toNat, by omega⟩
              have c2 : decide (s.size < k) = false := decide_eq_false (by omega)
              have c3 : ¬ s.size < k := by omega
              have hfn : z = 0 ∧ ((∃ j, ∃ h : j < LL.length, GoesAt LL[j] s k ∧ (∀ i (hi : i < LL.length), i < j → ¬ GoesAt LL[i] s k) ∧ n = LL[j].length) ∨ ((∀ i (hi : i < LL.length), ¬ GoesAt LL[i] s k) ∧ n = 0)) := by
                rcases HRR.out with ⟨h1, _⟩ | ⟨_, h1, _⟩ | ⟨_, _, h1, _⟩ | ⟨_, _, _, _, hz, h1⟩
                · exact absurd h1 (by decide)
                · exact absurd h1 (by decide)
                · omega
                · exact ⟨hz, by simpa using h1⟩
              obtain ⟨rfl, hfn⟩ := hfn
              have HFn := hide hfn
              have hmw : IntKind.i64.wrap ((m : Int) - 1) = (m : Int) - 1 := by rw [IntKind.wrap_i64]; omega
              have hszb := HSz.out
              clear HRR hfn ha0 ha1 e5 e5n hlt hi
              go_wp2
              go_loopw [12, 16] (fun wv q wr => ∃ (t : Nat) (n' : Int), t ≤ m ∧ wv = .int .i64 n' ∧ q = .int .i64 ((t : Int) - 1) ∧ FstF LL s k t n' ∧ Below w.heap.size w wr) (fun _ q _ => (intOf q + 1).toNat)
              case atStart => exact ⟨m, 0, Nat.le_refl _, rfl, by first | rfl | (congr 1; omega) | go_num, .inr ⟨fun i hi h => absurd hi (by have := HM.out; omega), rfl⟩, HBw.out⟩
              case round =>
                obtain ⟨t, n', ht, rfl, rfl, hfst, hb4⟩ := hrel
                obtain ⟨w4, hw4⟩ : ∃ w4, w4 = wr := ⟨_, rfl⟩
                subst hw4
                have HFs := hide hfst
                have HB4 := hide hb4
                clear hfst hb4 HBw
                cases t with
                | zero =>
                  have hnn : n' = n := (FstF.one HFs.out HFn.out).symm
                  subst hnn
                  rw [show ((0 : Nat) : Int) - 1 = -1 from rfl]
                  clear HFs HFn
                  go_wp2_with fail
                  refine (HBg.out _).mono ?_
                  rintro e w5 ⟨rfl, hb5⟩
                  have HB5 := hide (HB4.out.trans (hb5.mono HB4.out.size))
                  clear hb5 HBg
                  go_wp2
                  go_ret
                  exact ⟨by first | rfl | simp, HB5.out⟩
                | succ i2 =>
                  rw [show ((i2 + 1 : Nat) : Int) - 1 = (i2 : Int) by omega]
                  have hiL : i2 < LL.length := by have := HM.out; omega
                  have hnr : noRd LL[i2] = false := by
                    have := HF.out.symm
                    rw [List.any_eq_false] at this
                    simpa using this LL[i2] (List.getElem_mem hiL)
                  have hln := noRd_len hnr
                  have HGn : Hid (¬ GoesAt LL[i2] s k → FstF LL s k i2 n') := fun hh => by
                    rcases HFs.out with ⟨j, hj, h1, h2, h3, h4⟩ | ⟨h1, h2⟩
                    · refine .inl ⟨j, hj, by omega, h2, fun i hi hti hij => ?_, h4⟩
                      by_cases e : i = i2
                      · subst e; exact hh
                      · exact h3 i hi (by omega) hij
                    · refine .inr ⟨fun i hi hti => ?_, h2⟩
                      by_cases e : i = i2
                      · subst e; exact hh
                      · exact h1 i hi (by omega)
                  have HGy : Hid (GoesAt LL[i2] s k → FstF LL s k i2 LL[i2].length) := fun hh => .inl ⟨i2, hiL, Nat.le_refl _, hh, fun i hi hti hij => absurd hij (by omega), rfl⟩
                  obtain ⟨x, u, hao, hcc, hu, hru⟩ : ∃ x u, ao = some x ∧ (m ≤ c ∧ c ≤ 9223372036854775807) ∧ (∀ W, Below w4.heap.size w4 W → W.cell? (x.add (i2 * 1)) = some u) ∧ Reads w4 u LL[i2] := by
                    rcases HRd.out.below HB4.out with ⟨_, h0⟩ | ⟨x, c', h1, h2, h3⟩
                    · rw [h0] at hiL; simp at hiL
                    · injection h1 with h1 h1b h1c
                      obtain ⟨u, a1, a2, a3⟩ := h3 i2 hiL
                      subst h1c
                      exact ⟨x, u, h1, by have := HM.out; omega, fun W hW => below_cell hW (lt_of_cell a1) a1, a2⟩
                  subst hao
                  obtain ⟨L, hL⟩ : ∃ L, L = LL[i2] := ⟨_, rfl⟩
                  rw [← hL] at hln HGn HGy hru
                  obtain ⟨uo, uc, rfl⟩ := hru.shape
                  obtain ⟨um, hum⟩ : ∃ um, um = L.length := ⟨_, rfl⟩
                  have HUm := hide hum
                  rw [← hum] at hu hln HGy hru
                  have HRu := hide hru
                  simp only [Nat.mul_one] at hu
                  have hu4 := hu w4 (Below.refl _ _)
                  have HU := hide hu
                  have e6 : (0 : Int) ≤ (i2 : Int) := by omega
                  have e7 : (i2 : Int) < (m : Int) := by omega
                  have hkw : IntKind.i64.wrap ((i2 : Int) + 1) = (i2 : Int) + 1 := by rw [IntKind.wrap_i64]; omega
                  have hkw2 : IntKind.i64.wrap ((k : Int) + (um : Int)) = (k : Int) + (um : Int) := by rw [IntKind.wrap_i64]; omega
                  have hkw3 : IntKind.i64.wrap ((i2 : Int) - 1) = (i2 : Int) - 1 := by rw [IntKind.wrap_i64]; omega
                  have g0 : (0 : Int) ≤ (i2 : Int) + 1 := by omega
                  have g1 : (i2 : Int) + 1 ≤ (c : Int) := by omega
                  have g2 : ¬ c = i2 := by omega
                  have g3 : ((k : Int) + (um : Int)).toNat = k + um := by omega
                  have g4 : (0 : Int) ≤ (k : Int) := by omega
                  have g5 : (k : Int) ≤ (k : Int) + (um : Int) := by omega
                  have g6 : (0 : Int) ≤ (k : Int) + (um : Int) := by omega
                  have g7 : k ≤ k + um := by omega
                  clear hnr hL hum hru hu hiL
                  go_upto_region 16 with fail
                  have HBc : Hid (Below w4.heap.size w4 w4.drew) := ⟨rfl, rfl, rfl, Nat.le_refl _, fun _ _ => rfl⟩
                  by_cases hfit : k + um ≤ s.size
                  · have f1 : (k : Int) + (um : Int) ≤ (s.size : Int) := by omega
                    have f2 : decide ((k : Int) + (um : Int) ≤ (s.size : Int)) = true := decide_eq_true f1
                    have hTs : (s.extract k (k + um)).size = um := by rw [ByteArray.size_extract]; omega
                    have hTb : ∀ i, i < um → bt (s.extract k (k + um)) i = bt s (k + i) := fun i hi => by
                      have h1 : i < (s.extract k (k + um)).size := by rw [hTs]; exact hi
                      have h2 : k + i < s.size := by omega
                      unfold bt
                      rw [dif_pos h1, dif_pos h2]
                      have : (s.extract k (k + um))[i]'h1 = s[k + i]'h2 := by simp [ByteArray.getElem_extract]
                      rw [this]
                    have HIn : Hid (InR L (s.extract k (k + um)) L.length ↔ GoesAt L s k) := by
                      have hU := HUm.out
                      constructor
                      · intro hh
                        exact ⟨by omega, fun i hi => by rw [← hTb i (by omega)]; exact hh i hi hi⟩
                      · intro hh i hi _
                        rw [hTb i (by omega)]; exact hh.2 i hi
                    have HGo : Hid (∀ W, Below w4.heap.size w4 W → Calls Try.prog 8 #[.slice (some (x.add i2)) 1 (c - i2), .string (s.extract k (k + um))] W fun e w' => GoN L (s.extract k (k + um)) e ∧ Below W.heap.size W w') := fun W hW => goes_any (x.add i2) (c - i2) _ L _ W (HU.out W hW) (HRu.out.below hW) (by have := HUm.out; omega) (by rw [hTs]; exact HUm.out)
                    clear hTs hTb
                    refine wp_region_any (by kernel_rfl) ?_
                    change wpAny _ _ _ _ _ _ _ (World.drew _)
                    refine wpAny_take (i := 0) (v := .int .i64 (k : Int)) rfl (by kernel_rfl) (by kernel_rfl) (by kernel_rfl) (fun _ _ _ h => h) (Or.inl ⟨by kernel_rfl, fun w => ?_⟩) ?_
                    · go_simp
                    refine wpAny_take (i := 1) (v := .int .i64 (um : Int)) rfl (by kernel_rfl) (by kernel_rfl) (by kernel_rfl) (fun _ _ _ h => h) (Or.inl ⟨by kernel_rfl, fun w => ?_⟩) ?_
                    · go_simp
                    refine wpAny_take (i := 2) (v := .int .i64 ((k : Int) + (um : Int))) rfl (by kernel_rfl) (by kernel_rfl) (by kernel_rfl) (fun _ _ _ h => h) (Or.inl ⟨by kernel_rfl, fun w => ?_⟩) ?_
                    · go_simp
                    refine wpAny_take (i := 3) (v := .string s) rfl (by kernel_rfl) (by kernel_rfl) (by kernel_rfl) (fun _ _ _ h => h) (Or.inl ⟨by kernel_rfl, fun w => ?_⟩) ?_
                    · go_simp
                    refine wpAny_take (i := 4) (v := .int .i64 (s.size : Int)) rfl (by kernel_rfl) (by kernel_rfl) (by kernel_rfl) (fun _ _ _ h => h) (Or.inl ⟨by kernel_rfl, fun w => ?_⟩) ?_
                    · go_simp
                    refine wpAny_take (i := 5) (v := .bool true) rfl (by kernel_rfl) (by kernel_rfl) (by kernel_rfl) (fun _ _ _ h => h) (Or.inl ⟨by kernel_rfl, fun w => ?_⟩) ?_
                    · go_simp
                    refine wpAny_take (i := 6) (v := .bool true) rfl (by kernel_rfl) (by kernel_rfl) (by kernel_rfl) (fun _ _ _ h => h) (Or.inl ⟨by kernel_rfl, fun w => ?_⟩) ?_
                    · go_simp
                    refine wpAny_take (i := 7) (v := .slice (some x) m c) rfl (by kernel_rfl) (by kernel_rfl) (by kernel_rfl) (fun _ _ _ h => h) (Or.inl ⟨by kernel_rfl, fun w => ?_⟩) ?_
                    · go_simp
                    refine wpAny_take (i := 8) (v := .int .i64 (i2 : Int)) rfl (by kernel_rfl) (by kernel_rfl) (by kernel_rfl) (fun _ _ _ h => h) (Or.inl ⟨by kernel_rfl, fun w => ?_⟩) ?_
                    · go_simp
                    refine wpAny_take (i := 9) (v := .int .i64 (i2 : Int)) rfl (by kernel_rfl) (by kernel_rfl) (by kernel_rfl) (fun _ _ _ h => h) (Or.inl ⟨by kernel_rfl, fun w => ?_⟩) ?_
                    · go_simp
                    refine wpAny_take (i := 10) (v := .int .i64 ((i2 : Int) + 1)) rfl (by kernel_rfl) (by kernel_rfl) (by kernel_rfl) (fun _ _ _ h => h) (Or.inl ⟨by kernel_rfl, fun w => ?_⟩) ?_
                    · go_simp
                    refine wpAny_take (i := 11) (v := .slice (some (x.add i2)) 1 (c - i2)) rfl (by kernel_rfl) (by kernel_rfl) (by kernel_rfl) (fun _ _ _ h => h) (Or.inl ⟨by kernel_rfl, fun w => ?_⟩) ?_
                    · go_simp
                    refine wpAny_take (i := 12) (v := .string s) rfl (by kernel_rfl) (by kernel_rfl) (by kernel_rfl) (fun _ _ _ h => h) (Or.inl ⟨by kernel_rfl, fun w => ?_⟩) ?_
                    · go_simp
                    refine wpAny_take (i := 13) (v := .int .i64 (k : Int)) rfl (by kernel_rfl) (by kernel_rfl) (by kernel_rfl) (fun _ _ _ h => h) (Or.inl ⟨by kernel_rfl, fun w => ?_⟩) ?_
                    · go_simp
                    refine wpAny_take (i := 14) (v := .int .i64 (k : Int)) rfl (by kernel_rfl) (by kernel_rfl) (by kernel_rfl) (fun _ _ _ h => h) (Or.inl ⟨by kernel_rfl, fun w => ?_⟩) ?_
                    · go_simp
                    refine wpAny_take (i := 15) (v := .int .i64 (um : Int)) rfl (by kernel_rfl) (by kernel_rfl) (by kernel_rfl) (fun _ _ _ h => h) (Or.inl ⟨by kernel_rfl, fun w => ?_⟩) ?_
                    · go_simp
                    refine wpAny_take (i := 16) (v := .int .i64 ((k : Int) + (um : Int))) rfl (by kernel_rfl) (by kernel_rfl) (by kernel_rfl) (fun _ _ _ h => h) (Or.inl ⟨by kernel_rfl, fun w => ?_⟩) ?_
                    · go_simp
                    refine wpAny_take (i := 17) (v := .string (s.extract k (k + um))) rfl (by kernel_rfl) (by kernel_rfl) (by kernel_rfl) (fun _ _ _ h => h) (Or.inl ⟨by kernel_rfl, fun w => ?_⟩) ?_
                    · go_simp
                    refine wpAny_ready (rs := [18]) (by kernel_rfl) (by simp) ?_
                    refine AllReady.cons rfl (fun K hK => ?_) AllReady.nil
                    go_simp
                    go_wp2_with (go_at_call 8; refine (HGo.out _ HBc.out).mono ?_; rintro e w5 ⟨⟨n1, rfl, hn1⟩, hb5⟩; have HB5 := hide (HB4.out.trans ((HBc.out.trans (hb5.mono HBc.out.size)).mono HB4.out.size)); have HN1 := hide hn1; clear hb5 hn1)
                    try (refine hK _ _ ?_; clear hK K)
                    rcases HN1.out with ⟨rfl, hin⟩ | ⟨rfl, hin⟩
                    · refine wpAny_take (i := 19) (v := .bool true) rfl (by kernel_rfl) (by kernel_rfl) (by kernel_rfl) (fun _ _ _ h => h) (Or.inl ⟨by kernel_rfl, fun w => ?_⟩) ?_
                      · go_simp
                      refine wpAny_take (i := 20) (v := .bool true) rfl (by kernel_rfl) (by kernel_rfl) (by kernel_rfl) (fun _ _ _ h => h) (Or.inl ⟨by kernel_rfl, fun w => ?_⟩) ?_
                      · go_simp
                      refine wpAny_done (by kernel_rfl) ?_ _
                      go_simp
                      have HFF := hide (HGy.out (HIn.out.1 hin))
                      clear hin HN1 HGn HGy HIn
                      go_wp2
                      go_roundw
                      case rel => exact ⟨i2, (um : Int), by omega, by first | rfl | go_num, by first | rfl | go_num, HFF.out, HB5.out⟩
                      case measure => (simp [intOf] <;> omega)
                    · refine wpAny_take (i := 19) (v := .bool false) rfl (by kernel_rfl) (by kernel_rfl) (by kernel_rfl) (fun _ _ _ h => h) (Or.inl ⟨by kernel_rfl, fun w => ?_⟩) ?_
                      · go_simp
                      refine wpAny_take (i := 20) (v := .bool false) rfl (by kernel_rfl) (by kernel_rfl) (by kernel_rfl) (fun _ _ _ h => h) (Or.inl ⟨by kernel_rfl, fun w => ?_⟩) ?_
                      · go_simp
                      refine wpAny_done (by kernel_rfl) ?_ _
                      go_simp
                      have HFF := hide (HGn.out (fun hh => hin (HIn.out.2 hh)))
                      clear hin HN1 HGn HGy HIn
                      go_wp2
                      go_roundw
                      case rel => exact ⟨i2, n', by omega, by first | rfl | go_num, by first | rfl | go_num, HFF.out, HB5.out⟩
                      case measure => (simp [intOf] <;> omega)
                  · have f1 : ¬ (k : Int) + (um : Int) ≤ (s.size : Int) := by omega
                    have f2 : decide ((k : Int) + (um : Int) ≤ (s.size : Int)) = false := decide_eq_false f1
                    have HBd : Hid (Below w.heap.size w w4.drew) := HB4.out.trans (HBc.out.mono HB4.out.size)
                    refine wp_region_any (by kernel_rfl) ?_
                    change wpAny _ _ _ _ _ _ _ (World.drew _)
                    refine wpAny_take (i := 0) (v := .int .i64 (k : Int)) rfl (by kernel_rfl) (by kernel_rfl) (by kernel_rfl) (fun _ _ _ h => h) (Or.inl ⟨by kernel_rfl, fun w => ?_⟩) ?_
                    · go_simp
                    refine wpAny_take (i := 1) (v := .int .i64 (um : Int)) rfl (by kernel_rfl) (by kernel_rfl) (by kernel_rfl) (fun _ _ _ h => h) (Or.inl ⟨by kernel_rfl, fun w => ?_⟩) ?_
                    · go_simp
                    refine wpAny_take (i := 2) (v := .int .i64 ((k : Int) + (um : Int))) rfl (by kernel_rfl) (by kernel_rfl) (by kernel_rfl) (fun _ _ _ h => h) (Or.inl ⟨by kernel_rfl, fun w => ?_⟩) ?_
                    · go_simp
                    refine wpAny_take (i := 3) (v := .string s) rfl (by kernel_rfl) (by kernel_rfl) (by kernel_rfl) (fun _ _ _ h => h) (Or.inl ⟨by kernel_rfl, fun w => ?_⟩) ?_
                    · go_simp
                    refine wpAny_take (i := 4) (v := .int .i64 (s.size : Int)) rfl (by kernel_rfl) (by kernel_rfl) (by kernel_rfl) (fun _ _ _ h => h) (Or.inl ⟨by kernel_rfl, fun w => ?_⟩) ?_
                    · go_simp
                    refine wpAny_take (i := 5) (v := .bool false) rfl (by kernel_rfl) (by kernel_rfl) (by kernel_rfl) (fun _ _ _ h => h) (Or.inl ⟨by kernel_rfl, fun w => ?_⟩) ?_
                    · go_simp
                    refine wpAny_take (i := 6) (v := .bool false) rfl (by kernel_rfl) (by kernel_rfl) (by kernel_rfl) (fun _ _ _ h => h) (Or.inl ⟨by kernel_rfl, fun w => ?_⟩) ?_
                    · go_simp
                    refine wpAny_take (i := 7) (v := undef) rfl (by kernel_rfl) (by kernel_rfl) (by kernel_rfl) (fun _ _ _ h => h) (Or.inr ⟨by kernel_rfl, rfl⟩) ?_
                    refine wpAny_take (i := 8) (v := undef) rfl (by kernel_rfl) (by kernel_rfl) (by kernel_rfl) (fun _ _ _ h => h) (Or.inr ⟨by kernel_rfl, rfl⟩) ?_
                    refine wpAny_take (i := 9) (v := undef) rfl (by kernel_rfl) (by kernel_rfl) (by kernel_rfl) (fun _ _ _ h => h) (Or.inr ⟨by kernel_rfl, rfl⟩) ?_
                    refine wpAny_take (i := 10) (v := undef) rfl (by kernel_rfl) (by kernel_rfl) (by kernel_rfl) (fun _ _ _ h => h) (Or.inr ⟨by kernel_rfl, rfl⟩) ?_
                    refine wpAny_take (i := 11) (v := undef) rfl (by kernel_rfl) (by kernel_rfl) (by kernel_rfl) (fun _ _ _ h => h) (Or.inr ⟨by kernel_rfl, rfl⟩) ?_
                    refine wpAny_take (i := 12) (v := undef) rfl (by kernel_rfl) (by kernel_rfl) (by kernel_rfl) (fun _ _ _ h => h) (Or.inr ⟨by kernel_rfl, rfl⟩) ?_
                    refine wpAny_take (i := 13) (v := undef) rfl (by kernel_rfl) (by kernel_rfl) (by kernel_rfl) (fun _ _ _ h => h) (Or.inr ⟨by kernel_rfl, rfl⟩) ?_
                    refine wpAny_take (i := 14) (v := undef) rfl (by kernel_rfl) (by kernel_rfl) (by kernel_rfl) (fun _ _ _ h => h) (Or.inr ⟨by kernel_rfl, rfl⟩) ?_
                    refine wpAny_take (i := 15) (v := undef) rfl (by kernel_rfl) (by kernel_rfl) (by kernel_rfl) (fun _ _ _ h => h) (Or.inr ⟨by kernel_rfl, rfl⟩) ?_
                    refine wpAny_take (i := 16) (v := undef) rfl (by kernel_rfl) (by kernel_rfl) (by kernel_rfl) (fun _ _ _ h => h) (Or.inr ⟨by kernel_rfl, rfl⟩) ?_
                    refine wpAny_take (i := 17) (v := undef) rfl (by kernel_rfl) (by kernel_rfl) (by kernel_rfl) (fun _ _ _ h => h) (Or.inr ⟨by kernel_rfl, rfl⟩) ?_
                    refine wpAny_take (i := 18) (v := undef) rfl (by kernel_rfl) (by kernel_rfl) (by kernel_rfl) (fun _ _ _ h => h) (Or.inr ⟨by kernel_rfl, rfl⟩) ?_
                    refine wpAny_take (i := 19) (v := undef) rfl (by kernel_rfl) (by kernel_rfl) (by kernel_rfl) (fun _ _ _ h => h) (Or.inr ⟨by kernel_rfl, rfl⟩) ?_
                    refine wpAny_take (i := 20) (v := .bool false) rfl (by kernel_rfl) (by kernel_rfl) (by kernel_rfl) (fun _ _ _ h => h) (Or.inl ⟨by kernel_rfl, fun w => ?_⟩) ?_
                    · go_simp
                    refine wpAny_done (by kernel_rfl) ?_ _
                    go_simp
                    have HFF := hide (HGn.out (fun hh => hfit (by have := hh.1; have := HUm.out; omega)))
                    clear HGn HGy
                    go_wp2
                    go_roundw
                    case rel => exact ⟨i2, n', by omega, by first | rfl | go_num, by first | rfl | go_num, HFF.out, HBd.out⟩
                    case measure => (simp [intOf] <;> omega)

end Go.Proofs.Ythigleohjagfiaa
