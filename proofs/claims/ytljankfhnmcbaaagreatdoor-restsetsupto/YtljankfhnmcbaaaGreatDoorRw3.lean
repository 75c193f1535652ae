/- RestSets: the walk. -/
import Derived.Test.YtljankfhnmcbaaaGreatDoorRwalk
import Derived.Test.YtljankfhnmcbaaaGreatDoorKl
import Derived.Deep.Cut
import Derived.Test.YtljankfhnmcbaaaGreatDoorKg
namespace Go.Proofs.YtljankfhnmcbaaaGreatDoor
open Go.RowKit
set_option linter.unusedVariables false

theorem room_reads {w : World} {B0 g cap : Nat} {A : RL} (h : w.ownsRow B0 25 2 (.slice (some ⟨g, 0, none⟩) (A.length + 1) cap) (A.length + 1) (cells2 A ++ [.int .i64 1, .int .i64 2])) :
    Reads w (.slice (some ⟨g, 0, none⟩) A.length cap) A ∧ (w.cell? ⟨g, A.length * 2, none⟩ = some (.int .i64 1) ∧ w.cell? ⟨g, A.length * 2 + 1, none⟩ = some (.int .i64 2)) ∧ (A.length + 1 ≤ cap ∧ cap ≤ 9223372036854775807) := by
  have hl := cells2_len A
  refine ⟨.inr ⟨⟨g, 0, none⟩, cap, rfl, fun j hj => ?_⟩, ⟨?_, ?_⟩, ?_⟩
  · obtain ⟨h1, h2⟩ := cells2_get A j hj
    have e1 : ((⟨g, 0, none⟩ : Addr).add (j * 2)) = ⟨g, j * 2, none⟩ := by unfold Addr.add; split <;> simp_all
    rw [e1]
    simp only
    rw [h.cellAt (j * 2) (by omega), h.cellAt (j * 2 + 1) (by omega), List.getElem?_append_left (by omega), List.getElem?_append_left (by omega)]
    exact ⟨h1, h2⟩
  · rw [h.cellAt (A.length * 2) (by omega), List.getElem?_append_right (by omega), hl]
    simp
  · rw [h.cellAt (A.length * 2 + 1) (by omega), List.getElem?_append_right (by omega), hl]
    simp
  · rcases h.2 with ⟨h1, _⟩ | ⟨g', cap', cur, h1, h2, h3, h4, h5, _⟩
    · cases h1
    · cases h1
      unfold maxLen at h5
      omega
/-- what Roads answers, in one form. -/
def RdU (B : Nat) (W : World) (ro : Option Addr) (rn : Nat) (z : Int) : Prop := (z ≠ 0 → rn = 0) ∧ rn ≤ 10000000000 ∧ (0 < rn → ∃ g, ro = some ⟨g, 0, none⟩ ∧ SP.RdsB B W g rn)
theorem RdU.kp {B : Nat} {W W' : World} {ro : Option Addr} {rn : Nat} {z : Int} (h : RdU B W ro rn z) (k : KpR B W W') : RdU B W' ro rn z := ⟨h.1, h.2.1, fun h0 => by
  obtain ⟨g, h1, h2⟩ := h.2.2 h0
  exact ⟨g, h1, h2.kp k⟩⟩
theorem rdU_of {B : Nat} {e : Ending} {w' : World} (h : SP.RdF B e w') : ∃ ro rn rc z, e = .returned (.tuple #[.slice ro rn rc, .int .i64 z]) ∧ RdU B w' ro rn z := by
  rcases h with ⟨z, hz, rfl⟩ | ⟨c, rfl⟩ | ⟨g, n, c, rfl, hn, hr⟩
  · exact ⟨none, 0, 0, z, rfl, fun _ => rfl, by decide, fun h => absurd h (by omega)⟩
  · exact ⟨none, 0, c, 0, rfl, fun h => absurd rfl h, by decide, fun h => absurd h (by omega)⟩
  · exact ⟨_, n, c, 0, rfl, fun h => absurd rfl h, hn, fun _ => ⟨g, rfl, hr⟩⟩
theorem same_yes (va vb : Value) (A : RL) (w : World) (hA : Reads w va A) (hB : Reads w vb A) (lA : A.length ≤ 10000000) : Calls Tryz.prog 11 #[va, vb] w fun e w' => e = .returned (.bool true) ∧ Below w.heap.size w w' :=
  (sameSet_big va vb A A w hA hB lA).mono fun e w' ⟨h, q, hq⟩ => ⟨by rw [h]; simp, by rw [hq]; exact below_drewN (Below.refl _ _) q⟩
set_option maxRecDepth 100000 in
set_option maxHeartbeats 40000000 in
theorem rest_walk (va vb : Value) (A B : RL) (enc : Int) (w : World) (hT : Fo.Tab w) (hpos : 0 < w.heap.size) (hA : Reads w va A) (hB : Reads w vb B) (lA : A.length ≤ 1048576) (lB : B.length ≤ 1048576) :
    Calls Tryz.prog 3 #[va, vb, .int .i64 enc] w fun e w' => e = .returned (.bool true) ∧ Below w.heap.size w w' := by
  have HBe := hide SP.splitBegun_any
  have HSe := hide begun_any
  have HB : Hid (Below w.heap.size w w) := Below.refl _ _
  have HA := hide hA
  have HBb := hide hB
  have HT := hide hT
  have HPos := hide hpos
  obtain ⟨nA, hnA⟩ : ∃ nA, nA = A.length := ⟨_, rfl⟩
  obtain ⟨nB, hnB⟩ : ∃ nB, nB = B.length := ⟨_, rfl⟩
  have HnA := hide hnA
  have HnB := hide hnB
  have HlA := hide lA
  have HlB := hide lB
  rw [← hnA] at lA
  rw [← hnB] at lB
  obtain ⟨ao, cA0, hvA⟩ := hA.shape
  obtain ⟨bo, cB0, hvB⟩ := hB.shape
  rw [← hnA] at hvA
  rw [← hnB] at hvB
  clear hA hB hnA hnB hT hpos
  rw [hvA] at HA ⊢
  rw [hvB] at HBb ⊢
  clear hvA hvB
  go_enter Tryz.func3, Tryz.ntmps3
  go_upto_region 3 with (first | (go_at_call 5; refine (HBe.out _).mono ?_; rintro e w5 ⟨rfl, hb5⟩; replace HB := hide (HB.out.trans (hb5.mono HB.out.size)); clear hb5) | (go_at_call 4; refine (HSe.out _).mono ?_; rintro e w6 ⟨rfl, hb6⟩; replace HB := hide (HB.out.trans (hb6.mono HB.out.size)); clear hb6))
  clear HBe HSe
  obtain ⟨g2, c2, w2, hr2, ho2, hb2⟩ := app_any _ A w5 (HA.out.below HB.out) HlA.out
  rw [← HnA.out] at hr2 ho2
  obtain ⟨g3, c3, w3, hr3, ho3, hb3⟩ := app_one w2 w5.heap.size g2 nA c2 A HnA.out lA hb2.size ho2
  have hb3' : Below w.heap.size w w3 := HB.out.trans ((hb2.trans hb3).mono HB.out.size)
  obtain ⟨g4, c4, W0, hr4, ho4, hb4⟩ := app_any _ B w3 (HBb.out.below hb3') HlB.out
  rw [← HnB.out] at hr4 ho4
  have hrd := room_reads (w := w3) (B0 := w5.heap.size) (g := g3) (cap := c3) (A := A) (by rw [← HnA.out]; exact ho3)
  rw [← HnA.out] at hrd
  have HB0 : Hid (Below w.heap.size w W0) := hb3'.trans (hb4.mono hb3'.size)
  have HRx : Hid (∀ W, Below W0.heap.size W0 W → Reads W (.slice (some ⟨g3, 0, none⟩) nA c3) A) := fun W hW => (hrd.1.below hb4).below hW
  have HRy : Hid (∀ W, Below W0.heap.size W0 W → Reads W (.slice (some ⟨g4, 0, none⟩) nB c4) B) := fun W hW => by
    have := own_reads (L := B) (by rw [← HnB.out]; exact ho4)
    exact this.below hW
  have HRm : Hid (∀ W, Below W0.heap.size W0 W → W.cell? ⟨g3, nA * 2, none⟩ = some (.int .i64 1) ∧ W.cell? ⟨g3, nA * 2 + 1, none⟩ = some (.int .i64 2)) := fun W hW => by
    have h1 := below_cell hb4 (lt_of_cell hrd.2.1.1) hrd.2.1.1
    have h2 := below_cell hb4 (lt_of_cell hrd.2.1.2) hrd.2.1.2
    exact ⟨below_cell hW (lt_of_cell h1) h1, below_cell hW (lt_of_cell h2) h2⟩
  have hc3 : nA ≤ c3 ∧ c3 ≤ 9223372036854775807 := by omega
  have hc3i : (nA : Int) ≤ (c3 : Int) := by omega
  have hc3j : (nA : Int) < ((nA : Int) + 1) := by omega
  have hnn : (0 : Int) ≤ (nA : Int) := by omega
  have HR2 := hide hr2
  have HR3 := hide hr3
  have HR4 := hide hr4
  clear hrd ho2 ho3 ho4 hb2 hb3 hb4 hb3' HB hr2 hr3 hr4
  go_upto_region 7 with (at_builtin; first | (refine wpList_run rfl _ _ _ rfl _ _ _ _ rfl rfl HR2.out ?_; clear HR2) | (refine wpList_run rfl _ _ _ rfl _ _ _ _ rfl rfl HR3.out ?_; clear HR3) | (refine wpList_run rfl _ _ _ rfl _ _ _ _ rfl rfl HR4.out ?_; clear HR4))
  go_wp2
  go_loopw [10] (fun q wr => ∃ i : Nat, i ≤ 2 ∧ q = .int .i64 i ∧ KpR W0.heap.size W0 wr) (fun q _ => 2 - (intOf q).toNat)
  case atStart => exact ⟨0, Nat.zero_le _, rfl, KpR.refl _ _⟩
  case round =>
    obtain ⟨i, hi, rfl, hki⟩ := hrel
    obtain ⟨w7, hw7⟩ : ∃ w7, w7 = wr := ⟨_, rfl⟩
    subst hw7
    have HK := hide hki
    clear hki
    by_cases hlt : i < 2
    · have e5 : (i : Int) < 2 := by omega
      have hkw : IntKind.i64.wrap ((i : Int) + 1) = (i : Int) + 1 := by rw [IntKind.wrap_i64]; omega
      have HBa : Hid (Below w7.heap.size w7 w7) := Below.refl _ _
      have HXx : Hid (∀ W, Below w7.heap.size w7 W → Reads W (.slice (some ⟨g3, 0, none⟩) nA c3) A) := fun W hW => HRx.out W (HK.out.below.trans (hW.mono HK.out.below.size))
      have HXy : Hid (∀ W, Below w7.heap.size w7 W → Reads W (.slice (some ⟨g4, 0, none⟩) nB c4) B) := fun W hW => HRy.out W (HK.out.below.trans (hW.mono HK.out.below.size))
      have HXm : Hid (∀ W, Below w7.heap.size w7 W → W.cell? ⟨g3, nA * 2, none⟩ = some (.int .i64 1) ∧ W.cell? ⟨g3, nA * 2 + 1, none⟩ = some (.int .i64 2)) := fun W hW => HRm.out W (HK.out.below.trans (hW.mono HK.out.below.size))
      have hw7w : Below w.heap.size w w7 := HB0.out.trans (HK.out.below.mono HB0.out.size)
      have HXa : Hid (∀ W, Below w7.heap.size w7 W → Reads W (.slice ao nA cA0) A) := fun W hW => HA.out.below (hw7w.trans (hW.mono hw7w.size))
      have HXb : Hid (∀ W, Below w7.heap.size w7 W → Reads W (.slice bo nB cB0) B) := fun W hW => HBb.out.below (hw7w.trans (hW.mono hw7w.size))
      have HXt : Hid (∀ W, Below w7.heap.size w7 W → Fo.Tab W ∧ 0 < W.heap.size) := fun W hW => ⟨HT.out.below (hw7w.trans (hW.mono hw7w.size)) HPos.out, by have := HPos.out; have := hw7w.size; have := hW.size; omega⟩
      have HXw : Hid (∀ W, Below w7.heap.size w7 W → Below w.heap.size w W) := fun W hW => hw7w.trans (hW.mono hw7w.size)
      clear hw7w
      have HC1 := hide (union_any (.slice (some ⟨g3, 0, none⟩) nA c3) (.slice (some ⟨g4, 0, none⟩) nB c4) A B w7 (HXx.out _ HBa.out) (HXy.out _ HBa.out))
      go_wp2_with fail
      refine HC1.out.mono ?_
      rintro e b1 ⟨v1, e1, O1, rfl, ho1, hm1, hb1⟩
      have hk : KpR W0.heap.size w7 b1 := KpR.of_below hb1 HK.out.below.size
      have ho : b1.ownsRow W0.heap.size 25 2 v1 O1.length (cells2 O1) := own_low ho1 HK.out.below.size
      have HRw := hide ((RwL.nil W0.heap.size b1).cons (own_rowAt ho))
      have HR1 := hide (own_reads ho1)
      have HM1 := hide hm1
      replace HK := hide (HK.out.trans hk)
      replace HBa := hide (HBa.out.trans (hb1.mono HBa.out.size))
      clear hk ho ho1 hm1 hb1 HC1
      have HC2 := hide (make_any (.slice (some ⟨g3, 0, none⟩) nA c3) A b1 (HXx.out _ HBa.out))
      go_wp2_with fail
      refine HC2.out.mono ?_
      rintro e b2 ⟨v2, e2, O2, rfl, ho2, hm2, hb2⟩
      have hk : KpR W0.heap.size b1 b2 := KpR.of_below hb2 HK.out.below.size
      have ho : b2.ownsRow W0.heap.size 25 2 v2 O2.length (cells2 O2) := own_low ho2 HK.out.below.size
      replace HRw := hide ((HRw.out.kp hk).cons (own_rowAt ho))
      replace HR1 := hide (HR1.out.below hb2)
      have HR2 := hide (own_reads ho2)
      have HM2 := hide hm2
      replace HK := hide (HK.out.trans hk)
      replace HBa := hide (HBa.out.trans (hb2.mono HBa.out.size))
      clear hk ho ho2 hm2 hb2 HC2
      have HC3 := hide (not_any (.slice (some ⟨g3, 0, none⟩) nA c3) A b2 (HXx.out _ HBa.out))
      go_wp2_with fail
      refine HC3.out.mono ?_
      rintro e b3 ⟨v3, e3, O3, rfl, ho3, hm3, hb3⟩
      have hk : KpR W0.heap.size b2 b3 := KpR.of_below hb3 HK.out.below.size
      have ho : b3.ownsRow W0.heap.size 25 2 v3 O3.length (cells2 O3) := own_low ho3 HK.out.below.size
      replace HRw := hide ((HRw.out.kp hk).cons (own_rowAt ho))
      replace HR1 := hide (HR1.out.below hb3)
      replace HR2 := hide (HR2.out.below hb3)
      have HR3 := hide (own_reads ho3)
      have HM3 := hide hm3
      replace HK := hide (HK.out.trans hk)
      replace HBa := hide (HBa.out.trans (hb3.mono HBa.out.size))
      clear hk ho ho3 hm3 hb3 HC3
      have HC4 := hide (fold_any (.slice (some ⟨g3, 0, none⟩) nA c3) A b3 (HXt.out _ HBa.out).1 (HXt.out _ HBa.out).2 (HXx.out _ HBa.out))
      go_wp2_with fail
      refine HC4.out.mono ?_
      rintro e b4 ⟨v4, e4, O4, rfl, ho4, hm4, hb4⟩
      have hk : KpR W0.heap.size b3 b4 := KpR.of_below hb4 HK.out.below.size
      have ho : b4.ownsRow W0.heap.size 25 2 v4 O4.length (cells2 O4) := own_low ho4 HK.out.below.size
      replace HRw := hide ((HRw.out.kp hk).cons (own_rowAt ho))
      replace HR1 := hide (HR1.out.below hb4)
      replace HR2 := hide (HR2.out.below hb4)
      replace HR3 := hide (HR3.out.below hb4)
      have HR4 := hide (own_reads ho4)
      have HM4 := hide hm4
      replace HK := hide (HK.out.trans hk)
      replace HBa := hide (HBa.out.trans (hb4.mono HBa.out.size))
      clear hk ho ho4 hm4 hb4 HC4
      have HC5 := hide (SP.roads_f enc (.slice (some ⟨g3, 0, none⟩) nA c3) A b4 (HXx.out _ HBa.out) W0.heap.size HK.out.below.size)
      go_wp2_with fail
      refine HC5.out.mono ?_
      rintro e b5 ⟨hrf, hb5⟩
      obtain ⟨ro, rn, rc, z5, rfl, hru⟩ := rdU_of hrf
      have HRu := hide hru
      have hk : KpR W0.heap.size b4 b5 := KpR.of_below hb5 HK.out.below.size
      replace HRw := hide (HRw.out.kp hk)
      replace HR1 := hide (HR1.out.below hb5)
      replace HR2 := hide (HR2.out.below hb5)
      replace HR3 := hide (HR3.out.below hb5)
      replace HR4 := hide (HR4.out.below hb5)
      replace HK := hide (HK.out.trans hk)
      replace HBa := hide (HBa.out.trans (hb5.mono HBa.out.size))
      clear hk hrf hb5 hru HC5
      -- the sets beside the reference's
      have HE1 : Hid (Beside 12 #[(.slice ao nA cA0), (.slice bo nB cB0)] e1 O1 b5) := beside_of HM1.out fun hc W hW => by
        obtain ⟨h1, h2⟩ := chk_two hc
        obtain ⟨l1, k1⟩ := checkE_ok.1 h1
        obtain ⟨l2, k2⟩ := checkE_ok.1 h2
        have hWw := HBa.out.trans (hW.mono HBa.out.size)
        exact (unionOf_any (.slice ao nA cA0) (.slice bo nB cB0) A B W (HXa.out _ hWw) (HXb.out _ hWw) (by omega) (by omega) k1.1 k2.1).mono fun e w' ⟨vt, T, h1, h2, h3, _, h4⟩ => ⟨vt, T, h1, h2, h3, h4⟩
      have HE2 : Hid (Beside 13 #[(.slice ao nA cA0)] e2 O2 b5) := beside_of HM2.out fun hc W hW => by
        obtain ⟨l1, k1⟩ := rightE_ok.1 hc
        have hWw := HBa.out.trans (hW.mono HBa.out.size)
        exact (makeOf_any (.slice ao nA cA0) A W (HXa.out _ hWw) (by omega) k1).mono fun e w' ⟨vt, T, h1, h2, h3, _, h4⟩ => ⟨vt, T, h1, h2, h3, h4⟩
      have HE3 : Hid (Beside 14 #[(.slice ao nA cA0)] e3 O3 b5) := beside_of HM3.out fun hc W hW => by
        obtain ⟨l1, k1⟩ := checkE_ok.1 hc
        have hWw := HBa.out.trans (hW.mono HBa.out.size)
        exact (notOf_any (.slice ao nA cA0) A W (HXa.out _ hWw) (by omega) k1.1).mono fun e w' ⟨vt, T, h1, h2, h3, _, h4⟩ => ⟨vt, T, h1, h2, h3, h4⟩
      have HE4 : Hid (Beside 15 #[(.slice ao nA cA0)] e4 O4 b5) := beside_of HM4.out fun hc W hW => by
        obtain ⟨l1, k1⟩ := checkE_ok.1 hc
        have hWw := HBa.out.trans (hW.mono HBa.out.size)
        exact (foldOf_any (.slice ao nA cA0) A W (HXa.out _ hWw) l1 k1.1).mono fun e w' ⟨vt, T, h1, h2, h3, _, h4⟩ => ⟨vt, T, h1, h2, h3, h4⟩
      clear HM1 HM2 HM3 HM4
      -- what was handed in is as it was
      have HS1 : Hid (∀ W, Below w7.heap.size w7 W → Calls Tryz.prog 11 #[(.slice (some ⟨g3, 0, none⟩) nA c3), (.slice ao nA cA0)] W fun e w' => e = .returned (.bool true) ∧ Below W.heap.size W w') := fun W hW => same_yes _ _ A W (HXx.out _ hW) (HXa.out _ hW) (by have := HlA.out; omega)
      have HS2 : Hid (∀ W, Below w7.heap.size w7 W → Calls Tryz.prog 11 #[(.slice (some ⟨g4, 0, none⟩) nB c4), (.slice bo nB cB0)] W fun e w' => e = .returned (.bool true) ∧ Below W.heap.size W w') := fun W hW => same_yes _ _ B W (HXy.out _ hW) (HXb.out _ hW) (by have := HlB.out; omega)
      have HB5 : Hid (Below b5.heap.size b5 b5) := Below.refl _ _
      go_upto_region 16 with (first | (go_at_call_of 11 (Value.slice (some ⟨g3, 0, none⟩) nA c3); refine (HS1.out _ (HBa.out.trans (HB5.out.mono HBa.out.size))).mono ?_; rintro e b6 ⟨rfl, hb6⟩; replace HB5 := hide (HB5.out.trans (hb6.mono HB5.out.size)); clear hb6) | (go_at_call_of 11 (Value.slice (some ⟨g4, 0, none⟩) nB c4); refine (HS2.out _ (HBa.out.trans (HB5.out.mono HBa.out.size))).mono ?_; rintro e b7 ⟨rfl, hb7⟩; replace HB5 := hide (HB5.out.trans (hb7.mono HB5.out.size)); clear hb7; obtain ⟨d0, d1⟩ := HXm.out _ (HBa.out.trans (HB5.out.mono HBa.out.size))))
      have hk : KpR W0.heap.size b5 b7 := KpR.of_below HB5.out HK.out.below.size
      replace HRw := hide (HRw.out.kp hk)
      replace HRu := hide (HRu.out.kp hk)
      replace HR1 := hide (HR1.out.below HB5.out)
      replace HR2 := hide (HR2.out.below HB5.out)
      replace HR3 := hide (HR3.out.below HB5.out)
      replace HR4 := hide (HR4.out.below HB5.out)
      replace HK := hide (HK.out.trans hk)
      clear hk d0 d1 HS1 HS2
      go_cut [133] from 91 (fun c wx => c = .bool false ∧ Below b7.heap.size b7 wx)
      case first =>
        have HBq : Hid (Below b7.heap.size b7 b7) := Below.refl _ _
        rcases HE1.out with h1 | ⟨rfl, l1, r1⟩
        · have q1 : (e1 == 0) = false := by simpa using h1
          rcases HE2.out with h2 | ⟨rfl, l2, r2⟩
          · have q2 : (e2 == 0) = false := by simpa using h2
            rcases HE3.out with h3 | ⟨rfl, l3, r3⟩
            · have q3 : (e3 == 0) = false := by simpa using h3
              rcases HE4.out with h4 | ⟨rfl, l4, r4⟩
              · have q4 : (e4 == 0) = false := by simpa using h4
                go_wp2_with fail
                go_meet
                case rel => exact ⟨by first | rfl | simp, HBq.out⟩
              · have HF4 := hide r4
                clear r4
                go_wp2_with (first | (go_at_call 15; refine (HF4.out _ (HB5.out.trans (HBq.out.mono HB5.out.size))).mono ?_; rintro e x4 ⟨t4, rfl, hrt, hbt⟩; replace HBq := hide (HBq.out.trans (hbt.mono HBq.out.size)); have HT4 := hide hrt; clear hrt hbt) | (go_at_call_of 11 v4; refine (same_yes v4 t4 O4 _ (HR4.out.below HBq.out) HT4.out (by omega)).mono ?_; rintro e y4 ⟨rfl, hbt⟩; replace HBq := hide (HBq.out.trans (hbt.mono HBq.out.size)); clear hbt))
                go_meet
                case rel => exact ⟨by first | rfl | simp, HBq.out⟩
            · have HF3 := hide r3
              clear r3
              rcases HE4.out with h4 | ⟨rfl, l4, r4⟩
              · have q4 : (e4 == 0) = false := by simpa using h4
                go_wp2_with (first | (go_at_call 14; refine (HF3.out _ (HB5.out.trans (HBq.out.mono HB5.out.size))).mono ?_; rintro e x3 ⟨t3, rfl, hrt, hbt⟩; replace HBq := hide (HBq.out.trans (hbt.mono HBq.out.size)); have HT3 := hide hrt; clear hrt hbt) | (go_at_call_of 11 v3; refine (same_yes v3 t3 O3 _ (HR3.out.below HBq.out) HT3.out (by omega)).mono ?_; rintro e y3 ⟨rfl, hbt⟩; replace HBq := hide (HBq.out.trans (hbt.mono HBq.out.size)); clear hbt))
                go_meet
                case rel => exact ⟨by first | rfl | simp, HBq.out⟩
              · have HF4 := hide r4
                clear r4
                go_wp2_with (first | (go_at_call 14; refine (HF3.out _ (HB5.out.trans (HBq.out.mono HB5.out.size))).mono ?_; rintro e x3 ⟨t3, rfl, hrt, hbt⟩; replace HBq := hide (HBq.out.trans (hbt.mono HBq.out.size)); have HT3 := hide hrt; clear hrt hbt) | (go_at_call_of 11 v3; refine (same_yes v3 t3 O3 _ (HR3.out.below HBq.out) HT3.out (by omega)).mono ?_; rintro e y3 ⟨rfl, hbt⟩; replace HBq := hide (HBq.out.trans (hbt.mono HBq.out.size)); clear hbt) | (go_at_call 15; refine (HF4.out _ (HB5.out.trans (HBq.out.mono HB5.out.size))).mono ?_; rintro e x4 ⟨t4, rfl, hrt, hbt⟩; replace HBq := hide (HBq.out.trans (hbt.mono HBq.out.size)); have HT4 := hide hrt; clear hrt hbt) | (go_at_call_of 11 v4; refine (same_yes v4 t4 O4 _ (HR4.out.below HBq.out) HT4.out (by omega)).mono ?_; rintro e y4 ⟨rfl, hbt⟩; replace HBq := hide (HBq.out.trans (hbt.mono HBq.out.size)); clear hbt))
                go_meet
                case rel => exact ⟨by first | rfl | simp, HBq.out⟩
          · have HF2 := hide r2
            clear r2
            rcases HE3.out with h3 | ⟨rfl, l3, r3⟩
            · have q3 : (e3 == 0) = false := by simpa using h3
              rcases HE4.out with h4 | ⟨rfl, l4, r4⟩
              · have q4 : (e4 == 0) = false := by simpa using h4
                go_wp2_with (first | (go_at_call 13; refine (HF2.out _ (HB5.out.trans (HBq.out.mono HB5.out.size))).mono ?_; rintro e x2 ⟨t2, rfl, hrt, hbt⟩; replace HBq := hide (HBq.out.trans (hbt.mono HBq.out.size)); have HT2 := hide hrt; clear hrt hbt) | (go_at_call_of 11 v2; refine (same_yes v2 t2 O2 _ (HR2.out.below HBq.out) HT2.out (by omega)).mono ?_; rintro e y2 ⟨rfl, hbt⟩; replace HBq := hide (HBq.out.trans (hbt.mono HBq.out.size)); clear hbt))
                go_meet
                case rel => exact ⟨by first | rfl | simp, HBq.out⟩
              · have HF4 := hide r4
                clear r4
                go_wp2_with (first | (go_at_call 13; refine (HF2.out _ (HB5.out.trans (HBq.out.mono HB5.out.size))).mono ?_; rintro e x2 ⟨t2, rfl, hrt, hbt⟩; replace HBq := hide (HBq.out.trans (hbt.mono HBq.out.size)); have HT2 := hide hrt; clear hrt hbt) | (go_at_call_of 11 v2; refine (same_yes v2 t2 O2 _ (HR2.out.below HBq.out) HT2.out (by omega)).mono ?_; rintro e y2 ⟨rfl, hbt⟩; replace HBq := hide (HBq.out.trans (hbt.mono HBq.out.size)); clear hbt) | (go_at_call 15; refine (HF4.out _ (HB5.out.trans (HBq.out.mono HB5.out.size))).mono ?_; rintro e x4 ⟨t4, rfl, hrt, hbt⟩; replace HBq := hide (HBq.out.trans (hbt.mono HBq.out.size)); have HT4 := hide hrt; clear hrt hbt) | (go_at_call_of 11 v4; refine (same_yes v4 t4 O4 _ (HR4.out.below HBq.out) HT4.out (by omega)).mono ?_; rintro e y4 ⟨rfl, hbt⟩; replace HBq := hide (HBq.out.trans (hbt.mono HBq.out.size)); clear hbt))
                go_meet
                case rel => exact ⟨by first | rfl | simp, HBq.out⟩
            · have HF3 := hide r3
              clear r3
              rcases HE4.out with h4 | ⟨rfl, l4, r4⟩
              · have q4 : (e4 == 0) = false := by simpa using h4
                go_wp2_with (first | (go_at_call 13; refine (HF2.out _ (HB5.out.trans (HBq.out.mono HB5.out.size))).mono ?_; rintro e x2 ⟨t2, rfl, hrt, hbt⟩; replace HBq := hide (HBq.out.trans (hbt.mono HBq.out.size)); have HT2 := hide hrt; clear hrt hbt) | (go_at_call_of 11 v2; refine (same_yes v2 t2 O2 _ (HR2.out.below HBq.out) HT2.out (by omega)).mono ?_; rintro e y2 ⟨rfl, hbt⟩; replace HBq := hide (HBq.out.trans (hbt.mono HBq.out.size)); clear hbt) | (go_at_call 14; refine (HF3.out _ (HB5.out.trans (HBq.out.mono HB5.out.size))).mono ?_; rintro e x3 ⟨t3, rfl, hrt, hbt⟩; replace HBq := hide (HBq.out.trans (hbt.mono HBq.out.size)); have HT3 := hide hrt; clear hrt hbt) | (go_at_call_of 11 v3; refine (same_yes v3 t3 O3 _ (HR3.out.below HBq.out) HT3.out (by omega)).mono ?_; rintro e y3 ⟨rfl, hbt⟩; replace HBq := hide (HBq.out.trans (hbt.mono HBq.out.size)); clear hbt))
                go_meet
                case rel => exact ⟨by first | rfl | simp, HBq.out⟩
              · have HF4 := hide r4
                clear r4
                go_wp2_with (first | (go_at_call 13; refine (HF2.out _ (HB5.out.trans (HBq.out.mono HB5.out.size))).mono ?_; rintro e x2 ⟨t2, rfl, hrt, hbt⟩; replace HBq := hide (HBq.out.trans (hbt.mono HBq.out.size)); have HT2 := hide hrt; clear hrt hbt) | (go_at_call_of 11 v2; refine (same_yes v2 t2 O2 _ (HR2.out.below HBq.out) HT2.out (by omega)).mono ?_; rintro e y2 ⟨rfl, hbt⟩; replace HBq := hide (HBq.out.trans (hbt.mono HBq.out.size)); clear hbt) | (go_at_call 14; refine (HF3.out _ (HB5.out.trans (HBq.out.mono HB5.out.size))).mono ?_; rintro e x3 ⟨t3, rfl, hrt, hbt⟩; replace HBq := hide (HBq.out.trans (hbt.mono HBq.out.size)); have HT3 := hide hrt; clear hrt hbt) | (go_at_call_of 11 v3; refine (same_yes v3 t3 O3 _ (HR3.out.below HBq.out) HT3.out (by omega)).mono ?_; rintro e y3 ⟨rfl, hbt⟩; replace HBq := hide (HBq.out.trans (hbt.mono HBq.out.size)); clear hbt) | (go_at_call 15; refine (HF4.out _ (HB5.out.trans (HBq.out.mono HB5.out.size))).mono ?_; rintro e x4 ⟨t4, rfl, hrt, hbt⟩; replace HBq := hide (HBq.out.trans (hbt.mono HBq.out.size)); have HT4 := hide hrt; clear hrt hbt) | (go_at_call_of 11 v4; refine (same_yes v4 t4 O4 _ (HR4.out.below HBq.out) HT4.out (by omega)).mono ?_; rintro e y4 ⟨rfl, hbt⟩; replace HBq := hide (HBq.out.trans (hbt.mono HBq.out.size)); clear hbt))
                go_meet
                case rel => exact ⟨by first | rfl | simp, HBq.out⟩
        · have HF1 := hide r1
          clear r1
          rcases HE2.out with h2 | ⟨rfl, l2, r2⟩
          · have q2 : (e2 == 0) = false := by simpa using h2
            rcases HE3.out with h3 | ⟨rfl, l3, r3⟩
            · have q3 : (e3 == 0) = false := by simpa using h3
              rcases HE4.out with h4 | ⟨rfl, l4, r4⟩
              · have q4 : (e4 == 0) = false := by simpa using h4
                go_wp2_with (first | (go_at_call 12; refine (HF1.out _ (HB5.out.trans (HBq.out.mono HB5.out.size))).mono ?_; rintro e x1 ⟨t1, rfl, hrt, hbt⟩; replace HBq := hide (HBq.out.trans (hbt.mono HBq.out.size)); have HT1 := hide hrt; clear hrt hbt) | (go_at_call_of 11 v1; refine (same_yes v1 t1 O1 _ (HR1.out.below HBq.out) HT1.out (by omega)).mono ?_; rintro e y1 ⟨rfl, hbt⟩; replace HBq := hide (HBq.out.trans (hbt.mono HBq.out.size)); clear hbt))
                go_meet
                case rel => exact ⟨by first | rfl | simp, HBq.out⟩
              · have HF4 := hide r4
                clear r4
                go_wp2_with (first | (go_at_call 12; refine (HF1.out _ (HB5.out.trans (HBq.out.mono HB5.out.size))).mono ?_; rintro e x1 ⟨t1, rfl, hrt, hbt⟩; replace HBq := hide (HBq.out.trans (hbt.mono HBq.out.size)); have HT1 := hide hrt; clear hrt hbt) | (go_at_call_of 11 v1; refine (same_yes v1 t1 O1 _ (HR1.out.below HBq.out) HT1.out (by omega)).mono ?_; rintro e y1 ⟨rfl, hbt⟩; replace HBq := hide (HBq.out.trans (hbt.mono HBq.out.size)); clear hbt) | (go_at_call 15; refine (HF4.out _ (HB5.out.trans (HBq.out.mono HB5.out.size))).mono ?_; rintro e x4 ⟨t4, rfl, hrt, hbt⟩; replace HBq := hide (HBq.out.trans (hbt.mono HBq.out.size)); have HT4 := hide hrt; clear hrt hbt) | (go_at_call_of 11 v4; refine (same_yes v4 t4 O4 _ (HR4.out.below HBq.out) HT4.out (by omega)).mono ?_; rintro e y4 ⟨rfl, hbt⟩; replace HBq := hide (HBq.out.trans (hbt.mono HBq.out.size)); clear hbt))
                go_meet
                case rel => exact ⟨by first | rfl | simp, HBq.out⟩
            · have HF3 := hide r3
              clear r3
              rcases HE4.out with h4 | ⟨rfl, l4, r4⟩
              · have q4 : (e4 == 0) = false := by simpa using h4
                go_wp2_with (first | (go_at_call 12; refine (HF1.out _ (HB5.out.trans (HBq.out.mono HB5.out.size))).mono ?_; rintro e x1 ⟨t1, rfl, hrt, hbt⟩; replace HBq := hide (HBq.out.trans (hbt.mono HBq.out.size)); have HT1 := hide hrt; clear hrt hbt) | (go_at_call_of 11 v1; refine (same_yes v1 t1 O1 _ (HR1.out.below HBq.out) HT1.out (by omega)).mono ?_; rintro e y1 ⟨rfl, hbt⟩; replace HBq := hide (HBq.out.trans (hbt.mono HBq.out.size)); clear hbt) | (go_at_call 14; refine (HF3.out _ (HB5.out.trans (HBq.out.mono HB5.out.size))).mono ?_; rintro e x3 ⟨t3, rfl, hrt, hbt⟩; replace HBq := hide (HBq.out.trans (hbt.mono HBq.out.size)); have HT3 := hide hrt; clear hrt hbt) | (go_at_call_of 11 v3; refine (same_yes v3 t3 O3 _ (HR3.out.below HBq.out) HT3.out (by omega)).mono ?_; rintro e y3 ⟨rfl, hbt⟩; replace HBq := hide (HBq.out.trans (hbt.mono HBq.out.size)); clear hbt))
                go_meet
                case rel => exact ⟨by first | rfl | simp, HBq.out⟩
              · have HF4 := hide r4
                clear r4
                go_wp2_with (first | (go_at_call 12; refine (HF1.out _ (HB5.out.trans (HBq.out.mono HB5.out.size))).mono ?_; rintro e x1 ⟨t1, rfl, hrt, hbt⟩; replace HBq := hide (HBq.out.trans (hbt.mono HBq.out.size)); have HT1 := hide hrt; clear hrt hbt) | (go_at_call_of 11 v1; refine (same_yes v1 t1 O1 _ (HR1.out.below HBq.out) HT1.out (by omega)).mono ?_; rintro e y1 ⟨rfl, hbt⟩; replace HBq := hide (HBq.out.trans (hbt.mono HBq.out.size)); clear hbt) | (go_at_call 14; refine (HF3.out _ (HB5.out.trans (HBq.out.mono HB5.out.size))).mono ?_; rintro e x3 ⟨t3, rfl, hrt, hbt⟩; replace HBq := hide (HBq.out.trans (hbt.mono HBq.out.size)); have HT3 := hide hrt; clear hrt hbt) | (go_at_call_of 11 v3; refine (same_yes v3 t3 O3 _ (HR3.out.below HBq.out) HT3.out (by omega)).mono ?_; rintro e y3 ⟨rfl, hbt⟩; replace HBq := hide (HBq.out.trans (hbt.mono HBq.out.size)); clear hbt) | (go_at_call 15; refine (HF4.out _ (HB5.out.trans (HBq.out.mono HB5.out.size))).mono ?_; rintro e x4 ⟨t4, rfl, hrt, hbt⟩; replace HBq := hide (HBq.out.trans (hbt.mono HBq.out.size)); have HT4 := hide hrt; clear hrt hbt) | (go_at_call_of 11 v4; refine (same_yes v4 t4 O4 _ (HR4.out.below HBq.out) HT4.out (by omega)).mono ?_; rintro e y4 ⟨rfl, hbt⟩; replace HBq := hide (HBq.out.trans (hbt.mono HBq.out.size)); clear hbt))
                go_meet
                case rel => exact ⟨by first | rfl | simp, HBq.out⟩
          · have HF2 := hide r2
            clear r2
            rcases HE3.out with h3 | ⟨rfl, l3, r3⟩
            · have q3 : (e3 == 0) = false := by simpa using h3
              rcases HE4.out with h4 | ⟨rfl, l4, r4⟩
              · have q4 : (e4 == 0) = false := by simpa using h4
                go_wp2_with (first | (go_at_call 12; refine (HF1.out _ (HB5.out.trans (HBq.out.mono HB5.out.size))).mono ?_; rintro e x1 ⟨t1, rfl, hrt, hbt⟩; replace HBq := hide (HBq.out.trans (hbt.mono HBq.out.size)); have HT1 := hide hrt; clear hrt hbt) | (go_at_call_of 11 v1; refine (same_yes v1 t1 O1 _ (HR1.out.below HBq.out) HT1.out (by omega)).mono ?_; rintro e y1 ⟨rfl, hbt⟩; replace HBq := hide (HBq.out.trans (hbt.mono HBq.out.size)); clear hbt) | (go_at_call 13; refine (HF2.out _ (HB5.out.trans (HBq.out.mono HB5.out.size))).mono ?_; rintro e x2 ⟨t2, rfl, hrt, hbt⟩; replace HBq := hide (HBq.out.trans (hbt.mono HBq.out.size)); have HT2 := hide hrt; clear hrt hbt) | (go_at_call_of 11 v2; refine (same_yes v2 t2 O2 _ (HR2.out.below HBq.out) HT2.out (by omega)).mono ?_; rintro e y2 ⟨rfl, hbt⟩; replace HBq := hide (HBq.out.trans (hbt.mono HBq.out.size)); clear hbt))
                go_meet
                case rel => exact ⟨by first | rfl | simp, HBq.out⟩
              · have HF4 := hide r4
                clear r4
                go_wp2_with (first | (go_at_call 12; refine (HF1.out _ (HB5.out.trans (HBq.out.mono HB5.out.size))).mono ?_; rintro e x1 ⟨t1, rfl, hrt, hbt⟩; replace HBq := hide (HBq.out.trans (hbt.mono HBq.out.size)); have HT1 := hide hrt; clear hrt hbt) | (go_at_call_of 11 v1; refine (same_yes v1 t1 O1 _ (HR1.out.below HBq.out) HT1.out (by omega)).mono ?_; rintro e y1 ⟨rfl, hbt⟩; replace HBq := hide (HBq.out.trans (hbt.mono HBq.out.size)); clear hbt) | (go_at_call 13; refine (HF2.out _ (HB5.out.trans (HBq.out.mono HB5.out.size))).mono ?_; rintro e x2 ⟨t2, rfl, hrt, hbt⟩; replace HBq := hide (HBq.out.trans (hbt.mono HBq.out.size)); have HT2 := hide hrt; clear hrt hbt) | (go_at_call_of 11 v2; refine (same_yes v2 t2 O2 _ (HR2.out.below HBq.out) HT2.out (by omega)).mono ?_; rintro e y2 ⟨rfl, hbt⟩; replace HBq := hide (HBq.out.trans (hbt.mono HBq.out.size)); clear hbt) | (go_at_call 15; refine (HF4.out _ (HB5.out.trans (HBq.out.mono HB5.out.size))).mono ?_; rintro e x4 ⟨t4, rfl, hrt, hbt⟩; replace HBq := hide (HBq.out.trans (hbt.mono HBq.out.size)); have HT4 := hide hrt; clear hrt hbt) | (go_at_call_of 11 v4; refine (same_yes v4 t4 O4 _ (HR4.out.below HBq.out) HT4.out (by omega)).mono ?_; rintro e y4 ⟨rfl, hbt⟩; replace HBq := hide (HBq.out.trans (hbt.mono HBq.out.size)); clear hbt))
                go_meet
                case rel => exact ⟨by first | rfl | simp, HBq.out⟩
            · have HF3 := hide r3
              clear r3
              rcases HE4.out with h4 | ⟨rfl, l4, r4⟩
              · have q4 : (e4 == 0) = false := by simpa using h4
                go_wp2_with (first | (go_at_call 12; refine (HF1.out _ (HB5.out.trans (HBq.out.mono HB5.out.size))).mono ?_; rintro e x1 ⟨t1, rfl, hrt, hbt⟩; replace HBq := hide (HBq.out.trans (hbt.mono HBq.out.size)); have HT1 := hide hrt; clear hrt hbt) | (go_at_call_of 11 v1; refine (same_yes v1 t1 O1 _ (HR1.out.below HBq.out) HT1.out (by omega)).mono ?_; rintro e y1 ⟨rfl, hbt⟩; replace HBq := hide (HBq.out.trans (hbt.mono HBq.out.size)); clear hbt) | (go_at_call 13; refine (HF2.out _ (HB5.out.trans (HBq.out.mono HB5.out.size))).mono ?_; rintro e x2 ⟨t2, rfl, hrt, hbt⟩; replace HBq := hide (HBq.out.trans (hbt.mono HBq.out.size)); have HT2 := hide hrt; clear hrt hbt) | (go_at_call_of 11 v2; refine (same_yes v2 t2 O2 _ (HR2.out.below HBq.out) HT2.out (by omega)).mono ?_; rintro e y2 ⟨rfl, hbt⟩; replace HBq := hide (HBq.out.trans (hbt.mono HBq.out.size)); clear hbt) | (go_at_call 14; refine (HF3.out _ (HB5.out.trans (HBq.out.mono HB5.out.size))).mono ?_; rintro e x3 ⟨t3, rfl, hrt, hbt⟩; replace HBq := hide (HBq.out.trans (hbt.mono HBq.out.size)); have HT3 := hide hrt; clear hrt hbt) | (go_at_call_of 11 v3; refine (same_yes v3 t3 O3 _ (HR3.out.below HBq.out) HT3.out (by omega)).mono ?_; rintro e y3 ⟨rfl, hbt⟩; replace HBq := hide (HBq.out.trans (hbt.mono HBq.out.size)); clear hbt))
                go_meet
                case rel => exact ⟨by first | rfl | simp, HBq.out⟩
              · have HF4 := hide r4
                clear r4
                go_wp2_with (first | (go_at_call 12; refine (HF1.out _ (HB5.out.trans (HBq.out.mono HB5.out.size))).mono ?_; rintro e x1 ⟨t1, rfl, hrt, hbt⟩; replace HBq := hide (HBq.out.trans (hbt.mono HBq.out.size)); have HT1 := hide hrt; clear hrt hbt) | (go_at_call_of 11 v1; refine (same_yes v1 t1 O1 _ (HR1.out.below HBq.out) HT1.out (by omega)).mono ?_; rintro e y1 ⟨rfl, hbt⟩; replace HBq := hide (HBq.out.trans (hbt.mono HBq.out.size)); clear hbt) | (go_at_call 13; refine (HF2.out _ (HB5.out.trans (HBq.out.mono HB5.out.size))).mono ?_; rintro e x2 ⟨t2, rfl, hrt, hbt⟩; replace HBq := hide (HBq.out.trans (hbt.mono HBq.out.size)); have HT2 := hide hrt; clear hrt hbt) | (go_at_call_of 11 v2; refine (same_yes v2 t2 O2 _ (HR2.out.below HBq.out) HT2.out (by omega)).mono ?_; rintro e y2 ⟨rfl, hbt⟩; replace HBq := hide (HBq.out.trans (hbt.mono HBq.out.size)); clear hbt) | (go_at_call 14; refine (HF3.out _ (HB5.out.trans (HBq.out.mono HB5.out.size))).mono ?_; rintro e x3 ⟨t3, rfl, hrt, hbt⟩; replace HBq := hide (HBq.out.trans (hbt.mono HBq.out.size)); have HT3 := hide hrt; clear hrt hbt) | (go_at_call_of 11 v3; refine (same_yes v3 t3 O3 _ (HR3.out.below HBq.out) HT3.out (by omega)).mono ?_; rintro e y3 ⟨rfl, hbt⟩; replace HBq := hide (HBq.out.trans (hbt.mono HBq.out.size)); clear hbt) | (go_at_call 15; refine (HF4.out _ (HB5.out.trans (HBq.out.mono HB5.out.size))).mono ?_; rintro e x4 ⟨t4, rfl, hrt, hbt⟩; replace HBq := hide (HBq.out.trans (hbt.mono HBq.out.size)); have HT4 := hide hrt; clear hrt hbt) | (go_at_call_of 11 v4; refine (same_yes v4 t4 O4 _ (HR4.out.below HBq.out) HT4.out (by omega)).mono ?_; rintro e y4 ⟨rfl, hbt⟩; replace HBq := hide (HBq.out.trans (hbt.mono HBq.out.size)); clear hbt))
                go_meet
                case rel => exact ⟨by first | rfl | simp, HBq.out⟩
      case rest =>
        obtain ⟨rfl, hbx⟩ := hcut
        obtain ⟨b8, hb8⟩ : ∃ b8, b8 = wc := ⟨_, rfl⟩
        subst hb8
        have hk : KpR W0.heap.size b7 b8 := KpR.of_below hbx HK.out.below.size
        replace HRw := hide (HRw.out.kp hk)
        replace HRu := hide (HRu.out.kp hk)
        replace HK := hide (HK.out.trans hk)
        clear hk hbx HE1 HE2 HE3 HE4 HR1 HR2 HR3 HR4 HXx HXy HXm HXa HXb HXt HBa HB5
        have hrn : rn ≤ 10000000000 := HRu.out.2.1
        go_wp2
        go_loopw [21] (fun q wr => ∃ k : Nat, k ≤ rn ∧ q = .int .i64 k ∧ KpR W0.heap.size W0 wr ∧ RwL W0.heap.size wr [v4, v3, v2, v1] ∧ RdU W0.heap.size wr ro rn z5) (fun q _ => rn - (intOf q).toNat)
        case atStart => exact ⟨0, Nat.zero_le _, rfl, HK.out, HRw.out, HRu.out⟩
        case round =>
          obtain ⟨k, hk0, rfl, hkk, hrw, hru⟩ := hrel
          obtain ⟨b9, hb9⟩ : ∃ b9, b9 = wr := ⟨_, rfl⟩
          subst hb9
          clear HK HRw HRu
          have HK := hide hkk
          have HRw := hide hrw
          have HRu := hide hru
          clear hkk hrw hru
          by_cases hlt2 : k < rn
          · have hz : z5 = 0 := by
              by_cases h : z5 = 0
              · exact h
              · have := HRu.out.1 h; omega
            subst hz
            obtain ⟨g5, hro, cur, hh, hall⟩ := HRu.out.2.2 (by omega)
            subst hro
            obtain ⟨u, hu, hrow⟩ := hall k hlt2
            have hcell : b9.cell? ⟨g5, k, none⟩ = some u := by simp [World.cell?, hh, hu]
            obtain ⟨uo, un, uc, rfl⟩ : ∃ uo un uc, u = .slice uo un uc := by
              rcases hrow with h | ⟨g, n, cap, cur, h, _⟩
              · exact ⟨_, _, _, h⟩
              · exact ⟨_, _, _, h⟩
            have HSp := hide (spoil_any W0.heap.size _ b9 hrow)
            have e7 : (k : Int) < (rn : Int) := by omega
            have e8 : (0 : Int) ≤ (k : Int) := by omega
            have hkw2 : IntKind.i64.wrap ((k : Int) + 1) = (k : Int) + 1 := by rw [IntKind.wrap_i64]; omega
            clear hh hall hu hrow
            go_wp2_with fail
            refine HSp.out.mono ?_
            rintro e b10 ⟨rfl, hk⟩
            have HK2 := hide (HK.out.trans hk)
            have HRw2 := hide (HRw.out.kp hk)
            have HRu2 := hide (HRu.out.kp hk)
            clear hk HSp hcell
            go_wp2
            go_roundw
            case rel => exact ⟨k + 1, by omega, by go_num, HK2.out, HRw2.out, HRu2.out⟩
            case measure => simp [intOf]; omega
          · have e7 : ¬ (k : Int) < (rn : Int) := by omega
            go_wp2_with fail
            refine (spoil_any W0.heap.size v1 _ (HRw.out v1 (by simp))).mono ?_
            rintro e c1 ⟨rfl, hk⟩
            replace HRw := hide (HRw.out.kp hk)
            replace HK := hide (HK.out.trans hk)
            clear hk
            go_wp2_with fail
            refine (spoil_any W0.heap.size v2 _ (HRw.out v2 (by simp))).mono ?_
            rintro e c2 ⟨rfl, hk⟩
            replace HRw := hide (HRw.out.kp hk)
            replace HK := hide (HK.out.trans hk)
            clear hk
            go_wp2_with fail
            refine (spoil_any W0.heap.size v3 _ (HRw.out v3 (by simp))).mono ?_
            rintro e c3 ⟨rfl, hk⟩
            replace HRw := hide (HRw.out.kp hk)
            replace HK := hide (HK.out.trans hk)
            clear hk
            go_wp2_with fail
            refine (spoil_any W0.heap.size v4 _ (HRw.out v4 (by simp))).mono ?_
            rintro e c4 ⟨rfl, hk⟩
            replace HRw := hide (HRw.out.kp hk)
            replace HK := hide (HK.out.trans hk)
            clear hk
            go_wp2
            go_roundw
            case rel => exact ⟨i + 1, by omega, by go_num, HK.out⟩
            case measure => simp [intOf]; omega
    · have e5 : ¬ (i : Int) < 2 := by omega
      have HF : Hid (Below w.heap.size w w7) := HB0.out.trans (HK.out.below.mono HB0.out.size)
      go_wp2
      go_ret
      exact ⟨rfl, HF.out⟩


end Go.Proofs.YtljankfhnmcbaaaGreatDoor
