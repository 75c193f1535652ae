/- What Wide answers: rows. -/
import Derived.Test.YtdipfaahlofmgaaQpure
import Derived.Test.YtdipfaahlofmgaaNfact
import Derived.Test.YtdipfaahlofmgaaNrow1
namespace Go.Proofs.Ytdipfaahlofmgaa
open Go.RowKit
set_option linter.unusedVariables false

set_option maxHeartbeats 1000000 in
theorem cap_any (a b : Int) (w : World) : Calls Try.prog 22 #[.int .i64 a, .int .i64 b] w fun e w' => e = .returned (.tuple #[.int .i64 (leastF a), .int .i64 (mostF b)]) ∧ w' = w := by
  by_cases h1 : 1000000 < b
  · have hm : Hid (mostF b = -1) := by show _ = _; unfold mostF; rw [if_pos h1]
    by_cases h2 : a ≤ 1000000
    · have hl : Hid (leastF a = a) := by show _ = _; unfold leastF; split <;> omega
      go_enter Try.func22, Try.ntmps22
      go_wp2
      go_ret2
      exact ⟨by rw [hm.out, hl.out]; rfl, rfl⟩
    · have hl : Hid (leastF a = 1000000) := by show _ = _; unfold leastF; split <;> omega
      go_enter Try.func22, Try.ntmps22
      go_wp2
      go_ret2
      exact ⟨by rw [hm.out, hl.out]; rfl, rfl⟩
  · have hm : Hid (mostF b = b) := by show _ = _; unfold mostF; rw [if_neg h1]
    by_cases h2 : a ≤ 1000000
    · have hl : Hid (leastF a = a) := by show _ = _; unfold leastF; split <;> omega
      go_enter Try.func22, Try.ntmps22
      go_wp2
      go_ret2
      exact ⟨by rw [hm.out, hl.out]; rfl, rfl⟩
    · have hl : Hid (leastF a = 1000000) := by show _ = _; unfold leastF; split <;> omega
      go_enter Try.func22, Try.ntmps22
      go_wp2
      go_ret2
      exact ⟨by rw [hm.out, hl.out]; rfl, rfl⟩
abbrev wdV (f : FT) : Value := .tuple #[.int .i64 f.least, .int .i64 f.most]
theorem add_zero_ok {f : FT} (h : okF f) : addF ⟨0, 0, true⟩ f = f := by
  obtain ⟨l, m, p⟩ := f
  unfold okF at h
  simp only at h
  unfold addF leastF addM mostF
  simp only [Int.zero_add]
  have e1 : (if l < 1000000 then l else 1000000) = l := by split <;> omega
  have e2 : (if (0 : Int) < 0 ∨ m < 0 then -1 else if 1000000 < m then -1 else m) = m := by
    split
    · omega
    · split <;> omega
  rw [e1, e2]; simp
theorem fold_zero {ks : List Tr} (h : ∀ j (hj : j < ks.length), okF (factT ks[j])) (hl : 0 < ks.length) : (factL ks).foldl addF ⟨0, 0, true⟩ = foldF addF (factL ks) := by
  cases ks with
  | nil => cases hl
  | cons t ts =>
    rw [factL]
    show (factL ts).foldl addF (addF ⟨0, 0, true⟩ (factT t)) = (factL ts).foldl addF (factT t)
    rw [add_zero_ok (show okF (factT t) from h 0 (by simp))]
theorem factL_drop {ks : List Tr} {j : Nat} (hj : j < ks.length) : (factL ks).drop j = factT ks[j] :: (factL ks).drop (j + 1) := by
  have h1 : j < (factL ks).length := by rw [factL_len]; exact hj
  have h2 := factL_get ks j hj
  rw [List.getElem?_eq_getElem h1] at h2
  rw [List.drop_eq_getElem_cons h1, Option.some.inj h2]

set_option maxRecDepth 100000 in
set_option maxHeartbeats 8000000 in
theorem wide_row {w0 : World} {n : NV} {ks : List Tr} {vs : Nat → NV} (hk9 : n.kind = 9) (hk : KidsC w0 n.ka n.kl n.kc ks.length vs)
    (ih : ∀ j (hj : j < ks.length) (W : World), Below w0.heap.size w0 W → Calls Try.prog 9 #[nvV (vs j)] W fun e w' => e = .returned (wdV (factT ks[j])) ∧ Below W.heap.size W w')
    (hok : ∀ j (hj : j < ks.length), okF (factT ks[j])) (hl : 2 ≤ ks.length) (w : World) (hw0 : Below w0.heap.size w0 w) :
    Calls Try.prog 9 #[nvV n] w fun e w' => e = .returned (wdV (foldF addF (factL ks))) ∧ Below w.heap.size w w' := by
  have hb1 : Below w.heap.size w (w.alloc (nvO n)) := (Below.refl _ w).alloc (Nat.le_refl _) _
  obtain ⟨w1, hw1⟩ : ∃ w1, w1 = w.alloc (nvO n) := ⟨_, rfl⟩
  have hX1 : w1.heap[w.heap.size]? = some (nvO n) := by rw [hw1]; exact at_new _ _
  rw [← hw1] at hb1
  have HB1 := hide hb1
  have HX1 := hide hX1
  have HIH := hide ih
  have HOK := hide hok
  have HW0 := hide hw0
  have HKL := hide hk.len
  have HK := hide hk
  have HZ := hide (fold_zero hok (by omega))
  obtain ⟨d0, d1, d2, d3, d4, d5, d6, d7⟩ := nv_cells hX1
  have b2 : (n.kind == 2) = false := by rw [hk9]; rfl
  have b11 : (n.kind == 11) = false := by rw [hk9]; rfl
  have b13 : (n.kind == 13) = false := by rw [hk9]; rfl
  have b18 : (n.kind == 18) = false := by rw [hk9]; rfl
  have b9 : (n.kind == 9) = true := by rw [hk9]; rfl
  simp only [nvO] at hw1
  have hkc : ks.length ≤ 9223372036854775806 ∨ True := .inr trivial
  obtain ⟨G, hG⟩ : ∃ G, G = foldF addF (factL ks) := ⟨_, rfl⟩
  rw [← hG] at HZ ⊢
  obtain ⟨m, hm⟩ : ∃ m, m = ks.length := ⟨_, rfl⟩
  have HM := hide hm
  have hmx : m ≤ 9223372036854775807 := by
    rcases hk with ⟨_, _, _, h0⟩ | ⟨x, _, _, h1, _⟩ <;> omega
  clear hk ih hok hw0 hb1 hX1 hG hl hkc hm hk9
  go_enter Try.func9, Try.ntmps9
  go_upto_region 1 with fail
  rw [← hw1]
  clear hw1
  go_wp2
  go_loopw [5, 6, 7] (fun a b c wr => ∃ (j : Nat) (f : FT), j ≤ m ∧ c = .int .i64 j ∧ a = .int .i64 f.least ∧ b = .int .i64 f.most ∧ okF f ∧ G = ((factL ks).drop j).foldl addF f ∧ wr.heap[w.heap.size]? = some (nvO n) ∧ Below w.heap.size w wr) (fun _ _ c _ => m - (intOf c).toNat)
  case atStart => exact ⟨0, ⟨0, 0, true⟩, Nat.zero_le _, rfl, rfl, rfl, by unfold okF; simp, by rw [← HZ.out]; rfl, HX1.out, HB1.out⟩
  case round =>
    obtain ⟨j, f, hj, rfl, rfl, rfl, hf, hG, hx, hb⟩ := hrel
    obtain ⟨w2, hw2⟩ : ∃ w2, w2 = wr := ⟨_, rfl⟩
    subst hw2
    obtain ⟨fl, fm, fp⟩ := f
    have HFK := hide hf
    unfold okF at hf
    simp only at hf
    obtain ⟨f1, f2, f3, f4⟩ := hf
    have HG := hide hG
    have HX := hide hx
    have HB := hide hb
    obtain ⟨d0, d1, d2, d3, d4, d5, d6, d7⟩ := nv_cells hx
    clear hG hx hb HX1 HB1
    simp only
    by_cases hlt : j < m
    · have hjk : j < ks.length := by have := HM.out; omega
      rcases HK.out with ⟨_, _, _, h0⟩ | ⟨x, hx, hkk, hmx', hcl⟩
      · exact absurd h0 (by omega)
      · have hB0 : Below w0.heap.size w0 w2 := HW0.out.trans (HB.out.mono HW0.out.size)
        obtain ⟨c0, c1, c2, c3, c4, c5, c6, c7⟩ := (hcl j hjk).below hB0
        have HC := hide (HIH.out j hjk w2 hB0)
        have hdr := factL_drop hjk
        have hko := HOK.out j hjk
        obtain ⟨kf, hkf⟩ : ∃ kf, kf = factT ks[j] := ⟨_, rfl⟩
        rw [← hkf] at HC hdr hko
        have HKO := hide hko
        obtain ⟨kl, km, kp⟩ := kf
        unfold okF at hko
        simp only at hko
        obtain ⟨g1, g2, g3, g4⟩ := hko
        have HN : Hid (G = ((factL ks).drop (j + 1)).foldl addF (addF ⟨fl, fm, fp⟩ ⟨kl, km, kp⟩)) := by show _ = _; rw [HG.out, hdr]; rfl
        have HNO := hide (addF_ok HFK.out HKO.out)
        have e1 : (j : Int) < (n.kl : Int) := by have := HKL.out; omega
        have e2 : (0 : Int) ≤ (j : Int) := by omega
        have e3 : IntKind.i64.wrap ((j : Int) + 1) = (j : Int) + 1 := by rw [IntKind.wrap_i64]; omega
        have e4 : IntKind.i64.wrap (fl + kl) = fl + kl := by rw [IntKind.wrap_i64]; omega
        have e5 : IntKind.i64.wrap (fm + km) = fm + km := by rw [IntKind.wrap_i64]; omega
        rw [hx] at d2
        clear hcl hx hB0 hdr hkf hkk hmx'
        simp only [wdV] at HC
        go_wp2_with fail
        refine HC.out.mono ?_
        rintro e w3 ⟨rfl, hb3⟩
        have HB3 := hide (HB.out.trans (hb3.mono HB.out.size))
        have HX3 := hide (show w3.heap[w.heap.size]? = some (nvO n) by rw [hb3.block _ (lt_of_block HX.out)]; exact HX.out)
        clear hb3 HC c0 c1 c2 c3 c4 c5 c6 c7 d0 d1 d2 d3 d4 d5 d6 d7
        have key : Hid (addF ⟨fl, fm, fp⟩ ⟨kl, km, kp⟩ = ⟨leastF (fl + kl), if fm < 0 ∨ km < 0 then -1 else mostF (fm + km), fp && kp⟩) := rfl
        by_cases n1 : fm < 0
        · have key2 : Hid (addF ⟨fl, fm, fp⟩ ⟨kl, km, kp⟩ = ⟨leastF (fl + kl), mostF (-1), fp && kp⟩) := by show _ = _; rw [key.out, if_pos (.inl n1)]; rfl
          go_wp2_with fail
          refine (cap_any _ _ _).mono ?_
          rintro e w4 ⟨rfl, hh⟩
          subst hh
          go_wp2
          go_roundw
          case rel => exact ⟨j + 1, addF ⟨fl, fm, fp⟩ ⟨kl, km, kp⟩, by omega, by go_num, by rw [key2.out], by rw [key2.out], HNO.out, HN.out, HX3.out, HB3.out⟩
          case measure => simp [intOf]; omega
        · by_cases n2 : km < 0
          · have key2 : Hid (addF ⟨fl, fm, fp⟩ ⟨kl, km, kp⟩ = ⟨leastF (fl + kl), mostF (-1), fp && kp⟩) := by show _ = _; rw [key.out, if_pos (.inr n2)]; rfl
            go_wp2_with fail
            refine (cap_any _ _ _).mono ?_
            rintro e w4 ⟨rfl, hh⟩
            subst hh
            go_wp2
            go_roundw
            case rel => exact ⟨j + 1, addF ⟨fl, fm, fp⟩ ⟨kl, km, kp⟩, by omega, by go_num, by rw [key2.out], by rw [key2.out], HNO.out, HN.out, HX3.out, HB3.out⟩
            case measure => simp [intOf]; omega
          · have key2 : Hid (addF ⟨fl, fm, fp⟩ ⟨kl, km, kp⟩ = ⟨leastF (fl + kl), mostF (fm + km), fp && kp⟩) := by show _ = _; rw [key.out, if_neg (by omega)]
            go_wp2_with fail
            refine (cap_any _ _ _).mono ?_
            rintro e w4 ⟨rfl, hh⟩
            subst hh
            go_wp2
            go_roundw
            case rel => exact ⟨j + 1, addF ⟨fl, fm, fp⟩ ⟨kl, km, kp⟩, by omega, by go_num, by rw [key2.out], by rw [key2.out], HNO.out, HN.out, HX3.out, HB3.out⟩
            case measure => simp [intOf]; omega
    · have e1 : ¬ (j : Int) < (n.kl : Int) := by have := HKL.out; have := HM.out; omega
      have hE : Hid (G = ⟨fl, fm, fp⟩) := by show _ = _; rw [HG.out, List.drop_eq_nil_of_le (by rw [factL_len]; have := HM.out; omega)]; rfl
      go_wp2
      go_ret2
      exact ⟨by rw [hE.out]; rfl, HB.out⟩

end Go.Proofs.Ytdipfaahlofmgaa
