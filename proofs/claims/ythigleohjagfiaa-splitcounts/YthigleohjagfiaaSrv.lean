/- What rises answers; roads that rise. -/
import Derived.Test.YthigleohjagfiaaSru
namespace Go.Proofs.Ythigleohjagfiaa
open Go.RowKit Go.PlainAid
set_option linter.unusedVariables false

/-- a world that has only drawn. -/
def Dr (w w' : World) : Prop := ∃ q, w' = w.drewN q
theorem Dr.refl (w : World) : Dr w w := ⟨0, rfl⟩
theorem Dr.more {w w' : World} (h : Dr w w') (n : Nat) : Dr w (w'.drewN n) := by
  obtain ⟨q, rfl⟩ := h
  exact ⟨q + n, by simp [World.drewN, Nat.add_assoc]⟩
set_option maxRecDepth 100000 in
set_option maxHeartbeats 4000000 in
theorem rises_g (x y : Addr) (n m c d : Nat) (L M : RL) (w : World) (hx : Cells2 w x L) (hy : Cells2 w y M) (hn : n = L.length) (hm : m = M.length) (h4 : n ≤ 4 ∧ m ≤ 4) :
    Calls Try.prog 12 #[.slice (some x) n c, .slice (some y) m d] w fun e w' => e = .returned (.bool (decide (cmpL L M < 0))) ∧ ∃ q, w' = w.drewN q := by
  have HCx : Hid (∀ W, Dr w W → Cells2 W x L) := fun W hW => by obtain ⟨q, rfl⟩ := hW; exact hx
  have HCy : Hid (∀ W, Dr w W → Cells2 W y M) := fun W hW => by obtain ⟨q, rfl⟩ := hW; exact hy
  have HN := hide hn
  have HM := hide hm
  clear hx hy hn hm
  go_enter Try.func12, Try.ntmps12
  go_wp2
  go_loopw [5] (fun q wr => ∃ j : Nat, j ≤ n ∧ j ≤ m ∧ q = .int .i64 j ∧ cmpL L M = cmpL (L.drop j) (M.drop j) ∧ Dr w wr) (fun q _ => n - (intOf q).toNat)
  case atStart => exact ⟨0, Nat.zero_le _, Nat.zero_le _, rfl, rfl, Dr.refl w⟩
  case round =>
    obtain ⟨j, hj1, hj2, rfl, hcm, hbw⟩ := hrel
    obtain ⟨w3, hw3⟩ : ∃ w3, w3 = wr := ⟨_, rfl⟩
    subst hw3
    have HB := hide hbw
    have HCm := hide hcm
    clear hbw hcm
    by_cases hlt : j < n
    · have hjL : j < L.length := by have := HN.out; omega
      have e5 : (j : Int) < (n : Int) := by omega
      have e6 : (0 : Int) ≤ (j : Int) := by omega
      have hkw : IntKind.i64.wrap ((j : Int) + 1) = (j : Int) + 1 := by rw [IntKind.wrap_i64]; omega
      by_cases hlm : j < m
      · have hjM : j < M.length := by have := HM.out; omega
        have e8 : (j : Int) < (m : Int) := by omega
        obtain ⟨m0, m1⟩ := HCx.out _ HB.out j hjL
        obtain ⟨q0, q1⟩ := HCy.out _ HB.out j hjM
        have hdr := cmpL_drop hjL hjM
        obtain ⟨r, hr⟩ : ∃ r, r = L[j] := ⟨_, rfl⟩
        obtain ⟨s, hs⟩ : ∃ s, s = M[j] := ⟨_, rfl⟩
        rw [← hr] at m0 m1 hdr
        rw [← hs] at q0 q1 hdr
        obtain ⟨ra, rb⟩ := r
        obtain ⟨sa, sb⟩ := s
        simp only at m0 m1 q0 q1 hdr
        have HDr := hide (HCm.out.trans hdr)
        clear hr hs hjL hjM hdr HCm
        by_cases hz : ra = sa
        · have HF : Hid (cmpL L M = cmpL (L.drop (j + 1)) (M.drop (j + 1))) := by have := HDr.out; rw [if_pos (by omega)] at this; exact this
          clear HDr
          go_wp2
          go_quiet (fail)
          go_wp2
          go_roundw
          case rel => exact ⟨j + 1, by omega, by omega, by go_num, HF.out, HB.out.more _⟩
          case measure => simp [intOf]; omega
        · have HF : Hid (decide (cmpL L M < 0) = decide (ra < sa)) := by
            have := HDr.out
            rw [if_neg (by omega)] at this
            show _ = _
            rw [this, Bool.eq_iff_iff]
            simp
            omega
          clear HDr
          go_wp2
          go_quiet (fail)
          go_wp2
          go_quiet (fail)
          go_wp2
          go_ret
          exact ⟨by rw [HF.out]; rfl, by repeat' first | exact HB.out | exact (HB.out.more _).more _ | exact HB.out.more _⟩
      · have e7 : ¬ (j : Int) < (m : Int) := by omega
        have HF : Hid (decide (cmpL L M < 0) = false ∧ ¬ (n : Int) < (m : Int)) := by
          have := HCm.out
          rw [List.drop_eq_getElem_cons hjL, List.drop_of_length_le (show M.length ≤ j by have := HM.out; omega)] at this
          have h1 : cmpL L M = 1 := this
          exact ⟨by rw [h1]; rfl, by omega⟩
        have e9 := HF.out.2
        clear hjL HCm
        go_wp2
        go_ret
        exact ⟨by rw [HF.out.1]; rfl, HB.out⟩
    · have e5 : ¬ (j : Int) < (n : Int) := by omega
      have hjn : j = n := by omega
      subst hjn
      by_cases hlm : j < m
      · have hjM : j < M.length := by have := HM.out; omega
        have e7 : (j : Int) < (m : Int) := by omega
        have HF : Hid (decide (cmpL L M < 0) = true) := by
          have := HCm.out
          rw [List.drop_eq_getElem_cons hjM, List.drop_of_length_le (show L.length ≤ j by have := HN.out; omega)] at this
          have h1 : cmpL L M = -1 := this
          show _ = _
          rw [h1]; rfl
        clear HCm hjM
        go_wp2
        go_ret
        exact ⟨by rw [HF.out]; rfl, HB.out⟩
      · have e7 : ¬ (j : Int) < (m : Int) := by omega
        have HF : Hid (decide (cmpL L M < 0) = false) := by
          have := HCm.out
          rw [List.drop_of_length_le (show L.length ≤ j by have := HN.out; omega), List.drop_of_length_le (show M.length ≤ j by have := HM.out; omega)] at this
          have h1 : cmpL L M = 0 := this
          show _ = _
          rw [h1]; rfl
        clear HCm
        go_wp2
        go_ret
        exact ⟨by rw [HF.out]; rfl, HB.out⟩
theorem count_two {α : Type} {f : α → Bool} {L : List α} {i j : Nat} (hi : i < j) (hj : j < L.length) (h1 : f (L[i]'(by omega)) = true) (h2 : f L[j] = true) : 2 ≤ L.countP f := by
  have e : L = L.take j ++ L.drop j := (List.take_append_drop j L).symm
  rw [e, List.countP_append]
  have a1 : 0 < (L.take j).countP f := List.countP_pos_iff.2 ⟨L[i]'(by omega), List.mem_iff_getElem.2 ⟨i, by rw [List.length_take]; omega, List.getElem_take⟩, h1⟩
  have a2 : 0 < (L.drop j).countP f := List.countP_pos_iff.2 ⟨L[j], List.mem_iff_getElem.2 ⟨0, by rw [List.length_drop]; omega, by rw [List.getElem_drop]; rfl⟩, h2⟩
  omega
/-- roads rise. -/
theorem roads_rise {enc : Int} (he : isEnc enc) {A : RL} (hA : Canon A) {LL MM : List RL} (h : RAll A (shapesP enc) LL) (hp : MM.Perm LL) (hr : Rise MM) (i : Nat) (hi : i + 1 < MM.length) : cmpL (MM[i]'(by omega)) MM[i + 1] < 0 := by
  have hok : ∀ L ∈ MM, okRoad L := fun L hL => h.len_ok he L (hp.mem_iff.1 hL)
  have h1 := (List.pairwise_iff_getElem.1 hr) i (i + 1) (by omega) hi (by omega)
  refine cmpL_back _ _ h1 (fun hz => ?_)
  have hf := cmpL_zero _ _ hz
  have g1 := goesB_fst _ (fun r hr => (hok _ (List.getElem_mem hi)).2 r hr |>.2.2)
  have g2 := goesB_fst _ (fun r hr => (hok _ (List.getElem_mem (show i < MM.length by omega))).2 r hr |>.2.2)
  rw [← hf] at g2
  have hc := count_two (f := fun L => goesB L (MM[i + 1].map (·.1))) (L := MM) (i := i) (j := i + 1) (by omega) hi g2 g1
  rw [hp.countP_eq, roads_count he _ hA h] at hc
  split at hc <;> omega

end Go.Proofs.Ythigleohjagfiaa
