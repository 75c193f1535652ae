/- Roads: what compares two roads, in general. -/
import Derived.Test.YthigleohjagfiaaSr3
import Derived.Test.YthigleohjagfiaaSq7
import Derived.Sort.Statements
import Derived.Sort.Grow
namespace Go.Proofs.Ythigleohjagfiaa
open Go.RowKit Go.PlainAid
set_option linter.unusedVariables false

def cmpL : RL → RL → Int
  | [], [] => 0
  | [], _ :: _ => -1
  | _ :: _, [] => 1
  | r :: L, q :: M => if r.1 - q.1 = 0 then cmpL L M else r.1 - q.1
theorem cmpL_self : ∀ L : RL, cmpL L L = 0
  | [] => rfl
  | r :: L => by simp [cmpL, cmpL_self L]
theorem cmpL_trans : ∀ L M N : RL, cmpL L M < 0 → cmpL M N < 0 → cmpL L N < 0
  | [], [], _, h, _ => by simp [cmpL] at h
  | [], _ :: _, [], _, h => by simp [cmpL] at h
  | [], _ :: _, _ :: _, _, _ => by simp [cmpL]
  | _ :: _, [], _, h, _ => by simp [cmpL] at h
  | _ :: _, _ :: _, [], _, h => by simp [cmpL] at h
  | r :: L, q :: M, s :: N, h1, h2 => by
    have ih := cmpL_trans L M N
    simp only [cmpL] at h1 h2 ⊢
    split at h1 <;> split at h2 <;> split <;> first | omega | exact ih h1 h2
theorem cmpL_ntrans : ∀ L M N : RL, ¬ cmpL L M < 0 → ¬ cmpL M N < 0 → ¬ cmpL L N < 0
  | [], [], _, _, h => h
  | [], _ :: _, _, h, _ => by simp [cmpL] at h
  | _ :: _, [], [], _, _ => by simp [cmpL]
  | _ :: _, [], _ :: _, _, h => by simp [cmpL] at h
  | _ :: _, _ :: _, [], _, _ => by simp [cmpL]
  | r :: L, q :: M, s :: N, h1, h2 => by
    have ih := cmpL_ntrans L M N
    simp only [cmpL] at h1 h2 ⊢
    split at h1 <;> split at h2 <;> split <;> first | omega | exact ih h1 h2
theorem cmpL_zero : ∀ L M : RL, cmpL L M = 0 → L.map (·.1) = M.map (·.1)
  | [], [], _ => rfl
  | [], _ :: _, h => by simp [cmpL] at h
  | _ :: _, [], h => by simp [cmpL] at h
  | r :: L, q :: M, h => by
    simp only [cmpL] at h
    split at h
    · simp only [List.map_cons, List.cons.injEq]
      exact ⟨by omega, cmpL_zero L M h⟩
    · exact absurd h (by assumption)
theorem cmpL_back : ∀ L M : RL, ¬ cmpL L M < 0 → cmpL L M ≠ 0 → cmpL M L < 0
  | [], [], _, h => absurd rfl h
  | [], _ :: _, h, _ => by simp [cmpL] at h
  | _ :: _, [], _, _ => by simp [cmpL]
  | r :: L, q :: M, h1, h2 => by
    have ih := cmpL_back L M
    simp only [cmpL] at h1 h2 ⊢
    split at h1 <;> split <;> first | omega | (rename_i a b; exact ih h1 (by simpa [a] using h2))
theorem cmpL_drop {L M : RL} {j : Nat} (h1 : j < L.length) (h2 : j < M.length) : cmpL (L.drop j) (M.drop j) = if L[j].1 - M[j].1 = 0 then cmpL (L.drop (j + 1)) (M.drop (j + 1)) else L[j].1 - M[j].1 := by
  rw [List.drop_eq_getElem_cons h1, List.drop_eq_getElem_cons h2]
  rfl
/-- a world that has only grown, and drawn. -/
def GB (w w' : World) : Prop := Below w.heap.size w w' ∧ w.drawn ≤ w'.drawn
theorem GB.refl (w : World) : GB w w := ⟨Below.refl _ _, Nat.le_refl _⟩
theorem GB.trans {a b c : World} (h : GB a b) (k : GB b c) : GB a c := ⟨h.1.trans (k.1.mono h.1.size), Nat.le_trans h.2 k.2⟩
theorem GB.alloc (w : World) (o : Obj) : GB w (w.alloc o) := ⟨(Below.refl _ w).alloc (Nat.le_refl _) _, Nat.le_refl _⟩
theorem GB.drew (w : World) : GB w w.drew := ⟨⟨rfl, rfl, rfl, Nat.le_refl _, fun _ _ => rfl⟩, Nat.le_succ _⟩
theorem GB.grow {w w' : World} (h : GB w w') : ∃ q os, w' = Go.Sort.grow (w.drewN q) os := by
  refine ⟨w'.drawn - w.drawn, w'.heap.extract w.heap.size w'.heap.size, ?_⟩
  obtain ⟨⟨h1, h2, h3, h4, h5⟩, h6⟩ := h
  have hh : w'.heap = w.heap ++ w'.heap.extract w.heap.size w'.heap.size := by
    apply Array.ext
    · simp; omega
    · intro i hi1 hi2
      by_cases hi : i < w.heap.size
      · rw [Array.getElem_append_left hi]
        have := h5 i hi
        rw [Array.getElem?_eq_getElem hi1, Array.getElem?_eq_getElem hi] at this
        exact Option.some.inj this
      · rw [Array.getElem_append_right (by omega)]
        simp only [Array.getElem_extract]
        congr 1
        omega
  obtain ⟨heap, tape, drawn, os, output⟩ := w'
  simp only at h1 h2 h3 h6 hh
  subst h1 h2 h3
  unfold Go.Sort.grow World.drewN
  congr 1
  show drawn = w.drawn + (drawn - w.drawn)
  omega
set_option maxRecDepth 100000 in
set_option maxHeartbeats 2000000 in
theorem less_g (a b c d : Int) (w : World) (h1 : 0 ≤ a ∧ a ≤ 255) (h2 : 0 ≤ c ∧ c ≤ 255) : Calls Try.prog 31 #[.agg #[.int .i64 a, .int .i64 b], .agg #[.int .i64 c, .int .i64 d]] w fun e w' => e = .returned (.int .i64 (a - c)) ∧ GB w w' := by
  obtain ⟨w2, hw2⟩ : ∃ w2, w2 = (w.alloc (rgOS a b)).alloc (rgOS c d) := ⟨_, rfl⟩
  have hB2 : GB w w2 := by rw [hw2]; exact (GB.alloc _ _).trans (GB.alloc _ _)
  have hXs : w2.heap[w.heap.size]? = some (rgOS a b) := by
    rw [hw2]
    exact rdO_keep (at_newS _ _) ((Below.refl _ _).alloc (Nat.le_refl _) _)
  have hXr : w2.heap[w.heap.size + 1]? = some (rgOS c d) := by
    have := at_newS (w.alloc (rgOS a b)) (rgOS c d)
    rw [hw2]
    simpa using this
  obtain ⟨d0, d1⟩ := rg_cellsS hXs
  obtain ⟨f0, f1⟩ := rg_cellsS hXr
  have HB2 := hide hB2
  have hw : IntKind.i64.wrap (a - c) = a - c := by rw [IntKind.wrap_i64]; omega
  simp only [rgOS] at hw2
  clear hXs hXr hB2
  go_enter Try.func31, Try.ntmps31
  go_upto_region 1 with fail
  rw [← hw2]
  clear hw2
  go_wp2
  go_ret
  exact ⟨by first | rfl | (simp; omega) | (have := hw; go_num), HB2.out⟩
set_option maxRecDepth 100000 in
set_option maxHeartbeats 4000000 in
theorem compare_g (x y : Addr) (n m c d : Nat) (L M : RL) (w : World) (hx : Cells2 w x L) (hy : Cells2 w y M) (hn : n = L.length) (hm : m = M.length) (h4 : n ≤ 4 ∧ m ≤ 4) (hL : ∀ r ∈ L, 0 ≤ r.1 ∧ r.1 ≤ 255) (hM : ∀ r ∈ M, 0 ≤ r.1 ∧ r.1 ≤ 255) :
    Calls Try.prog 30 #[.slice (some x) n c, .slice (some y) m d, .func (.func 31) #[] #[]] w fun e w' => e = .returned (.int .i64 (cmpL L M)) ∧ GB w w' := by
  have HCx : Hid (∀ W, GB w W → Cells2 W x L) := fun W hW => hx.below hW.1
  have HCy : Hid (∀ W, GB w W → Cells2 W y M) := fun W hW => hy.below hW.1
  have HN := hide hn
  have HM := hide hm
  have HLr : Hid (∀ j (h : j < L.length), 0 ≤ L[j].1 ∧ L[j].1 ≤ 255) := fun j h => hL _ (List.getElem_mem h)
  have HMr : Hid (∀ j (h : j < M.length), 0 ≤ M[j].1 ∧ M[j].1 ≤ 255) := fun j h => hM _ (List.getElem_mem h)
  clear hx hy hn hm hL hM
  go_enter Try.func30, Try.ntmps30
  go_wp2
  go_loopw [13] (fun q wr => ∃ j : Nat, j ≤ n ∧ j ≤ m ∧ q = .int .i64 j ∧ cmpL L M = cmpL (L.drop j) (M.drop j) ∧ GB w wr) (fun q _ => n - (intOf q).toNat)
  case atStart => exact ⟨0, Nat.zero_le _, Nat.zero_le _, rfl, rfl, GB.refl _⟩
  case round =>
    obtain ⟨j, hj1, hj2, rfl, hcm, hbw⟩ := hrel
    obtain ⟨w3, hw3⟩ : ∃ w3, w3 = wr := ⟨_, rfl⟩
    subst hw3
    have HB := hide hbw
    have HCm := hide hcm
    clear hbw hcm
    by_cases hlt : j < n
    · have hjL : j < L.length := by have := HN.out; omega
      have e5 : (j : Int) < (n : Int) := by omega
      have e6 : (0 : Int) ≤ (j : Int) := by omega
      have hkw : IntKind.i64.wrap ((j : Int) + 1) = (j : Int) + 1 := by rw [IntKind.wrap_i64]; omega
      obtain ⟨m0, m1⟩ := HCx.out _ HB.out j hjL
      have hr1 := HLr.out j hjL
      obtain ⟨r, hr⟩ : ∃ r, r = L[j] := ⟨_, rfl⟩
      rw [← hr] at m0 m1 hr1
      obtain ⟨ra, rb⟩ := r
      simp only at m0 m1 hr1
      obtain ⟨w4, hw4⟩ : ∃ w4, w4 = w3.alloc (rgOS ra rb) := ⟨_, rfl⟩
      have hX4 : w4.heap[w3.heap.size]? = some (rgOS ra rb) := by rw [hw4]; exact at_newS _ _
      have hB4 : GB w3 w4 := by rw [hw4]; exact GB.alloc _ _
      obtain ⟨b1, hb1⟩ : ∃ b1, b1 = w3.heap.size := ⟨_, rfl⟩
      rw [← hb1] at hX4
      have HB4 := hide (HB.out.trans hB4)
      by_cases hlm : j < m
      · have hjM : j < M.length := by have := HM.out; omega
        have e7 : ¬ (m : Int) ≤ (j : Int) := by omega
        have e8 : (j : Int) < (m : Int) := by omega
        obtain ⟨q0, q1⟩ := HCy.out _ HB4.out j hjM
        have hs1 := HMr.out j hjM
        have hdr := cmpL_drop hjL hjM
        rw [← hr] at hdr
        obtain ⟨s, hs⟩ : ∃ s, s = M[j] := ⟨_, rfl⟩
        rw [← hs] at q0 q1 hs1 hdr
        obtain ⟨sa, sb⟩ := s
        simp only at q0 q1 hs1 hdr
        have HDr := hide (HCm.out.trans hdr)
        obtain ⟨w5, hw5⟩ : ∃ w5, w5 = w4.alloc (rgOS sa sb) := ⟨_, rfl⟩
        have hX5 : w5.heap[w4.heap.size]? = some (rgOS sa sb) := by rw [hw5]; exact at_newS _ _
        have hB5 : GB w4 w5 := by rw [hw5]; exact GB.alloc _ _
        obtain ⟨b2, hb2⟩ : ∃ b2, b2 = w4.heap.size := ⟨_, rfl⟩
        rw [← hb2] at hX5
        have HB5 := hide (HB4.out.trans hB5)
        have hX45 := rdO_keep hX4 hB5.1
        obtain ⟨d0, d1⟩ := rg_cellsS hX45
        obtain ⟨f0, f1⟩ := rg_cellsS hX5
        have HLs := hide (less_g ra rb sa sb w5 hr1 hs1)
        simp only [rgOS] at hw4 hw5
        clear hX4 hB4 hX5 hB5 hX45 hr hs hjL hjM hdr HCm HB HB4
        go_upto_region 4 with fail
        rw [← hw4, ← hb1]
        clear hw4 hb1 m0 m1
        go_upto_region 7 with fail
        rw [← hw5, ← hb2]
        clear hw5 hb2 q0 q1
        go_wp2_with fail
        refine HLs.out.mono ?_
        rintro e w6 ⟨rfl, hb6⟩
        have HB6 := hide (HB5.out.trans hb6)
        clear hb6 HLs d0 d1 f0 f1
        by_cases hz : ra - sa = 0
        · have HF : Hid (cmpL L M = cmpL (L.drop (j + 1)) (M.drop (j + 1))) := by have := HDr.out; rw [if_pos hz] at this; exact this
          clear HDr
          go_wp2
          go_roundw
          case rel => exact ⟨j + 1, by omega, by omega, by go_num, HF.out, HB6.out⟩
          case measure => simp [intOf]; omega
        · have HF : Hid (cmpL L M = ra - sa) := by have := HDr.out; rw [if_neg hz] at this; exact this
          clear HDr
          go_wp2
          go_ret
          exact ⟨by first | (rw [HF.out]; done) | (rw [HF.out]; rfl), HB6.out⟩
      · have e7 : (m : Int) ≤ (j : Int) := by omega
        have HF : Hid (cmpL L M = 1) := by
          have := HCm.out
          rw [List.drop_eq_getElem_cons hjL, List.drop_of_length_le (show M.length ≤ j by have := HM.out; omega)] at this
          exact this
        simp only [rgOS] at hw4
        clear hX4 hB4 hr hjL HCm HB
        go_upto_region 4 with fail
        rw [← hw4, ← hb1]
        clear hw4 hb1 m0 m1
        go_wp2
        go_ret
        exact ⟨by first | (rw [HF.out]; done) | (rw [HF.out]; rfl), HB4.out⟩
    · have e5 : ¬ (j : Int) < (n : Int) := by omega
      have hjn : j = n := by omega
      subst hjn
      by_cases hlm : j < m
      · have hjM : j < M.length := by have := HM.out; omega
        have e7 : (j : Int) < (m : Int) := by omega
        have HF : Hid (cmpL L M = -1) := by
          have := HCm.out
          rw [List.drop_eq_getElem_cons hjM, List.drop_of_length_le (show L.length ≤ j by have := HN.out; omega)] at this
          exact this
        clear HCm hjM
        go_wp2
        go_ret
        exact ⟨by first | (rw [HF.out]; done) | (rw [HF.out]; rfl), HB.out⟩
      · have e7 : ¬ (j : Int) < (m : Int) := by omega
        have HF : Hid (cmpL L M = 0) := by
          have := HCm.out
          rw [List.drop_of_length_le (show L.length ≤ j by have := HN.out; omega), List.drop_of_length_le (show M.length ≤ j by have := HM.out; omega)] at this
          exact this
        clear HCm
        go_wp2
        go_ret
        exact ⟨by first | (rw [HF.out]; done) | (rw [HF.out]; rfl), HB.out⟩
set_option maxRecDepth 100000 in
theorem cmp_g (x y : Addr) (n m c d : Nat) (L M : RL) (w : World) (hx : Cells2 w x L) (hy : Cells2 w y M) (hn : n = L.length) (hm : m = M.length) (h4 : n ≤ 4 ∧ m ≤ 4) (hL : ∀ r ∈ L, 0 ≤ r.1 ∧ r.1 ≤ 255) (hM : ∀ r ∈ M, 0 ≤ r.1 ∧ r.1 ≤ 255) :
    Calls Try.prog 29 #[.slice (some x) n c, .slice (some y) m d] w fun e w' => e = .returned (.int .i64 (cmpL L M)) ∧ GB w w' := by
  have HC := hide (compare_g x y n m c d L M w hx hy hn hm h4 hL hM)
  clear hx hy hn hm hL hM
  go_enter Try.func29, Try.ntmps29
  go_wp2_with fail
  refine HC.out.mono ?_
  rintro e w3 ⟨rfl, hb3⟩
  have HB3 := hide hb3
  clear hb3 HC
  go_wp2
  go_ret
  exact ⟨rfl, HB3.out⟩

end Go.Proofs.Ythigleohjagfiaa
