/- tokenBegun; TokenPlain's walk. -/
import Derived.Test.YtlapnhjkhpgklaaTnext2
namespace Go.Proofs.Ytlapnhjkhpgklaa
open Go.RowKit
set_option linter.unusedVariables false

def beg5 : List Int := [97, 123, 50, 125, 63]
theorem patV_five (w : World) : PatV (w.alloc (.cells #[.int .i64 97, .int .i64 123, .int .i64 50, .int .i64 125, .int .i64 63] 3)) (.slice (some ⟨w.heap.size, 0, none⟩) 5 5) beg5 := by
  refine .inr ⟨⟨w.heap.size, 0, none⟩, 5, rfl, by decide, fun j hj => ?_⟩
  have hj' : j < 5 := hj
  have : j = 0 ∨ j = 1 ∨ j = 2 ∨ j = 3 ∨ j = 4 := by omega
  have key : ∀ o, o < 5 → (w.alloc (.cells #[.int .i64 97, .int .i64 123, .int .i64 50, .int .i64 125, .int .i64 63] 3)).cell? ⟨w.heap.size, o, none⟩ = #[Value.int .i64 97, .int .i64 123, .int .i64 50, .int .i64 125, .int .i64 63][o]? := fun o ho => by
    rw [World.cell?_alloc_at _ _ _ _ (by simp)]
  rcases this with rfl | rfl | rfl | rfl | rfl
  all_goals (rw [show ∀ k, (⟨w.heap.size, 0, none⟩ : Addr).add k = ⟨w.heap.size, k, none⟩ from fun k => by unfold Addr.add; split <;> simp_all]; rw [key _ (by omega)]; rfl)
theorem patV_one (w : World) (p : Int) : PatV (w.alloc (.cells #[.int .i64 p] 3)) (.slice (some ⟨w.heap.size, 0, none⟩) 1 1) [p] := .inr ⟨⟨w.heap.size, 0, none⟩, 1, rfl, by simp, readsI_one w p 3⟩
theorem beg_next : nextR 1 beg5 1 = .ok ({ kind := 6, least := 2, most := 2, way := 2 }, 5) := by rfl

set_option maxHeartbeats 2000000 in
theorem begun_any (w : World) : Calls Try.prog 11 #[] w fun e w' => e = .returned (.bool true) ∧ Below w.heap.size w w' := by
  have HN := hide (next_any 1 1 _ beg5 _ (patV_five w))
  have hb0 : Below w.heap.size w (w.alloc (.cells #[.int .i64 97, .int .i64 123, .int .i64 50, .int .i64 125, .int .i64 63] 3)) := (Below.refl _ w).alloc (Nat.le_refl _) _
  have HB0 := hide hb0
  clear hb0
  rw [beg_next] at HN
  go_enter Try.func11, Try.ntmps11
  go_wp2_with fail
  refine HN.out.mono ?_
  rintro e w1 (⟨t, k, hR, rfl, hb1⟩ | ⟨z, hR, rfl, hb1⟩)
  · cases hR
    have HB1 := hide (HB0.out.trans (hb1.mono HB0.out.size))
    clear hb1
    simp only [tokV]
    go_wp2
    go_ret
    exact ⟨rfl, HB1.out.alloc HB1.out.size _⟩
  · cases hR

set_option maxHeartbeats 1000000 in
theorem choose_any (p : Int) (w : World) (h0 : -9223372036854775808 ≤ p) (h1 : p ≤ 9223372036854775807) : Calls Try.prog 13 #[.int .i64 p, .int .i64 62] w fun e w' => ∃ c : Int, e = .returned (.int .i64 c) ∧ 0 ≤ c ∧ c ≤ 61 ∧ w = w' := by
  by_cases hn : p < 0
  · go_enter Try.func13, Try.ntmps13
    go_wp2
    go_ret
    have ht : (p + 1).tmod 62 = -((-(p + 1)) % 62) := by
      have h2 : (-(-(p + 1))).tmod 62 = -((-(p + 1)) % 62) := by rw [Int.neg_tmod, Int.tmod_eq_emod_of_nonneg (by omega)]
      rw [Int.neg_neg] at h2
      exact h2
    refine ⟨_, rfl, ?_, ?_, rfl⟩
    all_goals (first | (rw [ht]; omega) | omega)
  · go_enter Try.func13, Try.ntmps13
    go_wp2
    go_ret
    exact ⟨_, rfl, by omega, by omega, rfl⟩

/-- letters and digits. -/
def alnum (q : Int) : Prop := (48 ≤ q ∧ q ≤ 57) ∨ (65 ≤ q ∧ q ≤ 90) ∨ (97 ≤ q ∧ q ≤ 122)
theorem plain_yes {d q : Int} (hd : d = 1 ∨ d = 2 ∨ d = 3) (hq : alnum q) : nextR d [q] 0 = .ok (pointT q, 1) := by
  unfold alnum at hq
  have hp : pointB q = true := by unfold pointB; simp; omega
  have hz : patE d [q] = 0 := by unfold patE; rw [if_neg (by omega), if_neg (by simp), if_pos (by simp [hp])]
  unfold nextR
  rw [if_neg (by simp [hz]), if_neg (by simp)]
  show nextT d [q] 0 = _
  unfold nextT
  simp only [List.getElem?_cons_zero]
  unfold tokT
  rw [if_neg (by omega), if_neg (by omega), if_neg (by omega), if_neg (by omega), if_neg (by omega), if_neg (by omega), if_neg (by omega), if_neg (by omega)]
  split
  · rfl
  · unfold partT
    rw [if_neg (by omega), if_neg (by omega), if_neg (by omega), if_neg (by omega)]
theorem plain_no {d q : Int} (hd : ¬ (d = 1 ∨ d = 2 ∨ d = 3)) : nextR d [q] 0 = .error 7 := by
  have hz : patE d [q] = 7 := by unfold patE; rw [if_pos (by omega)]
  unfold nextR
  rw [if_pos (by rw [hz]; decide), hz]
/-- the last part of the law. -/
def PlainE (e : Ending) : Prop := e = .returned (.bool true)

set_option maxHeartbeats 8000000 in
theorem tokenPlain_walk (d p : Int) (w : World) (h0 : -9223372036854775808 ≤ p) (h1 : p ≤ 9223372036854775807) : Calls Try.prog 6 #[.int .i64 d, .int .i64 p] w fun e w' => e = .returned (.bool true) ∧ Below w.heap.size w w' := by
  have HB := hide (begun_any w)
  have HC := hide (fun w' => choose_any p w' h0 h1)
  have HX : Hid (∀ (w : World) (q : Int), alnum q → Calls Try.prog 8 #[.int .i64 d, .slice (some ⟨w.heap.size, 0, none⟩) 1 1, .int .i64 0] (w.alloc (.cells #[.int .i64 q] 3)) fun e w' => NextE (nextR d [q] 0) (w.alloc (.cells #[.int .i64 q] 3)) e w') := fun w q _ => next_any d 0 _ [q] _ (patV_one w q)
  by_cases hd : d = 1 ∨ d = 2 ∨ d = 3
  · have hd1 : ¬ d < 1 := by omega
    have hd2 : ¬ 3 < d := by omega
    have HD := hide hd
    clear hd
    go_enter Try.func6, Try.ntmps6
    go_wp2_with fail
    refine HB.out.mono ?_
    rintro e w1 ⟨rfl, hb1⟩
    go_wp2_with fail
    refine (HC.out w1).mono ?_
    rintro e w2 ⟨c, rfl, c0, c1, rfl⟩
    have HB1 := hide hb1
    clear hb1 HB HC
    by_cases h36 : 36 ≤ c
    · have hq : Hid (alnum (97 + c - 36)) := by show alnum _; unfold alnum; omega
      have HY := hide (HX.out w1 _ hq.out)
      rw [plain_yes HD.out hq.out] at HY
      go_wp2_with fail
      refine HY.out.mono ?_
      rintro e w3 (⟨t, k, hR, rfl, hb3⟩ | ⟨z, hR, rfl, hb3⟩)
      · cases hR
        have hb0 : Below w1.heap.size w1 (w1.alloc (.cells #[.int .i64 (97 + c - 36)] 3)) := (Below.refl _ w1).alloc (Nat.le_refl _) _
        have HB3 := hide (HB1.out.trans ((hb0.trans (hb3.mono hb0.size)).mono HB1.out.size))
        clear hb3 hb0
        simp only [tokV, pointT]
        go_wp2
        go_ret
        exact ⟨rfl, HB3.out.alloc HB3.out.size _⟩
      · cases hR
    · by_cases h10 : 10 ≤ c
      · have hq : Hid (alnum (65 + c - 10)) := by show alnum _; unfold alnum; omega
        have HY := hide (HX.out w1 _ hq.out)
        rw [plain_yes HD.out hq.out] at HY
        go_wp2_with fail
        refine HY.out.mono ?_
        rintro e w3 (⟨t, k, hR, rfl, hb3⟩ | ⟨z, hR, rfl, hb3⟩)
        · cases hR
          have hb0 : Below w1.heap.size w1 (w1.alloc (.cells #[.int .i64 (65 + c - 10)] 3)) := (Below.refl _ w1).alloc (Nat.le_refl _) _
          have HB3 := hide (HB1.out.trans ((hb0.trans (hb3.mono hb0.size)).mono HB1.out.size))
          clear hb3 hb0
          simp only [tokV, pointT]
          go_wp2
          go_ret
          exact ⟨rfl, HB3.out.alloc HB3.out.size _⟩
        · cases hR
      · have hq : Hid (alnum (48 + c)) := by show alnum _; unfold alnum; omega
        have HY := hide (HX.out w1 _ hq.out)
        rw [plain_yes HD.out hq.out] at HY
        go_wp2_with fail
        refine HY.out.mono ?_
        rintro e w3 (⟨t, k, hR, rfl, hb3⟩ | ⟨z, hR, rfl, hb3⟩)
        · cases hR
          have hb0 : Below w1.heap.size w1 (w1.alloc (.cells #[.int .i64 (48 + c)] 3)) := (Below.refl _ w1).alloc (Nat.le_refl _) _
          have HB3 := hide (HB1.out.trans ((hb0.trans (hb3.mono hb0.size)).mono HB1.out.size))
          clear hb3 hb0
          simp only [tokV, pointT]
          go_wp2
          go_ret
          exact ⟨rfl, HB3.out.alloc HB3.out.size _⟩
        · cases hR
  · have hd1 : d < 1 ∨ 3 < d := by omega
    have HD := hide hd
    clear hd
    have HD1 := hide hd1
    clear hd1
    go_enter Try.func6, Try.ntmps6
    go_wp2_with fail
    refine HB.out.mono ?_
    rintro e w1 ⟨rfl, hb1⟩
    go_wp2_with fail
    refine (HC.out w1).mono ?_
    rintro e w2 ⟨c, rfl, c0, c1, rfl⟩
    have HB1 := hide hb1
    clear hb1 HB HC
    rcases HD1.out with hd1 | hd1
    all_goals
      by_cases h36 : 36 ≤ c
      · have hq : Hid (alnum (97 + c - 36)) := by show alnum _; unfold alnum; omega
        have HY := hide (HX.out w1 _ hq.out)
        rw [plain_no HD.out] at HY
        go_wp2_with fail
        refine HY.out.mono ?_
        rintro e w3 (⟨t, k, hR, rfl, hb3⟩ | ⟨z, hR, rfl, hb3⟩)
        · cases hR
        · cases hR
          have hb0 : Below w1.heap.size w1 (w1.alloc (.cells #[.int .i64 (97 + c - 36)] 3)) := (Below.refl _ w1).alloc (Nat.le_refl _) _
          have HB3 := hide (HB1.out.trans ((hb0.trans (hb3.mono hb0.size)).mono HB1.out.size))
          clear hb3 hb0
          simp only [tokV]
          go_wp2
          all_goals first | (exfalso; omega) | skip
          go_ret
          exact ⟨rfl, HB3.out.alloc HB3.out.size _⟩
      · by_cases h10 : 10 ≤ c
        · have hq : Hid (alnum (65 + c - 10)) := by show alnum _; unfold alnum; omega
          have HY := hide (HX.out w1 _ hq.out)
          rw [plain_no HD.out] at HY
          go_wp2_with fail
          refine HY.out.mono ?_
          rintro e w3 (⟨t, k, hR, rfl, hb3⟩ | ⟨z, hR, rfl, hb3⟩)
          · cases hR
          · cases hR
            have hb0 : Below w1.heap.size w1 (w1.alloc (.cells #[.int .i64 (65 + c - 10)] 3)) := (Below.refl _ w1).alloc (Nat.le_refl _) _
            have HB3 := hide (HB1.out.trans ((hb0.trans (hb3.mono hb0.size)).mono HB1.out.size))
            clear hb3 hb0
            simp only [tokV]
            go_wp2
            all_goals first | (exfalso; omega) | skip
            go_ret
            exact ⟨rfl, HB3.out.alloc HB3.out.size _⟩
        · have hq : Hid (alnum (48 + c)) := by show alnum _; unfold alnum; omega
          have HY := hide (HX.out w1 _ hq.out)
          rw [plain_no HD.out] at HY
          go_wp2_with fail
          refine HY.out.mono ?_
          rintro e w3 (⟨t, k, hR, rfl, hb3⟩ | ⟨z, hR, rfl, hb3⟩)
          · cases hR
          · cases hR
            have hb0 : Below w1.heap.size w1 (w1.alloc (.cells #[.int .i64 (48 + c)] 3)) := (Below.refl _ w1).alloc (Nat.le_refl _) _
            have HB3 := hide (HB1.out.trans ((hb0.trans (hb3.mono hb0.size)).mono HB1.out.size))
            clear hb3 hb0
            simp only [tokV]
            go_wp2
            all_goals first | (exfalso; omega) | skip
            go_ret
            exact ⟨rfl, HB3.out.alloc HB3.out.size _⟩

end Go.Proofs.Ytlapnhjkhpgklaa
