/- The law FoldLeast returns true, where the table of letters lies in memory. -/
import Derived.Test.YtjhombfcbfhinaaDoorBegun
namespace Go.Proofs.YtjhombfcbfhinaaDoor
open Go.RowKit
set_option linter.unusedVariables false

set_option maxHeartbeats 1000000 in
theorem hasInt_any (l : List Int) (a : Addr) (cap : Nat) (x : Int) (hl : l.length ≤ 4000) (w : World) (hc : ∀ j, j < l.length → w.cell? (a.add j) = some (.int .i64 (l.getD j 0))) :
    Calls Tryd.prog 21 #[.slice (some a) l.length cap, .int .i64 x] w fun e w' => e = .returned (.bool (l.contains x)) ∧ w = w' := by
  have HC := hide hc
  clear hc
  go_enter Tryd.func21, Tryd.ntmps21
  go_wp2
  go_loop [5] (fun i => ∃ k : Nat, k ≤ l.length ∧ i = .int .i64 k ∧ x ∉ l.take k) (fun i => l.length - (intOf i).toNat)
  case atStart => exact ⟨0, Nat.zero_le _, rfl, by simp⟩
  case round =>
    obtain ⟨k, hk, rfl, hn⟩ := hrel
    by_cases hlt : k < l.length
    · obtain ⟨y, hy⟩ : ∃ y, y = l.getD k 0 := ⟨_, rfl⟩
      have hcy : w.cell? (a.add k) = some (.int .i64 y) := by rw [hy]; exact HC.out k hlt
      have HY := hide hy
      have HN := hide hn
      have hmem : Hid (y ∈ l) := by show _ ∈ _; rw [hy]; simp [List.getD, hlt]
      clear hy hn
      by_cases hxy : y = x
      · have hb : (y == x) = true := by simpa using hxy
        have HXY := hide hxy
        clear hxy
        go_wp2
        go_ret
        exact ⟨ret_bool (by have h := hmem.out; rw [HXY.out] at h; simp [h]), rfl⟩
      · have hb : (y == x) = false := by simpa using hxy
        have HXY := hide hxy
        clear hxy
        go_wp2
        go_round
        case rel => exact ⟨k + 1, by omega, by go_num, by
          rw [List.take_add_one]
          simp only [List.mem_append, not_or]
          refine ⟨HN.out, ?_⟩
          have := HY.out
          simp [List.getD, List.getElem?_eq_getElem hlt] at this ⊢
          rw [← this]; exact fun e => HXY.out e.symm⟩
        case measure => simp [intOf]; omega
    · have hkl : k = l.length := by omega
      subst hkl
      rw [List.take_length] at hn
      have HN := hide hn
      clear hn
      go_wp2
      go_ret
      exact ⟨ret_bool (by have h := HN.out; simp [h]), rfl⟩

theorem least_rng (p : Int) (h0 : 0 ≤ p) (h1 : p ≤ 1114111) : 0 ≤ least p ∧ least p ≤ 1114111 := orb_range p h0 h1 _ (least_mem p)

set_option maxHeartbeats 2000000 in
theorem foldLeast_walk (p q : Int) (w : World) (hT : Tab w) (hpos : 0 < w.heap.size) :
    Calls Tryd.prog 7 #[.int .i64 p, .int .i64 q] w fun e w' => e = .returned (.bool true) ∧ Below w.heap.size w w' := by
  have HB := hide (begun_any w hT hpos)
  have HT := hide hT
  by_cases hp : 0 ≤ p ∧ p ≤ 1114111
  · obtain ⟨p0, p1⟩ := hp
    have LP : Hid (∀ w1, Below w.heap.size w w1 → Calls Tryd.prog 10 #[.int .i64 p] w1 fun e w' => e = .returned (.tuple #[.int .i64 (least p), .int .i64 0]) ∧ Below w1.heap.size w1 w') := fun w1 hb => Least_yes p w1 p0 p1 (HT.out.below hb hpos) (Nat.lt_of_lt_of_le hpos hb.size)
    by_cases hq : 0 ≤ q ∧ q ≤ 1114111
    · obtain ⟨q0, q1⟩ := hq
      have LQ : Hid (∀ w1, Below w.heap.size w w1 → Calls Tryd.prog 10 #[.int .i64 q] w1 fun e w' => e = .returned (.tuple #[.int .i64 (least q), .int .i64 0]) ∧ Below w1.heap.size w1 w') := fun w1 hb => Least_yes q w1 q0 q1 (HT.out.below hb hpos) (Nat.lt_of_lt_of_le hpos hb.size)
      obtain ⟨a0, a1⟩ := least_rng p p0 p1
      have LA : Hid (∀ w1, Below w.heap.size w w1 → Calls Tryd.prog 10 #[.int .i64 (least p)] w1 fun e w' => e = .returned (.tuple #[.int .i64 (least p), .int .i64 0]) ∧ Below w1.heap.size w1 w') := fun w1 hb => by
        have h := Least_yes (least p) w1 a0 a1 (HT.out.below hb hpos) (Nat.lt_of_lt_of_le hpos hb.size)
        rw [least_least] at h
        exact h
      have OP : Hid (∀ w1, Below w.heap.size w w1 → Calls Tryd.prog 9 #[.int .i64 p] w1 fun e w' => ∃ g cap, e = .returned (.tuple #[.slice (some ⟨g, 0, none⟩) (orb p).length cap, .int .i64 0]) ∧ w'.ownsRow w1.heap.size 3 1 (.slice (some ⟨g, 0, none⟩) (orb p).length cap) (orb p).length (i64s (orb p)) ∧ Below w1.heap.size w1 w') := fun w1 hb => Orbit_yes p w1 p0 p1 (HT.out.below hb hpos) (Nat.lt_of_lt_of_le hpos hb.size)
      have hle : least p ≤ p := orb_head p
      have hiff := hide (least_iff p q)
      have hol := orb_len p p0 p1
      obtain ⟨l, hl⟩ : ∃ l, l = orb p := ⟨_, rfl⟩
      rw [← hl] at OP hiff hol
      obtain ⟨A, hA⟩ : ∃ A, A = least p := ⟨_, rfl⟩
      obtain ⟨C, hC⟩ : ∃ C, C = least q := ⟨_, rfl⟩
      rw [← hA] at LP LA hiff hle
      rw [← hC] at LQ hiff
      obtain ⟨o1, o2⟩ := hol
      clear hl hA hC hT a0 a1
      have hrefl : (A == A) = true := by simp
      go_enter Tryd.func7, Tryd.ntmps7
      go_wp2_with fail
      refine HB.out.mono ?_
      rintro e w1 ⟨rfl, hb1⟩
      go_wp2_with fail
      refine (LP.out _ hb1).mono ?_
      rintro e w2 ⟨rfl, hb2⟩
      have hc2 := hb1.trans (hb2.mono hb1.size)
      go_wp2_with fail
      refine (LQ.out _ hc2).mono ?_
      rintro e w3 ⟨rfl, hb3⟩
      have hc3 := hc2.trans (hb3.mono hc2.size)
      go_wp2_with fail
      refine (LA.out _ hc3).mono ?_
      rintro e w4 ⟨rfl, hb4⟩
      have hc4 := hc3.trans (hb4.mono hc3.size)
      go_wp2_with fail
      refine (OP.out _ hc4).mono ?_
      rintro e w5 ⟨g, c, rfl, ho, hb5⟩
      have hc5 := hc4.trans (hb5.mono hc4.size)
      have HI := hide (hasInt_any l ⟨g, 0, none⟩ c q (by omega) w5 (own_cells ho))
      clear ho hb1 hb2 hb3 hb4 hb5 hc2 hc3 hc4
      by_cases hac : A = C
      · have e1 : (A == C) = true := by simpa using hac
        have e2 : l.contains q = true := by simpa using hiff.out.1 hac
        rw [e2] at HI
        clear hac e2
        go_wp2_with (go_at_call 21; refine HI.out.mono ?_; rintro e w' ⟨rfl, rfl⟩)
        go_ret
        exact ⟨rfl, hc5⟩
      · have e1 : (A == C) = false := by simpa using hac
        have e2 : l.contains q = false := by rw [Bool.eq_false_iff]; intro h; exact hac (hiff.out.2 (by simpa using h))
        rw [e2] at HI
        clear hac e2
        go_wp2_with (go_at_call 21; refine HI.out.mono ?_; rintro e w' ⟨rfl, rfl⟩)
        go_ret
        exact ⟨rfl, hc5⟩
    · have LQ := hide (fun w1 => Least_no q w1 hq)
      clear hT hq
      go_enter Tryd.func7, Tryd.ntmps7
      go_wp2_with fail
      refine HB.out.mono ?_
      rintro e w1 ⟨rfl, hb1⟩
      go_wp2_with fail
      refine (LP.out _ hb1).mono ?_
      rintro e w2 ⟨rfl, hb2⟩
      have hc2 := hb1.trans (hb2.mono hb1.size)
      clear hb1 hb2
      go_wp2_with fail
      refine (LQ.out _).mono ?_
      rintro e w3 ⟨rfl, rfl⟩
      go_wp2
      go_ret
      exact ⟨rfl, hc2⟩
  · have LP := hide (fun w1 => Least_no p w1 hp)
    clear hp
    by_cases hq : 0 ≤ q ∧ q ≤ 1114111
    · obtain ⟨q0, q1⟩ := hq
      have LQ : Hid (∀ w1, Below w.heap.size w w1 → Calls Tryd.prog 10 #[.int .i64 q] w1 fun e w' => e = .returned (.tuple #[.int .i64 (least q), .int .i64 0]) ∧ Below w1.heap.size w1 w') := fun w1 hb => Least_yes q w1 q0 q1 (HT.out.below hb hpos) (Nat.lt_of_lt_of_le hpos hb.size)
      clear hT
      go_enter Tryd.func7, Tryd.ntmps7
      go_wp2_with fail
      refine HB.out.mono ?_
      rintro e w1 ⟨rfl, hb1⟩
      go_wp2_with fail
      refine (LP.out _).mono ?_
      rintro e w2 ⟨rfl, rfl⟩
      go_wp2_with fail
      refine (LQ.out _ hb1).mono ?_
      rintro e w3 ⟨rfl, hb3⟩
      go_wp2
      go_ret
      exact ⟨rfl, hb1.trans (hb3.mono hb1.size)⟩
    · have LQ := hide (fun w1 => Least_no q w1 hq)
      clear hT hq
      go_enter Tryd.func7, Tryd.ntmps7
      go_wp2_with fail
      refine HB.out.mono ?_
      rintro e w1 ⟨rfl, hb1⟩
      go_wp2_with fail
      refine (LP.out _).mono ?_
      rintro e w2 ⟨rfl, rfl⟩
      go_wp2_with fail
      refine (LQ.out _).mono ?_
      rintro e w3 ⟨rfl, rfl⟩
      go_wp2
      go_ret
      exact ⟨rfl, hb1⟩

end Go.Proofs.YtjhombfcbfhinaaDoor
