/- The law FoldAlike returns true, where the table of letters lies in memory. -/
import Derived.Test.YtjhombfcbfhinaaDoorAlike
namespace Go.Proofs.YtjhombfcbfhinaaDoor
open Go.RowKit
set_option linter.unusedVariables false

set_option maxHeartbeats 2000000 in
theorem foldAlike_walk (s : ByteArray) (p : Int) (w : World) (hT : Tab w) (hpos : 0 < w.heap.size) :
    Calls Tryd.prog 8 #[.string s, .int .i64 p] w fun e w' => e = .returned (.bool true) ∧ Below w.heap.size w w' := by
  have HB := hide (begun_any w hT hpos)
  clear hT hpos
  by_cases hs : s ∈ names
  · have HC := hide (fun w => Class_some s w hs)
    have HI := hide (fun w => In_some s p w hs)
    have hlen := cls_len s hs
    have hin := inP_cls p s
    obtain ⟨L, hL⟩ : ∃ L, L = clsOf s := ⟨_, rfl⟩
    obtain ⟨r, hr⟩ : ∃ r, r = inP p (rngOf s) := ⟨_, rfl⟩
    rw [← hL] at HC hlen hin
    rw [← hr] at HI hin
    have HIN := hide hin
    obtain ⟨l1, l2⟩ := hlen
    clear hL hr hs hin
    by_cases hp : 0 ≤ p ∧ p ≤ 1114111
    · rw [show decide (0 ≤ p ∧ p ≤ 1114111) = true from by simpa using hp] at HI
      rw [if_pos hp, Bool.true_and] at HI
      clear hp
      have hrr : (r == r) = true := by simp
      go_enter Tryd.func8, Tryd.ntmps8
      go_wp2_with fail
      refine HB.out.mono ?_
      rintro e w1 ⟨rfl, hb1⟩
      go_wp2_with fail
      refine (HC.out _).mono ?_
      rintro e w2 ⟨v, rfl, ho, hb2⟩
      obtain ⟨g, c, rfl⟩ := own_some ho l1
      have hc2 := hb1.trans (hb2.mono hb1.size)
      have HO := hide ho
      clear ho hb1 hb2
      go_wp2_with fail
      refine (HI.out _).mono ?_
      rintro e w3 ⟨rfl, hb3⟩
      have hc3 := hc2.trans (hb3.mono hc2.size)
      have HW := hide (within_any L g c p (by omega) w3 (own_cell49 (own_below HO.out hb3)))
      rw [HIN.out] at HW
      clear hb3
      go_wp2_with fail
      refine HW.out.mono ?_
      rintro e w4 ⟨rfl, q, hq⟩
      have hc4 : Below w.heap.size w w4 := by rw [hq]; exact below_drewN hc3 _
      clear hq
      go_wp2
      go_ret
      exact ⟨rfl, hc4⟩
    · rw [show decide (0 ≤ p ∧ p ≤ 1114111) = false from by simpa using hp] at HI
      rw [if_neg hp, Bool.false_and] at HI
      clear hp
      go_enter Tryd.func8, Tryd.ntmps8
      go_wp2_with fail
      refine HB.out.mono ?_
      rintro e w1 ⟨rfl, hb1⟩
      go_wp2_with fail
      refine (HC.out _).mono ?_
      rintro e w2 ⟨v, rfl, ho, hb2⟩
      obtain ⟨g, c, rfl⟩ := own_some ho l1
      have hc2 := hb1.trans (hb2.mono hb1.size)
      clear ho hb1 hb2
      go_wp2_with fail
      refine (HI.out _).mono ?_
      rintro e w3 ⟨rfl, hb3⟩
      have hc3 := hc2.trans (hb3.mono hc2.size)
      go_wp2
      go_ret
      exact ⟨rfl, hc3⟩
  · have HC := hide (fun w => Class_none s w hs)
    have HI := hide (fun w => In_none s p w hs)
    clear hs
    go_enter Tryd.func8, Tryd.ntmps8
    go_wp2_with fail
    refine HB.out.mono ?_
    rintro e w1 ⟨rfl, hb1⟩
    go_wp2_with fail
    refine (HC.out _).mono ?_
    rintro e w2 ⟨rfl, hb2⟩
    have hc2 := hb1.trans (hb2.mono hb1.size)
    go_wp2_with fail
    refine (HI.out _).mono ?_
    rintro e w3 ⟨rfl, hb3⟩
    have hc3 := hc2.trans (hb3.mono hc2.size)
    go_wp2
    go_ret
    exact ⟨rfl, hc3⟩

end Go.Proofs.YtjhombfcbfhinaaDoor
