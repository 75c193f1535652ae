/- The law FoldIn returns true, where the table of letters lies in memory. -/
import Derived.Test.YtjhombfcbfhinaaDoorBegun
import Derived.Test.YtjhombfcbfhinaaDoorRefd
namespace Go.Proofs.YtjhombfcbfhinaaDoor
open Go.RowKit
set_option linter.unusedVariables false

set_option maxHeartbeats 2000000 in
theorem foldIn_walk (s : ByteArray) (p : Int) (w : World) (hT : Tab w) (hpos : 0 < w.heap.size) :
    Calls Tryd.prog 5 #[.string s, .int .i64 p] w fun e w' => e = .returned (.bool true) ∧ Below w.heap.size w w' := by
  have HB : Hid (∀ w1, Below w.heap.size w w1 → Calls Tryd.prog 12 #[] w1 fun e w' => e = .returned (.bool true) ∧ Below w1.heap.size w1 w') := fun w1 hb => begun_any w1 (hT.below hb hpos) (Nat.lt_of_lt_of_le hpos hb.size)
  have HC := hide (isClass_any s)
  have HP := hide (isPointR_any p)
  clear hT hpos
  by_cases hs : s ∈ names
  · rw [(isName_iff s).2 hs] at HC
    have HI := hide (fun w => In_some s p w hs)
    have HR := hide (inR_some s hs p)
    obtain ⟨r, hr⟩ : ∃ r, r = inP p (rngOf s) := ⟨_, rfl⟩
    rw [← hr] at HI HR
    clear hr hs
    by_cases hp : 0 ≤ p ∧ p ≤ 1114111
    · rw [show decide (0 ≤ p ∧ p ≤ 1114111) = true from by simpa using hp] at HI HP
      rw [if_pos hp, Bool.true_and] at HI
      clear hp
      have hrr : (r == r) = true := by simp
      go_enter Tryd.func5, Tryd.ntmps5
      go_wp2_with fail
      refine (HI.out _).mono ?_
      rintro e w1 ⟨rfl, hb1⟩
      go_wp2_with fail
      refine (HC.out _).mono ?_
      rintro e w2 ⟨rfl, hb2⟩
      have hc2 := hb1.trans (hb2.mono hb1.size)
      go_wp2_with fail
      refine (HP.out _).mono ?_
      rintro e w3 ⟨rfl, rfl⟩
      go_wp2_with fail
      refine (HB.out _ hc2).mono ?_
      rintro e w4 ⟨rfl, hb4⟩
      have hc4 := hc2.trans (hb4.mono hc2.size)
      go_wp2_with fail
      refine (HR.out _).mono ?_
      rintro e w5 ⟨rfl, rfl⟩
      go_wp2
      go_ret
      exact ⟨rfl, hc4⟩
    · rw [show decide (0 ≤ p ∧ p ≤ 1114111) = false from by simpa using hp] at HI HP
      rw [if_neg hp, Bool.false_and] at HI
      clear hp
      go_enter Tryd.func5, Tryd.ntmps5
      go_wp2_with fail
      refine (HI.out _).mono ?_
      rintro e w1 ⟨rfl, hb1⟩
      go_wp2_with fail
      refine (HC.out _).mono ?_
      rintro e w2 ⟨rfl, hb2⟩
      have hc2 := hb1.trans (hb2.mono hb1.size)
      go_wp2_with fail
      refine (HP.out _).mono ?_
      rintro e w3 ⟨rfl, rfl⟩
      go_wp2_with fail
      refine (HB.out _ hc2).mono ?_
      rintro e w4 ⟨rfl, hb4⟩
      have hc4 := hc2.trans (hb4.mono hc2.size)
      go_wp2
      go_ret
      exact ⟨rfl, hc4⟩
  · rw [isName_no hs] at HC
    have HI := hide (fun w => In_none s p w hs)
    clear hs
    go_enter Tryd.func5, Tryd.ntmps5
    go_wp2_with fail
    refine (HI.out _).mono ?_
    rintro e w1 ⟨rfl, hb1⟩
    go_wp2_with fail
    refine (HC.out _).mono ?_
    rintro e w2 ⟨rfl, hb2⟩
    have hc2 := hb1.trans (hb2.mono hb1.size)
    go_wp2_with fail
    refine (HB.out _ hc2).mono ?_
    rintro e w4 ⟨rfl, hb4⟩
    have hc4 := hc2.trans (hb4.mono hc2.size)
    go_wp2
    go_ret
    exact ⟨rfl, hc4⟩

end Go.Proofs.YtjhombfcbfhinaaDoor
