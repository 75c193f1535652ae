/- The law FoldOnes returns true, where the table of letters lies in memory. -/
import Derived.Test.YtjhombfcbfhinaaDoorOnes
import Derived.Test.YtjhombfcbfhinaaDoorRefc
namespace Go.Proofs.YtjhombfcbfhinaaDoor
open Go.RowKit
set_option linter.unusedVariables false

theorem upper_alpha (p : Int) (h : inP p ps_upper = true) : inP p ps_alpha = true := by
  simp only [ps_upper, inP_append, Bool.or_eq_true, inP_every] at h
  simp [inP] at h
  simp [inP, ps_alpha, psAlpha, psAlpha1, psAlpha2]
  omega
theorem lower_alpha (p : Int) (h : inP p ps_lower = true) : inP p ps_alpha = true := by
  simp only [ps_lower, inP_append, Bool.or_eq_true, inP_every] at h
  simp [inP] at h
  simp [inP, ps_alpha, psAlpha, psAlpha1, psAlpha2]
  omega

set_option maxHeartbeats 1000000 in
theorem foldOnes_walk (p : Int) (w : World) (hT : Tab w) (hpos : 0 < w.heap.size) :
    Calls Tryd.prog 6 #[.int .i64 p] w fun e w' => e = .returned (.bool true) ∧ Below w.heap.size w w' := by
  by_cases hp : 0 ≤ p ∧ p ≤ 1114111
  · exact foldOnes_yes p hp.1 hp.2 w hT hpos (upper_alpha p) (lower_alpha p)
  · have HB := hide (begun_any w hT hpos)
    have HO := hide (fun w1 => Orbit_no p w1 hp)
    clear hT hpos hp
    go_enter Tryd.func6, Tryd.ntmps6
    go_wp2_with fail
    refine HB.out.mono ?_
    rintro e w1 ⟨rfl, hb1⟩
    go_wp2_with fail
    refine (HO.out _).mono ?_
    rintro e w2 ⟨rfl, rfl⟩
    go_wp2
    go_ret
    exact ⟨rfl, hb1⟩

end Go.Proofs.YtjhombfcbfhinaaDoor
