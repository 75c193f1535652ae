/- The law FoldOrbits returns true, where the table of letters lies in memory. -/
import Derived.Test.YtjhombfcbfhinaaDoorOrbo
import Derived.Test.YtjhombfcbfhinaaDoorLawl
namespace Go.Proofs.YtjhombfcbfhinaaDoor
open Go.RowKit
set_option linter.unusedVariables false

theorem lies_getD {w : World} {g : Nat} {l : List Int} (h : Lies w g l) : ∀ j, j < l.length → w.cell? ((⟨g, 0, none⟩ : Addr).add j) = some (.int .i64 (l.getD j 0)) := fun j hj => by
  rw [add_lit0, h j hj]
  simp [List.getD, hj]

set_option maxHeartbeats 2000000 in
theorem foldOrbits_walk (p : Int) (w : World) (hT : Tab w) (hpos : 0 < w.heap.size) :
    Calls Tryd.prog 3 #[.int .i64 p] w fun e w' => e = .returned (.bool true) ∧ Below w.heap.size w w' := by
  have HR := hide (isPointR_any p)
  have HBg := hide (fun w1 (h : Below w.heap.size w w1) => begun_any w1 (hT.below h hpos) (Nat.lt_of_lt_of_le hpos h.size))
  by_cases hp : 0 ≤ p ∧ p ≤ 1114111
  · obtain ⟨h0, h1⟩ := hp
    rw [show decide (0 ≤ p ∧ p ≤ 1114111) = true from by simp [h0, h1]] at HR
    have HO := hide (Orbit_yes p w h0 h1 hT hpos)
    have HL := hide (fun w1 (h : Below w.heap.size w w1) => Least_yes p w1 h0 h1 (hT.below h hpos) (Nat.lt_of_lt_of_le hpos h.size))
    have HW := hide (fun w1 => orbitOf_any p w1 h0 h1)
    obtain ⟨n1, n3⟩ := orb_len p h0 h1
    have hleast : Hid (least p = (orb p).getD 0 0) := rfl
    obtain ⟨l, hl⟩ : ∃ l, l = orb p := ⟨_, rfl⟩
    rw [← hl] at HO HW n1 n3 hleast
    obtain ⟨le, hle⟩ : ∃ le, le = least p := ⟨_, rfl⟩
    rw [← hle] at HL hleast
    clear hl hle hT hpos h0 h1
    go_enter Tryd.func3, Tryd.ntmps3
    go_wp2_with fail
    refine HO.out.mono ?_
    rintro e w1 ⟨g1, c1, rfl, ho1, hb1⟩
    go_wp2_with fail
    refine (HL.out w1 hb1).mono ?_
    rintro e w2 ⟨rfl, hb2'⟩
    have hb2 := hb1.trans (hb2'.mono hb1.size)
    have ho2 := own_below ho1 hb2'
    go_wp2_with fail
    refine (HR.out w2).mono ?_
    rintro e w2' ⟨rfl, rfl⟩
    go_wp2_with fail
    refine (HW.out _).mono ?_
    rintro e w3 ⟨v3, rfl, ho3, hb3'⟩
    have hb3 := hb2.trans (hb3'.mono hb2.size)
    have ho2 := own_below ho2 hb3'
    obtain ⟨g3, c3, rfl⟩ := own_some ho3 n1
    go_wp2_with fail
    refine (HBg.out w3 hb3).mono ?_
    rintro e w4 ⟨rfl, hb4'⟩
    have hb4 := hb3.trans (hb4'.mono hb3.size)
    have ho2 := own_below ho2 hb4'
    have ho3 := own_below ho3 hb4'
    have HS := hide (sameInts_yes l ⟨g1, 0, none⟩ ⟨g3, 0, none⟩ c1 c3 (by omega) w4 (lies_getD (own_lies ho2 rfl)) (lies_getD (own_lies ho3 rfl)))
    have c0 : w4.cell? ⟨g3, 0, none⟩ = some (.int .i64 le) := by
      rw [own_lies ho3 rfl 0 (by omega), hleast.out]
      simp [List.getD, show 0 < l.length by omega]
    have HB4 := hide hb4
    obtain ⟨n, hn⟩ : ∃ n, n = l.length := ⟨_, rfl⟩
    rw [← hn] at HS n1 n3 ⊢
    clear ho1 ho2 ho3 hb1 hb2 hb2' hb3 hb3' hb4 hb4' hn
    go_wp2_with fail
    refine HS.out.mono ?_
    rintro e w5 ⟨rfl, q, hw5⟩
    have c5 : w5.cell? ⟨g3, 0, none⟩ = some (.int .i64 le) := by rw [hw5]; exact c0
    have HB5 : Hid (Below w.heap.size w w5) := by show Below _ _ _; rw [hw5]; exact below_drewN HB4.out q
    clear hw5 c0
    go_wp2
    go_ret
    exact ⟨rfl, HB5.out⟩
  · rw [show decide (0 ≤ p ∧ p ≤ 1114111) = false from by simpa using hp] at HR
    have HO := hide (Orbit_no p w hp)
    have HL := hide (Least_no p w hp)
    have HB0 := hide (HBg.out w (Below.refl _ _))
    clear hT hpos hp HBg
    go_enter Tryd.func3, Tryd.ntmps3
    go_wp2_with fail
    refine HO.out.mono ?_
    rintro e w1 ⟨rfl, hw1⟩
    rw [hw1]
    clear hw1
    go_wp2_with fail
    refine HL.out.mono ?_
    rintro e w1 ⟨rfl, hw1⟩
    rw [hw1]
    clear hw1
    go_wp2_with fail
    refine (HR.out w).mono ?_
    rintro e w1 ⟨rfl, hw1⟩
    rw [hw1]
    clear hw1
    go_wp2_with fail
    refine HB0.out.mono ?_
    rintro e w1 ⟨rfl, hb1⟩
    go_wp2
    go_ret
    exact ⟨rfl, hb1⟩

end Go.Proofs.YtjhombfcbfhinaaDoor
