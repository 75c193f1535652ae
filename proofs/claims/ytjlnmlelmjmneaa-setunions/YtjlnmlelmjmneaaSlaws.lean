/- What setIs and CheckSets answer; the walks of SetMakes, SetNots, SetUnions, SetMeets and SetLess. -/
import Derived.Test.YtjlnmlelmjmneaaSrefo
import Derived.Test.YtjlnmlelmjmneaaSbegun
import Derived.Test.YtjlnmlelmjmneaaSchkd
namespace Go.Proofs.Ytjlnmlelmjmneaa
open Go.RowKit
set_option linter.unusedVariables false

set_option maxHeartbeats 1000000 in
theorem checkSets_any (va vb : Value) (A B : RL) (w : World) (hA : Reads w va A) (hB : Reads w vb B) : Calls Try.prog 17 #[va, vb] w fun e w' => e = .returned (.int .i64 (chk2 A B)) ∧ Below w.heap.size w w' := by
  have H1 := hide (checkSet_any va A w hA)
  have H2 := hide (fun w1 (h : Below w.heap.size w w1) => checkSet_any vb B w1 (hB.below h))
  clear hA hB
  by_cases h0 : checkE A = 0
  · have hE : Hid (chk2 A B = checkE B) := by show _ = _; unfold chk2; rw [if_pos h0]
    rw [h0] at H1
    clear h0
    go_enter Try.func17, Try.ntmps17
    go_wp2_with fail
    refine H1.out.mono ?_
    rintro e w1 ⟨rfl, hb1⟩
    go_wp2_with fail
    refine (H2.out w1 hb1).mono ?_
    rintro e w2 ⟨rfl, hb2⟩
    go_wp2
    go_ret
    exact ⟨ret_int hE.out.symm, hb1.trans (hb2.mono hb1.size)⟩
  · have hE : Hid (chk2 A B = checkE A) := by show _ = _; unfold chk2; rw [if_neg h0]
    obtain ⟨z, hz⟩ : ∃ z, z = checkE A := ⟨_, rfl⟩
    rw [← hz] at h0 H1 hE
    have hz0 : (z == 0) = false := by simpa using h0
    clear hz h0 H2
    go_enter Try.func17, Try.ntmps17
    go_wp2_with fail
    refine H1.out.mono ?_
    rintro e w1 ⟨rfl, hb1⟩
    go_wp2
    go_ret
    exact ⟨ret_int hE.out.symm, hb1⟩

theorem same_yes (va vb : Value) (A : RL) (w : World) (hA : Reads w va A) (hB : Reads w vb A) (lA : A.length ≤ 1000000) : Calls Try.prog 32 #[va, vb] w fun e w' => e = .returned (.bool true) ∧ Below w.heap.size w w' :=
  (sameSet_any va vb A A w hA hB lA).mono fun e w' ⟨h, q, hq⟩ => ⟨by rw [h]; simp, by rw [hq]; exact below_drewN (Below.refl _ _) q⟩
set_option maxHeartbeats 1000000 in
theorem setIs_any (va vw : Value) (A W : RL) (e c : Int) (w : World) (hA : Reads w va A) (hW : Reads w vw W)
    (h : (c ≠ 0 ∧ e = c ∧ A = []) ∨ (c = 0 ∧ ((W.length ≤ 400 ∧ e = 0 ∧ A = W) ∨ (400 < W.length ∧ e = 2 ∧ A = [])))) :
    Calls Try.prog 15 #[va, .int .i64 e, .int .i64 c, vw] w fun e w' => e = .returned (.bool true) ∧ Below w.heap.size w w' := by
  obtain ⟨wo, cw, hvw⟩ := hW.shape
  rcases h with ⟨h1, rfl, rfl⟩ | ⟨rfl, ⟨h1, rfl, rfl⟩ | ⟨h1, rfl, rfl⟩⟩
  · have HS := hide (same_yes va (.slice none 0 0) [] w hA (reads_nil w) (by decide))
    rw [hvw]
    have he0 : (e == 0) = false := by simpa using h1
    clear hA hW hvw h1
    go_enter Try.func15, Try.ntmps15
    go_wp2_with fail
    refine HS.out.mono ?_
    rintro e' w1 ⟨rfl, hb1⟩
    go_wp2
    go_ret
    exact ⟨rfl, hb1⟩
  · have HS := hide (same_yes va vw A w hA hW (by omega))
    obtain ⟨n, hn⟩ : ∃ n, n = A.length := ⟨_, rfl⟩
    rw [← hn] at h1 hvw
    rw [hvw] at HS ⊢
    clear hA hW hvw hn
    go_enter Try.func15, Try.ntmps15
    go_wp2_with fail
    refine HS.out.mono ?_
    rintro e' w1 ⟨rfl, hb1⟩
    go_wp2
    go_ret
    exact ⟨rfl, hb1⟩
  · have HS := hide (same_yes va (.slice none 0 0) [] w hA (reads_nil w) (by decide))
    obtain ⟨n, hn⟩ : ∃ n, n = W.length := ⟨_, rfl⟩
    rw [← hn] at h1 hvw
    rw [hvw]
    clear hA hW hvw hn
    go_enter Try.func15, Try.ntmps15
    go_wp2_with fail
    refine HS.out.mono ?_
    rintro e' w1 ⟨rfl, hb1⟩
    go_wp2
    go_ret
    exact ⟨rfl, hb1⟩

/-- what the program made against what the reference made. -/
theorem made_good {f : Int → Bool} {err : Int} {O T : RL} (hm : Made f 0 err O) (hT : IsSet f T) : (T.length ≤ 400 ∧ err = 0 ∧ O = T) ∨ (400 < T.length ∧ err = 2 ∧ O = []) := by
  rcases hm with ⟨h, _⟩ | ⟨_, S, hS, h⟩
  · exact absurd rfl h
  · have : S = T := isSet_one hS hT
    subst this
    exact h
theorem made_bad {f : Int → Bool} {c err : Int} {O : RL} (hm : Made f c err O) (hc : c ≠ 0) : err = c ∧ O = [] := by
  rcases hm with ⟨_, h⟩ | ⟨h, _⟩
  · exact h
  · exact absurd h hc

end Go.Proofs.Ytjlnmlelmjmneaa
