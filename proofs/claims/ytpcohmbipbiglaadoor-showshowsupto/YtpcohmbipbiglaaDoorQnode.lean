/- What rightNode answers. -/
import Derived.Test.YtpcohmbipbiglaaDoorQpure
import Derived.Test.YtpcohmbipbiglaaDoorSchkd
import Derived.Test.YtpcohmbipbiglaaDoorQgreat
import Derived.Deep.Cut
namespace Go.Proofs.YtpcohmbipbiglaaDoor
open Go.RowKit
set_option linter.unusedVariables false

theorem q_betw (p a b : Int) (w : World) : Calls Tryd.prog 18 #[.int .i64 p, .int .i64 a, .int .i64 b] w fun e w' => e = .returned (.bool (decide (a ≤ p ∧ p ≤ b))) ∧ w' = w := by
  go_enter Tryd.func18, Tryd.ntmps18
  by_cases h1 : a ≤ p
  · by_cases h2 : p ≤ b
    · go_wp2
      go_ret
      exact ⟨by simp [h1, h2], rfl⟩
    · go_wp2
      go_ret
      exact ⟨by simp [h2], rfl⟩
  · go_wp2
    go_ret
    exact ⟨by simp; omega, rfl⟩
/-- how many kids: at least, and at most. -/
def kidsL (k : Int) : Int × Int := if k = 9 ∨ k = 10 then (2, -1) else if 11 ≤ k ∧ k ≤ 17 then (1, 1) else (0, 0)
theorem kidsOf_any (k : Int) (w : World) : Calls Tryd.prog 31 #[.int .i64 k] w fun e w' => e = .returned (.tuple #[.int .i64 (kidsL k).1, .int .i64 (kidsL k).2]) ∧ w' = w := by
  by_cases h9 : k = 9
  · subst h9
    go_enter Tryd.func31, Tryd.ntmps31
    go_wp2
    go_ret2
    exact ⟨rfl, rfl⟩
  · by_cases h10 : k = 10
    · subst h10
      go_enter Tryd.func31, Tryd.ntmps31
      go_wp2
      go_ret2
      exact ⟨rfl, rfl⟩
    · have HB := hide (q_betw k 11 17 w)
      have b9 : (k == 9) = false := by simpa using h9
      have b10 : (k == 10) = false := by simpa using h10
      by_cases hb : 11 ≤ k ∧ k ≤ 17
      · have e : decide (11 ≤ k ∧ k ≤ 17) = true := by simpa using hb
        rw [e] at HB
        have hE : Hid (kidsL k = (1, 1)) := by show _ = _; unfold kidsL; rw [if_neg (by omega), if_pos hb]
        clear hb e
        go_enter Tryd.func31, Tryd.ntmps31
        go_wp2_with fail
        refine HB.out.mono ?_
        rintro e w' ⟨rfl, h⟩
        subst h
        go_wp2
        go_ret2
        exact ⟨by rw [hE.out]; rfl, rfl⟩
      · have e : decide (11 ≤ k ∧ k ≤ 17) = false := by simpa using hb
        rw [e] at HB
        have hE : Hid (kidsL k = (0, 0)) := by show _ = _; unfold kidsL; rw [if_neg (by omega), if_neg hb]
        clear hb e
        go_enter Tryd.func31, Tryd.ntmps31
        go_wp2_with fail
        refine HB.out.mono ?_
        rintro e w' ⟨rfl, h⟩
        subst h
        go_wp2
        go_ret2
        exact ⟨by rw [hE.out]; rfl, rfl⟩

def fr1 (n : NV) : Bool := decide ((n.kl : Int) < (kidsL n.kind).1) || (decide (0 ≤ (kidsL n.kind).2) && decide ((kidsL n.kind).2 < (n.kl : Int)))
def fr2 (n : NV) : Bool := fr1 n || (decide (n.kind ≠ 2) && decide (0 < n.sl))
def fr3 (n : NV) : Bool := fr2 n || (decide (n.kind ≠ 12) && (decide (n.least ≠ 0) || decide (n.most ≠ 0) || decide (n.way ≠ 0)))
def fr4 (n : NV) : Bool := fr3 n || (decide (n.kind ≠ 11) && decide (n.kind ≠ 18) && decide (n.num ≠ 0))
def fr5 (n : NV) : Bool := fr4 n || (decide (n.kind ≠ 18) && n.fold)
def frK (k j : Int) : Bool := (decide (k = 9) && (decide (j = 9) || decide (j = 1))) || (decide (k = 10) && decide (j = 10))
def fr6 (n : NV) (ks : List Tr) : Bool := fr5 n || ks.any (fun u => frK n.kind u.kind)
/-- what rightNode answers. -/
def rnE (t : Tr) : Int :=
  if ¬ (1 ≤ t.kind ∧ t.kind ≤ 18) then 7
  else if (kidsB t && fieldsB t) = false then 1
  else if checkE t.set ≠ 0 then checkE t.set
  else if t.kind = 12 then repE t
  else 0
theorem any_frK (k : Int) (ks : List Tr) : ks.any (fun u => frK k u.kind) = ((decide (k = 9) && (kidL ks 9 || kidL ks 1)) || (decide (k = 10) && kidL ks 10)) := by
  unfold kidL
  induction ks with
  | nil => simp
  | cons u ks ih =>
    rw [List.any_cons, ih, List.any_cons, List.any_cons, List.any_cons]
    unfold frK
    have e : ∀ j : Int, (u.kind == j) = decide (u.kind = j) := fun j => rfl
    rw [e 9, e 1, e 10]
    cases decide (k = 9) <;> cases decide (k = 10) <;> cases decide (u.kind = 9) <;> cases decide (u.kind = 1) <;> cases decide (u.kind = 10) <;> simp
theorem fr6_is {n : NV} {t : Tr} {w : World} (h : NodeC w n t) (hk : 1 ≤ n.kind ∧ n.kind ≤ 18) : fr6 n t.kids = !(kidsB t && fieldsB t) := by
  obtain ⟨k0, k1, k2, k3, k4, k5, hr, vs, hkc, -⟩ := h.open
  have hkl := hkc.len
  have hsl := hr.len
  unfold fr6
  rw [any_frK]
  unfold fr5 fr4 fr3 fr2 fr1 kidsL kidsB fieldsB
  rw [k0, k1, k2, k3, k4, k5, ← hkl, ← hsl]
  clear hkl hsl k0 k1 k2 k3 k4 k5 hr hkc h
  obtain ⟨a, ha⟩ : ∃ a, a = kidL t.kids 9 := ⟨_, rfl⟩
  obtain ⟨b, hb⟩ : ∃ b, b = kidL t.kids 1 := ⟨_, rfl⟩
  obtain ⟨c, hc⟩ : ∃ c, c = kidL t.kids 10 := ⟨_, rfl⟩
  rw [← ha, ← hb, ← hc]
  clear ha hb hc
  obtain ⟨kind, sa, sl, sc, ka, kl, kc, num, least, most, way, fold⟩ := n
  simp only at hk ⊢
  rw [Bool.eq_iff_iff]
  by_cases h9 : kind = 9
  · subst h9; cases a <;> cases b <;> cases fold <;> simp <;> omega
  · by_cases h10 : kind = 10
    · subst h10; cases c <;> cases fold <;> simp <;> omega
    · by_cases h11 : 11 ≤ kind ∧ kind ≤ 17
      · rw [if_neg (by omega), if_pos h11, if_neg h9, if_neg h10, if_pos h11]
        cases fold <;> simp [h9, h10] <;> omega
      · rw [if_neg (by omega), if_neg h11, if_neg h9, if_neg h10, if_neg h11]
        cases fold <;> simp [h9, h10] <;> omega

theorem fr6_no {n : NV} {ks : List Tr} (h : fr6 n ks = false) : fr1 n = false ∧ (n.kind ≠ 2 → n.sl = 0) ∧ (n.kind ≠ 12 → n.least = 0 ∧ n.most = 0 ∧ n.way = 0) ∧ ((decide (n.kind ≠ 11) && decide (n.kind ≠ 18)) = true → n.num = 0) ∧ (n.kind ≠ 18 → n.fold = false) ∧ ∀ u ∈ ks, frK n.kind u.kind = false := by
  unfold fr6 fr5 fr4 fr3 fr2 at h
  simp only [Bool.or_eq_false_iff, Bool.and_eq_false_iff, decide_eq_false_iff_not] at h
  obtain ⟨⟨⟨⟨⟨h1, h2⟩, h3⟩, h4⟩, h5⟩, h6⟩ := h
  refine ⟨h1, fun hh => ?_, fun hh => ?_, fun hh => ?_, fun hh => ?_, fun u hu => ?_⟩
  · rcases h2 with h2 | h2
    · exact absurd hh h2
    · omega
  · rcases h3 with h3 | h3
    · exact absurd hh h3
    · exact ⟨by omega, by omega, by omega⟩
  · simp only [Bool.and_eq_true, decide_eq_true_eq] at hh
    rcases h4 with (h4 | h4) | h4
    · exact absurd hh.1 h4
    · exact absurd hh.2 h4
    · omega
  · rcases h5 with h5 | h5
    · exact absurd hh h5
    · exact h5
  · rw [List.any_eq_false] at h6
    simpa using h6 u hu

end Go.Proofs.YtpcohmbipbiglaaDoor
