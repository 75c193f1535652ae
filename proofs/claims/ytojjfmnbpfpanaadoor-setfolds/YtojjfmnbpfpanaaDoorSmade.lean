/- What made answers: the first fault of the sets, or what the function handed in makes, if it is not too many ranges. -/
import Derived.Test.YtojjfmnbpfpanaaDoorSkept
import Derived.Test.YtojjfmnbpfpanaaDoorSchkc
namespace Go.Proofs.YtojjfmnbpfpanaaDoor
open Go.RowKit
set_option linter.unusedVariables false

/-- the first fault of some sets. -/
def chkL : List (Value × RL) → Int
  | [] => 0
  | x :: xs => if checkE x.2 = 0 then chkL xs else checkE x.2
theorem chkL_zero {vs : List (Value × RL)} : chkL vs = 0 ↔ ∀ x ∈ vs, checkE x.2 = 0 := by
  induction vs with
  | nil => simp [chkL]
  | cons x xs ih =>
    unfold chkL
    split
    · rename_i h; rw [ih]; simp [h]
    · rename_i h; simp [h]
theorem chkL_first : ∀ {vs : List (Value × RL)} {k : Nat} (hk : k < vs.length), (∀ x ∈ vs.take k, checkE x.2 = 0) → checkE vs[k].2 ≠ 0 → chkL vs = checkE vs[k].2 := by
  intro vs
  induction vs with
  | nil => intro k hk; simp at hk
  | cons x xs ih =>
    intro k hk h1 h2
    match k with
    | 0 => unfold chkL; rw [List.getElem_cons_zero] at h2 ⊢; rw [if_neg h2]
    | k + 1 =>
      unfold chkL
      rw [if_pos (h1 x (by simp))]
      exact ih (by simpa using hk) (fun y hy => h1 y (by simp [hy])) h2
/-- what is answered: the fault, or the set, or that it has too many ranges. -/
def Made (f : Int → Bool) (c err : Int) (O : RL) : Prop := (c ≠ 0 ∧ err = c ∧ O = []) ∨ (c = 0 ∧ ∃ S, IsSet f S ∧ ((S.length ≤ 400 ∧ err = 0 ∧ O = S) ∨ (400 < S.length ∧ err = 2 ∧ O = [])))
theorem own_reads {B : Nat} {w : World} {v : Value} {L : RL} (h : w.ownsRow B 35 2 v L.length (cells2 L)) : Reads w v L := by
  rcases h.2 with ⟨rfl, h0⟩ | ⟨g, cap, cur, rfl, h3⟩
  · exact .inl ⟨rfl, List.eq_nil_of_length_eq_zero h0⟩
  · refine .inr ⟨⟨g, 0, none⟩, cap, rfl, fun j hj => ?_⟩
    obtain ⟨h1, h2⟩ := cells2_get L j hj
    have e1 : ((⟨g, 0, none⟩ : Addr).add (j * 2)) = ⟨g, j * 2, none⟩ := by unfold Addr.add; split <;> simp_all
    rw [e1]
    simp only
    rw [h.cellAt (j * 2) (by omega), h.cellAt (j * 2 + 1) (by omega)]
    exact ⟨h1, h2⟩

/-- what such a call answers. -/
def Res (f : Int → Bool) (c : Int) (w : World) (e : Ending) (w' : World) : Prop := ∃ v' err O, e = .returned (.tuple #[v', .int .i64 err]) ∧ Reads w' v' O ∧ Made f c err O ∧ Below w.heap.size w w'

/-- a function with nothing handed in that makes a set. -/
def Makes (g : Nat) (cb : Array Value) (f : Int → Bool) (w : World) : Prop := Calls Tryd.prog g cb w fun e w' => ∃ ao c O, e = .returned (.slice ao (List.length O) c) ∧ w'.ownsRow w.heap.size 35 2 (.slice ao (List.length O) c) O.length (cells2 O) ∧ IsSet f O ∧ Below w.heap.size w w'

set_option maxHeartbeats 4000000 in
theorem made_any (g : Nat) (cb : Array Value) (f : Int → Bool) (b : Nat) (vs : List (Value × RL)) (w : World) (eg : ∀ args w, (callFunc g args).run Tryd.prog w = .ok (.enter g args) w) (hl : vs.length ≤ 4)
    (hvs : ∀ j (h : j < vs.length), w.cell? ⟨b, j, none⟩ = some vs[j].1 ∧ Reads w vs[j].1 vs[j].2) (hdo : chkL vs = 0 → ∀ w', Below w.heap.size w w' → Makes g cb f w') :
    Calls Tryd.prog 12 #[.func (.func g) #[] cb, .slice (some ⟨b, 0, none⟩) vs.length vs.length] w fun e w' => Res f (chkL vs) w e w' := by
  have HV := hide hvs
  have HD := hide hdo
  obtain ⟨n, hn⟩ : ∃ n, n = vs.length := ⟨_, rfl⟩
  have HN := hide hn
  rw [← hn] at hl ⊢
  clear hvs hdo hn
  go_enter Tryd.func12, Tryd.ntmps12
  go_wp2
  go_loopw [12] (fun i wr => ∃ k : Nat, k ≤ n ∧ i = .int .i64 k ∧ (∀ x ∈ vs.take k, checkE x.2 = 0) ∧ Below w.heap.size w wr) (fun i _ => n - (intOf i).toNat)
  case atStart => exact ⟨0, Nat.zero_le _, rfl, by simp, Below.refl _ _⟩
  case round =>
    obtain ⟨k, hk, rfl, hz, hb⟩ := hrel
    have HZ := hide hz
    have HB := hide hb
    clear hz
    by_cases hlt : k < n
    · have hkL : k < vs.length := by have := HN.out; omega
      obtain ⟨c1, hr⟩ := HV.out k hkL
      have c2 : wr.cell? ⟨b, k, none⟩ = some vs[k].1 := below_cell hb (lt_of_cell c1) c1
      have HC := hide (check_any _ _ wr (hr.below hb))
      obtain ⟨x, hx⟩ : ∃ x, x = vs[k] := ⟨_, rfl⟩
      rw [← hx] at c2 HC
      have HX := hide hx
      obtain ⟨vx, X⟩ := x
      simp only at c2 HC
      clear hx c1 hr hb
      by_cases hc : checkE X = 0
      · rw [hc] at HC
        have hnext : Hid (∀ x ∈ vs.take (k + 1), checkE x.2 = 0) := by
          intro y hy
          rw [List.take_add_one, List.getElem?_eq_getElem hkL] at hy
          rcases List.mem_append.1 hy with hy | hy
          · exact HZ.out y hy
          · simp at hy; rw [hy, ← HX.out]; exact hc
        clear hc
        go_wp2_with fail
        refine HC.out.mono ?_
        rintro e w1 ⟨rfl, hb1⟩
        go_wp2
        go_roundw
        case rel => exact ⟨k + 1, by omega, by go_num, hnext.out, HB.out.trans (hb1.mono HB.out.size)⟩
        case measure => simp [intOf]; omega
      · have hE : Hid (chkL vs = checkE X) := by
          have := chkL_first hkL HZ.out (by rw [← HX.out]; exact hc)
          rw [← HX.out] at this
          exact this
        have hne : Hid (chkL vs ≠ 0) := by show _ ≠ _; rw [hE.out]; exact hc
        obtain ⟨z, hz⟩ : ∃ z, z = checkE X := ⟨_, rfl⟩
        rw [← hz] at hc HC hE
        clear hz
        go_wp2_with fail
        refine HC.out.mono ?_
        rintro e w1 ⟨rfl, hb1⟩
        go_wp2
        go_ret2
        exact ⟨_, _, [], rfl, reads_nil _, .inl ⟨hne.out, hE.out.symm, rfl⟩, HB.out.trans (hb1.mono HB.out.size)⟩
    · have hkn : k = n := by omega
      have h0 : Hid (chkL vs = 0) := by
        have h := HZ.out
        rw [hkn, HN.out, List.take_length] at h
        exact chkL_zero.2 h
      have HM := hide (HD.out h0.out wr hb)
      clear hb
      go_wp2_with (go_at_fn g; refine HM.out.mono ?_; rintro e w2 ⟨ao, c, O, rfl, ho, hs, hb2⟩)
      · go_ret2
        first
          | exact ⟨_, _, [], rfl, reads_nil _, .inr ⟨h0.out, O, hs, .inr ⟨by omega, rfl, rfl⟩⟩, HB.out.trans (hb2.mono HB.out.size)⟩
          | exact ⟨_, _, O, rfl, own_reads ho, .inr ⟨h0.out, O, hs, .inl ⟨by omega, rfl, rfl⟩⟩, HB.out.trans (hb2.mono HB.out.size)⟩
      · go_ret2
        first
          | exact ⟨_, _, [], rfl, reads_nil _, .inr ⟨h0.out, O, hs, .inr ⟨by omega, rfl, rfl⟩⟩, HB.out.trans (hb2.mono HB.out.size)⟩
          | exact ⟨_, _, O, rfl, own_reads ho, .inr ⟨h0.out, O, hs, .inl ⟨by omega, rfl, rfl⟩⟩, HB.out.trans (hb2.mono HB.out.size)⟩

end Go.Proofs.YtojjfmnbpfpanaaDoor
