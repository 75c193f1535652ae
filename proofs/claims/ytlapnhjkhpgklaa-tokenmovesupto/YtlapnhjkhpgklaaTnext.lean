/- What CheckPattern and Next answer. -/
import Derived.Test.YtlapnhjkhpgklaaTread2
import Derived.Shelf.Abstract
namespace Go.Proofs.Ytlapnhjkhpgklaa
open Go.RowKit
set_option linter.unusedVariables false

/-- a slice of numbers that can be read: nil, or a place with the cells. -/
def PatV (w : World) (v : Value) (l : List Int) : Prop := (v = .slice none 0 0 ∧ l = []) ∨ ∃ x c, v = .slice (some x) l.length c ∧ l.length ≤ c ∧ ReadsI w x l
theorem ReadsI.below {w w' : World} {x : Addr} {l : List Int} (h : ReadsI w x l) (hb : Below w.heap.size w w') : ReadsI w' x l := fun j hj => by
  rw [hb.cell (World.block_lt_of_cell? _ _ (h j hj))]; exact h j hj
theorem PatV.below {w w' : World} {v : Value} {l : List Int} (h : PatV w v l) (hb : Below w.heap.size w w') : PatV w' v l := by
  rcases h with h | ⟨x, c, h1, h2, h3⟩
  · exact .inl h
  · exact .inr ⟨x, c, h1, h2, h3.below hb⟩
theorem PatV.shape {w : World} {v : Value} {l : List Int} (h : PatV w v l) : ∃ ao c, v = .slice ao l.length c := by
  rcases h with ⟨rfl, rfl⟩ | ⟨x, c, h1, _⟩
  · exact ⟨none, 0, rfl⟩
  · exact ⟨some x, c, h1⟩
theorem PatV.some {w : World} {v : Value} {l : List Int} (h : PatV w v l) (hl : 0 < l.length) : ∃ x c, v = .slice (some x) l.length c ∧ l.length ≤ c ∧ ReadsI w x l := by
  rcases h with ⟨rfl, rfl⟩ | h
  · simp at hl
  · exact h

set_option maxHeartbeats 400000 in
theorem is_point (p : Int) (w : World) : Calls Try.prog 26 #[.int .i64 p] w fun e w' => e = .returned (.bool (pointB p)) ∧ w = w' := by
  go_enter Try.func26, Try.ntmps26
  go_wp2
  all_goals go_ret
  all_goals exact ⟨ret_bool (by unfold pointB; rw [Bool.eq_iff_iff]; simp <;> omega), rfl⟩
set_option maxHeartbeats 400000 in
theorem no_point (p : Int) (w : World) : Calls Try.prog 25 #[.int .i64 p] w fun e w' => e = .returned (.bool (!pointB p)) ∧ w = w' := by
  have H := hide (is_point p w)
  obtain ⟨z, hz⟩ : ∃ z, z = pointB p := ⟨_, rfl⟩
  rw [← hz] at H ⊢
  clear hz
  go_enter Try.func25, Try.ntmps25
  go_wp2_with fail
  refine H.out.mono ?_
  rintro e w' ⟨rfl, rfl⟩
  go_wp2
  go_ret
  exact ⟨rfl, rfl⟩
theorem enters25 (args : Array Value) (w : World) : (callFunc 25 args).run Try.prog w = .ok (.enter 25 args) w := Go.Proofs.enters_of Try.func25 (by kernel_rfl) rfl args w

/-- is a number among them that is no point. -/
def badB (l : List Int) : Bool := !l.all pointB
set_option maxHeartbeats 2000000 in
theorem indexFunc_any (v : Value) (l : List Int) (w : World) (h : PatV w v l) (hl : l.length ≤ 300) :
    Calls Try.prog 37 #[v, .func (.func 25) #[] #[]] w fun e w' => ∃ z : Int, e = .returned (.int .i64 z) ∧ (0 ≤ z ↔ badB l = true) ∧ w = w' := by
  obtain ⟨ao, c, hv⟩ := h.shape
  have H := hide h
  obtain ⟨n, hn⟩ : ∃ n, n = l.length := ⟨_, rfl⟩
  have HN := hide hn
  rw [← hn] at hv hl
  rw [hv] at H ⊢
  clear h hv hn
  have eg := enters25
  go_enter Try.func37, Try.ntmps37
  go_wp2
  go_loop [8] (fun i => ∃ k : Nat, k ≤ n ∧ i = .int .i64 k ∧ (l.take k).all pointB = true) (fun i => n - (intOf i).toNat)
  case atStart => exact ⟨0, Nat.zero_le _, rfl, by simp⟩
  case round =>
    obtain ⟨k, hk, rfl, ha⟩ := hrel
    have HA := hide ha
    clear ha
    by_cases hlt : k < n
    · have hkl : k < l.length := by have := HN.out; omega
      obtain ⟨x, cx, hx, hcap, hrd⟩ := H.out.some (by omega)
      obtain ⟨rfl⟩ : ao = some x := by cases hx; rfl
      have hc := hrd k hkl
      obtain ⟨p, hp⟩ : ∃ p, p = l[k] := ⟨_, rfl⟩
      rw [← hp] at hc
      have HP := hide hp
      have HF := hide (fun w => no_point p w)
      have e1 : (k : Int) < (n : Int) := by omega
      clear hp hx hcap hrd
      cases hb : pointB p with
      | true =>
        rw [hb] at HF
        have hnx : Hid ((l.take (k + 1)).all pointB = true) := by
          show _ = _
          rw [List.take_succ_eq_append_getElem hkl, List.all_append, HA.out, ← HP.out]
          simp [hb]
        clear hb
        go_wp2_with (go_at_fn 25; refine (HF.out _).mono ?_; rintro e w' ⟨rfl, rfl⟩)
        go_round
        case rel => exact ⟨k + 1, by omega, by go_num, hnx.out⟩
        case measure => simp [intOf]; omega
      | false =>
        rw [hb] at HF
        have hno : Hid (badB l = true) := by
          show _ = _
          unfold badB
          rw [Bool.not_eq_true']
          rw [List.all_eq_false]
          exact ⟨l[k], List.getElem_mem _, by rw [← HP.out, hb]; simp⟩
        clear hb
        go_wp2_with (go_at_fn 25; refine (HF.out _).mono ?_; rintro e w' ⟨rfl, rfl⟩)
        go_ret
        exact ⟨k, rfl, ⟨fun _ => hno.out, fun _ => Int.natCast_nonneg k⟩, rfl⟩
    · have hall : Hid (badB l = false) := by
        show _ = _
        unfold badB
        rw [Bool.not_eq_false']
        have := HA.out
        rw [List.take_of_length_le (by have := HN.out; omega)] at this
        exact this
      go_wp2
      go_ret
      refine ⟨-1, rfl, ⟨fun h => absurd h (by decide), fun h => ?_⟩, rfl⟩
      rw [hall.out] at h
      cases h
set_option maxHeartbeats 1000000 in
theorem containsFunc_any (v : Value) (l : List Int) (w : World) (h : PatV w v l) (hl : l.length ≤ 300) :
    Calls Try.prog 24 #[v, .func (.func 25) #[] #[]] w fun e w' => e = .returned (.bool (badB l)) ∧ w = w' := by
  have HI := hide (indexFunc_any v l w h hl)
  obtain ⟨ao, c, hv⟩ := h.shape
  rw [hv] at HI ⊢
  clear h hv
  go_enter Try.func24, Try.ntmps24
  go_wp2_with fail
  refine HI.out.mono ?_
  rintro e w' ⟨z, rfl, hz, rfl⟩
  have HZ := hide hz
  clear hz
  go_wp2
  go_ret
  refine ⟨ret_bool ?_, rfl⟩
  rw [Bool.eq_iff_iff]
  simp only [decide_eq_true_eq, HZ.out]
set_option maxHeartbeats 2000000 in
theorem checkPattern_any (d : Int) (v : Value) (l : List Int) (w : World) (h : PatV w v l) : Calls Try.prog 14 #[.int .i64 d, v] w fun e w' => e = .returned (.int .i64 (patE d l)) ∧ w = w' := by
  obtain ⟨ao, c, hv⟩ := h.shape
  by_cases hd : d = 1 ∨ d = 2 ∨ d = 3
  · by_cases hl : 300 < l.length
    · have hE : Hid (patE d l = 2) := by show _ = _; unfold patE; rw [if_neg (by omega), if_pos hl]
      have hli : (300 : Int) < (l.length : Int) := by omega
      rw [hv]
      clear h hv
      rcases hd with rfl | rfl | rfl
      all_goals
        go_enter Try.func14, Try.ntmps14
        go_wp2
        go_ret
        exact ⟨ret_int hE.out.symm, rfl⟩
    · have HC := hide (containsFunc_any v l w h (by omega))
      have hE0 : Hid (patE d l = if l.all pointB then 0 else 3) := by show _ = _; unfold patE; rw [if_neg (by omega), if_neg hl]
      have hli : ¬ (300 : Int) < (l.length : Int) := by omega
      rw [hv] at HC ⊢
      clear h hv
      cases ha : l.all pointB with
      | true =>
        have hE : Hid (patE d l = 0) := by show _ = _; rw [hE0.out, ha]; rfl
        have hbd : badB l = false := by unfold badB; rw [ha]; rfl
        rw [hbd] at HC
        clear hbd
        clear ha hE0
        rcases hd with rfl | rfl | rfl
        all_goals
          go_enter Try.func14, Try.ntmps14
          go_wp2_with fail
          refine HC.out.mono ?_
          rintro e w' ⟨rfl, rfl⟩
          go_wp2
          go_ret
          exact ⟨ret_int hE.out.symm, rfl⟩
      | false =>
        have hE : Hid (patE d l = 3) := by show _ = _; rw [hE0.out, ha]; rfl
        have hbd : badB l = true := by unfold badB; rw [ha]; rfl
        rw [hbd] at HC
        clear hbd
        clear ha hE0
        rcases hd with rfl | rfl | rfl
        all_goals
          go_enter Try.func14, Try.ntmps14
          go_wp2_with fail
          refine HC.out.mono ?_
          rintro e w' ⟨rfl, rfl⟩
          go_wp2
          go_ret
          exact ⟨ret_int hE.out.symm, rfl⟩
  · have hE : Hid (patE d l = 7) := by show _ = _; unfold patE; rw [if_pos (by omega)]
    have b1 : (d != 1) = true := by simp; omega
    have b2 : (d != 2) = true := by simp; omega
    have b3 : (d != 3) = true := by simp; omega
    rw [hv]
    clear h hv hd
    go_enter Try.func14, Try.ntmps14
    go_wp2
    go_ret
    exact ⟨ret_int hE.out.symm, rfl⟩

end Go.Proofs.Ytlapnhjkhpgklaa
