/- What Is and Skip answer; letters and digits. -/
import Derived.Test.YtlapnhjkhpgklaaTbase
import Derived.DataElems
namespace Go.Proofs.Ytlapnhjkhpgklaa
open Go.RowKit
set_option linter.unusedVariables false

theorem quiet_plus {P : Program} {f : FuncId} {args : Array Value} {w : World} {n m : Nat} {v : Value} (h : Calls P f args (w.drewN (n + m)) fun e w' => e = .returned v ∧ w' = w.drewN (n + m)) : Calls P f args (w.drewN (n + m)) fun e w'' => e = .returned v ∧ ∃ k, w'' = w.drewN (n + k) := h.mono fun _ _ ⟨a, b⟩ => ⟨a, m, b⟩
theorem quiet_plus' {P : Program} {f : FuncId} {args : Array Value} {w : World} {n m : Nat} {v : Value} (h : Calls P f args (w.drewN (n + m)) fun e w' => e = .returned v ∧ ∃ q, w' = (w.drewN (n + m)).drewN q) : Calls P f args (w.drewN (n + m)) fun e w'' => e = .returned v ∧ ∃ k, w'' = w.drewN (n + k) := h.mono fun _ _ ⟨a, q, b⟩ => ⟨a, m + q, by rw [b, drewN_two, Nat.add_assoc]⟩
theorem says_eq (l : List Int) (i : Nat) (s : List Int) : says l i s = ((l.drop i).take s.length == s) := by
  unfold says
  rw [Bool.eq_iff_iff, List.isPrefixOf_iff_prefix, beq_iff_eq, List.prefix_iff_eq_take]
  exact eq_comm
theorem says_out {l : List Int} {i : Nat} {s : List Int} (h : l.length < i + s.length) (hs : 1 ≤ s.length) : says l i s = false := by
  cases hh : says l i s with
  | false => rfl
  | true => have := says_len hh (by intro e; rw [e] at hs; simp at hs); omega
theorem readsI_drop {w : World} {x : Addr} {l : List Int} (h : ReadsI w x l) (i n : Nat) : ReadsI w (x.add i) ((l.drop i).take n) := by
  intro j hj
  rw [Addr.add_add]
  have h1 : j < (l.drop i).length := by rw [List.length_take] at hj; omega
  have h2 : i + j < l.length := by rw [List.length_drop] at h1; omega
  rw [h (i + j) h2]
  simp

set_option maxHeartbeats 1000000 in
theorem is_any {b : Nat} {x : Addr} {c : Nat} {l : List Int} {i : Nat} {d : Int} (y : Addr) (cs : Nat) (s : List Int) (w : World) (h : RB w b x c l i d) (hs : ReadsI w y s) (hs1 : 1 ≤ s.length) (hs2 : s.length ≤ 4) :
    Calls Try.prog 59 #[.pointer (some ⟨b, 0, none⟩), .slice (some y) s.length cs] w fun e w' => e = .returned (.bool (says l i s)) ∧ ∃ q, w' = w.drewN q := by
  obtain ⟨c0, c1, c2, f1⟩ := h.cells
  have hcap := h.cap
  have hsm := h.small
  have hat := h.at'
  by_cases hin : i + s.length ≤ l.length
  · have hlen : ((l.drop i).take s.length).length = s.length := by rw [List.length_take, List.length_drop]; omega
    have HEq : Hid (∀ q, Calls Try.prog 68 #[.slice (some (x.add i)) s.length (c - i), .slice (some y) s.length cs] (w.drewN q) fun e w' => e = .returned (.bool (says l i s)) ∧ ∃ m, w' = (w.drewN q).drewN m) := by
      intro q
      rw [says_eq]
      have := equal_any (x.add i) y (c - i) cs ((l.drop i).take s.length) s (w.drewN q) (readsI_drop h.pat i s.length) hs (by omega) (by omega)
      rw [hlen] at this
      exact this
    obtain ⟨z, hz⟩ : ∃ z, z = says l i s := ⟨_, rfl⟩
    obtain ⟨n, hn⟩ : ∃ n, n = l.length := ⟨_, rfl⟩
    obtain ⟨m, hm⟩ : ∃ m, m = s.length := ⟨_, rfl⟩
    rw [← hn] at c0 hin hcap hsm hat
    rw [← hm] at hin HEq hs1 hs2 ⊢
    rw [← hz] at HEq ⊢
    have hci : ¬ c = i := by omega
    clear hn hm hz h hs hlen
    go_enter Try.func59, Try.ntmps59
    go_wp2
    have e1 : (decide ((i : Int) + (m : Int) ≤ (n : Int))) = true := by simp; omega
    go_quiet (first | (go_at_call 68; refine Calls.quiet_of (HEq.out _)))
    go_wp2
    go_ret
    exact ⟨rfl, _, rfl⟩
  · rw [says_out (by omega) hs1]
    obtain ⟨n, hn⟩ : ∃ n, n = l.length := ⟨_, rfl⟩
    obtain ⟨m, hm⟩ : ∃ m, m = s.length := ⟨_, rfl⟩
    rw [← hn] at c0 hin hcap hsm hat
    rw [← hm] at hin hs1 hs2 ⊢
    clear hn hm h hs
    go_enter Try.func59, Try.ntmps59
    go_wp2
    have e1 : (decide ((i : Int) + (m : Int) ≤ (n : Int))) = false := by simp; omega
    go_quiet (fail)
    go_wp2
    go_ret
    exact ⟨rfl, _, rfl⟩

set_option maxHeartbeats 1000000 in
/-- Skip: where one is then. -/
theorem skip_any {b : Nat} {x : Addr} {c : Nat} {l : List Int} {i : Nat} {d : Int} (y : Addr) (cs : Nat) (s : List Int) (w : World) (h : RB w b x c l i d) (hs : ReadsI w y s) (hs1 : 1 ≤ s.length) (hs2 : s.length ≤ 4) :
    Calls Try.prog 48 #[.pointer (some ⟨b, 0, none⟩), .slice (some y) s.length cs] w fun e w' => e = .returned (.bool (says l i s)) ∧ RB w' b x c l (if says l i s then i + s.length else i) d ∧ Mv b w w' := by
  have HI := hide (is_any y cs s w h hs hs1 hs2)
  have HR := hide h
  have hat := h.at'
  have hsm := h.small
  cases hz : says l i s with
  | true =>
    have hin := hide (says_len hz (by intro e; rw [e] at hs1; simp at hs1))
    rw [hz] at HI
    obtain ⟨m, hm⟩ : ∃ m, m = s.length := ⟨_, rfl⟩
    rw [← hm] at HI hin hs1 hs2 ⊢
    clear hz hs hm
    go_enter Try.func48, Try.ntmps48
    go_wp2_with fail
    refine HI.out.mono ?_
    rintro e w1 ⟨rfl, q, rfl⟩
    obtain ⟨c0, c1, c2, f1⟩ := h.cells
    clear h
    go_wp2
    go_ret
    refine ⟨rfl, ?_, ?_⟩
    · have := (HR.out.drewN q).go (i + m) (by have := hin.out; omega)
      simpa using this
    · have := ((Mv.refl b w).drewN q).setCell 1 (.int .i64 ((i + m : Nat) : Int))
      simpa using this
  | false =>
    rw [hz] at HI
    obtain ⟨m, hm⟩ : ∃ m, m = s.length := ⟨_, rfl⟩
    rw [← hm] at HI hs1 hs2 ⊢
    clear hz hs hm h
    go_enter Try.func48, Try.ntmps48
    go_wp2_with fail
    refine HI.out.mono ?_
    rintro e w1 ⟨rfl, q, rfl⟩
    go_wp2
    go_ret
    exact ⟨rfl, HR.out.drewN q, (Mv.refl b w).drewN q⟩

set_option maxHeartbeats 1000000 in
theorem digit_any (p : Int) (w : World) (h0 : 0 ≤ p) (h1 : p ≤ 1114111) : Calls Try.prog 69 #[.int .i64 p] w fun e w' => e = .returned (.int .i64 (digV p)) ∧ w' = w := by
  by_cases a1 : 48 ≤ p ∧ p ≤ 57
  · have E : digV p = p - 48 := by unfold digV; rw [if_pos a1]
    rw [E]
    clear E
    go_enter Try.func69, Try.ntmps69
    go_wp2
    go_ret
    exact ⟨rfl, rfl⟩
  · by_cases a2 : 97 ≤ p ∧ p ≤ 102
    · have E : digV p = p - 97 + 10 := by unfold digV; rw [if_neg a1, if_pos a2]
      rw [E]
      clear E
      go_enter Try.func69, Try.ntmps69
      go_wp2
      all_goals first | (exfalso; omega) | (go_ret; exact ⟨rfl, rfl⟩)
    · by_cases a3 : 65 ≤ p ∧ p ≤ 70
      · have E : digV p = p - 65 + 10 := by unfold digV; rw [if_neg a1, if_neg a2, if_pos a3]
        rw [E]
        clear E
        go_enter Try.func69, Try.ntmps69
        go_wp2
        all_goals first | (exfalso; omega) | (go_ret; exact ⟨rfl, rfl⟩)
      · have E : digV p = 16 := by unfold digV; rw [if_neg a1, if_neg a2, if_neg a3]
        rw [E]
        clear E
        go_enter Try.func69, Try.ntmps69
        go_wp2
        all_goals first | (exfalso; omega) | (go_ret; exact ⟨rfl, rfl⟩)
set_option maxHeartbeats 1000000 in
theorem isLetter_any (p : Int) (w : World) : Calls Try.prog 67 #[.int .i64 p] w fun e w' => e = .returned (.bool (letB p)) ∧ w' = w := by
  go_enter Try.func67, Try.ntmps67
  go_wp2
  all_goals go_ret
  all_goals exact ⟨ret_bool (by unfold letB; rw [Bool.eq_iff_iff]; simp <;> omega), rfl⟩
theorem dig_ten (p : Int) : decide (digV p < 10) = (decide (48 ≤ p) && decide (p ≤ 57)) := by
  rw [Bool.eq_iff_iff]
  unfold digV
  simp
  repeat (first | omega | split)
set_option maxHeartbeats 1000000 in
theorem mayName_any (p : Int) (f : Bool) (w : World) (h0 : 0 ≤ p) (h1 : p ≤ 1114111) : Calls Try.prog 71 #[.int .i64 p, .bool f] w fun e w' => e = .returned (.bool (nameB p f)) ∧ w' = w := by
  have HL := hide (isLetter_any p w)
  obtain ⟨z, hz⟩ : ∃ z, z = letB p := ⟨_, rfl⟩
  unfold nameB
  rw [← hz] at HL ⊢
  rw [dig_ten p]
  clear hz
  have hb : (p == 95) = decide (p = 95) := by rw [Bool.eq_iff_iff]; simp
  rw [hb]
  clear hb
  cases z
  · by_cases h95 : p = 95
    · have hb : (p == 95) = true := by simpa using h95
      rw [decide_eq_true h95]
      clear h95
      go_enter Try.func71, Try.ntmps71
      go_wp2_with fail
      refine HL.out.mono ?_
      rintro e w' ⟨rfl, rfl⟩
      go_wp2
      go_ret
      exact ⟨rfl, rfl⟩
    · have hb : (p == 95) = false := by simpa using h95
      rw [decide_eq_false h95]
      clear h95
      cases f
      · go_enter Try.func71, Try.ntmps71
        go_wp2_with fail
        refine HL.out.mono ?_
        rintro e w' ⟨rfl, rfl⟩
        go_wp2
        all_goals go_ret
        all_goals exact ⟨ret_bool (by rw [Bool.eq_iff_iff]; simp <;> omega), rfl⟩
      · go_enter Try.func71, Try.ntmps71
        go_wp2_with fail
        refine HL.out.mono ?_
        rintro e w' ⟨rfl, rfl⟩
        go_wp2
        go_ret
        exact ⟨rfl, rfl⟩
  · go_enter Try.func71, Try.ntmps71
    go_wp2_with fail
    refine HL.out.mono ?_
    rintro e w' ⟨rfl, rfl⟩
    go_wp2
    go_ret
    exact ⟨rfl, rfl⟩

end Go.Proofs.Ytlapnhjkhpgklaa
