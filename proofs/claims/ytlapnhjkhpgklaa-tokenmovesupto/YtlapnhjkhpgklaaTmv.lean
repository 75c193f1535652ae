/- RightPattern; what grows by a slice that came in; Next once more. -/
import Derived.Test.YtlapnhjkhpgklaaTall
import Derived.Test.YtlapnhjkhpgklaaTplain
import Derived.Test.YtlapnhjkhpgklaaTshift
import Derived.Laws.AppendOwnNone
namespace Go.Proofs.Ytlapnhjkhpgklaa
open Go.RowKit
set_option linter.unusedVariables false

set_option maxHeartbeats 400000 in
theorem isPointR_any (p : Int) (w : World) : Calls Try.prog 16 #[.int .i64 p] w fun e w' => e = .returned (.bool (pointB p)) ∧ w = w' := by
  go_enter Try.func16, Try.ntmps16
  go_wp2
  all_goals go_ret
  all_goals exact ⟨ret_bool (by unfold pointB; rw [Bool.eq_iff_iff]; simp <;> omega), rfl⟩
set_option maxHeartbeats 2000000 in
theorem right_any (d : Int) (v : Value) (l : List Int) (w : World) (h : PatV w v l) : Calls Try.prog 9 #[.int .i64 d, v] w fun e w' => e = .returned (.int .i64 (patE d l)) ∧ w = w' := by
  obtain ⟨ao, c, hv⟩ := h.shape
  have H := hide h
  obtain ⟨n, hn⟩ : ∃ n, n = l.length := ⟨_, rfl⟩
  have HN := hide hn
  rw [← hn] at hv
  rw [hv] at H ⊢
  clear h hv hn
  by_cases hd : d < 1
  · have hE : Hid (patE d l = 7) := by show _ = _; unfold patE; rw [if_pos (Or.inl hd)]
    go_enter Try.func9, Try.ntmps9
    go_wp2
    go_ret
    exact ⟨ret_int hE.out.symm, rfl⟩
  · by_cases hd3 : 3 < d
    · have hE : Hid (patE d l = 7) := by show _ = _; unfold patE; rw [if_pos (Or.inr hd3)]
      go_enter Try.func9, Try.ntmps9
      go_wp2
      go_ret
      exact ⟨ret_int hE.out.symm, rfl⟩
    · by_cases hl : 300 < n
      · have hE : Hid (patE d l = 2) := by show _ = _; unfold patE; rw [if_neg (by omega), if_pos (by rw [← HN.out]; exact hl)]
        have hli : (300 : Int) < (n : Int) := by omega
        go_enter Try.func9, Try.ntmps9
        go_wp2
        go_ret
        exact ⟨ret_int hE.out.symm, rfl⟩
      · have hE0 : Hid (patE d l = if l.all pointB then 0 else 3) := by show _ = _; unfold patE; rw [if_neg (by omega), if_neg (by rw [← HN.out]; exact hl)]
        have hli : ¬ (300 : Int) < (n : Int) := by omega
        go_enter Try.func9, Try.ntmps9
        go_wp2
        go_loop [5] (fun i => ∃ k : Nat, k ≤ n ∧ i = .int .i64 k ∧ badB (l.take k) = false) (fun i => n - (intOf i).toNat)
        case atStart => exact ⟨0, Nat.zero_le _, rfl, rfl⟩
        case round =>
          obtain ⟨k, hk, rfl, ha⟩ := hrel
          have HA := hide ha
          clear ha
          by_cases hlt : k < n
          · have hkl : k < l.length := by have := HN.out; omega
            obtain ⟨x, cx, hx, hcap, hrd⟩ := H.out.some (by omega)
            obtain ⟨rfl⟩ : ao = some x := by cases hx; rfl
            have hc := hrd k hkl
            obtain ⟨p, hp⟩ : ∃ p, p = l[k] := ⟨_, rfl⟩
            rw [← hp] at hc
            have HP := hide hp
            have HF := hide (fun w => isPointR_any p w)
            have e1 : (k : Int) < (n : Int) := by omega
            clear hp hx hcap hrd
            cases hb : pointB p with
            | true =>
              rw [hb] at HF
              have hnx : Hid (badB (l.take (k + 1)) = false) := by
                show _ = _
                have h1 := HA.out
                unfold badB at h1 ⊢
                rw [Bool.not_eq_false'] at h1 ⊢
                rw [List.take_succ_eq_append_getElem hkl, List.all_append, h1, ← HP.out]
                simp [hb]
              clear hb
              go_wp2_with fail
              refine (HF.out _).mono ?_
              rintro e w' ⟨rfl, rfl⟩
              go_wp2
              go_round
              case rel => exact ⟨k + 1, by omega, by go_num, hnx.out⟩
              case measure => simp [intOf]; omega
            | false =>
              rw [hb] at HF
              have hno : Hid (patE d l = 3) := by
                show _ = _
                have : l.all pointB = false := by
                  rw [List.all_eq_false]
                  exact ⟨l[k], List.getElem_mem _, by rw [← HP.out, hb]; simp⟩
                rw [hE0.out, this]
                rfl
              clear hb
              go_wp2_with fail
              refine (HF.out _).mono ?_
              rintro e w' ⟨rfl, rfl⟩
              go_wp2
              go_ret
              exact ⟨ret_int hno.out.symm, rfl⟩
          · have hall : Hid (patE d l = 0) := by
              show _ = _
              have h1 := HA.out
              unfold badB at h1
              rw [Bool.not_eq_false', List.take_of_length_le (by have := HN.out; omega)] at h1
              rw [hE0.out, h1]
              rfl
            go_wp2
            go_ret
            exact ⟨ret_int hall.out.symm, rfl⟩

theorem own_empty (w : World) : (w.alloc (.cells #[] 3)).ownsRow w.heap.size 3 1 (.slice (some ⟨w.heap.size, 0, none⟩) 0 0) 0 [] := by
  have h := World.ownsRow_lit (base := w.heap.size) (e := 3) (size := 1) w #[] 0 (by simp) (by unfold maxLen; omega) (by simp)
  simpa using h
theorem i64s_len (l : List Int) : (i64s l).length = l.length := by simp [i64s]
theorem i64s_one (l : List Int) : ∀ u ∈ i64s l, u.oneCell' = true := by
  intro u hu
  simp [i64s] at hu
  obtain ⟨_, _, rfl⟩ := hu
  rfl
theorem own_patV {B n : Nat} {w : World} {v : Value} {l : List Int} (h : w.ownsRow B 3 1 v n (i64s l)) (hn : n = l.length) : PatV w v l := by
  subst hn
  rcases h.2 with ⟨rfl, h0⟩ | ⟨g, cap, cur, rfl, hg, hh, hc, r⟩
  · exact .inl ⟨rfl, List.eq_nil_of_length_eq_zero h0⟩
  · refine .inr ⟨⟨g, 0, none⟩, cap, rfl, hc, fun j hj => ?_⟩
    have e1 : ((⟨g, 0, none⟩ : Addr).add j) = ⟨g, j, none⟩ := by unfold Addr.add; split <;> simp_all
    rw [e1, h.cellAt j (by omega)]
    simp [i64s, hj]
/-- append of a slice that came in to a row of one's own. -/
theorem append_pat {ops : Array Oper} {rest : List Oper} {o : Oper} {a : Act} {Q : Exit → Act → World → Prop} (w : World) (hgd : o.guard = none) (s x : Operand) (ho : o.op = .call { callee := .builtin .append, args := #[s, x], argTypes := #[22, 22] })
    (base : Nat) (v : Value) (n : Nat) (xs : List Value) (hs : a.eval s = v) (hown : w.ownsRow base 3 1 v n xs) (u : Value) (l : List Int) (hx : a.eval x = u) (hp : PatV w u l) (hr : n + l.length ≤ 3000000) (hbase : base ≤ w.heap.size)
    (h : ∀ v' w', w'.ownsRow base 3 1 v' (n + l.length) (xs ++ i64s l) → Below base w w' → wpList Try.prog ops Q rest (a.put o.dst v') w') : wpList Try.prog ops Q (o :: rest) a w := by
  obtain ⟨j0, hj, hy0, hy1, hy2⟩ := info_parts info3
  rcases hp with ⟨rfl, rfl⟩ | ⟨ad, c, rfl, hcap, hrd⟩
  · refine wpList_append_own_none hgd s x 22 ho base 3 j0 1 Try.underlying22 hj v n xs hs hown hx (h v w ?_ (Below.refl _ _))
    simpa [i64s] using hown
  · refine wpList_append_own w hgd s x 22 ho base 3 j0 _ 1 8 Try.underlying22 hj hy0 hy1 hy2 rfl (by decide) v n xs hs hown ad l.length c (i64s l) hx (by simp [i64s]) ?_ (i64s_one l) (by unfold maxLen; omega) (by omega) hbase ?_
    · intro j u hu
      have hlt : j < l.length := by have := (List.getElem?_eq_some_iff.1 hu).1; simpa [i64s] using this
      rw [hrd j hlt]
      simp [i64s, hlt] at hu
      rw [← hu]
    · intro v' w' h1 h2 _
      exact h v' w' h1 ((Below.refl base w).grown h2 hbase (fun g hg => (hown.lt g hg).1))

end Go.Proofs.Ytlapnhjkhpgklaa
