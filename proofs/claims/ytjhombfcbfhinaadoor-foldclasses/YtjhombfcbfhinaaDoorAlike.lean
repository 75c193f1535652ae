/- The reference's Within; a class's ranges, joined, have the points of its ranges; the law FoldAlike returns true, where the table of letters lies in memory. -/
import Derived.Test.YtjhombfcbfhinaaDoorBegun
import Derived.Test.YtjhombfcbfhinaaDoorRefc
namespace Go.Proofs.YtjhombfcbfhinaaDoor
open Go.RowKit
set_option linter.unusedVariables false

theorem inP_joinStep (p : Int) (O : List (Int × Int)) (r : Int × Int) (h : ∀ x ∈ O, x.1 ≤ r.1) : inP p (joinStep O r) = (inP p O || (decide (r.1 ≤ p) && decide (p ≤ r.2))) := by
  obtain ⟨r1, r2⟩ := r
  rcases List.eq_nil_or_concat O with rfl | ⟨O', y, rfl⟩
  · simp [joinStep_nil, inP]
  · obtain ⟨a, b⟩ := y
    rw [List.concat_eq_append] at h ⊢
    have hab := h (a, b) (by simp)
    simp only at hab
    by_cases hin : r1 ≤ b + 1
    · rw [joinStep_in O' a b (r1, r2) hin, inP_snoc, inP_snoc, Bool.or_assoc]
      congr 1
      rw [Bool.eq_iff_iff]
      simp
      omega
    · rw [joinStep_out O' a b (r1, r2) hin, inP_snoc]

theorem joinStep_firsts (O : List (Int × Int)) (r : Int × Int) (c : Int) (h : ∀ x ∈ O, x.1 ≤ c) (hr : r.1 ≤ c) : ∀ x ∈ joinStep O r, x.1 ≤ c := by
  obtain ⟨r1, r2⟩ := r
  rcases List.eq_nil_or_concat O with rfl | ⟨O', y, rfl⟩
  · simpa [joinStep_nil] using hr
  · obtain ⟨a, b⟩ := y
    rw [List.concat_eq_append] at h ⊢
    have hab := h (a, b) (by simp)
    by_cases hin : r1 ≤ b + 1
    · rw [joinStep_in O' a b (r1, r2) hin]
      intro x hx
      rcases List.mem_append.1 hx with hx | hx
      · exact h x (List.mem_append.2 (Or.inl hx))
      · simp at hx; rw [hx]; exact hab
    · rw [joinStep_out O' a b (r1, r2) hin]
      intro x hx
      rcases List.mem_append.1 hx with hx | hx
      · exact h x hx
      · simp at hx; rw [hx]; exact hr

theorem inP_join (p : Int) : ∀ (S O : List (Int × Int)), S.Pairwise (fun a b => a.1 ≤ b.1) → (∀ r ∈ S, ∀ x ∈ O, x.1 ≤ r.1) → inP p (S.foldl joinStep O) = (inP p O || inP p S)
  | [], O, _, _ => by simp [inP]
  | r :: S, O, hS, hO => by
    rw [List.pairwise_cons] at hS
    rw [List.foldl_cons, inP_join p S (joinStep O r) hS.2 (fun r' hr' => joinStep_firsts O r r'.1 (hO r' (List.mem_cons_of_mem _ hr')) (hS.1 r' hr')), inP_joinStep p O r (hO r (List.mem_cons_self ..)), Bool.or_assoc]
    rfl

theorem inP_perm (p : Int) {a b : List (Int × Int)} (h : a.Perm b) : inP p a = inP p b := by
  rw [Bool.eq_iff_iff]
  simp only [inP, List.any_eq_true, h.mem_iff]

theorem inP_cls (p : Int) (s : ByteArray) : inP p (clsOf s) = inP p (rngOf s) := by
  unfold clsOf joinL
  rw [inP_join p (srtR (rngOf s)) [] (srtR_both (rngOf s) [] List.Pairwise.nil).1 (by simp), inP_perm p (srtR_perm _)]
  simp [inP]

theorem cls_len : ∀ s ∈ names, 1 ≤ (clsOf s).length ∧ (clsOf s).length ≤ 1000 := by decide +kernel

theorem inP_take_succ (p : Int) (L : List (Int × Int)) (k : Nat) (h : k < L.length) : inP p (L.take (k + 1)) = (inP p (L.take k) || (decide (L[k].1 ≤ p) && decide (p ≤ L[k].2))) := by
  rw [List.take_add_one, List.getElem?_eq_getElem h]
  exact inP_snoc p _ L[k].1 L[k].2
theorem inP_of_mem {p : Int} {L : List (Int × Int)} {k : Nat} (h : k < L.length) (h1 : L[k].1 ≤ p) (h2 : p ≤ L[k].2) : inP p L = true := by
  simp only [inP, List.any_eq_true, Bool.and_eq_true, decide_eq_true_eq]
  exact ⟨L[k], List.getElem_mem _, h1, h2⟩

theorem drewN_plus {w wr : World} {q : Nat} (h : wr = w.drewN q) (n : Nat) : ∃ q2, wr.drewN n = w.drewN q2 := ⟨q + n, by rw [h]; simp [World.drewN, Nat.add_assoc]⟩

set_option maxHeartbeats 2000000 in
theorem within_any (L : List (Int × Int)) (g cap : Nat) (p : Int) (hl : L.length ≤ 4000) (w : World) (hc : ∀ k (hk : k < L.length), w.cell? ⟨g, k * 2, none⟩ = some (.int .i64 L[k].1) ∧ w.cell? ⟨g, k * 2 + 1, none⟩ = some (.int .i64 L[k].2)) :
    Calls Tryd.prog 22 #[.slice (some ⟨g, 0, none⟩) L.length cap, .int .i64 p] w fun e w' => e = .returned (.bool (inP p L)) ∧ ∃ q, w' = w.drewN q := by
  have HC := hide hc
  have HB := hide (between_any p)
  clear hc
  obtain ⟨n, hn⟩ : ∃ n, n = L.length := ⟨_, rfl⟩
  rw [← hn] at hl ⊢
  have HN := hide hn
  clear hn
  go_enter Tryd.func22, Tryd.ntmps22
  go_wp2
  go_loopw [5] (fun i wr => ∃ k q : Nat, k ≤ n ∧ i = .int .i64 k ∧ wr = w.drewN q ∧ inP p (L.take k) = false) (fun i _ => n - (intOf i).toNat)
  case atStart => exact ⟨0, 0, Nat.zero_le _, rfl, rfl, by simp [inP]⟩
  case round =>
    obtain ⟨k, q, hk, rfl, hw, hf⟩ := hrel
    have HW := hide hw
    by_cases hlt : k < n
    · have hkL : k < L.length := by have := HN.out; omega
      obtain ⟨c1, c2⟩ := HC.out k hkL
      have hf1 := hide (inP_take_succ p L k hkL)
      have hf2 := hide (fun h1 h2 => inP_of_mem (p := p) hkL h1 h2)
      obtain ⟨x, hx⟩ : ∃ x, x = L[k] := ⟨_, rfl⟩
      rw [← hx] at c1 c2 hf1 hf2
      obtain ⟨a, b⟩ := x
      have HX := hide hx
      have HF := hide hf
      clear hx hf
      have d1 : wr.cell? ⟨g, k * 2, none⟩ = some (.int .i64 a) := by rw [hw]; exact c1
      have d2 : wr.cell? ⟨g, k * 2 + 1, none⟩ = some (.int .i64 b) := by rw [hw]; exact c2
      have e1 : (k : Int) < (n : Int) := by omega
      have e0 : (0 : Int) ≤ (k : Int) := by omega
      have HBx := hide (HB.out a b)
      clear c1 c2 hw
      by_cases hin : a ≤ p ∧ p ≤ b
      · rw [show decide (a ≤ p ∧ p ≤ b) = true from by simpa using hin] at HBx
        have HIN := hide hin
        clear hin
        go_wp2
        go_quiet (first | (go_at_call 36; refine Calls.quiet_of_same (HBx.out _)))
        go_wp2
        go_ret
        exact ⟨ret_bool (hf2.out HIN.out.1 HIN.out.2).symm, drewN_plus HW.out _⟩
      · rw [show decide (a ≤ p ∧ p ≤ b) = false from by simpa using hin] at HBx
        have HIN := hide hin
        clear hin
        go_wp2
        go_quiet (first | (go_at_call 36; refine Calls.quiet_of_same (HBx.out _)))
        go_wp2
        go_roundw
        case rel => obtain ⟨q2, hq2⟩ := drewN_plus HW.out nq; exact ⟨k + 1, q2, by omega, by go_num, hq2, by rw [hf1.out, HF.out]; have := HIN.out; simp; omega⟩
        case measure => simp [intOf]; omega
    · have hkl : k = n := by omega
      subst hkl
      have HF := hide hf
      clear hf hw
      go_wp2
      go_ret
      exact ⟨ret_bool (by have := HF.out; rw [HN.out, List.take_length] at this; exact this.symm), _, HW.out⟩

end Go.Proofs.YtjhombfcbfhinaaDoor
