/- What digits and hex answer. -/
import Derived.Test.YtlapnhjkhpgklaaTtake
namespace Go.Proofs.Ytlapnhjkhpgklaa
open Go.RowKit
set_option linter.unusedVariables false

/-- the rounds. -/
structure DigR (base : Int) (most : Nat) (l : List Int) (i k : Nat) (n : Int) : Prop where
  k1 : k ≤ most
  k2 : i + k ≤ l.length
  n0 : 0 ≤ n
  n1 : n < 16 ^ k
  rest : digs base most l i = digsS base (most - k) (l.drop (i + k)) n k
theorem digR_start (base : Int) (most : Nat) (l : List Int) (i : Nat) (h : i ≤ l.length) : DigR base most l i 0 0 := ⟨Nat.zero_le _, h, by omega, by decide, rfl⟩
theorem digR_bound {base : Int} {most : Nat} {l : List Int} {i k : Nat} {n : Int} (h : DigR base most l i k n) (hm : most ≤ 6) : n ≤ 16777215 := by
  have h1 := h.n1
  have h2 : k ≤ 6 := Nat.le_trans h.k1 hm
  have : k = 0 ∨ k = 1 ∨ k = 2 ∨ k = 3 ∨ k = 4 ∨ k = 5 ∨ k = 6 := by omega
  rcases this with rfl | rfl | rfl | rfl | rfl | rfl | rfl <;> omega
theorem digR_next {base : Int} {most : Nat} {l : List Int} {i k : Nat} {n : Int} (h : DigR base most l i k n) (hb : base = 10 ∨ base = 16) (h1 : k < most) (h2 : i + k < l.length) (h3 : digV l[i + k] < base) : DigR base most l i (k + 1) (n * base + digV l[i + k]) := by
  have hd := digV_rng l[i + k]
  have hn := h.n1
  have hn0 := h.n0
  refine ⟨h1, by omega, ?_, ?_, ?_⟩
  · rcases hb with rfl | rfl <;> omega
  · have : (16 : Int) ^ (k + 1) = 16 ^ k * 16 := Int.pow_succ _ _
    rcases hb with rfl | rfl <;> omega
  · rw [h.rest, List.drop_eq_getElem_cons h2, show most - k = (most - (k + 1)) + 1 from by omega, digsS, if_pos h3]
    rfl
theorem digR_end {base : Int} {most : Nat} {l : List Int} {i k : Nat} {n : Int} (h : DigR base most l i k n) (he : ¬ (k < most ∧ ∃ h2 : i + k < l.length, digV l[i + k] < base)) : digs base most l i = (n, k) := by
  rw [h.rest]
  by_cases h1 : k < most
  · rw [show most - k = (most - (k + 1)) + 1 from by omega]
    by_cases h2 : i + k < l.length
    · rw [List.drop_eq_getElem_cons h2, digsS, if_neg (fun h3 => he ⟨h1, h2, h3⟩)]
    · rw [List.drop_eq_nil_of_le (by omega), digsS]
  · have := h.k1
    rw [show most - k = 0 from by omega, digsS]
theorem digs_spec (base : Int) (most : Nat) (l : List Int) (i : Nat) (h : i ≤ l.length) (hb : base = 10 ∨ base = 16) : ∃ n k, digs base most l i = (n, k) ∧ DigR base most l i k n := by
  have key : ∀ f k n, DigR base most l i k n → most - k ≤ f → ∃ n k, digs base most l i = (n, k) ∧ DigR base most l i k n := by
    intro f
    induction f with
    | zero => intro k n hr hf; exact ⟨n, k, digR_end hr (fun hh => by omega), hr⟩
    | succ f ih =>
      intro k n hr hf
      by_cases hc : k < most ∧ ∃ h2 : i + k < l.length, digV l[i + k] < base
      · obtain ⟨h1, h2, h3⟩ := hc
        exact ih _ _ (digR_next hr hb h1 h2 h3) (by omega)
      · exact ⟨n, k, digR_end hr hc, hr⟩
  exact key most 0 0 (digR_start base most l i h) (by omega)

set_option maxHeartbeats 4000000 in
theorem digits_any {b : Nat} {x : Addr} {c : Nat} {l : List Int} {i : Nat} {d : Int} (base : Int) (most : Nat) (w : World) (h : RB w b x c l i d) (hb : base = 10 ∨ base = 16) (hm : most ≤ 6) :
    Calls Try.prog 65 #[.pointer (some ⟨b, 0, none⟩), .int .i64 base, .int .i64 most] w fun e w' => e = .returned (.tuple #[.int .i64 (digs base most l i).1, .int .i64 ((digs base most l i).2 : Nat)]) ∧ RB w' b x c l (i + (digs base most l i).2) d ∧ Mv b w w' := by
  have hbb : 10 ≤ base ∧ base ≤ 16 := by omega
  have HBB := hide hb
  have hat := h.at'
  have hsm := h.small
  have HP := hide h.pts
  have HR0 := hide h
  clear h hb
  go_enter Try.func65, Try.ntmps65
  go_wp2
  go_loopw [6, 7] (fun u v wr => ∃ (k : Nat) (n : Int), u = .int .i64 n ∧ v = .int .i64 k ∧ DigR base most l i k n ∧ RB wr b x c l (i + k) d ∧ Mv b w wr) (fun _ v _ => most - (intOf v).toNat)
  case atStart => exact ⟨0, 0, rfl, rfl, digR_start base most l i hat, HR0.out, Mv.refl b w⟩
  case round =>
    obtain ⟨k, n, rfl, rfl, hd, hr, hv⟩ := hrel
    have HD := hide hd
    have HV := hide hv
    have hnb := digR_bound hd hm
    have hn0 := hd.n0
    have hk1 := hd.k1
    obtain ⟨j, hj⟩ : ∃ j, j = i + k := ⟨_, rfl⟩
    have HJ := hide hj
    rw [← hj] at hr
    have HRr := hide hr
    obtain ⟨c0, c1, c2, f1⟩ := hr.cells
    have HE := hide (fun q => ended_any (wr.drewN q) (hr.drewN q))
    obtain ⟨len, hlen⟩ : ∃ len, len = l.length := ⟨_, rfl⟩
    have HL := hide hlen
    rw [← hlen] at HE c0 hsm
    have hjl : j ≤ len := by rw [hlen]; exact hr.at'
    by_cases h1 : k < most
    · by_cases h2 : j < len
      · have h2' : j < l.length := by omega
        have hpat := hr.pat j h2'
        have hpt := HP.out l[j] (List.getElem_mem _)
        have e1 : decide (len ≤ j) = false := by simp; omega
        rw [e1] at HE
        have HG := hide (fun w' => digit_any l[j] w' hpt.1 hpt.2)
        have hdr := digV_rng l[j]
        by_cases h3 : digV l[j] < base
        · have hnx : Hid (DigR base most l i (k + 1) (n * base + digV l[j])) := by
            subst hj
            exact digR_next hd HBB.out h1 h2' h3
          obtain ⟨p, hp⟩ : ∃ p, p = l[j] := ⟨_, rfl⟩
          rw [← hp] at hpat HG h3 hnx hdr
          obtain ⟨z, hz⟩ : ∃ z, z = digV p := ⟨_, rfl⟩
          rw [← hz] at HG h3 hnx hdr
          clear e1 hp hz hd hr hv hlen hpt h2' hj hat
          have hmul : 0 ≤ n * base ∧ n * base ≤ 268435440 := by
            rcases HBB.out with rfl | rfl <;> omega
          obtain ⟨hmul0, hmul1⟩ := hmul
          obtain ⟨hdr0, hdr1⟩ := hdr
          have wl : IntKind.i64.wrap (n * base) = n * base := by rw [IntKind.wrap_i64]; omega
          have wl2 : IntKind.i64.wrap (n * base + z) = n * base + z := by rw [IntKind.wrap_i64]; omega
          have t1 : (decide ((k : Int) < (most : Int))) = true := by simp; omega
          have t2 : (decide (z < base)) = true := by simpa using h3
          go_wp2
          go_quiet (first | (go_at_call 45; refine Calls.quiet_of (HE.out _)) | (go_at_call 69; refine Calls.quiet_of_same (HG.out _)))
          obtain ⟨q1, rfl⟩ : ∃ q1, q1 = nq := ⟨_, rfl⟩
          go_wp2
          go_quiet (first | (go_at_call 69; refine quiet_plus (HG.out _)))
          go_wp2
          go_roundw
          case rel => exact ⟨k + 1, _, rfl, by go_num, hnx.out, by
              have := ((HRr.out.drewN q1).drewN nq).go (j + 1) (by have := HL.out; omega)
              have e : i + (k + 1) = j + 1 := by have := HJ.out; omega
              rw [e]; simpa using this, by have := ((HV.out.drewN q1).drewN nq).setCell 1 (.int .i64 ((j + 1 : Nat) : Int)); simpa using this⟩
          case measure => simp [intOf]; omega
        · have hE : Hid (digs base most l i = (n, k)) := by
            subst hj
            exact digR_end hd (fun ⟨_, _, hh⟩ => h3 hh)
          obtain ⟨p, hp⟩ : ∃ p, p = l[j] := ⟨_, rfl⟩
          rw [← hp] at hpat HG h3 hdr
          obtain ⟨z, hz⟩ : ∃ z, z = digV p := ⟨_, rfl⟩
          rw [← hz] at HG h3 hdr
          clear e1 hp hz hd hr hv hlen hpt h2' hj hat
          have t1 : (decide ((k : Int) < (most : Int))) = true := by simp; omega
          have t2 : (decide (z < base)) = false := by simpa using h3
          go_wp2
          go_quiet (first | (go_at_call 45; refine Calls.quiet_of (HE.out _)) | (go_at_call 69; refine Calls.quiet_of_same (HG.out _)))
          go_wp2
          go_ret2
          rw [hE.out]
          refine ⟨rfl, ?_, HV.out.drewN nq⟩
          have := HRr.out.drewN nq
          rw [HJ.out] at this
          exact this
      · have hE : Hid (digs base most l i = (n, k)) := by
          subst hj
          exact digR_end hd (fun ⟨_, hh, _⟩ => h2 (by omega))
        have e1 : decide (len ≤ j) = true := by simp; omega
        rw [e1] at HE
        clear e1 hd hr hv hlen hj hat
        have t1 : (decide ((k : Int) < (most : Int))) = true := by simp; omega
        go_wp2
        go_quiet (first | (go_at_call 45; refine Calls.quiet_of (HE.out _)))
        go_wp2
        go_ret2
        rw [hE.out]
        refine ⟨rfl, ?_, HV.out.drewN nq⟩
        have := HRr.out.drewN nq
        rw [HJ.out] at this
        exact this
    · have hE : Hid (digs base most l i = (n, k)) := digR_end hd (fun ⟨hh, _⟩ => h1 hh)
      clear hd hr hv hlen hj hat
      have t1 : (decide ((k : Int) < (most : Int))) = false := by simp; omega
      go_wp2
      go_quiet (fail)
      go_wp2
      go_ret2
      rw [hE.out]
      refine ⟨rfl, ?_, HV.out.drewN nq⟩
      have := HRr.out.drewN nq
      rw [HJ.out] at this
      exact this

set_option maxHeartbeats 1000000 in
theorem hex_yes {b : Nat} {x : Addr} {c : Nat} {l : List Int} {i : Nat} {d : Int} (least most : Nat) (w : World) (h : RB w b x c l i d) (hm : most ≤ 6) (hl : least ≤ 6) (hc : least ≤ (digs 16 most l i).2) :
    Calls Try.prog 54 #[.pointer (some ⟨b, 0, none⟩), .int .i64 least, .int .i64 most] w fun e w' => e = .returned (.int .i64 (digs 16 most l i).1) ∧ RB w' b x c l (i + (digs 16 most l i).2) d ∧ Mv b w w' := by
  have HD := hide (digits_any 16 most w h (Or.inr rfl) hm)
  obtain ⟨n, k, e, hr⟩ := digs_spec 16 most l i h.at' (Or.inr rfl)
  have hk := hr.k1
  rw [e] at HD hc ⊢
  clear e hr h
  simp only at hc HD
  go_enter Try.func54, Try.ntmps54
  go_wp2_with fail
  refine HD.out.mono ?_
  rintro e w1 ⟨rfl, hr1, hv1⟩
  have HR1 := hide hr1
  have HV1 := hide hv1
  clear hr1 hv1
  go_wp2
  go_ret
  exact ⟨rfl, HR1.out, HV1.out⟩
set_option maxHeartbeats 1000000 in
theorem hex_no {b : Nat} {x : Addr} {c : Nat} {l : List Int} {i : Nat} {d : Int} (least most : Nat) (w : World) (h : RB w b x c l i d) (hm : most ≤ 6) (hl : least ≤ 6) (hc : (digs 16 most l i).2 < least) :
    Calls Try.prog 54 #[.pointer (some ⟨b, 0, none⟩), .int .i64 least, .int .i64 most] w fun e w' => e = gives 1 ∧ Mv b w w' := by
  have HD := hide (digits_any 16 most w h (Or.inr rfl) hm)
  obtain ⟨n, k, e, hr⟩ := digs_spec 16 most l i h.at' (Or.inr rfl)
  have hk := hr.k1
  rw [e] at HD hc
  clear e hr h
  simp only at hc HD
  go_enter Try.func54, Try.ntmps54
  go_wp2_with fail
  refine HD.out.mono ?_
  rintro e w1 ⟨rfl, hr1, hv1⟩
  have HV1 := hide hv1
  clear hr1 hv1
  go_wp2
  exact ⟨rfl, rfl, HV1.out⟩

end Go.Proofs.Ytlapnhjkhpgklaa
