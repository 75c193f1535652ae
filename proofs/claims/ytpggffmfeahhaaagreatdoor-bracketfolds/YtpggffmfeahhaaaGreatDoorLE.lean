/- How many points a set has. No program. -/
import Derived.Test.YtpggffmfeahhaaaGreatDoorKC
import Derived.Test.YtpggffmfeahhaaaGreatDoorKQ
import Derived.Test.YtpggffmfeahhaaaGreatDoorKP
import Derived.Test.YtpggffmfeahhaaaGreatDoorKR
import Derived.Test.YtpggffmfeahhaaaGreatDoorKT
namespace Go.Proofs.YtpggffmfeahhaaaGreatDoor
set_option linter.unusedVariables false

def cntL (L : RL) : Int := (L.map fun r => r.2 - r.1 + 1).sum
theorem cntL_cons (r : Int × Int) (L : RL) : cntL (r :: L) = (r.2 - r.1 + 1) + cntL L := by simp [cntL]
def NP : Nat := 1114112
theorem NP_eq : NP = 1114112 := rfl
def card (f : Int → Bool) : Nat := (List.range NP).countP fun (n : Nat) => f (n : Int)
theorem countP_or_and {α : Type} (l : List α) (p q : α → Bool) : l.countP (fun x => p x || q x) + l.countP (fun x => p x && q x) = l.countP p + l.countP q := by
  induction l with
  | nil => rfl
  | cons x l ih =>
    simp only [List.countP_cons]
    cases hp : p x <;> cases hq : q x <;> simp <;> omega
theorem card_or_and (f g : Int → Bool) : card (fun q => f q || g q) + card (fun q => f q && g q) = card f + card g := countP_or_and _ _ _
theorem countP_between (a b : Int) (h0 : 0 ≤ a) (h1 : a ≤ b) : ∀ N : Nat, ((List.range N).countP (fun (n : Nat) => decide (a ≤ (n : Int)) && decide ((n : Int) ≤ b)) : Int) = max 0 (min b ((N : Int) - 1) - a + 1) := by
  intro N
  induction N with
  | zero => simp; omega
  | succ N ih =>
    rw [List.range_succ, List.countP_append]
    simp only [List.countP_cons, List.countP_nil]
    by_cases h : a ≤ (N : Int) ∧ (N : Int) ≤ b
    · simp only [h.1, h.2, decide_true, Bool.and_self, if_true]
      push_cast
      omega
    · have : (decide (a ≤ (N : Int)) && decide ((N : Int) ≤ b)) = false := by simp; omega
      simp only [this, Bool.false_eq_true, if_false]
      push_cast
      omega
theorem card_congr {f g : Int → Bool} (h : ∀ q, 0 ≤ q → q ≤ 1114111 → f q = g q) : card f = card g := by
  unfold card
  apply List.countP_congr
  intro n hn
  rw [List.mem_range] at hn
  have := NP_eq
  rw [h n (by omega) (by omega)]
theorem cnt_card : ∀ {L : RL}, Canon L → cntL L = card (ins L) := by
  intro L
  induction L with
  | nil =>
    intro _
    have : card (ins []) = 0 := by unfold card; rw [List.countP_eq_zero]; simp [ins]
    rw [this]; rfl
  | cons r L ih =>
    intro h
    obtain ⟨ho, ha, hc⟩ := canon_cons.1 h
    unfold okR at ho
    have h1 := card_or_and (fun q => decide (r.1 ≤ q) && decide (q ≤ r.2)) (ins L)
    have h2 : card (fun q => (decide (r.1 ≤ q) && decide (q ≤ r.2)) && ins L q) = 0 := by
      unfold card
      rw [List.countP_eq_zero]
      intro n _ hn
      simp only [Bool.and_eq_true, decide_eq_true_eq] at hn
      obtain ⟨x, hx, hx1, hx2⟩ := (ins_iff _ _).1 hn.2
      have := ha x hx
      omega
    have h3 : ((card (fun q => decide (r.1 ≤ q) && decide (q ≤ r.2)) : Nat) : Int) = r.2 - r.1 + 1 := by
      unfold card
      rw [countP_between r.1 r.2 ho.1 ho.2.1 NP]
      have := NP_eq
      omega
    have h4 : card (ins (r :: L)) = card (fun q => (decide (r.1 ≤ q) && decide (q ≤ r.2)) || ins L q) := rfl
    rw [cntL_cons, ih hc, h4]
    omega
theorem cnt_isSet {f : Int → Bool} {O : RL} (h : IsSet f O) : cntL O = card f := by
  rw [cnt_card h.1, card_congr (g := f) fun q h0 h1 => by rw [h.2]; simp [h0, h1]]
theorem card_le (f : Int → Bool) : card f ≤ 1114112 := by
  have := List.countP_le_length (p := fun n : Nat => f (n : Int)) (l := List.range NP)
  rw [List.length_range] at this
  have h := NP_eq
  unfold card
  omega
theorem cnt_rng {L : RL} (h : Canon L) : 0 ≤ cntL L ∧ cntL L ≤ 1114112 := by
  rw [cnt_card h]
  have := card_le (ins L)
  omega
theorem cnt_take {L : RL} {k : Nat} (hk : k < L.length) : cntL (L.take (k + 1)) = cntL (L.take k) + (L[k].2 - L[k].1 + 1) := by
  rw [List.take_add_one, List.getElem?_eq_getElem hk]
  unfold cntL
  rw [List.map_append, List.sum_append]
  simp
theorem canon_take {L : RL} (h : Canon L) (k : Nat) : Canon (L.take k) := ⟨fun r hr => h.1 r (List.mem_of_mem_take hr), h.2.sublist (List.take_sublist k L)⟩
theorem card_one (p : Int) (h0 : 0 ≤ p) (h1 : p ≤ 1114111) : card (fun q => decide (p ≤ q) && decide (q ≤ p)) = 1 := by
  have h := countP_between p p h0 (Int.le_refl _) NP
  have hN := NP_eq
  have e : ((card (fun q => decide (p ≤ q) && decide (q ≤ p)) : Nat) : Int) = 1 := by
    unfold card; rw [h]; omega
  omega

end Go.Proofs.YtpggffmfeahhaaaGreatDoor
/- What Has, Count and CountOf answer. -/
namespace Go.Proofs.YtpggffmfeahhaaaGreatDoor
open Go.RowKit
set_option linter.unusedVariables false

set_option maxHeartbeats 1000000 in
theorem has_bad (v : Value) (L : RL) (p : Int) (w : World) (hv : Reads w v L) (h : checkE L ≠ 0) : Calls Tryz.prog 9 #[v, .int .i64 p] w fun e w' => e = .returned (.tuple #[.bool false, .int .i64 (checkE L)]) ∧ Below w.heap.size w w' := by
  have HC := hide (check_any v L w hv)
  obtain ⟨z, hz⟩ : ∃ z, z = checkE L := ⟨_, rfl⟩
  rw [← hz] at h HC ⊢
  clear hz hv
  go_enter Tryz.func9, Tryz.ntmps9
  go_wp2_with fail
  refine HC.out.mono ?_
  rintro e w1 ⟨rfl, hb1⟩
  go_wp2
  go_ret2
  exact ⟨rfl, hb1⟩
set_option maxHeartbeats 1000000 in
theorem has_out (v : Value) (L : RL) (p : Int) (w : World) (hv : Reads w v L) (h : checkE L = 0) (hp : ¬ (0 ≤ p ∧ p ≤ 1114111)) : Calls Tryz.prog 9 #[v, .int .i64 p] w fun e w' => e = .returned (.tuple #[.bool false, .int .i64 3]) ∧ Below w.heap.size w w' := by
  have HC := hide (check_any v L w hv)
  have HI := hide (fun w => is_any p w)
  rw [show decide (0 ≤ p ∧ p ≤ 1114111) = false from by simpa using hp] at HI
  rw [h] at HC
  clear hv hp h
  go_enter Tryz.func9, Tryz.ntmps9
  go_wp2_with fail
  refine HC.out.mono ?_
  rintro e w1 ⟨rfl, hb1⟩
  go_wp2_with fail
  refine (HI.out w1).mono ?_
  rintro e w2 ⟨rfl, rfl⟩
  go_wp2
  go_ret2
  exact ⟨rfl, hb1⟩
set_option maxHeartbeats 1000000 in
theorem has_in (v : Value) (L : RL) (p : Int) (w : World) (hv : Reads w v L) (h : checkE L = 0) (h0 : 0 ≤ p) (h1 : p ≤ 1114111) : Calls Tryz.prog 9 #[v, .int .i64 p] w fun e w' => e = .returned (.tuple #[.bool (ins L p), .int .i64 0]) ∧ Below w.heap.size w w' := by
  have HC := hide (check_any v L w hv)
  have HI := hide (fun w => is_any p w)
  rw [show decide (0 ≤ p ∧ p ≤ 1114111) = true from by simp [h0, h1]] at HI
  rw [h] at HC
  obtain ⟨hl, hcan⟩ := checkE_ok.1 h
  have HS := hide (fun w1 (hb : Below w.heap.size w w1) => stretch_any v L p w1 (hv.below hb) hcan (by omega))
  rw [stretch_ins hcan h0 h1] at HS
  obtain ⟨z, hz⟩ : ∃ z, z = ins L p := ⟨_, rfl⟩
  obtain ⟨y, hy⟩ : ∃ y, y = (stretchL L p).2 := ⟨_, rfl⟩
  rw [← hz] at HS ⊢
  rw [← hy] at HS
  clear hv hcan h hz hy
  go_enter Tryz.func9, Tryz.ntmps9
  go_wp2_with fail
  refine HC.out.mono ?_
  rintro e w1 ⟨rfl, hb1⟩
  go_wp2_with fail
  refine (HI.out w1).mono ?_
  rintro e w2 ⟨rfl, rfl⟩
  go_wp2_with fail
  refine (HS.out w1 hb1).mono ?_
  rintro e w3 ⟨rfl, hb3⟩
  go_wp2
  go_ret2
  exact ⟨rfl, hb1.trans (hb3.mono hb1.size)⟩


end Go.Proofs.YtpggffmfeahhaaaGreatDoor
/- What must be in any case. -/
namespace Go.Proofs.YtpggffmfeahhaaaGreatDoor
open Go.RowKit
set_option linter.unusedVariables false

theorem set_ab : IsSet (ins [(5, 9), (1, 4)]) [(1, 9)] := by
  refine ⟨canon_cons.2 ⟨by unfold okR; omega, by simp, canon_nil⟩, fun q => ?_⟩
  rw [Bool.eq_iff_iff]
  simp [ins]
  omega
theorem set_nab : IsSet (fun q => !ins [(1, 9)] q) [(0, 0), (10, 1114111)] := by
  refine ⟨canon_cons.2 ⟨by unfold okR; omega, by simp, canon_cons.2 ⟨by unfold okR; omega, by simp, canon_nil⟩⟩, fun q => ?_⟩
  rw [Bool.eq_iff_iff]
  simp [ins]
  omega
/-- a call that went well answered the set. -/
theorem made_is {f : Int → Bool} {err : Int} {O S : RL} (hm : Made f 0 err O) (hS : IsSet f S) (hl : S.length ≤ 400) : err = 0 ∧ O = S := by
  rcases hm with ⟨h, _⟩ | ⟨_, T, hT, h⟩
  · exact absurd rfl h
  · have : T = S := isSet_one hT hS
    subst this
    rcases h with ⟨_, h1, h2⟩ | ⟨h0, _⟩
    · exact ⟨h1, h2⟩
    · omega
theorem reads_ab (w : World) : Reads (w.alloc (.cells #[.int .i64 5, .int .i64 9, .int .i64 1, .int .i64 4] 35)) (.slice (some ⟨w.heap.size, 0, none⟩) 2 2) [(5, 9), (1, 4)] := by
  refine .inr ⟨_, 2, rfl, fun j hj => ?_⟩
  match j, hj with
  | 0, _ => exact ⟨World.cell?_alloc_at _ _ _ _ rfl, World.cell?_alloc_at _ _ _ _ rfl⟩
  | 1, _ => exact ⟨World.cell?_alloc_at _ _ _ _ rfl, World.cell?_alloc_at _ _ _ _ rfl⟩
  | (j + 2), hj => simp at hj; omega

set_option maxHeartbeats 1000000 in
theorem begun_any (w : World) : Calls Tryz.prog 7 #[] w fun e w' => e = .returned (.bool true) ∧ Below w.heap.size w w' := by
  have HM := hide (make_any _ _ _ (reads_ab w))
  rw [show rightE [(5, 9), (1, 4)] = 0 from by decide] at HM
  have hb0 : Hid (Below w.heap.size w (w.alloc (.cells #[.int .i64 5, .int .i64 9, .int .i64 1, .int .i64 4] 35))) := (Below.refl _ w).alloc (Nat.le_refl _) _
  go_enter Tryz.func7, Tryz.ntmps7
  go_wp2_with fail
  refine HM.out.mono ?_
  rintro e w1 ⟨v1, err, O, rfl, ho1, hm1, hb1⟩
  have hr1 := own_reads ho1
  clear ho1
  obtain ⟨rfl, rfl⟩ := made_is hm1 set_ab (by decide)
  have hc1 := hide (hb0.out.trans (hb1.mono hb0.out.size))
  have HN := hide (not_any v1 [(1, 9)] w1 hr1)
  rw [show checkE [(1, 9)] = 0 from by decide] at HN
  obtain ⟨x1, c1, rfl, _⟩ := hr1.some (by decide)
  clear HM hb1 hm1 hr1
  go_wp2_with fail
  refine HN.out.mono ?_
  rintro e w2 ⟨v2, err, O, rfl, ho2, hm2, hb2⟩
  have hr2 := own_reads ho2
  clear ho2
  obtain ⟨rfl, rfl⟩ := made_is hm2 set_nab (by decide)
  have hc2 := hide (hc1.out.trans (hb2.mono hc1.out.size))
  obtain ⟨x2, c2, rfl, hcx⟩ := hr2.some (by decide)
  obtain ⟨d1, d2⟩ := hcx 0 (by decide)
  simp [Addr.add] at d1 d2
  clear HN hb2 hm2 hr2 hcx
  go_wp2

  go_ret
  exact ⟨rfl, hc2.out⟩

end Go.Proofs.YtpggffmfeahhaaaGreatDoor
