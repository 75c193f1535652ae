/- The reference's SameInts at two rows that are the same; the law FoldOnes returns true, where the table of letters lies in memory. -/
import Derived.Test.YtjhombfcbfhinaaDoorLawl
namespace Go.Proofs.YtjhombfcbfhinaaDoor
open Go.RowKit
set_option linter.unusedVariables false

theorem drewN_more {w wr : World} {q : Nat} (h : wr = w.drewN q) (n : Nat) : ∃ q2, wr.drewN n = w.drewN q2 := ⟨q + n, by rw [h]; simp [World.drewN, Nat.add_assoc]⟩

set_option maxHeartbeats 1000000 in
theorem sameInts_yes (l : List Int) (a b : Addr) (ca cb : Nat) (hl : l.length ≤ 4000) (w : World) (ha : ∀ j, j < l.length → w.cell? (a.add j) = some (.int .i64 (l.getD j 0))) (hb : ∀ j, j < l.length → w.cell? (b.add j) = some (.int .i64 (l.getD j 0))) :
    Calls Tryd.prog 14 #[.slice (some a) l.length ca, .slice (some b) l.length cb] w fun e w' => e = .returned (.bool true) ∧ ∃ q, w' = w.drewN q := by
  have HA := hide ha
  have HB := hide hb
  clear ha hb
  obtain ⟨n, hn⟩ : ∃ n, n = l.length := ⟨_, rfl⟩
  rw [← hn] at hl ⊢
  have HN := hide hn
  clear hn
  go_enter Tryd.func14, Tryd.ntmps14
  go_wp2
  go_loopw [5] (fun i wr => ∃ k q : Nat, k ≤ n ∧ i = .int .i64 k ∧ wr = w.drewN q) (fun i _ => n - (intOf i).toNat)
  case atStart => exact ⟨0, 0, Nat.zero_le _, rfl, rfl⟩
  case round =>
    obtain ⟨k, q, hk, rfl, hw⟩ := hrel
    have HW := hide hw
    by_cases hlt : k < n
    · have c1 : wr.cell? (a.add k) = some (.int .i64 (l.getD k 0)) := by rw [hw]; exact HA.out k (by have := HN.out; omega)
      have c2 : wr.cell? (b.add k) = some (.int .i64 (l.getD k 0)) := by rw [hw]; exact HB.out k (by have := HN.out; omega)
      obtain ⟨y, hy⟩ : ∃ y, y = l.getD k 0 := ⟨_, rfl⟩
      rw [← hy] at c1 c2
      have e1 : (k : Int) < (n : Int) := by omega
      have e0 : (0 : Int) ≤ (k : Int) := by omega
      clear hy hw
      go_wp2
      go_quiet (fail)
      go_wp2
      go_roundw
      case rel => obtain ⟨q2, hq2⟩ := drewN_more HW.out nq; exact ⟨k + 1, q2, by omega, by go_num, hq2⟩
      case measure => simp [intOf]; omega
    · clear hw
      go_wp2
      go_ret
      exact ⟨rfl, _, HW.out⟩

def chkA (p : Int) : Bool := (orb p).all fun x => inP x ps_alpha == inP p ps_alpha
theorem chkA_all : rels.all chkA = true := by decide +kernel
theorem orb_no {p : Int} (h : relB p = false) : orb p = [p] := by
  have h1 : ∀ l, visit p l = l := fun l => by
    unfold visit
    have : ∀ rs : List Pr, (∀ r ∈ rs, r ∈ lets) → rs.foldl (visit1 p) l = l := by
      intro rs
      induction rs with
      | nil => intro _; rfl
      | cons r rs ih =>
        intro hm
        rw [List.foldl_cons]
        have hr := no_partner h r (hm r (List.mem_cons_self ..))
        have : visit1 p l r = l := by simp [visit1, hr.1, hr.2]
        rw [this]
        exact ih fun r' hr' => hm r' (List.mem_cons_of_mem _ hr')
    exact this lets fun r hr => hr
  have h3 : orbS p 3 = [p] := by simp [orbS, grow1, h1]
  rw [orb, h3]; rfl
theorem orb_alpha (p x : Int) (hx : x ∈ orb p) : inP x ps_alpha = inP p ps_alpha := by
  cases h : relB p with
  | true =>
    have := List.all_eq_true.1 chkA_all p (mem_rels h)
    have := List.all_eq_true.1 this x hx
    simpa using this
  | false =>
    rw [orb_no h] at hx
    simp at hx
    rw [hx]


set_option maxHeartbeats 4000000 in
theorem foldOnes_yes (p : Int) (p0 : 0 ≤ p) (p1 : p ≤ 1114111) (w : World) (hT : Tab w) (hpos : 0 < w.heap.size) (hua : inP p ps_upper = true → inP p ps_alpha = true) (hla : inP p ps_lower = true → inP p ps_alpha = true) :
    Calls Tryd.prog 6 #[.int .i64 p] w fun e w' => e = .returned (.bool true) ∧ Below w.heap.size w w' := by
  have HB := hide (begun_any w hT hpos)
  have OP : Hid (∀ x, x ∈ orb p → ∀ w1, Below w.heap.size w w1 → Calls Tryd.prog 9 #[.int .i64 x] w1 fun e w' => ∃ g cap, e = .returned (.tuple #[.slice (some ⟨g, 0, none⟩) (orb p).length cap, .int .i64 0]) ∧ w'.ownsRow w1.heap.size 3 1 (.slice (some ⟨g, 0, none⟩) (orb p).length cap) (orb p).length (i64s (orb p)) ∧ Below w1.heap.size w1 w') := fun x hx w1 hb => by
    obtain ⟨x0, x1⟩ := orb_range p p0 p1 x hx
    have h := Orbit_yes x w1 x0 x1 (hT.below hb hpos) (Nat.lt_of_lt_of_le hpos hb.size)
    rw [orb_same p x hx] at h
    exact h
  have IA : Hid (∀ x, x ∈ orb p → ∀ w1, Calls Tryd.prog 19 #[.string ⟨#[97, 108, 112, 104, 97]⟩, .int .i64 x] w1 fun e w' => e = .returned (.tuple #[.bool (inP p ps_alpha), .int .i64 0]) ∧ Below w1.heap.size w1 w') := fun x hx w1 => by
    have hr := orb_range p p0 p1 x hx
    have h := In_some nm_alpha x w1 (by simp [names])
    rw [if_pos hr, show decide (0 ≤ x ∧ x ≤ 1114111) = true from by simpa using hr, Bool.true_and, show rngOf nm_alpha = ps_alpha from by decide +kernel, orb_alpha p x hx] at h
    exact h
  have IU : Hid (∀ w1, Calls Tryd.prog 19 #[.string ⟨#[117, 112, 112, 101, 114]⟩, .int .i64 p] w1 fun e w' => e = .returned (.tuple #[.bool (inP p ps_upper), .int .i64 0]) ∧ Below w1.heap.size w1 w') := fun w1 => by
    have h := In_some nm_upper p w1 (by simp [names])
    rw [if_pos ⟨p0, p1⟩, show decide (0 ≤ p ∧ p ≤ 1114111) = true from by simpa using And.intro p0 p1, Bool.true_and, show rngOf nm_upper = ps_upper from by decide +kernel] at h
    exact h
  have IL : Hid (∀ w1, Calls Tryd.prog 19 #[.string ⟨#[108, 111, 119, 101, 114]⟩, .int .i64 p] w1 fun e w' => e = .returned (.tuple #[.bool (inP p ps_lower), .int .i64 0]) ∧ Below w1.heap.size w1 w') := fun w1 => by
    have h := In_some nm_lower p w1 (by simp [names])
    rw [if_pos ⟨p0, p1⟩, show decide (0 ≤ p ∧ p ≤ 1114111) = true from by simpa using And.intro p0 p1, Bool.true_and, show rngOf nm_lower = ps_lower from by decide +kernel] at h
    exact h
  have hself := hide (orb_self p)
  have hol := orb_len p p0 p1
  obtain ⟨l, hl⟩ : ∃ l, l = orb p := ⟨_, rfl⟩
  rw [← hl] at OP IA hself hol
  obtain ⟨o1, o2⟩ := hol
  obtain ⟨A, hA⟩ : ∃ A, A = inP p ps_alpha := ⟨_, rfl⟩
  obtain ⟨U, hU⟩ : ∃ U, U = inP p ps_upper := ⟨_, rfl⟩
  obtain ⟨L, hL⟩ : ∃ L, L = inP p ps_lower := ⟨_, rfl⟩
  rw [← hA] at IA hua hla
  rw [← hU] at IU hua
  rw [← hL] at IL hla
  clear hA hU hL hl hT
  have key : ∀ b : Bool, decide ((1 : Int) < (l.length : Int)) = b → Calls Tryd.prog 6 #[.int .i64 p] w fun e w' => e = .returned (.bool true) ∧ Below w.heap.size w w' := by
    intro b hb1
    cases b <;> cases U <;> cases L <;> cases A <;> first | (exact absurd (hua rfl) (by decide)) | (exact absurd (hla rfl) (by decide)) | skip
    all_goals clear hua hla
    all_goals go_enter Tryd.func6, Tryd.ntmps6
    all_goals go_wp2_with fail
    all_goals refine HB.out.mono ?_
    all_goals rintro e w1 ⟨rfl, hb1⟩
    all_goals go_wp2_with fail
    all_goals refine (OP.out p hself.out _ hb1).mono ?_
    all_goals rintro e w2 ⟨g, c, rfl, ho2, hb2⟩
    all_goals have hc2 := hb1.trans (hb2.mono hb1.size)
    all_goals have HI : Hid (Calls Tryd.prog 21 #[.slice (some ⟨g, 0, none⟩) l.length c, .int .i64 p] w2 fun e w' => e = .returned (.bool true) ∧ w2 = w') := (hasInt_any l ⟨g, 0, none⟩ c p (by omega) w2 (own_cells ho2)).mono fun e w' h => ⟨by rw [h.1]; exact ret_bool (by simpa using hself.out), h.2⟩
    all_goals have HO2 := hide ho2
    all_goals clear ho2 hb1 hb2
    all_goals go_wp2_with fail
    all_goals refine HI.out.mono ?_
    all_goals rintro e w' ⟨rfl, rfl⟩
    all_goals go_wp2_with fail
    all_goals refine (IA.out p hself.out _).mono ?_
    all_goals rintro e w3 ⟨rfl, hb3⟩
    all_goals go_wp2_with fail
    all_goals refine (IU.out _).mono ?_
    all_goals rintro e w4 ⟨rfl, hb4⟩
    all_goals have hd4 := hb3.trans (hb4.mono hb3.size)
    all_goals go_wp2_with fail
    all_goals refine (IL.out _).mono ?_
    all_goals rintro e w5 ⟨rfl, hb5⟩
    all_goals have hd5 := hd4.trans (hb5.mono hd4.size)
    all_goals clear hb3 hb4 hb5 hd4
    all_goals go_wp2
    all_goals go_loopw [10] (fun i wr => ∃ k : Nat, k ≤ l.length ∧ i = .int .i64 k ∧ Below w5.heap.size w5 wr) (fun i _ => l.length - (intOf i).toNat)
    all_goals try exact ⟨0, Nat.zero_le _, rfl, Below.refl _ _⟩
    all_goals obtain ⟨k, hk, rfl, hbl⟩ := hrel
    all_goals have hcr : Below w.heap.size w wr := (hc2.trans (hd5.mono hc2.size)).trans (hbl.mono (Nat.le_trans hc2.size hd5.size))
    all_goals by_cases hlt : k < l.length
    all_goals try (go_wp2; go_ret; exact ⟨rfl, hcr⟩)
    all_goals have hor := own_below (own_below HO2.out hd5) hbl
    all_goals have cx := own_cells hor k hlt
    all_goals have hmem : l.getD k 0 ∈ l := by simp [List.getD, hlt]
    all_goals obtain ⟨x, hx⟩ : ∃ x, x = l.getD k 0 := ⟨_, rfl⟩
    all_goals rw [← hx] at cx hmem
    all_goals rw [Addr.add_lit, Nat.zero_add] at cx
    all_goals have HOR := hide hor
    all_goals have HM := hide hmem
    all_goals have HX := hide hx
    all_goals clear hor hx hmem
    all_goals go_wp2_with fail
    all_goals refine (OP.out x HM.out _ hcr).mono ?_
    all_goals rintro e w6 ⟨g6, c6, rfl, ho6, hb6⟩
    all_goals have c6x := own_cells (own_below HOR.out hb6) k hlt
    all_goals rw [← HX.out, Addr.add_lit, Nat.zero_add] at c6x
    all_goals have HO6 := hide ho6
    all_goals clear ho6 cx
    all_goals go_wp2_with fail
    all_goals refine (IA.out x HM.out _).mono ?_
    all_goals rintro e w7 ⟨rfl, hb7⟩
    all_goals have HS := hide (sameInts_yes l ⟨g, 0, none⟩ ⟨g6, 0, none⟩ c c6 (by omega) w7 (own_cells (own_below (own_below HOR.out hb6) hb7)) (own_cells (own_below HO6.out hb7)))
    all_goals clear c6x
    all_goals go_wp2_with fail
    all_goals refine HS.out.mono ?_
    all_goals rintro e w8 ⟨rfl, q8, hq8⟩
    all_goals have hb8 : Below w5.heap.size w5 w8 := by rw [hq8]; exact below_drewN ((hbl.trans (hb6.mono hbl.size)).trans (hb7.mono (Nat.le_trans hbl.size hb6.size))) _
    all_goals clear hq8 hb6 hb7 hcr
    all_goals go_wp2
    all_goals go_roundw
    all_goals first | exact ⟨k + 1, by omega, by go_num, hb8⟩ | (simp [intOf]; omega)
  exact key _ rfl

end Go.Proofs.YtjhombfcbfhinaaDoor
