/- A set that an expression of at most 299 points tells has at most 400 ranges. No program. -/
import Derived.Test.YtpggffmfeahhaaaGreatDoorLJ
import Derived.Test.YtpggffmfeahhaaaGreatDoorLI
import Derived.Test.YtpggffmfeahhaaaGreatDoorBbg
namespace Go.Proofs.YtpggffmfeahhaaaGreatDoor.Br
set_option linter.unusedVariables false

def exs (L : List Nat) : Nat := (L.map exJ).foldr (· + ·) 0
def costs (D : List (It × Bool)) : Nat := (D.map fun t => t.1.cost).foldr (· + ·) 0
theorem costs_cons (t : It × Bool) (D : List (It × Bool)) : costs (t :: D) = t.1.cost + costs D := rfl
theorem exs_erase : ∀ {L : List Nat} {j : Nat}, j ∈ L → exs (L.erase j) + exJ j = exs L
  | [], j, h => by cases h
  | a :: L, j, h => by
    by_cases hj : a = j
    · subst hj
      rw [List.erase_cons_head]
      show exs L + exJ a = exJ a + exs L
      omega
    · have hm : j ∈ L := by
        rcases List.mem_cons.1 h with h | h
        · exact absurd h.symm hj
        · exact h
      rw [List.erase_cons_tail (by simpa using hj)]
      have := exs_erase hm
      show exJ a + exs (L.erase j) + exJ j = exJ a + exs L
      omega
theorem use_of {p : Int} {j : Nat} (hp : p ∈ clsL j) (hu : useB (Fo.least p) = true) : Fo.least p ∈ LEc j := by
  unfold LEc
  exact List.mem_filter.2 ⟨List.mem_map.2 ⟨p, hp, rfl⟩, hu⟩
/-- left ends by what they cost. -/
theorem gather (Nm : List Nat) : ∀ (D : List (It × Bool)), (∀ t ∈ D, t.1.ok) → (∀ t ∈ D, ∀ j neg c, t.1 = .cls j neg c → j ∈ Nm) → ∃ (X : List Int) (R : List Nat), (∀ t ∈ D, ∀ p ∈ t.1.lefts, useB (Fo.least p) = true → Fo.least p ∈ X) ∧ (∀ j ∈ Nm, j ∉ R → ∀ x ∈ LEc j, x ∈ X) ∧ X.length + exs R ≤ costs D + exs Nm
  | [], _, _ => ⟨[], Nm, by simp, fun j h1 h2 => absurd h1 h2, by simp [costs]⟩
  | t :: D, hok, hnm => by
    obtain ⟨X, R, h1, h2, h3⟩ := gather Nm D (fun t ht => hok t (by simp [ht])) (fun t ht => hnm t (by simp [ht]))
    obtain ⟨d, b⟩ := t
    have hd := hok (d, b) (by simp)
    cases d with
    | rng p q =>
      refine ⟨Fo.least p :: X, R, ?_, fun j a b x hx => by simp [h2 j a b x hx], ?_⟩
      · intro t ht x hx hu
        rcases List.mem_cons.1 ht with rfl | ht
        · simp only [It.lefts, List.mem_singleton] at hx
          subst hx
          simp
        · simp [h1 t ht x hx hu]
      · rw [costs_cons]
        simp only [It.cost, List.length_cons]
        omega
    | cls j neg c =>
      have hj := hnm (.cls j neg c, b) (by simp) j neg c rfl
      by_cases hr : j ∈ R
      · refine ⟨LEc j ++ X, R.erase j, ?_, ?_, ?_⟩
        · intro t ht x hx hu
          rcases List.mem_cons.1 ht with rfl | ht
          · exact List.mem_append.2 (.inl (use_of hx hu))
          · exact List.mem_append.2 (.inr (h1 t ht x hx hu))
        · intro k hk hkr x hx
          by_cases hkj : k = j
          · subst hkj; exact List.mem_append.2 (.inl hx)
          · exact List.mem_append.2 (.inr (h2 k hk (fun h => hkr ((List.mem_erase_of_ne hkj).2 h)) x hx))
        · have e1 := exs_erase hr
          have e2 := List.all_eq_true.1 le_all j (List.mem_range.2 hd.1)
          simp only [decide_eq_true_eq] at e2
          have e3 := hd.2
          rw [costs_cons, List.length_append]
          simp only [It.cost]
          omega
      · refine ⟨X, R, ?_, h2, ?_⟩
        · intro t ht x hx hu
          rcases List.mem_cons.1 ht with rfl | ht
          · exact h2 j hj hr _ (use_of hx hu)
          · exact h1 t ht x hx hu
        · rw [costs_cons]
          omega
theorem apart_two {E : List Int} (h : Apart E) {x y : Int} (hx : x ∈ E) (hy : y ∈ E) (hxy : x < y) : x + 2 ≤ y := by
  induction E with
  | nil => cases hx
  | cons a E ih =>
    obtain ⟨h1, h2⟩ := List.pairwise_cons.1 h
    rcases List.mem_cons.1 hx with ha | hx2
    · rcases List.mem_cons.1 hy with hb | hy2
      · omega
      · have := h1 y hy2; omega
    · rcases List.mem_cons.1 hy with hb | hy2
      · have := h1 x hx2; omega
      · exact ih h2 hx2 hy2
theorem split_len (E : List Int) (p : Int → Bool) : E.length = (E.filter p).length + (E.filter fun x => !p x).length := by
  have := List.length_eq_countP_add_countP p (l := E)
  rw [List.countP_eq_length_filter, List.countP_eq_length_filter] at this
  rw [this]
  congr 2
  apply List.filter_congr
  intro x _
  cases hh : p x <;> simp
theorem rel_of {e : Int} (h : Fo.least e ≠ e) : Fo.relB e = true := by
  cases hr : Fo.relB e with
  | true => rfl
  | false =>
    exfalso
    apply h
    unfold Fo.least
    rw [Fo.orb_none hr]
    rfl
/-- of two that are not in IR and not the least, with one least, there is one. -/
theorem least_inj {a b : Int} (ha : a ∉ IR) (hb : b ∉ IR) (ha2 : Fo.least a ≠ a) (hb2 : Fo.least b ≠ b) (h : Fo.least a = Fo.least b) : a = b := by
  have hab := (Fo.least_iff a b).1 h
  have h2 := List.all_eq_true.1 two_all a (Fo.mem_rels (rel_of ha2))
  unfold twoB at h2
  rw [Bool.or_eq_true] at h2
  rcases h2 with h2 | h2
  · exact absurd (by simpa using h2) ha
  · have hl : (Fo.orb a).length ≤ 2 := by simpa using h2
    have m1 := Fo.least_mem a
    have m2 := Fo.orb_self a
    generalize Fo.orb a = O at hl m1 m2 hab
    match O, hl with
    | [], _ => cases m1
    | [x], _ =>
      simp at m1 m2
      exact absurd (m1.trans m2.symm) ha2
    | [x, y], _ =>
      simp at m1 m2 hab
      rw [h] at m1
      rcases m1 with m1 | m1 <;> rcases m2 with m2 | m2 <;> rcases hab with hab | hab <;> first
        | omega
        | (exfalso; apply ha2; rw [h]; omega)
        | (exfalso; apply hb2; omega)
theorem use_least {e : Int} (h : e ∉ IR) : useB (Fo.least e) = true := by
  unfold useB
  rw [List.any_eq_true]
  refine ⟨e, ?_, by simpa using h⟩
  rw [Fo.orb_least]
  exact Fo.orb_self e

theorem count_main {D : List (It × Bool)} (hD : ∀ t ∈ D, t.1.ok) (hn : ∀ t ∈ D, ∀ j c, t.1 = .cls j true c → j = 0) (hc : costs D ≤ 299) {S : RL} (hS : IsSet (US D) S) : S.length ≤ 400 := by
  obtain ⟨E, hE⟩ : ∃ E, E = lefts S := ⟨_, rfl⟩
  have hlen : S.length = E.length := by rw [hE]; simp [lefts]
  have hap : Apart E := by rw [hE]; exact lefts_apart hS.1
  have hnd := apart_nodup hap
  have hin : ∀ e ∈ E, 0 ≤ e ∧ e ≤ 1114111 ∧ US D e = true ∧ (1 ≤ e → US D (e - 1) = false) := fun e he => left_is hS (by rw [← hE]; exact he)
  have s1 := split_len E (fun e => IR.contains e)
  have l1 : (E.filter fun e => IR.contains e).length ≤ 26 := by
    have := nodup_len (A := E.filter fun e => IR.contains e) (B := IR) (List.Pairwise.filter _ hnd) fun x hx => by
      have := (List.mem_filter.1 hx).2
      simpa using this
    simpa [IR] using this
  obtain ⟨E2, hE2⟩ : ∃ E2, E2 = E.filter fun e => !IR.contains e := ⟨_, rfl⟩
  rw [← hE2] at s1
  have m2 : ∀ e ∈ E2, e ∈ E ∧ e ∉ IR := fun e he => by
    rw [hE2] at he
    have := List.mem_filter.1 he
    exact ⟨this.1, by simpa using this.2⟩
  have a2 : Apart E2 := by rw [hE2]; exact List.Pairwise.filter _ hap
  have s2 := split_len E2 (fun e => Fo.least e == e)
  obtain ⟨A, hA⟩ : ∃ A, A = E2.filter fun e => Fo.least e == e := ⟨_, rfl⟩
  obtain ⟨B, hB⟩ : ∃ B, B = E2.filter fun e => !(Fo.least e == e) := ⟨_, rfl⟩
  rw [← hA, ← hB] at s2
  have mA : ∀ e ∈ A, e ∈ E2 ∧ Fo.least e = e := fun e he => by
    rw [hA] at he
    have := List.mem_filter.1 he
    exact ⟨this.1, by simpa using this.2⟩
  have mB : ∀ e ∈ B, e ∈ E2 ∧ Fo.least e ≠ e := fun e he => by
    rw [hB] at he
    have := List.mem_filter.1 he
    exact ⟨this.1, by simpa using this.2⟩
  have aA : Apart A := by rw [hA]; exact List.Pairwise.filter _ a2
  have aB : Apart B := by rw [hB]; exact List.Pairwise.filter _ a2
  obtain ⟨M, hM⟩ : ∃ M, M = B.map Fo.least := ⟨_, rfl⟩
  have hMl : M.length = B.length := by rw [hM]; simp
  have nM : M.Nodup := by
    rw [hM]
    refine List.pairwise_map.2 (List.Pairwise.imp_of_mem ?_ (apart_nodup aB))
    intro a b ha hb hab h
    exact hab (least_inj (m2 a (mB a ha).1).2 (m2 b (mB b hb).1).2 (mB a ha).2 (mB b hb).2 h)
  have s3 := split_len M (fun x => A.contains x)
  -- what stands for itself, or for another
  have hX : ∀ x ∈ A ++ M.filter (fun x => !A.contains x), useB x = true ∧ ∃ t ∈ D, ∃ p ∈ t.1.lefts, x = Fo.least p := by
    have key : ∀ e ∈ E2, useB (Fo.least e) = true ∧ ∃ t ∈ D, ∃ p ∈ t.1.lefts, Fo.least e = Fo.least p := fun e he => by
      obtain ⟨h1, h2⟩ := m2 e he
      obtain ⟨h3, h4, h5, h6⟩ := hin e h1
      exact ⟨use_least h2, rises hD hn h3 h4 h5 h6 h2⟩
    intro x hx
    rcases List.mem_append.1 hx with hx | hx
    · obtain ⟨h1, h2⟩ := mA x hx
      have := key x h1
      rw [h2] at this
      exact this
    · have := (List.mem_filter.1 hx).1
      rw [hM] at this
      obtain ⟨e, he, rfl⟩ := List.mem_map.1 this
      exact key e (mB e he).1
  have nX : (A ++ M.filter (fun x => !A.contains x)).Nodup := by
    refine List.nodup_append.2 ⟨apart_nodup aA, List.Pairwise.filter _ nM, ?_⟩
    intro x hx y hy h
    subst h
    have := (List.mem_filter.1 hy).2
    simp [hx] at this
  have lX : ∀ Nm : List Nat, (∀ t ∈ D, ∀ j neg c, t.1 = .cls j neg c → j ∈ Nm) → A.length + (M.filter fun x => !A.contains x).length ≤ 299 + exs Nm := fun Nm hNm => by
    obtain ⟨X, R, g1, g2, g3⟩ := gather Nm D hD hNm
    have := nodup_len nX (B := X) fun x hx => by
      obtain ⟨hu, t, ht, p, hp, rfl⟩ := hX x hx
      exact g1 t ht p hp hu
    rw [List.length_append] at this
    omega
  -- pairs
  have hpair : ∀ x ∈ M.filter (fun x => A.contains x), x ∈ A ∧ ∃ e ∈ E, e ∉ IR ∧ Fo.least e = x ∧ (UPI.any (fun r => decide (r.1 ≤ x) && decide (x ≤ r.2)) && ins (rngJ 10) (e - 1) && ins (rngJ 9) (x - 1)) = true := fun x hx => by
    obtain ⟨h1, h2⟩ := List.mem_filter.1 hx
    have hxA : x ∈ A := by simpa using h2
    rw [hM] at h1
    obtain ⟨e, he, hex⟩ := List.mem_map.1 h1
    obtain ⟨h3, h4⟩ := mB e he
    obtain ⟨h5, h6⟩ := m2 e h3
    refine ⟨hxA, e, h5, h6, hex, ?_⟩
    have hp := List.all_eq_true.1 pair_all e (Fo.mem_rels (rel_of h4))
    unfold pairB at hp
    rw [hex] at hp
    have hxE := m2 x (mA x hxA).1
    simp only [Bool.or_eq_true, beq_iff_eq, List.contains_iff_mem] at hp
    rcases hp with (((hp | hp) | hp) | hp) | hp
    · exact absurd hp h6
    · exact absurd (hex.trans hp) h4
    · exact absurd hp hxE.2
    · have := apart_two hap hxE.1 h5 (by omega)
      omega
    · exact hp
  by_cases hul : ∃ t ∈ D, ∃ j c, t.1 = .cls j false c ∧ (j = 9 ∨ j = 10)
  · have l4 : (M.filter fun x => A.contains x) = [] := by
      rw [List.eq_nil_iff_forall_not_mem]
      intro x hx
      obtain ⟨hxA, e, heE, hei, hex, hp⟩ := hpair x hx
      simp only [Bool.and_eq_true] at hp
      obtain ⟨⟨hp1, hp2⟩, hp3⟩ := hp
      obtain ⟨t, ht, j, c, htc, hj⟩ := hul
      have hxE := hin x (m2 x (mA x hxA).1).1
      have heI := hin e heE
      have hpos : ∀ y : Int, ∀ k, k < 14 → ins (rngJ k) (y - 1) = true → 1 ≤ y := fun y k hk hy => by
        obtain ⟨r, hr, h1, h2⟩ := (ins_iff _ _).1 hy
        have hok : okR r := (okB_iff r).1 (List.all_eq_true.1 (List.all_eq_true.1 rng_ok_all k (List.mem_range.2 hk)) r hr)
        unfold okR at hok
        omega
      have hin2 : ∀ y : Int, 0 ≤ y → y ≤ 1114111 → ins (rngJ j) y = true → US D y = true := fun y h0 h1 hy => by
        unfold US
        rw [List.any_eq_true]
        refine ⟨t, ht, fP_of h0 h1 ?_⟩
        rw [htc]
        simpa [It.set] using hy
      rcases hj with rfl | rfl
      · have h1 := hpos x 9 (by omega) hp3
        have := hxE.2.2.2 h1
        rw [hin2 _ (by omega) (by omega) hp3] at this
        cases this
      · have h1 := hpos e 10 (by omega) hp2
        have := heI.2.2.2 h1
        rw [hin2 _ (by omega) (by omega) hp2] at this
        cases this
    have l5 := lX (List.range 14) (fun t ht j neg c h => by
      have := hD t ht
      rw [h] at this
      exact List.mem_range.2 this.1)
    have : exs (List.range 14) = 39 := by decide
    rw [l4] at s3
    simp only [List.length_nil] at s3
    omega
  · have l4 : (M.filter fun x => A.contains x).length ≤ 63 := by
      have h1 : (A.filter fun x => UPI.any fun r => decide (r.1 ≤ x) && decide (x ≤ r.2)).length ≤ room UPI := apart_room (List.Pairwise.filter _ aA) fun x hx => by
        have := (List.mem_filter.1 hx).2
        obtain ⟨r, hr, h⟩ := List.any_eq_true.1 this
        exact ⟨r, hr, by simpa using h⟩
      have h2 := nodup_len (A := M.filter fun x => A.contains x) (B := A.filter fun x => UPI.any fun r => decide (r.1 ≤ x) && decide (x ≤ r.2)) (List.Pairwise.filter _ nM) fun x hx => by
        obtain ⟨hxA, e, _, _, _, hp⟩ := hpair x hx
        simp only [Bool.and_eq_true] at hp
        exact List.mem_filter.2 ⟨hxA, hp.1.1⟩
      rw [room_up] at h1
      omega
    have l5 := lX [0, 1, 2, 3, 4, 5, 6, 7, 8, 11, 12, 13] (fun t ht j neg c h => by
      have hok := hD t ht
      rw [h] at hok
      have hj := hok.1
      cases neg with
      | true => have := hn t ht j c h; subst this; simp
      | false =>
        have h9 : j ≠ 9 := fun e => hul ⟨t, ht, j, c, h, .inl e⟩
        have h10 : j ≠ 10 := fun e => hul ⟨t, ht, j, c, h, .inr e⟩
        simp only [List.mem_cons, List.not_mem_nil, or_false]
        omega)
    have : exs [0, 1, 2, 3, 4, 5, 6, 7, 8, 11, 12, 13] = 9 := by decide
    omega
theorem count_neg {D : List (It × Bool)} {t : It × Bool} (ht : t ∈ D) {j c : Nat} (hj : j < 14) (h0 : j ≠ 0) (htc : t.1 = .cls j true c) {S : RL} (hS : IsSet (US D) S) : S.length ≤ 400 := by
  obtain ⟨E, hE⟩ : ∃ E, E = lefts S := ⟨_, rfl⟩
  have hlen : S.length = E.length := by rw [hE]; simp [lefts]
  have hap : Apart E := by rw [hE]; exact lefts_apart hS.1
  have s1 := split_len E (fun e => decide (1 ≤ e))
  have l1 : (E.filter fun e => !decide (1 ≤ e)).length ≤ 1 := by
    have := nodup_len (A := E.filter fun e => !decide (1 ≤ e)) (B := [0]) (List.Pairwise.filter _ (apart_nodup hap)) fun x hx => by
      obtain ⟨h1, h2⟩ := List.mem_filter.1 hx
      have := left_is hS (by rw [← hE]; exact h1)
      simp at h2 ⊢
      omega
    simpa using this
  have l2 : ((E.filter fun e => decide (1 ≤ e)).map fun e => e - 1).length ≤ room (rngJ j) := by
    refine apart_room ?_ ?_
    · refine List.pairwise_map.2 (List.Pairwise.imp ?_ (List.Pairwise.filter _ hap))
      intro a b h
      omega
    · intro x hx
      obtain ⟨e, he, rfl⟩ := List.mem_map.1 hx
      obtain ⟨h1, h2⟩ := List.mem_filter.1 he
      have h2 : 1 ≤ e := by simpa using h2
      obtain ⟨h3, h4, h5, h6⟩ := left_is hS (by rw [← hE]; exact h1)
      have h7 := h6 h2
      unfold US at h7
      rw [List.any_eq_false] at h7
      have h8 := h7 t ht
      cases hh : ins (rngJ j) (e - 1) with
      | true => exact (ins_iff _ _).1 hh
      | false =>
        exfalso
        apply h8
        refine fP_of (by omega) (by omega) ?_
        rw [htc]
        simp [It.set, hh]
  rw [List.length_map] at l2
  have l3 := List.all_eq_true.1 room_all j (List.mem_range.2 hj)
  simp only [Bool.or_eq_true, decide_eq_true_eq] at l3
  omega
/-- the count. -/
theorem count_all {D : List (It × Bool)} (hD : ∀ t ∈ D, t.1.ok) (hc : costs D ≤ 299) : manyB (US D) = false := by
  refine few fun S hS => ?_
  by_cases h : ∃ t ∈ D, ∃ j c, t.1 = .cls j true c ∧ j ≠ 0
  · obtain ⟨t, ht, j, c, htc, hj⟩ := h
    have := hD t ht
    rw [htc] at this
    exact count_neg ht this.1 hj htc hS
  · exact count_main hD (fun t ht j c htc => by
      by_cases hj : j = 0
      · exact hj
      · exact absurd ⟨t, ht, j, c, htc, hj⟩ h) hc hS
end Go.Proofs.YtpggffmfeahhaaaGreatDoor.Br
/- An expression without '^' and '&', folded, against itself unfolded. No program. -/
namespace Go.Proofs.YtpggffmfeahhaaaGreatDoor.Br
set_option linter.unusedVariables false
set_option maxRecDepth 100000
variable {l : List Int} {i : Nat} {d : Int}

/-- what a '\\' begins has two points at least, and ends in the pattern; a class by one costs two. -/
theorem esc_len {x : Wd} {k : Nat} (h92 : isAt l i [92] = true) (h : wordOf (TK.nextT 1 l i) = .ok (x, k)) : k ≤ l.length ∧ i + 2 ≤ k ∧ (∀ s no, x = .cls s no → ∃ j, j < 14 ∧ s = names.getD j Fo.nm_any ∧ mcJ j ≤ 2) := by
  rw [isAt_says, TK.says_one] at h92
  have h92 : l[i]? = some 92 := by simpa using h92
  cases hn : TK.nextT 1 l i with
  | error z => rw [hn] at h; cases h
  | ok y =>
    obtain ⟨t, k'⟩ := y
    rw [hn] at h
    have hkk : k' = k := by
      simp only [wordOf] at h
      split at h
      · cases h; rfl
      · split at h
        · cases h; rfl
        · cases h
    subst hkk
    have hkind : t.kind = 1 ∨ t.kind = 4 := by
      simp only [wordOf] at h
      split at h
      · left; assumption
      · split at h
        · right; assumption
        · cases h
    have hcls : ∀ s no, x = .cls s no → t.kind = 4 ∧ t.text = s := by
      intro s no e
      subst e
      simp only [wordOf] at h
      split at h
      · cases h
      · split at h
        · cases h; exact ⟨by assumption, rfl⟩
        · cases h
    clear h
    unfold TK.nextT at hn
    rw [h92] at hn
    simp only [TK.tokT, if_true] at hn
    unfold TK.escT at hn
    cases hp : l[i + 1]? with
    | none => rw [hp] at hn; cases hn
    | some p =>
      rw [hp] at hn
      have hlt : i + 1 < l.length := (List.getElem?_eq_some_iff.1 hp).1
      simp only [if_true] at hn
      unfold TK.rubyT at hn
      split at hn
      · rename_i c hc
        simp only [Except.ok.injEq, Prod.mk.injEq] at hn
        obtain ⟨rfl, rfl⟩ := hn
        refine ⟨by omega, by omega, fun s no e => ?_⟩
        obtain ⟨_, rfl⟩ := hcls s no e
        unfold TK.clsT at hc
        simp only [TK.classT]
        repeat' split at hc
        all_goals first
          | (cases hc; done)
          | (simp only [Option.some.injEq] at hc; subst hc; first
              | exact ⟨3, by decide, rfl, by decide⟩
              | exact ⟨12, by decide, rfl, by decide⟩
              | exact ⟨6, by decide, rfl, by decide⟩
              | exact ⟨4, by decide, rfl, by decide⟩)
      · have nocls : ∀ (hk1 : t.kind = 1), ∀ s no, x = .cls s no → ∃ j, j < 14 ∧ s = names.getD j Fo.nm_any ∧ mcJ j ≤ 2 := fun hk1 s no e => by
          have := (hcls s no e).1
          omega
        split at hn
        · simp only [Except.ok.injEq, Prod.mk.injEq] at hn; rw [← hn.1] at hkind; simp [TK.lookT] at hkind
        split at hn
        · simp only [Except.ok.injEq, Prod.mk.injEq] at hn; rw [← hn.1] at hkind; simp [TK.lookT] at hkind
        split at hn
        · simp only [Except.ok.injEq, Prod.mk.injEq] at hn; rw [← hn.1] at hkind; simp [TK.lookT] at hkind
        split at hn
        · simp only [Except.ok.injEq, Prod.mk.injEq] at hn; rw [← hn.1] at hkind; simp [TK.lookT] at hkind
        split at hn
        · unfold TK.hexT at hn
          simp only at hn
          split at hn
          · split at hn
            · cases hn
            · simp only [Except.ok.injEq, Prod.mk.injEq] at hn
              obtain ⟨n, c, e1, e2⟩ := TK.digs_spec 16 2 l (i + 1 + 1) (by omega) (Or.inr rfl)
              rw [e1] at hn
              have := e2.k2
              obtain ⟨rfl, rfl⟩ := hn
              exact ⟨by simp only; omega, by omega, nocls rfl⟩
          · split at hn
            · cases hn
            · split at hn
              · cases hn
              · split at hn
                · cases hn
                · rename_i h1 h2 h3 h4
                  simp only [Except.ok.injEq, Prod.mk.injEq] at hn
                  have h3' := TK.says_len (s := [125]) (by simpa using h3) (by simp)
                  obtain ⟨rfl, rfl⟩ := hn
                  simp only [List.length_singleton] at h3'
                  exact ⟨by omega, by omega, nocls rfl⟩
        split at hn
        · unfold TK.uniT at hn
          simp only at hn
          split at hn
          · cases hn
          · simp only [Except.ok.injEq, Prod.mk.injEq] at hn
            obtain ⟨n, c, e1, e2⟩ := TK.digs_spec 16 4 l (i + 1 + 1) (by omega) (Or.inr rfl)
            rw [e1] at hn
            have := e2.k2
            obtain ⟨rfl, rfl⟩ := hn
            exact ⟨by simp only; omega, by omega, nocls rfl⟩
        split at hn
        · unfold TK.agbT at hn
          simp only at hn
          repeat' split at hn
          all_goals first | cases hn; done | (simp only [Except.ok.injEq, Prod.mk.injEq] at hn; rw [← hn.1] at hkind; simp [TK.againT] at hkind)
        split at hn
        · unfold TK.agdT at hn
          simp only at hn
          split at hn <;> (simp only [Except.ok.injEq, Prod.mk.injEq] at hn; rw [← hn.1] at hkind; simp [TK.againT] at hkind)
        · split at hn
          · simp only [Except.ok.injEq, Prod.mk.injEq] at hn
            obtain ⟨rfl, rfl⟩ := hn
            exact ⟨by omega, by omega, nocls rfl⟩
          · cases hn
/-- on points. -/
abbrev OnP (f g : PS) : Prop := ∀ q, 0 ≤ q → q ≤ 1114111 → f q = g q
theorem fld_congr {f g : PS} (h : OnP f g) : OnP (fldB f) (fldB g) := fun q h0 h1 => by
  rw [Bool.eq_iff_iff, fld_iff f h0 h1, fld_iff g h0 h1, h q h0 h1]
  constructor
  · rintro (a | ⟨p, p0, p1, a, b⟩)
    · exact .inl a
    · exact .inr ⟨p, p0, p1, by rw [← h p p0 p1]; exact a, b⟩
  · rintro (a | ⟨p, p0, p1, a, b⟩)
    · exact .inl a
    · exact .inr ⟨p, p0, p1, by rw [h p p0 p1]; exact a, b⟩
theorem fld_or (f g : PS) : OnP (fldB fun x => f x || g x) (fun q => fldB f q || fldB g q) := fun q h0 h1 => by
  show fldB (fun x => f x || g x) q = (fldB f q || fldB g q)
  rw [Bool.eq_iff_iff, fld_iff _ h0 h1]
  constructor
  · intro h
    apply (Bool.or_eq_true _ _).mpr
    rcases h with a | ⟨p, p0, p1, a, b⟩
    · rcases (Bool.or_eq_true _ _).mp a with a | a
      · exact .inl ((fld_iff f h0 h1).2 (.inl a))
      · exact .inr ((fld_iff g h0 h1).2 (.inl a))
    · rcases (Bool.or_eq_true _ _).mp a with a | a
      · exact .inl ((fld_iff f h0 h1).2 (.inr ⟨p, p0, p1, a, b⟩))
      · exact .inr ((fld_iff g h0 h1).2 (.inr ⟨p, p0, p1, a, b⟩))
  · intro h
    rcases (Bool.or_eq_true _ _).mp h with h | h
    · rcases (fld_iff f h0 h1).1 h with a | ⟨p, p0, p1, a, b⟩
      · exact .inl ((Bool.or_eq_true _ _).mpr (.inl a))
      · exact .inr ⟨p, p0, p1, (Bool.or_eq_true _ _).mpr (.inl a), b⟩
    · rcases (fld_iff g h0 h1).1 h with a | ⟨p, p0, p1, a, b⟩
      · exact .inl ((Bool.or_eq_true _ _).mpr (.inr a))
      · exact .inr ⟨p, p0, p1, (Bool.or_eq_true _ _).mpr (.inr a), b⟩
theorem fld_twice (f : PS) : OnP (fldB (fldB f)) (fldB f) := fun q h0 h1 => by
  rw [Bool.eq_iff_iff, fld_iff (fldB f) h0 h1]
  constructor
  · rintro (a | ⟨p, p0, p1, a, b, c⟩)
    · exact a
    · rcases (fld_iff f p0 p1).1 a with a | ⟨r, r0, r1, a, b2, c2⟩
      · exact (fld_iff f h0 h1).2 (.inr ⟨p, p0, p1, a, b, c⟩)
      · exact (fld_iff f h0 h1).2 (.inr ⟨r, r0, r1, a, b2, by rw [← Fo.orb_same r p c2]; exact c⟩)
  · exact .inl
theorem fld_none (q : Int) (h0 : 0 ≤ q) (h1 : q ≤ 1114111) : fldB (fun _ => false) q = false := by
  cases hh : fldB (fun _ => false) q with
  | false => rfl
  | true =>
    rcases (fld_iff _ h0 h1).1 hh with a | ⟨p, _, _, a, _⟩
    · cases a
    · cases a
theorem US_cons (t : It × Bool) (D : List (It × Bool)) (q : Int) : US (t :: D) q = (fP t.2 t.1.set q || US D q) := rfl
theorem US_append (D D' : List (It × Bool)) (q : Int) : US (D ++ D') q = (US D q || US D' q) := by simp [US]
def allT (D : List (It × Bool)) : List (It × Bool) := D.map fun t => (t.1, true)
theorem costs_allT (D : List (It × Bool)) : costs (allT D) = costs D := by
  induction D with
  | nil => rfl
  | cons t D ih => show t.1.cost + costs (allT D) = t.1.cost + costs D; rw [ih]
theorem costs_append (D D' : List (It × Bool)) : costs (D ++ D') = costs D + costs D' := by
  induction D with
  | nil => simp [costs]
  | cons t D ih =>
    show t.1.cost + costs (D ++ D') = t.1.cost + costs D + costs D'
    rw [ih]
    omega
theorem fld_US : ∀ D : List (It × Bool), OnP (fldB (US D)) (US (allT D))
  | [] => fun q h0 h1 => fld_none q h0 h1
  | t :: D => fun q h0 h1 => by
    have e1 : fldB (US (t :: D)) q = (fldB (fP t.2 t.1.set) q || fldB (US D) q) := fld_or (fP t.2 t.1.set) (US D) q h0 h1
    have e2 : US (allT (t :: D)) q = (fldB t.1.set q || US (allT D) q) := rfl
    rw [e1, e2, fld_US D q h0 h1]
    congr 1
    cases t.2
    · rfl
    · exact fld_twice t.1.set q h0 h1
/-- of an item, or of items: what it is unfolded, and folded. -/
def ItemR (i k : Nat) (f f' : PS) : Prop := ∃ D, (∀ t ∈ D, It.ok t.1) ∧ costs D + i ≤ k ∧ OnP f' (US D) ∧ OnP (fldB f') (fldB f)
theorem item_raw {t : It} {k : Nat} {f : PS} (ht : t.ok) (hc : t.cost + i ≤ k) (hf : OnP f t.set) : ItemR i k f f :=
  ⟨[(t, false)], by simpa using ht, by simpa [costs] using hc, fun q h0 h1 => by rw [hf q h0 h1]; simp [US, fP], fun q _ _ => rfl⟩
theorem item_join {j k : Nat} {f f' g g' : PS} (h : ItemR i j f f') (h' : ItemR j k g g') : ItemR i k (fun x => f x || g x) (fun x => f' x || g' x) := by
  obtain ⟨D, a1, a2, a3, a4⟩ := h
  obtain ⟨D', b1, b2, b3, b4⟩ := h'
  refine ⟨D ++ D', fun t ht => ?_, by rw [costs_append]; omega, fun q h0 h1 => by rw [US_append, ← a3 q h0 h1, ← b3 q h0 h1], fun q h0 h1 => ?_⟩
  · rcases List.mem_append.1 ht with ht | ht
    · exact a1 t ht
    · exact b1 t ht
  · rw [fld_or f' g' q h0 h1, fld_or f g q h0 h1]
    show (fldB f' q || fldB g' q) = (fldB f q || fldB g q)
    rw [a4 q h0 h1, b4 q h0 h1]
theorem item_none (i : Nat) : ItemR i i (fun _ => false) (fun _ => false) := ⟨[], by simp, by simp [costs], fun q _ _ => rfl, fun q _ _ => rfl⟩
theorem item_fold {k : Nat} {f f' : PS} (h : ItemR i k f f') (hk : k ≤ i + 299) : foldE (par d true) f' = .ok (fldB f') ∧ ItemR i k f (fldB f') := by
  obtain ⟨D, a1, a2, a3, a4⟩ := h
  have m1 : manyB f' = false := by rw [many_congr a3]; exact count_all a1 (by omega)
  have e : OnP (fldB f') (US (allT D)) := fun q h0 h1 => by rw [fld_congr a3 q h0 h1]; exact fld_US D q h0 h1
  have ok2 : ∀ t ∈ allT D, t.1.ok := fun t ht => by
    obtain ⟨s, hs, rfl⟩ := List.mem_map.1 ht
    exact a1 s hs
  have m2 : manyB (fldB f') = false := by rw [many_congr e]; exact count_all ok2 (by rw [costs_allT]; omega)
  refine ⟨?_, allT D, ok2, by rw [costs_allT]; exact a2, e, fun q h0 h1 => by rw [fld_twice f' q h0 h1]; exact a4 q h0 h1⟩
  unfold foldE
  exact if_neg (by rw [show ((par d true).many f' || (par d true).many ((par d true).fld f')) = (manyB f' || manyB (fldB f')) from rfl, m1, m2]; simp)
/-- both give up alike, or both go on alike. -/
def RelR (i : Nat) (R R' : Except BE (PS × Nat)) : Prop := (∃ z, R = .error z ∧ R' = .error z) ∨ ∃ f f' k, R = .ok (f, k) ∧ R' = .ok (f', k) ∧ i < k ∧ k ≤ l.length ∧ ItemR i k f f'
end Go.Proofs.YtpggffmfeahhaaaGreatDoor.Br
