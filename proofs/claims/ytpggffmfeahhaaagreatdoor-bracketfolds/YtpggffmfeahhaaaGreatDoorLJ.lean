/- Left ends of sets: how many ranges a set has. No program. -/
import Derived.Test.YtpggffmfeahhaaaGreatDoorKW
namespace Go.Proofs.YtpggffmfeahhaaaGreatDoor.Br
set_option linter.unusedVariables false

/-- a list that has each member once, of members of another one, is no longer. -/
theorem nodup_len : ∀ {A B : List Int}, A.Nodup → (∀ x ∈ A, x ∈ B) → A.length ≤ B.length
  | [], B, _, _ => by simp
  | a :: A, B, hn, hs => by
    have ha := hs a (by simp)
    have h1 := nodup_len (A := A) (B := B.erase a) (List.nodup_cons.1 hn).2 fun x hx => by
      refine (List.mem_erase_of_ne ?_).2 (hs x (by simp [hx]))
      intro e
      exact (List.nodup_cons.1 hn).1 (e ▸ hx)
    have h2 := List.length_erase_of_mem ha
    have h3 := List.length_pos_of_mem ha
    simp only [List.length_cons]
    omega
/-- two apart at least, and rising. -/
abbrev Apart (E : List Int) : Prop := E.Pairwise fun a b => a + 2 ≤ b
theorem apart_nodup {E : List Int} (h : Apart E) : E.Nodup := List.Pairwise.imp (fun h => by omega) h
theorem apart_in : ∀ {E : List Int} {a b : Int}, Apart E → (∀ x ∈ E, a ≤ x ∧ x ≤ b) → 2 * (E.length : Int) ≤ max 0 (b - a + 2)
  | [], a, b, _, _ => by simp; omega
  | x :: E, a, b, h, hr => by
    obtain ⟨h1, h2⟩ := List.pairwise_cons.1 h
    have hx := hr x (by simp)
    have := apart_in (a := x + 2) (b := b) h2 fun y hy => ⟨h1 y hy, (hr y (by simp [hy])).2⟩
    simp only [List.length_cons]
    omega
/-- how many two apart fit into ranges. -/
def roomR (r : Int × Int) : Nat := ((r.2 - r.1) / 2 + 1).toNat
def room (L : List (Int × Int)) : Nat := (L.map roomR).foldr (· + ·) 0
theorem apart_room : ∀ {L : List (Int × Int)} {E : List Int}, Apart E → (∀ x ∈ E, ∃ r ∈ L, r.1 ≤ x ∧ x ≤ r.2) → E.length ≤ room L
  | [], E, _, h => by
    cases E with
    | nil => simp
    | cons x E => obtain ⟨r, hr, _⟩ := h x (by simp); cases hr
  | r :: L, E, ha, h => by
    have e1 : E.length = (E.filter fun x => decide (r.1 ≤ x) && decide (x ≤ r.2)).length + (E.filter fun x => !(decide (r.1 ≤ x) && decide (x ≤ r.2))).length := by
      have := List.length_eq_countP_add_countP (fun x => decide (r.1 ≤ x) && decide (x ≤ r.2)) (l := E)
      rw [List.countP_eq_length_filter, List.countP_eq_length_filter] at this
      rw [this]
      congr 2
      apply List.filter_congr
      intro x _
      cases hh : (decide (r.1 ≤ x) && decide (x ≤ r.2)) <;> simp
    have h1 := apart_in (E := E.filter fun x => decide (r.1 ≤ x) && decide (x ≤ r.2)) (a := r.1) (b := r.2) (List.Pairwise.filter _ ha) fun x hx => by
      have := (List.mem_filter.1 hx).2
      simpa using this
    have h2 := apart_room (L := L) (E := E.filter fun x => !(decide (r.1 ≤ x) && decide (x ≤ r.2))) (List.Pairwise.filter _ ha) fun x hx => by
      obtain ⟨hx1, hx2⟩ := List.mem_filter.1 hx
      obtain ⟨s, hs, hs2⟩ := h x hx1
      rcases List.mem_cons.1 hs with rfl | hs
      · exfalso
        simp [hs2.1, hs2.2] at hx2
      · exact ⟨s, hs, hs2⟩
    have h3 : room (r :: L) = roomR r + room L := rfl
    unfold roomR at h3
    omega
/-- the left ends of a set. -/
def lefts (S : RL) : List Int := S.map Prod.fst
theorem canon_left : ∀ {S : RL}, Canon S → ∀ r ∈ S, ins S (r.1 - 1) = false
  | [], _, r, hr => by cases hr
  | s :: S, h, r, hr => by
    obtain ⟨h1, h2, h3⟩ := canon_cons.1 h
    unfold okR at h1
    rw [ins_cons]
    rcases List.mem_cons.1 hr with rfl | hr
    · rw [Bool.or_eq_false_iff]
      refine ⟨by simp; omega, ?_⟩
      rw [ins_false]
      intro x hx
      have := h2 x hx
      omega
    · rw [Bool.or_eq_false_iff]
      refine ⟨?_, canon_left h3 r hr⟩
      have := h2 r hr
      simp
      omega
theorem lefts_apart : ∀ {S : RL}, Canon S → Apart (lefts S)
  | [], _ => List.Pairwise.nil
  | s :: S, h => by
    obtain ⟨h1, h2, h3⟩ := canon_cons.1 h
    unfold okR at h1
    refine List.pairwise_cons.2 ⟨fun x hx => ?_, lefts_apart h3⟩
    obtain ⟨r, hr, rfl⟩ := List.mem_map.1 hx
    have := h2 r hr
    show s.1 + 2 ≤ r.1
    omega
/-- a left end is in the set; what is ahead of it is not. -/
theorem left_is {f : PS} {S : RL} (h : IsSet f S) {e : Int} (he : e ∈ lefts S) : 0 ≤ e ∧ e ≤ 1114111 ∧ f e = true ∧ (1 ≤ e → f (e - 1) = false) := by
  obtain ⟨r, hr, rfl⟩ := List.mem_map.1 he
  have hok := h.1.1 r hr
  unfold okR at hok
  have h1 := h.2 r.1
  rw [(ins_iff _ _).2 ⟨r, hr, Int.le_refl _, hok.2.1⟩] at h1
  have h2 := h.2 (r.1 - 1)
  rw [canon_left h.1 r hr] at h2
  refine ⟨hok.1, by omega, ?_, fun h0 => ?_⟩
  · simp at h1; exact h1.2.symm ▸ rfl
  · simp at h2
    have := h2 (by omega) (by omega)
    exact this
/-- any set of points has its ranges. -/
theorem ex_upto (f : PS) : ∀ n : Nat, n ≤ 1114112 → ∃ O, Upto f O (n : Int)
  | 0, _ => ⟨[], upto_zero f⟩
  | n + 1, h => by
    obtain ⟨O, hO⟩ := ex_upto f n (by omega)
    cases hf : f n with
    | true => exact ⟨_, by have := upto_yes hO (by omega) (Int.le_refl _) (by omega) (fun q h1 h2 => by rw [show q = (n : Int) by omega]; exact hf); simpa using this⟩
    | false => exact ⟨O, by have := upto_no hO (Int.le_refl (n : Int)) (fun q h1 h2 => by rw [show q = (n : Int) by omega]; exact hf); simpa using this⟩
theorem ex_set (f : PS) : ∃ S, IsSet f S := by
  obtain ⟨O, hO⟩ := ex_upto f 1114112 (Nat.le_refl _)
  exact ⟨O, upto_all hO rfl⟩
theorem few {f : PS} (h : ∀ S, IsSet f S → S.length ≤ 400) : manyB f = false := by
  obtain ⟨S, hS⟩ := ex_set f
  rw [many_of hS]
  have := h S hS
  simp
  omega
/-- the points of a folded set. -/
theorem fld_iff (f : PS) {q : Int} (h0 : 0 ≤ q) (h1 : q ≤ 1114111) : fldB f q = true ↔ f q = true ∨ ∃ p, 0 ≤ p ∧ p ≤ 1114111 ∧ f p = true ∧ ins Fo.ps_alpha p = true ∧ q ∈ Fo.orb p := by
  obtain ⟨S, hS⟩ := ex_set f
  rw [fld_of hS]
  unfold foldF
  rw [Bool.or_eq_true, ins_of_set hS h0 h1, List.any_eq_true]
  constructor
  · rintro (h | ⟨p, hp, hq⟩)
    · exact .inl h
    · obtain ⟨p0, p1⟩ := pts_ok hS.1 p hp
      rw [mem_pts, ins_of_set hS p0 p1] at hp
      simp only [Bool.and_eq_true, decide_eq_true_eq] at hq
      exact .inr ⟨p, p0, p1, hp, hq.1, hq.2⟩
  · rintro (h | ⟨p, p0, p1, hp, ha, hq⟩)
    · exact .inl h
    · refine .inr ⟨p, ?_, ?_⟩
      · rw [mem_pts, ins_of_set hS p0 p1]; exact hp
      · simp [ha, hq]
end Go.Proofs.YtpggffmfeahhaaaGreatDoor.Br
/- How many ranges a set has that an expression without '^' and '&' tells, folded or not. No program. -/
namespace Go.Proofs.YtpggffmfeahhaaaGreatDoor.Br
set_option linter.unusedVariables false

/-- a class by its place among the names. -/
def rngJ (j : Nat) : RL := rngOf (names.getD j Fo.nm_any)
/-- what an item is: a range, or a class (or all but it), with what it costs. -/
inductive It where
  | rng (p q : Int)
  | cls (j : Nat) (neg : Bool) (c : Nat)
def It.set : It → PS
  | .rng p q => fun x => decide (p ≤ x) && decide (x ≤ q)
  | .cls j neg _ => fun x => if neg then !ins (rngJ j) x else ins (rngJ j) x
def It.cost : It → Nat
  | .rng _ _ => 1
  | .cls _ _ c => c
/-- what a class costs at least, what it brings besides. -/
def mcJ (j : Nat) : Nat := [7, 9, 9, 2, 2, 9, 2, 9, 9, 9, 9, 9, 2, 9].getD j 0
def exJ (j : Nat) : Nat := [0, 0, 0, 0, 0, 0, 5, 1, 0, 15, 15, 0, 3, 0].getD j 0
def It.ok : It → Prop
  | .rng p q => 0 ≤ p ∧ p ≤ q ∧ q ≤ 1114111
  | .cls j neg c => j < 14 ∧ mcJ j ≤ c
/-- letters ahead of which the order of partners breaks off. -/
def IR : List Int := [65, 97, 192, 224, 216, 248, 913, 945, 931, 963, 1024, 1104, 1040, 1072, 181, 924, 956, 962, 8490, 75, 107, 8491, 197, 229, 7838, 223]
def regB (e : Int) : Bool := IR.contains e || (Fo.orb e).all fun p => p == e || p - 1 == e || p == e - 1 || ((Fo.orb (p - 1)).contains (e - 1) && ins Fo.ps_alpha (p - 1) && decide (1 ≤ p))
theorem reg_all : Fo.rels.all regB = true := by decide +kernel
def twoB (e : Int) : Bool := IR.contains e || decide ((Fo.orb e).length ≤ 2)
theorem two_all : Fo.rels.all twoB = true := by decide +kernel
def UPI : List (Int × Int) := [(66, 74), (76, 90), (193, 196), (198, 214), (217, 222), (914, 923), (925, 929), (932, 939), (1025, 1039), (1041, 1071)]
def pairB (e : Int) : Bool := IR.contains e || Fo.least e == e || IR.contains (Fo.least e) || e == Fo.least e + 1 || (UPI.any (fun r => decide (r.1 ≤ Fo.least e) && decide (Fo.least e ≤ r.2)) && ins (rngJ 10) (e - 1) && ins (rngJ 9) (Fo.least e - 1))
theorem pair_all : Fo.rels.all pairB = true := by decide +kernel
theorem room_up : room UPI = 63 := by decide +kernel
/-- the left ends of a class. -/
def clsL (j : Nat) : List Int := ((rngJ j).map Prod.fst).filter fun p => !ins (rngJ j) (p - 1)
def useB (x : Int) : Bool := (Fo.orb x).any fun e => !IR.contains e
def LEc (j : Nat) : List Int := ((clsL j).map Fo.least).filter useB
theorem le_all : ((List.range 14).all fun j => decide ((LEc j).length ≤ mcJ j + exJ j)) = true := by decide +kernel
theorem room_all : ((List.range 14).all fun j => decide (j = 0) || decide (room (rngJ j) ≤ 399)) = true := by decide +kernel
theorem rng_ok_all : ((List.range 14).all fun j => (rngJ j).all okB) = true := by decide +kernel
theorem any_all {q : Int} (h0 : 0 ≤ q) (h1 : q ≤ 1114111) : ins (rngJ 0) q = true := by
  rw [ins_iff]
  exact ⟨(0, 1114111), by decide +kernel, h0, h1⟩
def It.lefts : It → List Int
  | .rng p _ => [p]
  | .cls j _ _ => clsL j
/-- items, each as it is or folded, together. -/
noncomputable def fP (b : Bool) (f : PS) : PS := if b then fldB f else f
noncomputable def US (D : List (It × Bool)) : PS := fun q => D.any fun t => fP t.2 t.1.set q
theorem fP_of {b : Bool} {f : PS} {q : Int} (h0 : 0 ≤ q) (h1 : q ≤ 1114111) (h : f q = true) : fP b f q = true := by
  unfold fP
  cases b
  · exact h
  · exact (fld_iff f h0 h1).2 (.inl h)
theorem It.left {t : It} (ht : t.ok) (hn : ∀ j c, t = .cls j true c → j = 0) {p : Int} (h0 : 0 ≤ p) (h1 : p ≤ 1114111) (hp : t.set p = true) (hm : 1 ≤ p → t.set (p - 1) = false) : p ∈ t.lefts := by
  cases t with
  | rng a b =>
    simp only [It.ok] at ht
    simp only [It.set, Bool.and_eq_true, decide_eq_true_eq] at hp hm
    simp only [It.lefts, List.mem_singleton]
    by_cases h : 1 ≤ p
    · have := hm h
      simp at this
      omega
    · omega
  | cls j neg c =>
    cases neg with
    | true =>
      have hj := hn j c rfl
      subst hj
      exfalso
      simp only [It.set, if_true] at hp
      rw [any_all h0 h1] at hp
      cases hp
    | false =>
      simp only [It.set, Bool.false_eq_true, if_false] at hp hm
      obtain ⟨r, hr, ha, hb⟩ := (ins_iff _ _).1 hp
      have hj := ht.1
      have hok : okR r := (okB_iff r).1 (List.all_eq_true.1 (List.all_eq_true.1 rng_ok_all j (List.mem_range.2 hj)) r hr)
      unfold okR at hok
      have hrp : r.1 = p := by
        by_cases h : 1 ≤ p
        · have h2 := hm h
          rw [ins_false] at h2
          have := h2 r hr
          omega
        · omega
      simp only [It.lefts, clsL, List.mem_filter, List.mem_map]
      refine ⟨⟨r, hr, hrp⟩, ?_⟩
      by_cases h : 1 ≤ p
      · rw [hm h]; rfl
      · have : ins (rngJ j) (p - 1) = false := by
          rw [ins_false]
          intro x hx hh
          have hok2 : okR x := (okB_iff x).1 (List.all_eq_true.1 (List.all_eq_true.1 rng_ok_all j (List.mem_range.2 hj)) x hx)
          unfold okR at hok2
          omega
        rw [this]; rfl
theorem orb_sym {p q : Int} (h : q ∈ Fo.orb p) : p ∈ Fo.orb q := by rw [Fo.orb_same p q h]; exact Fo.orb_self p
/-- what rises comes from a left end of an item. -/
theorem rises {D : List (It × Bool)} (hD : ∀ t ∈ D, t.1.ok) (hn : ∀ t ∈ D, ∀ j c, t.1 = .cls j true c → j = 0) {e : Int} (h0 : 0 ≤ e) (h1 : e ≤ 1114111) (he : US D e = true) (hm : 1 ≤ e → US D (e - 1) = false) (hir : e ∉ IR) : ∃ t ∈ D, ∃ p ∈ t.1.lefts, Fo.least e = Fo.least p := by
  obtain ⟨t, ht, hf⟩ := List.any_eq_true.1 he
  have hm' : 1 ≤ e → fP t.2 t.1.set (e - 1) = false := fun h => by
    have := hm h
    unfold US at this
    rw [List.any_eq_false] at this
    simpa using this t ht
  have hms : 1 ≤ e → t.1.set (e - 1) = false := fun h => by
    cases hh : t.1.set (e - 1) with
    | false => rfl
    | true => have := hm' h; rw [fP_of (by omega) (by omega) hh] at this; cases this
  cases hs : t.1.set e with
  | true => exact ⟨t, ht, e, It.left (hD t ht) (hn t ht) h0 h1 hs hms, rfl⟩
  | false =>
    cases hb : t.2 with
    | false =>
      rw [hb] at hf
      simp only [fP, Bool.false_eq_true, if_false] at hf
      rw [hs] at hf
      cases hf
    | true =>
      rw [hb] at hf hm'
      simp only [fP, if_true] at hf hm'
      rcases (fld_iff _ h0 h1).1 hf with h | ⟨p, p0, p1, hp, ha, hq⟩
      · rw [hs] at h; cases h
      · have hpe : p ≠ e := fun h => by rw [h, hs] at hp; cases hp
        have hpo := orb_sym hq
        have hrel : Fo.relB e = true := by
          cases hr : Fo.relB e with
          | true => rfl
          | false =>
            rw [Fo.orb_none hr] at hpo
            simp at hpo
            exact absurd hpo hpe
        have hreg := List.all_eq_true.1 reg_all e (Fo.mem_rels hrel)
        unfold regB at hreg
        rw [Bool.or_eq_true] at hreg
        rcases hreg with hreg | hreg
        · exact absurd (by simpa using hreg) hir
        · have h3 := List.all_eq_true.1 hreg p hpo
          have hleft : t.1.set (p - 1) = false → ∃ t ∈ D, ∃ p ∈ t.1.lefts, Fo.least e = Fo.least p := fun hh =>
            ⟨t, ht, p, It.left (hD t ht) (hn t ht) p0 p1 hp (fun _ => hh), ((Fo.least_iff p e).2 hq).symm⟩
          simp only [Bool.or_eq_true, beq_iff_eq, Bool.and_eq_true, decide_eq_true_eq, List.contains_iff_mem] at h3
          rcases h3 with ((h3 | h3) | h3) | ⟨⟨h3, h4⟩, h5⟩
          · exact absurd h3 hpe
          · exact hleft (by rw [h3]; exact hs)
          · exfalso
            have := hm' (by omega)
            rw [(fld_iff _ (by omega) (by omega)).2 (.inl (by rw [← h3]; exact hp))] at this
            cases this
          · refine hleft ?_
            cases hh : t.1.set (p - 1) with
            | false => rfl
            | true =>
              exfalso
              have he1 : 1 ≤ e := by
                have := Fo.rel_range hrel
                have h6 : e ∈ Fo.rels := Fo.mem_rels hrel
                by_cases h7 : 1 ≤ e
                · exact h7
                · have : e = 0 := by omega
                  subst this
                  exact absurd hrel (by decide)
              have := hm' he1
              rw [(fld_iff _ (by omega) (by omega)).2 (.inr ⟨p - 1, by omega, by omega, hh, h4, h3⟩)] at this
              cases this
end Go.Proofs.YtpggffmfeahhaaaGreatDoor.Br
