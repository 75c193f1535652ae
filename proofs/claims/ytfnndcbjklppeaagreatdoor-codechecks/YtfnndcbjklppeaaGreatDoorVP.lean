import Derived.Test.YtfnndcbjklppeaaGreatDoorUY
import Derived.Test.YtfnndcbjklppeaaGreatDoorUQ
import Derived.Test.YtfnndcbjklppeaaGreatDoorMwid
import Derived.Test.YtfnndcbjklppeaaGreatDoorVO
set_option linter.unusedVariables false
set_option maxHeartbeats 4000000
set_option maxRecDepth 100000
namespace Go.Proofs.YtfnndcbjklppeaaGreatDoor.Mk
open Go.RowKit
def emb (o : PO) : OpV × RL := (⟨o.dn, none, o.set.length, 0, o.to, o.other, o.kind, o.least, o.fold, o.back⟩, o.set)
structure Pok (g : Int) (s : MS) : Prop where
 lab : ∀ l ∈ s.lab, l ≤ s.ops.length
 ops : ∀ o ∈ s.ops, opE s.lab.length g s.cnt (emb o) = 0
variable {g : Int} {s s' : MS} {f : MS → MS}
theorem hasB_mono {r g z : Int} {n n' c c' : Nat} (hn : n ≤ n') (hc : c ≤ c') (h : hasB r n g c z = true) : hasB r n' g c' z = true := by
 unfold hasB at h ⊢
 split
 ·rename_i h1; rw [if_pos h1] at h; simp at h ⊢; omega
 ·rename_i h1; rw [if_neg h1] at h
  split
  ·rename_i h2; rw [if_pos h2] at h; exact h
  ·rename_i h2; rw [if_neg h2] at h
   split
   ·rename_i h3; rw [if_pos h3] at h; simp at h ⊢; omega
   ·rfl
theorem opE_ok {n : Nat} {g c : Int} {x : OpV × RL} (h : opE n g c x = 0) : ∃ f, fvOf x.1.dn = some f ∧ formB f x.1 = true ∧ checkE x.2 = 0 ∧ rangeB f n g c x.1 = true := by
 unfold opE at h
 cases hf : fvOf x.1.dn with
 | none => rw [hf] at h; simp at h
 | some f =>
  rw [hf] at h
  simp only [] at h
  split at h
  ·exact absurd h (by decide)
  ·rename_i h1
   split at h
   ·rename_i h2; exact absurd h h2
   ·rename_i h2
    split at h
    ·rename_i h3; exact ⟨f, rfl, by simpa using h1, by simpa using h2, h3⟩
    ·exact absurd h (by decide)
theorem opE_of {n : Nat} {g c : Int} {x : OpV × RL} {f : FV} (h1 : fvOf x.1.dn = some f) (h2 : formB f x.1 = true) (h3 : checkE x.2 = 0) (h4 : rangeB f n g c x.1 = true) : opE n g c x = 0 := by
 unfold opE
 rw [h1]
 simp [h2, h3, h4]
theorem opE_mono {n n' c c' : Nat} {g : Int} {x : OpV × RL} (hn : n ≤ n') (hc : c ≤ c') (h : opE n g c x = 0) : opE n' g c' x = 0 := by
 obtain ⟨f, h1, h2, h3, h4⟩ := opE_ok h
 refine opE_of h1 h2 h3 ?_
 unfold rangeB at h4 ⊢
 simp only [Bool.and_eq_true] at h4 ⊢
 exact ⟨hasB_mono hn hc h4.1, hasB_mono hn hc h4.2.1, h4.2.2⟩
theorem Pok.add (h : Pok g s) {o : PO} (ho : opE s.lab.length g s.cnt (emb o) = 0) : Pok g (s.add o) :=
 ⟨fun l hl => by have := h.lab l hl; simp [MS.add]; omega, fun p hp => by
  rcases List.mem_append.1 hp with hp | hp
  ·exact h.ops p hp
  ·rw [List.mem_singleton.1 hp]; exact ho⟩
theorem Pok.newC (h : Pok g s) : Pok g s.newC := ⟨h.lab, fun o ho => opE_mono (Nat.le_refl _) (Nat.le_succ _) (h.ops o ho)⟩
theorem Pok.newL (h : Pok g s) : Pok g s.newL :=
 ⟨fun l hl => by
  rcases List.mem_append.1 hl with hl | hl
  ·exact h.lab l hl
  ·rw [List.mem_singleton.1 hl]; exact Nat.zero_le _, fun o ho => opE_mono (by simp [MS.newL]) (Nat.le_refl _) (h.ops o ho)⟩
theorem Pok.stand (h : Pok g s) (l : Nat) : Pok g (s.stand l) :=
 ⟨fun x hx => by
  rcases List.mem_or_eq_of_mem_set hx with hx | hx
  ·exact h.lab x hx
  ·rw [hx]; exact Nat.le_refl _, fun o ho => opE_mono (by simp [MS.stand]) (Nat.le_refl _) (h.ops o ho)⟩
section ops
variable {n : Nat} {c : Nat}
theorem op_set {set : RL} (h : checkE set = 0) : opE n g c (emb { dn := 1, set := set }) = 0 := opE_of (f := ⟨0, 0, true, false, false, false, false⟩) rfl (by simp [formB, emb]) h (by simp [rangeB, hasB, emb])
theorem chk0 : checkE [] = 0 := rfl
theorem op_jump {t : Nat} (h : t < n) : opE n g c (emb { dn := 2, to := t }) = 0 := opE_of (f := ⟨1, 0, false, false, false, false, false⟩) rfl (by simp [formB, emb]) chk0 (by simp [rangeB, hasB, emb]; repeat' (first | exact decide_eq_true (by omega) | omega | refine ⟨?_, ?_⟩))
theorem op_split {t o : Nat} (h : t < n) (h' : o < n) : opE n g c (emb { dn := 3, to := t, other := o }) = 0 := opE_of (f := ⟨1, 1, false, false, false, false, false⟩) rfl (by simp [formB, emb]) chk0 (by simp [rangeB, hasB, emb]; repeat' (first | exact decide_eq_true (by omega) | omega | refine ⟨?_, ?_⟩))
theorem op_save {t : Int} {o : Nat} (h : 1 ≤ t ∧ t ≤ g) (h' : o < c) : opE n g c (emb { dn := 4, to := t, other := o }) = 0 := opE_of (f := ⟨2, 3, false, false, false, false, false⟩) rfl (by simp [formB, emb]) chk0 (by simp [rangeB, hasB, emb]; repeat' (first | exact decide_eq_true (by omega) | omega | refine ⟨?_, ?_⟩))
theorem op_look {k : Int} (h : 3 ≤ k ∧ k ≤ 8) : opE n g c (emb { dn := 5, kind := k }) = 0 := opE_of (f := ⟨0, 0, false, true, false, false, false⟩) rfl (by simp [formB, emb]) chk0 (by simp [rangeB, hasB, emb]; repeat' (first | exact decide_eq_true (by omega) | omega | refine ⟨?_, ?_⟩))
theorem op_again {t : Int} {b : Bool} (h : 1 ≤ t ∧ t ≤ g) : opE n g c (emb { dn := 6, to := t, fold := b }) = 0 := opE_of (f := ⟨2, 0, false, false, false, true, false⟩) rfl (by simp [formB, emb]) chk0 (by simp [rangeB, hasB, emb]; repeat' (first | exact decide_eq_true (by omega) | omega | refine ⟨?_, ?_⟩))
theorem op_mark {t : Nat} (h : t < c) : opE n g c (emb { dn := 7, to := t }) = 0 := opE_of (f := ⟨3, 0, false, false, false, false, false⟩) rfl (by simp [formB, emb]) chk0 (by simp [rangeB, hasB, emb]; repeat' (first | exact decide_eq_true (by omega) | omega | refine ⟨?_, ?_⟩))
theorem op_cut {t : Nat} {b : Bool} (h : t < c) : opE n g c (emb { dn := 8, to := t, back := b }) = 0 := opE_of (f := ⟨3, 0, false, false, false, false, true⟩) rfl (by simp [formB, emb]) chk0 (by simp [rangeB, hasB, emb]; repeat' (first | exact decide_eq_true (by omega) | omega | refine ⟨?_, ?_⟩))
theorem op_count {t : Nat} {l : Int} (h : t < c) (hl : 0 ≤ l ∧ l ≤ 1000) : opE n g c (emb { dn := 9, to := t, least := l }) = 0 := opE_of (f := ⟨3, 0, false, false, true, false, false⟩) rfl (by simp [formB, emb]) chk0 (by simp [rangeB, hasB, emb]; repeat' (first | exact decide_eq_true (by omega) | omega | refine ⟨?_, ?_⟩))
theorem op_more {t o : Nat} {l : Int} (h : t < c) (ho : o < n) (hl : 0 ≤ l ∧ l ≤ 1000) : opE n g c (emb { dn := 10, to := t, least := l, other := o }) = 0 := opE_of (f := ⟨3, 1, false, false, true, false, false⟩) rfl (by simp [formB, emb]) chk0 (by simp [rangeB, hasB, emb]; repeat' (first | exact decide_eq_true (by omega) | omega | refine ⟨?_, ?_⟩))
theorem op_under {t o : Nat} {l : Int} (h : t < c) (ho : o < n) (hl : 0 ≤ l ∧ l ≤ 1000) : opE n g c (emb { dn := 11, to := t, least := l, other := o }) = 0 := opE_of (f := ⟨3, 1, false, false, true, false, false⟩) rfl (by simp [formB, emb]) chk0 (by simp [rangeB, hasB, emb]; repeat' (first | exact decide_eq_true (by omega) | omega | refine ⟨?_, ?_⟩))
theorem op_moved {t o : Nat} (h : t < c) (ho : o < n) : opE n g c (emb { dn := 12, to := t, other := o }) = 0 := opE_of (f := ⟨3, 1, false, false, false, false, false⟩) rfl (by simp [formB, emb]) chk0 (by simp [rangeB, hasB, emb]; repeat' (first | exact decide_eq_true (by omega) | omega | refine ⟨?_, ?_⟩))
theorem op_back {t : Nat} (h : t < c) : opE n g c (emb { dn := 13, to := t }) = 0 := opE_of (f := ⟨3, 0, false, false, false, false, false⟩) rfl (by simp [formB, emb]) chk0 (by simp [rangeB, hasB, emb]; repeat' (first | exact decide_eq_true (by omega) | omega | refine ⟨?_, ?_⟩))
theorem op_fail : opE n g c (emb { dn := 14 }) = 0 := opE_of (f := ⟨0, 0, false, false, false, false, false⟩) rfl (by simp [formB, emb]) chk0 (by simp [rangeB, hasB, emb])
theorem op_match : opE n g c (emb { dn := 15 }) = 0 := opE_of (f := ⟨0, 0, false, false, false, false, false⟩) rfl (by simp [formB, emb]) chk0 (by simp [rangeB, hasB, emb])
end ops
@[simp] theorem add_lab (s : MS) (o : PO) : (s.add o).lab = s.lab := rfl
@[simp] theorem add_cnt (s : MS) (o : PO) : (s.add o).cnt = s.cnt := rfl
@[simp] theorem newC_lab (s : MS) : s.newC.lab = s.lab := rfl
@[simp] theorem newC_cnt (s : MS) : s.newC.cnt = s.cnt + 1 := rfl
@[simp] theorem newL_lab (s : MS) : s.newL.lab.length = s.lab.length + 1 := by simp [MS.newL]
@[simp] theorem newL_cnt (s : MS) : s.newL.cnt = s.cnt := rfl
@[simp] theorem stand_lab (s : MS) (l : Nat) : (s.stand l).lab.length = s.lab.length := by simp [MS.stand]
@[simp] theorem stand_cnt (s : MS) (l : Nat) : (s.stand l).cnt = s.cnt := rfl
def Keeps (g : Int) (f : MS → MS) : Prop := ∀ s : MS, Pok g s → Pok g (f s)
theorem first_ok (b : Bool) (hu : Up f) (hf : Keeps g f) : Keeps g (firstM b f) := fun s h => by
 unfold firstM
 have h1 : Pok g (s.newC.add { dn := 7, to := s.cnt }) := h.newC.add (op_mark (by simp))
 have u := hu (s.newC.add { dn := 7, to := s.cnt })
 have := u.cnt
 simp only [add_cnt, newC_cnt] at this
 exact (hf _ h1).add (op_cut (by omega))
theorem none_ok (hu : Up f) (hf : Keeps g f) : Keeps g (noneM f) := fun s h => by
 unfold noneM
 have h1 := (((h.newC.newL.newL.add (o := { dn := 7, to := s.cnt }) (op_mark (by simp))).add (o := { dn := 3, to := s.lab.length, other := (s.lab.length + 1 : Nat) }) (op_split (by simp; omega) (by simp))).stand s.lab.length)
 have u := (hu (((s.newC.newL.newL.add { dn := 7, to := s.cnt }).add { dn := 3, to := s.lab.length, other := (s.lab.length + 1 : Nat) }).stand s.lab.length)).cnt
 simp only [stand_cnt, add_cnt, newL_cnt, newC_cnt] at u
 exact (((hf _ h1).add (op_cut (by omega))).add op_fail).stand _
theorem behind_ok {a b : Int} (ha : 0 ≤ a ∧ a ≤ 1000) (hb : 0 ≤ b ∧ b < 1000) (hu : Up f) (hf : Keeps g f) : Keeps g (behindM a b f) := fun s h => by
 unfold behindM
 simp only []
 have h1 := ((((((h.newC.newL.newL.newL.newL.add (o := { dn := 7, to := s.cnt }) (op_mark (by simp))).add (o := { dn := 9, to := s.cnt, least := a }) (op_count (by simp) ha)).stand s.lab.length).add (o := { dn := 13, to := s.cnt }) (op_back (by simp))).add (o := { dn := 3, to := (s.lab.length + 1 : Nat), other := (s.lab.length + 2 : Nat) }) (op_split (by simp) (by simp))).stand (s.lab.length + 1))
 have u := hu ((((((s.newC.newL.newL.newL.newL.add { dn := 7, to := s.cnt }).add { dn := 9, to := s.cnt, least := a }).stand s.lab.length).add { dn := 13, to := s.cnt }).add { dn := 3, to := (s.lab.length + 1 : Nat), other := (s.lab.length + 2 : Nat) }).stand (s.lab.length + 1))
 have u1 := u.cnt
 have u2 := u.lab
 simp only [stand_lab, stand_cnt, add_lab, add_cnt, newL_lab, newL_cnt, newC_lab, newC_cnt] at u1 u2
 exact (((((((hf _ h1).add (op_moved (by omega) (by omega))).add op_fail).stand _).add (op_more (by simp only [stand_cnt, add_cnt]; omega) (by simp only [stand_lab, add_lab]; omega) (by omega))).add op_fail).stand _)
theorem choice_ok (r : RV) {i e : Nat} (hl : 0 ≤ r.least ∧ r.least ≤ 1000) {s : MS} (hi : i < s.lab.length) (he : e < s.lab.length) (hd : 0 < r.least → r.done < s.cnt) (h : Pok g s) : Pok g (choiceM r i e s) := by
 unfold choiceM
 simp only []
 have h1 : Pok g (if 0 < r.least then s.add { dn := 11, to := r.done, least := r.least, other := i } else s) ∧ (if 0 < r.least then s.add { dn := 11, to := r.done, least := r.least, other := i } else s).lab = s.lab := by
  split
  ·rename_i h0; exact ⟨h.add (op_under (hd h0) hi hl), rfl⟩
  ·exact ⟨h, rfl⟩
 generalize (if 0 < r.least then s.add { dn := 11, to := r.done, least := r.least, other := i } else s) = s1 at h1 ⊢
 obtain ⟨h1, hlab⟩ := h1
 rw [← hlab] at hi he
 by_cases hw : r.way = 2
 ·rw [if_pos hw]; split
  ·exact ((h1.add (op_split he hi)).stand _).add op_fail
  ·exact h1.add (op_split he hi)
 ·rw [if_neg hw]; split
  ·exact ((h1.add (op_split hi he)).stand _).add op_fail
  ·exact h1.add (op_split hi he)
theorem round_ok (r : RV) (hl : 0 ≤ r.least ∧ r.least ≤ 1000) (hu : Up f) (hf : Keeps g f) {s : MS} (hfl : r.fail < s.lab.length) (hd : r.watched = true → r.done < s.cnt) (h : Pok g s) : Pok g (roundM r f s) := by
 unfold roundM
 split
 ·rename_i hw
  have hd := hd hw
  simp only []
  have h1 := h.newL.add (o := { dn := 7, to := r.done }) (op_mark (by simp; exact hd))
  have u := hu (s.newL.add { dn := 7, to := r.done })
  have u1 := u.cnt
  have u2 := u.lab
  simp only [add_lab, add_cnt, newL_lab, newL_cnt] at u1 u2
  have h2 := hf _ h1
  split
  ·exact ((h2.add (op_under (by omega) (by omega) hl)).add (op_moved (by simp; omega) (by simp; omega))).stand _
  ·exact (h2.add (op_moved (by omega) (by omega))).stand _
 ·exact hf s h
theorem all_ok (r : RV) (hl : 0 ≤ r.least ∧ r.least ≤ 1000) (hm : r.most ≤ 1000) (hu : Up f) (hf : Keeps g f) (hc : 0 < r.least → r.counted = true) {s : MS} (hfl : r.fail < s.lab.length) (hd : r.counted = true ∨ r.watched = true → r.done < s.cnt) (h : Pok g s) : Pok g (allM r f s) := by
 unfold allM
 simp only []
 have h1 : Pok g ((if r.counted then s.newL.newL.newL.add { dn := 9, to := r.done } else s.newL.newL.newL).stand s.lab.length) ∧ ((if r.counted then s.newL.newL.newL.add { dn := 9, to := r.done } else s.newL.newL.newL).stand s.lab.length).lab.length = s.lab.length + 3 ∧ ((if r.counted then s.newL.newL.newL.add { dn := 9, to := r.done } else s.newL.newL.newL).stand s.lab.length).cnt = s.cnt := by
  split
  ·rename_i h0
   exact ⟨(h.newL.newL.newL.add (op_count (by simp; exact hd (.inl h0)) (by omega))).stand _, by simp, rfl⟩
  ·exact ⟨h.newL.newL.newL.stand _, by simp, rfl⟩
 generalize ((if r.counted then s.newL.newL.newL.add { dn := 9, to := r.done } else s.newL.newL.newL).stand s.lab.length) = s2 at h1 ⊢
 obtain ⟨h1, l2, c2⟩ := h1
 have h2 : Pok g ((if r.least = r.most then s2 else choiceM r (s.lab.length + 1) (s.lab.length + 2) s2).stand (s.lab.length + 1)) ∧ s2.le ((if r.least = r.most then s2 else choiceM r (s.lab.length + 1) (s.lab.length + 2) s2).stand (s.lab.length + 1)) := by
  split
  ·exact ⟨h1.stand _, le_stand _ _⟩
  ·exact ⟨(choice_ok r hl (by omega) (by omega) (fun h0 => by rw [c2]; exact hd (.inl (hc h0))) h1).stand _, (choice_up r _ _ _).trans (le_stand _ _)⟩
 generalize ((if r.least = r.most then s2 else choiceM r (s.lab.length + 1) (s.lab.length + 2) s2).stand (s.lab.length + 1)) = s3 at h2 ⊢
 obtain ⟨h2, u2⟩ := h2
 have hc3 := u2.cnt
 have hl3 := u2.lab
 have u3 := round_up r hu s3
 have h3 := round_ok r hl hu hf (s := s3) (by omega) (fun hw => by have := hd (.inr hw); omega) h2
 generalize roundM r f s3 = s4 at h3 u3 ⊢
 have hc4 := u3.cnt
 have hl4 := u3.lab
 by_cases hcc : r.counted = true
 ·have hdd := hd (.inl hcc)
  have h4 := h3.add (o := { dn := 10, to := r.done, least := if 0 < r.most then r.most else 0, other := s.lab.length }) (op_more (by omega) (by omega) (by split <;> omega))
  simp only [hcc, if_true]
  split
  ·exact (h4.add (op_jump (by simp; omega))).stand _
  ·exact h4.stand _
 ·simp only [hcc]
  split
  ·exact (h3.add (op_jump (by omega))).stand _
  ·exact h3.stand _
theorem rounds_ok {i j : Int} (k l : Int) (hl : 0 ≤ i ∧ i ≤ 1000) (hm : j ≤ 1000) (hu : Up f) (hf : Keeps g f) : Keeps g (roundsM i j k l f) := fun s h => by
 unfold roundsM
 simp only []
 split
 ·exact all_ok _ hl hm hu hf (fun h0 => by simp only []; rw [decide_eq_true h0]; rfl) (s := s.newL.newC) (by simp) (fun _ => by simp) h.newL.newC
 ·rename_i hn
  refine all_ok _ hl hm hu hf (fun h0 => by simp only []; rw [decide_eq_true h0]; rfl) (s := s.newL) (by simp) (fun h0 => ?_) h.newL
  exfalso
  apply hn
  rcases h0 with h0 | h0 <;> simp only [] at h0 <;> rw [h0] <;> simp
theorem rep_ok {i j : Int} (k l : Int) (hl : 0 ≤ i ∧ i ≤ 1000) (hm : j ≤ 1000) (hu : Up f) (hf : Keeps g f) : Keeps g (repM i j k l f) := fun s h => by
 unfold repM
 split
 ·exact h
 ·split
  ·exact first_ok _ (rounds_up _ _ _ _ hu) (rounds_ok k l hl hm hu hf) s h
  ·exact rounds_ok k l hl hm hu hf s h
theorem split_ok {e : Nat} (hu : Up f) (hf : Keeps g f) {s : MS} (he : e < s.lab.length) (h : Pok g s) : Pok g (splitM e f s) := by
 unfold splitM
 simp only []
 have h1 := (h.newL.newL.add (o := { dn := 3, to := s.lab.length, other := (s.lab.length + 1 : Nat) }) (op_split (by simp; omega) (by simp))).stand s.lab.length
 have u := (hu ((s.newL.newL.add { dn := 3, to := s.lab.length, other := (s.lab.length + 1 : Nat) }).stand s.lab.length)).lab
 simp only [stand_lab, add_lab, newL_lab] at u
 exact ((hf _ h1).add (op_jump (by omega))).stand _
def LM (f : FT) : Prop := 0 ≤ f.least ∧ (0 ≤ f.most → f.least ≤ f.most)
theorem addF_lm {a b : FT} (ha : LM a) (hb : LM b) : LM (addF a b) := by
 unfold LM at *
 simp only [addF, leastF, addM, mostF]
 refine ⟨?_, ?_⟩
 ·split <;> omega
 ·repeat' split
  all_goals omega
theorem orF_lm {a b : FT} (ha : LM a) (hb : LM b) : LM (orF a b) := by
 unfold LM at *
 simp only [orF, maxM]
 refine ⟨?_, ?_⟩
 ·split <;> omega
 ·repeat' split
  all_goals omega
theorem repF_lm {f : FT} {l m : Int} (hf : LM f) (hl : 0 ≤ l) (hm : m = -1 ∨ l ≤ m) : LM (repF f l m) := by
 obtain ⟨f0, f1⟩ := hf
 have h0 : 0 ≤ f.least * l := Int.mul_nonneg f0 hl
 unfold LM
 simp only [repF, leastF, timM, mostF]
 refine ⟨?_, ?_⟩
 ·split <;> omega
 ·by_cases hz : f.most = 0 ∨ m = 0
  ·rw [if_pos hz]
   intro _
   have : f.least * l = 0 := by
    rcases hz with hz | hz
    ·have : f.least = 0 := by have := f1 (by omega); omega
     rw [this, Int.zero_mul]
    ·have : l = 0 := by omega
     rw [this, Int.mul_zero]
   rw [this]
   split <;> omega
  ·rw [if_neg hz]
   by_cases hn : f.most < 0 ∨ m < 0
   ·rw [if_pos hn]; intro h; omega
   ·rw [if_neg hn]
    have h1 : f.least * l ≤ f.most * m := Int.mul_le_mul (f1 (by omega)) (by omega) hl (by omega)
    repeat' split
    all_goals omega
theorem foldl_lm {op : FT → FT → FT} (hop : ∀ a b, LM a → LM b → LM (op a b)) : ∀ (l : List FT) (a : FT), LM a → (∀ f ∈ l, LM f) → LM (l.foldl op a)
 | [], a, h, _ => h
 | x :: l, a, h, hl => foldl_lm hop l (op a x) (hop a x h (hl x (List.mem_cons_self ..))) fun f hf => hl f (List.mem_cons_of_mem _ hf)
theorem lm0 (b : Bool) : LM ⟨0, 0, b⟩ := ⟨Int.le_refl _, fun _ => Int.le_refl _⟩
theorem foldF_lm {op : FT → FT → FT} (hop : ∀ a b, LM a → LM b → LM (op a b)) (l : List FT) (hl : ∀ f ∈ l, LM f) : LM (foldF op l) := by
 match l, hl with
 | [], _ => exact lm0 _
 | f :: fs, hl => exact foldl_lm hop fs f (hl f (List.mem_cons_self ..)) fun x hx => hl x (List.mem_cons_of_mem _ hx)
theorem headF_lm (l : List FT) (hl : ∀ f ∈ l, LM f) : LM (headF l) := by
 match l, hl with
 | [], _ => exact lm0 _
 | f :: fs, hl => exact hl f (List.mem_cons_self ..)
theorem repE_in {t : Tr} (h : repE t = 0) : (0 ≤ t.least ∧ t.least ≤ 100) ∧ (t.most = -1 ∨ t.least ≤ t.most ∧ t.most ≤ 100) := by
 unfold repE at h
 split at h
 ·exact absurd h (by decide)
 ·rename_i h3
  split at h
  ·exact absurd h (by decide)
  ·rename_i h4
   omega
theorem nodeS_in {t : Tr} {s s' : St} (h : nodeS t s = .ok s') : checkE t.set = 0 ∧ (t.kind = 11 → t.num = s'.1 ∧ s'.1 = s.1 + 1) ∧ (t.kind = 18 → t.num ∈ s'.2) ∧ ∀ a ∈ s.2, a ∈ s'.2 := by
 unfold nodeS at h
 split at h
 ·cases h
 ·split at h
  ·cases h
  ·split at h
   ·cases h
   ·rename_i hc
    refine ⟨by simpa using hc, ?_⟩
    split at h
    ·rename_i k12
     split at h
     ·cases h; exact ⟨fun e => by omega, fun e => by omega, fun _ h => h⟩
     ·cases h
    ·split at h
     ·split at h
      ·rename_i hn; cases h; exact ⟨fun _ => ⟨hn, rfl⟩, fun e => by omega, fun _ h => h⟩
      ·cases h
     ·rename_i k11
      split at h
      ·cases h; exact ⟨fun e => absurd e k11, fun _ => List.mem_append_right _ (List.mem_singleton.2 rfl), fun _ h => List.mem_append_left _ h⟩
      ·rename_i k18
       cases h; exact ⟨fun e => absurd e k11, fun e => absurd e k18, fun _ h => h⟩
theorem behB_in {t : Tr} (h : bhB t = true) (hk : t.kind = 16 ∨ t.kind = 17) : 0 ≤ most0 t.kids ∧ most0 t.kids ≤ 100 := by
 unfold bhB at h
 have e : (decide (t.kind = 16) || decide (t.kind = 17)) = true := by rcases hk with h | h <;> simp [h]
 rw [e] at h
 simpa using h
mutual
theorem factT_lm : ∀ t : Tr, good t → LM (factT t)
 | .mk k num least most way fold set kids, hg => by
  have hn := good_node hg
  have hl := factL_lm kids (fun j hj => good_kids hg j hj)
  rw [factT]
  unfold factK
  by_cases h1 : k = 1
  ·rw [if_pos h1]; exact lm0 _
  rw [if_neg h1]
  by_cases h2 : k = 2
  ·rw [if_pos h2]; exact ⟨by decide, fun _ => by decide⟩
  rw [if_neg h2]
  by_cases h9 : k = 9
  ·rw [if_pos h9]; exact foldF_lm (fun _ _ => addF_lm) _ hl
  rw [if_neg h9]
  by_cases h10 : k = 10
  ·rw [if_pos h10]; exact foldF_lm (fun _ _ => orF_lm) _ hl
  rw [if_neg h10]
  by_cases h11 : k = 11 ∨ k = 13
  ·rw [if_pos h11]; exact headF_lm _ hl
  rw [if_neg h11]
  by_cases h12 : k = 12
  ·rw [if_pos h12]
   have hr := repE_in (hn.2.2 h12)
   simp only [Tr.least, Tr.most] at hr
   exact repF_lm (headF_lm _ hl) (by omega) (by omega)
  rw [if_neg h12]
  by_cases h18 : k = 18
  ·rw [if_pos h18]; exact ⟨by decide, fun h => absurd h (by decide)⟩
  rw [if_neg h18]
  exact lm0 _
theorem factL_lm : ∀ ts : List Tr, (∀ j (hj : j < ts.length), good ts[j]) → ∀ f ∈ factL ts, LM f
 | [], _ => fun f hf => by rw [factL] at hf; cases hf
 | t :: ts, h => fun f hf => by
  rw [factL] at hf
  rcases List.mem_cons.1 hf with rfl | hf
  ·exact factT_lm t (h 0 (by simp))
  ·exact factL_lm ts (fun j hj => by have := h (j + 1) (by simp; omega); simpa using this) f hf
end
mutual
theorem chkT_sub : ∀ (t : Tr) (s s' : St), chkT t s = .ok s' → ∀ a ∈ s.2, a ∈ s'.2
 | .mk k a b c d e f kids, s, s', h => by
  rw [chkT_kids] at h
  cases hn : nodeS (.mk k a b c d e f kids) s with
  | error z => rw [hn] at h; cases h
  | ok s1 =>
   rw [hn] at h
   intro x hx
   exact chkL_sub kids s1 s' h x ((nodeS_in hn).2.2.2 x hx)
theorem chkL_sub : ∀ (ts : List Tr) (s s' : St), chkL ts s = .ok s' → ∀ a ∈ s.2, a ∈ s'.2
 | [], s, s', h => by unfold chkL at h; injection h with h; rw [h]; exact fun _ h => h
 | t :: ts, s, s', h => by
  unfold chkL at h
  cases hn : chkT t s with
  | error z => rw [hn] at h; cases h
  | ok s1 => rw [hn] at h; exact fun x hx => chkL_sub ts s1 s' h x (chkT_sub t s s1 hn x hx)
end
theorem head0_eq {t : Tr} {ts : List Tr} : head0 (t :: ts) = factT t := by unfold head0; rw [factL]; rfl
variable {g : Int}
mutual
theorem mkT_ok : ∀ (t : Tr) (s0 s1 : St), chkT t s0 = .ok s1 → 0 ≤ s0.1 → s1.1 ≤ g → (∀ a ∈ s1.2, 1 ≤ a ∧ a ≤ g) → bhA t = true → Keeps g (mkT t)
 | .mk k num least most way fold set kids, s0, s1, h, h0, h1, ha, hb => fun s hs => by
  have hg : good (.mk k num least most way fold set kids) := ⟨s0, s1, h⟩
  have hgn := good_node hg
  have hgk : ∀ j (hj : j < kids.length), good kids[j] := good_kids hg
  have hkb := hgn.2.1
  rw [chkT_kids] at h
  rw [bhA_kids] at hb
  simp only [Bool.and_eq_true] at hb
  obtain ⟨hb1, hb2⟩ := hb
  have hb2 : kids.all bhA = true := hb2
  cases hn : nodeS (.mk k num least most way fold set kids) s0 with
  | error z => rw [hn] at h; cases h
  | ok sm =>
   rw [hn] at h
   have h : chkL kids sm = .ok s1 := h
   have hgr := chkL_grow kids sm s1 h
   have hsub := chkL_sub kids sm s1 h
   have hng := nodeS_grow hn
   have hin := nodeS_in hn
   have hset : checkE set = 0 := hin.1
   have hH : 11 ≤ k ∧ k ≤ 17 → Keeps g (mkH kids) ∧ ∃ t, kids = [t] := fun hr => by
    unfold kidsB at hkb
    rw [if_neg (by show ¬ k = 9; omega), if_neg (by show ¬ k = 10; omega), if_pos (by show 11 ≤ k ∧ k ≤ 17; omega)] at hkb
    have hl : kids.length = 1 := of_decide_eq_true hkb
    match kids, hl, h, hb2 with
    | [t], _, h, hb2 =>
     unfold chkL at h
     cases hc : chkT t sm with
     | error z => rw [hc] at h; cases h
     | ok s2 =>
      rw [hc] at h
      unfold chkL at h
      injection h with h
      rw [h] at hc
      exact ⟨fun s hs => by unfold mkH; exact mkT_ok t sm s1 hc (by omega) h1 ha (by simpa using hb2) s hs, t, rfl⟩
   have hbeh : k = 16 ∨ k = 17 → (0 ≤ (head0 kids).least ∧ (head0 kids).least ≤ 1000) ∧ (0 ≤ (head0 kids).most ∧ (head0 kids).most < 1000) := fun hr => by
    obtain ⟨_, t, rfl⟩ := hH (by omega)
    have hlm := factT_lm t (hgk 0 (by simp))
    have hb1 := behB_in hb1 hr
    have e : most0 [t] = (factT t).most := most0_at (ts := [t]) (by simp)
    have hb1 : 0 ≤ most0 [t] ∧ most0 [t] ≤ 100 := hb1
    rw [e] at hb1
    rw [head0_eq]
    have := hlm.2 hb1.1
    exact ⟨⟨hlm.1, by omega⟩, hb1.1, by omega⟩
   have uH := mkH_up kids
   unfold mkT
   by_cases e1 : k = 1
   ·rw [if_pos e1]; exact hs
   rw [if_neg e1]
   by_cases e2 : k = 2
   ·rw [if_pos e2]; exact hs.add (op_set hset)
   rw [if_neg e2]
   by_cases e9 : k = 9
   ·rw [if_pos e9]; exact mkL_ok kids sm s1 h (by omega) h1 ha hb2 s hs
   rw [if_neg e9]
   by_cases e10 : k = 10
   ·rw [if_pos e10]
    exact mkE_ok kids sm s1 h (by omega) h1 ha hb2 s.lab.length s.newL (by simp) hs.newL
   rw [if_neg e10]
   by_cases e11 : k = 11
   ·rw [if_pos e11]
    have hnum : num = sm.1 ∧ sm.1 = s0.1 + 1 := hin.2.1 e11
    have hk1 := hs.newC.add (o := { dn := 7, to := s.cnt }) (op_mark (by simp))
    have u := (uH (s.newC.add { dn := 7, to := s.cnt })).cnt
    simp only [add_cnt, newC_cnt] at u
    exact ((hH (by omega)).1 _ hk1).add (op_save (by omega) (by omega))
   rw [if_neg e11]
   by_cases e12 : k = 12
   ·rw [if_pos e12]
    have hr := repE_in (hgn.2.2 e12)
    simp only [Tr.least, Tr.most] at hr
    exact rep_ok _ _ (by omega) (by omega) uH (hH (by omega)).1 s hs
   rw [if_neg e12]
   by_cases e13 : k = 13
   ·rw [if_pos e13]; exact first_ok _ uH (hH (by omega)).1 s hs
   rw [if_neg e13]
   by_cases e14 : k = 14
   ·rw [if_pos e14]; exact first_ok _ uH (hH (by omega)).1 s hs
   rw [if_neg e14]
   by_cases e15 : k = 15
   ·rw [if_pos e15]; exact none_ok uH (hH (by omega)).1 s hs
   rw [if_neg e15]
   by_cases e16 : k = 16
   ·rw [if_pos e16]
    obtain ⟨b1, b2⟩ := hbeh (.inl e16)
    exact first_ok _ (behind_up _ _ uH) (behind_ok b1 b2 uH (hH (by omega)).1) s hs
   rw [if_neg e16]
   by_cases e17 : k = 17
   ·rw [if_pos e17]
    obtain ⟨b1, b2⟩ := hbeh (.inr e17)
    exact none_ok (behind_up _ _ uH) (behind_ok b1 b2 uH (hH (by omega)).1) s hs
   rw [if_neg e17]
   by_cases e18 : k = 18
   ·rw [if_pos e18]
    have hnum : num ∈ sm.2 := hin.2.2.1 e18
    exact hs.add (op_again (ha num (hsub num hnum)))
   rw [if_neg e18]
   have hkk : 1 ≤ k ∧ k ≤ 18 := hgn.1
   exact hs.add (op_look (by omega))
theorem mkL_ok : ∀ (ts : List Tr) (s0 s1 : St), chkL ts s0 = .ok s1 → 0 ≤ s0.1 → s1.1 ≤ g → (∀ a ∈ s1.2, 1 ≤ a ∧ a ≤ g) → ts.all bhA = true → Keeps g (mkL ts)
 | [], s0, s1, h, h0, h1, ha, hb => fun s hs => by rw [mkL]; exact hs
 | t :: ts, s0, s1, h, h0, h1, ha, hb => fun s hs => by
  unfold chkL at h
  simp only [List.all_cons, Bool.and_eq_true] at hb
  cases hc : chkT t s0 with
  | error z => rw [hc] at h; cases h
  | ok s2 =>
   rw [hc] at h
   have h : chkL ts s2 = .ok s1 := h
   have g1 := chkT_grow t s0 s2 hc
   have g2 := chkL_grow ts s2 s1 h
   rw [mkL]
   exact mkL_ok ts s2 s1 h (by omega) h1 ha hb.2 _ (mkT_ok t s0 s2 hc h0 (by omega) (fun a hx => ha a (chkL_sub ts s2 s1 h a hx)) hb.1 s hs)
theorem mkE_ok : ∀ (ts : List Tr) (s0 s1 : St), chkL ts s0 = .ok s1 → 0 ≤ s0.1 → s1.1 ≤ g → (∀ a ∈ s1.2, 1 ≤ a ∧ a ≤ g) → ts.all bhA = true → ∀ (e : Nat) (s : MS), e < s.lab.length → Pok g s → Pok g (mkE e ts s)
 | [], s0, s1, h, h0, h1, ha, hb => fun e s he hs => by rw [mkE]; exact hs
 | t :: ts, s0, s1, h, h0, h1, ha, hb => fun e s he hs => by
  unfold chkL at h
  simp only [List.all_cons, Bool.and_eq_true] at hb
  cases hc : chkT t s0 with
  | error z => rw [hc] at h; cases h
  | ok s2 =>
   rw [hc] at h
   have h : chkL ts s2 = .ok s1 := h
   have g1 := chkT_grow t s0 s2 hc
   have g2 := chkL_grow ts s2 s1 h
   have hk : Keeps g (mkT t) := mkT_ok t s0 s2 hc h0 (by omega) (fun a hx => ha a (chkL_sub ts s2 s1 h a hx)) hb.1
   rw [mkE]
   split
   ·exact (hk s hs).stand _
   ·have u := (split_up e (mkT_up t) s).lab
    exact mkE_ok ts s2 s1 h (by omega) h1 ha hb.2 e _ (by omega) (split_ok (mkT_up t) hk he hs)
end
theorem made_pok {t : Tr} (h : treeE t g = 0) (hb : bhA t = true) : (0 ≤ g ∧ g ≤ 20) ∧ Pok g (mkT t ⟨[], [], 0⟩) := by
 obtain ⟨s1, hc, h20, hg1, hnum⟩ : ∃ s1, chkT t (0, []) = .ok s1 ∧ s1.1 ≤ 20 ∧ s1.1 = g ∧ numsE s1.1 s1.2 = 0 := by
  unfold treeE at h
  cases hc : chkT t (0, []) with
  | error z =>
   rw [hc] at h
   exact absurd h (chkT_errz _ _ _ hc)
  | ok s1 =>
   rw [hc] at h
   simp only [] at h
   unfold countsE at h
   refine ⟨s1, rfl, ?_⟩
   repeat' split at h
   all_goals first
    | (exact absurd h (by decide))
    | (exact ⟨by omega, by assumption, h⟩)
    | (exfalso; simp_all; done)
 have hnums : ∀ {l : List Int} {k : Int}, numsE k l = 0 → ∀ a ∈ l, 1 ≤ a ∧ a ≤ k := fun {l k} => by
  induction l with
  | nil => intro _ a ha; cases ha
  | cons x l ih =>
   intro hx a ha
   unfold numsE at hx
   split at hx
   ·rename_i h1
    rcases List.mem_cons.1 ha with rfl | ha
    ·unfold numE at h1
     split at h1
     ·assumption
     ·exact absurd h1 (by decide)
    ·exact ih hx a ha
   ·exact absurd hx (by decide)
 have hg0 := (chkT_grow t _ _ hc).1
 simp only [] at hg0
 have hP : Pok g ⟨[], [], 0⟩ := ⟨fun _ h => (by cases h), fun _ h => (by cases h)⟩
 exact ⟨by omega, mkT_ok t _ _ hc (Int.le_refl _) (by omega) (fun a ha => by have := hnums hnum a ha; omega) hb _ hP⟩
end Go.Proofs.YtfnndcbjklppeaaGreatDoor.Mk
namespace Go.Proofs.YtfnndcbjklppeaaGreatDoor
open Go.RowKit
theorem pat_right {t : Tr} {g : Int} {N : NmL} (h : PatE t g N 0) : cntA t < 1001 ∧ good t := by
 rcases h with ⟨_, h⟩ | ⟨h1, h⟩
 ·omega
 ·refine ⟨h1, ?_⟩
  have hz : treeE t g = 0 := by
   rcases h with ⟨h2, h3⟩ | ⟨h2, _, h3⟩ | ⟨h2, _⟩
   ·exact h3.symm
   ·exact h2
   ·exact h2
  unfold treeE at hz
  split at hz
  ·rename_i z hz2; exact absurd hz (chkT_errz _ _ _ hz2)
  ·rename_i s hs; exact ⟨_, _, hs⟩
def BehE (t : Tr) (g : Int) (N : NmL) (z : Int) : Prop := (PatE t g N z ∧ z ≠ 0) ∨ (PatE t g N 0 ∧ z = if bhA t then 0 else 9)
theorem factsCheck_any (n : NV) (t : Tr) (g : Int) (na : Option Addr) (nl nc : Nat) (N : NmL) (w : World) (h : NodeC w n t) (hNm : NamesC w (.slice na nl nc) N) : Calls Tryz.prog 21 #[patNV n g na nl nc] w fun e w' => ∃ z, BehE t g N z ∧ e = .returned (.int .i64 z) ∧ Below w.heap.size w w' := by
 have hb : Below w.heap.size w (w.alloc (patNO n g na nl nc)) := (Below.refl _ _).alloc (Nat.le_refl _) _
 have HC := hide (showCheck_any n t g na nl nc N _ (h.box (patNO n g na nl nc)) (hNm.below hb))
 have HHW := hide (fun hg W hW => hasWidths_any h hg W hW)
 obtain ⟨w1, hw1⟩ : ∃ w1, w1 = w.alloc (patNO n g na nl nc) := ⟨_, rfl⟩
 have hbox : w1.heap[w.heap.size]? = some (patNO n g na nl nc) := by rw [hw1]; exact at_new _ _
 rw [← hw1] at hb HC
 have HB := hide hb
 have HX := hide hbox
 obtain ⟨⟨d0, d1, d2, d3, d4, d5, d6, d7⟩, d8, d9⟩ := patN_cells hbox
 simp only [patNO] at hw1
 simp only [patNV] at HC ⊢
 clear h hNm hb hbox
 go_enter Tryz.func21, Tryz.ntmps21
 go_wp2_with fail
 rw [← hw1]
 clear hw1
 refine HC.out.mono ?_
 rintro e w2 ⟨z, hz, rfl, hb2⟩
 have HB2 := hide (HB.out.trans (hb2.mono HB.out.size))
 have HX2 := hide (show w2.heap[w.heap.size]? = some (patNO n g na nl nc) by rw [hb2.block _ (lt_of_block HX.out)]; exact HX.out)
 clear hb2 HC d0 d1 d2 d3 d4 d5 d6 d7 d8 d9 HX HB
 by_cases hz0 : z = 0
 ·subst hz0
  obtain ⟨⟨d0, d1, d2, d3, d4, d5, d6, d7⟩, d8, d9⟩ := patN_cells HX2.out
  have HCh := hide (HHW.out (pat_right hz).2 w2 HB2.out)
  have HBz : Hid (∀ y, y = (if bhA t then 0 else 9) → BehE t g N y) := fun y hy => .inr ⟨hz, hy⟩
  obtain ⟨b, hb⟩ : ∃ b, b = bhA t := ⟨_, rfl⟩
  rw [← hb] at HCh HBz
  clear hz hb HHW
  go_wp2_with fail
  refine HCh.out.mono ?_
  rintro e w3 ⟨rfl, hb3⟩
  have HB3 := hide (HB2.out.trans (hb3.mono HB2.out.size))
  clear hb3 HCh d0 d1 d2 d3 d4 d5 d6 d7 d8 d9
  cases b with
  | true =>
   have HE := hide (HBz.out 0 rfl)
   clear HBz
   go_wp2
   go_ret
   exact ⟨0, HE.out, rfl, HB3.out⟩
  | false =>
   have HE := hide (HBz.out 9 rfl)
   clear HBz
   go_wp2
   go_ret
   exact ⟨9, HE.out, rfl, HB3.out⟩
 ·have HE : Hid (BehE t g N z) := .inl ⟨hz, hz0⟩
  have bz : (z == 0) = false := by simpa using hz0
  have bz2 : (z != 0) = true := by simpa using hz0
  clear hz hz0 HHW
  go_wp2
  go_ret
  exact ⟨z, HE.out, rfl, HB2.out⟩
end Go.Proofs.YtfnndcbjklppeaaGreatDoor
