import Derived.Test.YtaccofiegkdlgaaGreatDoorKD
namespace Go.Proofs.YtaccofiegkdlgaaGreatDoor.TK
set_option linter.unusedVariables false
/-! ### A token has a point at least -/
theorem rep_pos (d : Int) (l : List Int) (i : Nat) (a b : Int) : i ≤ (repT d l i a b).2 := by
 unfold repT; split
 ·split
  ·simp
  ·split <;> simp
 ·simp
theorem bounds_pos (d : Int) (l : List Int) (i : Nat) : i ≤ (boundsT d l i).2.2.2 := by
 unfold boundsT
 dsimp only
 cases h : says l (i + (digs 10 3 l i).2) [44] with
 | true =>
  simp only [if_true]
  (repeat' split) <;> dsimp only <;> omega
 | false =>
  simp only [Bool.false_eq_true, if_false]
  (repeat' split) <;> dsimp only <;> omega
theorem times_pos {d : Int} {l : List Int} {i : Nat} {t : Tok} {k : Nat} (h : timesT d l i = .ok (t, k)) : i ≤ k := by
 unfold timesT at h
 simp only at h
 split at h
 ·split at h
  ·injection h with h; injection h with h1 h2; omega
  ·cases h
 ·split at h
  ·cases h
  ·split at h
   ·cases h
   ·have h1 := rep_pos d l (boundsT d l i).2.2.2 (boundsT d l i).1 (boundsT d l i).2.1
    have h2 := bounds_pos d l i
    injection h with h
    rw [h] at h1
    simp only at h1
    omega
theorem opt_pos {l : List Int} {i : Nat} {f : Int} {t : Tok} {k : Nat} (h : optT l i f = .ok (t, k)) : i ≤ k := by
 unfold optT at h
 split at h
 ·injection h with h; injection h with h1 h2; omega
 ·split at h
  ·injection h with h; injection h with h1 h2; omega
  ·cases h
theorem beh_pos {l : List Int} {i : Nat} {t : Tok} {k : Nat} (h : behT l i = .ok (t, k)) : i ≤ k := by
 unfold behT at h
 repeat' (split at h)
 all_goals first | (cases h; done) | (injection h with h; injection h with h1 h2; omega)
theorem open_pos {d : Int} {l : List Int} {i : Nat} {t : Tok} {k : Nat} (h : openS d l i = .ok (t, k)) : i ≤ k := by
 unfold openS at h
 split at h
 ·injection h with h; injection h with h1 h2; omega
 ·split at h
  ·injection h with h; injection h with h1 h2; omega
  ·split at h
   ·cases h
   ·repeat' (split at h)
    all_goals first | (cases h; done) | (injection h with h; injection h with h1 h2; omega) | (have := beh_pos h; omega) | (have := opt_pos h; omega)
theorem part_pos {d : Int} {l : List Int} {p : Int} {i : Nat} {t : Tok} {k : Nat} (h : partT d l p i = .ok (t, k)) : i ≤ k := by
 unfold partT at h
 repeat' (split at h)
 all_goals first | exact open_pos h | exact times_pos h | (injection h with h; injection h with h1 h2; omega)
theorem hex_pos {l : List Int} {i : Nat} {t : Tok} {k : Nat} (h : hexT l i = .ok (t, k)) : i ≤ k := by
 unfold hexT at h
 simp only at h
 repeat' (split at h)
 all_goals first | (cases h; done) | (injection h with h; injection h with h1 h2; omega)
theorem agb_pos {l : List Int} {i : Nat} {t : Tok} {k : Nat} (h : agbT l i = .ok (t, k)) : i ≤ k := by
 unfold agbT at h
 simp only at h
 repeat' (split at h)
 all_goals first | (cases h; done) | (injection h with h; injection h with h1 h2; omega)
theorem uni_pos {l : List Int} {i : Nat} {t : Tok} {k : Nat} (h : uniT l i = .ok (t, k)) : i ≤ k := by
 unfold uniT at h
 simp only at h
 split at h
 ·cases h
 ·injection h with h; injection h with h1 h2; omega
theorem agd_pos {l : List Int} {i : Nat} {n : Int} {t : Tok} {k : Nat} (h : (.ok (agdT l i n) : RT) = .ok (t, k)) : i ≤ k := by
 unfold agdT at h
 simp only at h
 injection h with h
 split at h <;> (injection h with h1 h2; omega)
theorem ruby_pos {l : List Int} {i : Nat} {p : Int} {t : Tok} {k : Nat} (h : rubyT l i p = .ok (t, k)) : i ≤ k := by
 unfold rubyT at h
 split at h
 ·injection h with h; injection h with h1 h2; omega
 ·repeat' (split at h)
  all_goals first | (cases h; done) | exact hex_pos h | exact agb_pos h | exact uni_pos h | exact agd_pos h | (injection h with h; injection h with h1 h2; omega)
theorem emacs_pos {l : List Int} {i : Nat} {p : Int} {t : Tok} {k : Nat} (h : emacsT l i p = .ok (t, k)) : i ≤ k := by
 unfold emacsT at h
 split at h
 ·exact part_pos h
 ·repeat' (split at h)
  all_goals (injection h with h; injection h with h1 h2; omega)
theorem next_pos {d : Int} {l : List Int} {i : Nat} {t : Tok} {k : Nat} (h : nextT d l i = .ok (t, k)) : i < k := by
 unfold nextT at h
 split at h
 ·cases h
 ·unfold tokT at h
  split at h
  ·unfold escT at h
   split at h
   ·cases h
   ·split at h
    ·have := ruby_pos h; omega
    ·split at h
     ·have := emacs_pos h; omega
     ·injection h with h; injection h with h1 h2; omega
  ·repeat' (split at h)
   all_goals first | (injection h with h; injection h with h1 h2; omega) | (have := part_pos h; omega) | skip
   ·have := rep_pos d l (i + 1) 0 (-1); injection h with h; rw [h] at this; simp only at this; omega
   ·have := rep_pos d l (i + 1) 1 (-1); injection h with h; rw [h] at this; simp only at this; omega
   ·have := rep_pos d l (i + 1) 0 1; injection h with h; rw [h] at this; simp only at this; omega
end Go.Proofs.YtaccofiegkdlgaaGreatDoor.TK
namespace Go.Proofs.YtaccofiegkdlgaaGreatDoor.TK
set_option linter.unusedVariables false
def eOk (z : Int) : Prop := z = 1 ∨ z = 2 ∨ z = 3
theorem times_err {d : Int} {l : List Int} {i : Nat} {z : Int} (h : timesT d l i = .error z) : eOk z := by
 unfold timesT at h
 simp only at h
 unfold eOk
 repeat' (split at h)
 all_goals first | (cases h; done) | (injection h with h; omega)
theorem opt_err {l : List Int} {i : Nat} {f z : Int} (h : optT l i f = .error z) : eOk z := by
 unfold optT at h
 unfold eOk
 repeat' (split at h)
 all_goals first | (cases h; done) | (injection h with h; omega)
theorem beh_err {l : List Int} {i : Nat} {z : Int} (h : behT l i = .error z) : eOk z := by
 unfold behT at h
 unfold eOk
 repeat' (split at h)
 all_goals first | (cases h; done) | (injection h with h; omega)
theorem open_err {d : Int} {l : List Int} {i : Nat} {z : Int} (h : openS d l i = .error z) : eOk z := by
 unfold openS at h
 repeat' (split at h)
 all_goals first | (cases h; done) | exact beh_err h | exact opt_err h | (unfold eOk; injection h with h; omega)
theorem part_err {d : Int} {l : List Int} {p : Int} {i : Nat} {z : Int} (h : partT d l p i = .error z) : eOk z := by
 unfold partT at h
 repeat' (split at h)
 all_goals first | (cases h; done) | exact open_err h | exact times_err h
theorem hex_err {l : List Int} {i : Nat} {z : Int} (h : hexT l i = .error z) : eOk z := by
 unfold hexT at h
 simp only at h
 unfold eOk
 repeat' (split at h)
 all_goals first | (cases h; done) | (injection h with h; omega)
theorem uni_err {l : List Int} {i : Nat} {z : Int} (h : uniT l i = .error z) : eOk z := by
 unfold uniT at h
 simp only at h
 unfold eOk
 repeat' (split at h)
 all_goals first | (cases h; done) | (injection h with h; omega)
theorem agb_err {l : List Int} {i : Nat} {z : Int} (h : agbT l i = .error z) : eOk z := by
 unfold agbT at h
 simp only at h
 unfold eOk
 repeat' (split at h)
 all_goals first | (cases h; done) | (injection h with h; omega)
theorem ctl_err {p z : Int} (h : ctlT p = .error z) : eOk z := by
 unfold ctlT at h
 unfold eOk
 repeat' (split at h)
 all_goals first | (cases h; done) | (injection h with h; omega)
theorem ruby_err {l : List Int} {i : Nat} {p z : Int} (h : rubyT l i p = .error z) : eOk z := by
 unfold rubyT at h
 split at h
 ·cases h
 ·repeat' (split at h)
  all_goals first | (cases h; done) | exact hex_err h | exact uni_err h | exact agb_err h | (rename_i e he; injection h with h; subst h; exact ctl_err he)
theorem emacs_err {l : List Int} {i : Nat} {p z : Int} (h : emacsT l i p = .error z) : eOk z := by
 unfold emacsT at h
 split at h
 ·exact part_err h
 ·repeat' (split at h)
  all_goals cases h
theorem next_err {d : Int} {l : List Int} {i : Nat} {z : Int} (h : nextT d l i = .error z) : eOk z := by
 unfold nextT at h
 split at h
 ·unfold eOk; injection h with h; omega
 ·unfold tokT at h
  split at h
  ·unfold escT at h
   split at h
   ·unfold eOk; injection h with h; omega
   ·split at h
    ·exact ruby_err h
    ·split at h
     ·exact emacs_err h
     ·cases h
  ·repeat' (split at h)
   all_goals first | (cases h; done) | exact part_err h
end Go.Proofs.YtaccofiegkdlgaaGreatDoor.TK
