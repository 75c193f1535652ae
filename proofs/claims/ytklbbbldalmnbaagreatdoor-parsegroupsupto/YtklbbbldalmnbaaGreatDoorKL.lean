import Derived.Test.YtklbbbldalmnbaaGreatDoorKD
namespace Go.Proofs.YtklbbbldalmnbaaGreatDoor.TK
set_option linter.unusedVariables false
/-! ### A token has a point at least -/
theorem rep_pos (d : Int) (l : List Int) (i : Nat) (a b : Int) : i ≤ (repT d l i a b).2 := by
 unfold repT; split
 ·split
  ·simp
  ·split <;> simp
 ·simp
theorem bounds_pos (d : Int) (l : List Int) (i : Nat) : i ≤ (boundsT d l i).2.2.2 := by
 unfold boundsT
 dsimp only
 cases h : says l (i + (digs 10 3 l i).2) [44] with
 | true =>
  simp only [if_true]
  (repeat' split) <;> dsimp only <;> omega
 | false =>
  simp only [Bool.false_eq_true, if_false]
  (repeat' split) <;> dsimp only <;> omega
theorem times_pos {d : Int} {l : List Int} {i : Nat} {t : Tok} {k : Nat} (h : timesT d l i = .ok (t, k)) : i ≤ k := by
 unfold timesT at h
 simp only at h
 split at h
 ·split at h
  ·injection h with h; injection h with h1 h2; omega
  ·cases h
 ·split at h
  ·cases h
  ·split at h
   ·cases h
   ·have h1 := rep_pos d l (boundsT d l i).2.2.2 (boundsT d l i).1 (boundsT d l i).2.1
    have h2 := bounds_pos d l i
    injection h with h
    rw [h] at h1
    simp only at h1
    omega
theorem opt_pos {l : List Int} {i : Nat} {f : Int} {t : Tok} {k : Nat} (h : optT l i f = .ok (t, k)) : i ≤ k := by
 unfold optT at h
 split at h
 ·injection h with h; injection h with h1 h2; omega
 ·split at h
  ·injection h with h; injection h with h1 h2; omega
  ·cases h
theorem beh_pos {l : List Int} {i : Nat} {t : Tok} {k : Nat} (h : behT l i = .ok (t, k)) : i ≤ k := by
 unfold behT at h
 repeat' (split at h)
 all_goals first | (cases h; done) | (injection h with h; injection h with h1 h2; omega)
theorem open_pos {d : Int} {l : List Int} {i : Nat} {t : Tok} {k : Nat} (h : openS d l i = .ok (t, k)) : i ≤ k := by
 unfold openS at h
 split at h
 ·injection h with h; injection h with h1 h2; omega
 ·split at h
  ·injection h with h; injection h with h1 h2; omega
  ·split at h
   ·cases h
   ·repeat' (split at h)
    all_goals first | (cases h; done) | (injection h with h; injection h with h1 h2; omega) | (have := beh_pos h; omega) | (have := opt_pos h; omega)
theorem part_pos {d : Int} {l : List Int} {p : Int} {i : Nat} {t : Tok} {k : Nat} (h : partT d l p i = .ok (t, k)) : i ≤ k := by
 unfold partT at h
 repeat' (split at h)
 all_goals first | exact open_pos h | exact times_pos h | (injection h with h; injection h with h1 h2; omega)
theorem hex_pos {l : List Int} {i : Nat} {t : Tok} {k : Nat} (h : hexT l i = .ok (t, k)) : i ≤ k := by
 unfold hexT at h
 simp only at h
 repeat' (split at h)
 all_goals first | (cases h; done) | (injection h with h; injection h with h1 h2; omega)
theorem agb_pos {l : List Int} {i : Nat} {t : Tok} {k : Nat} (h : agbT l i = .ok (t, k)) : i ≤ k := by
 unfold agbT at h
 simp only at h
 repeat' (split at h)
 all_goals first | (cases h; done) | (injection h with h; injection h with h1 h2; omega)
theorem uni_pos {l : List Int} {i : Nat} {t : Tok} {k : Nat} (h : uniT l i = .ok (t, k)) : i ≤ k := by
 unfold uniT at h
 simp only at h
 split at h
 ·cases h
 ·injection h with h; injection h with h1 h2; omega
theorem agd_pos {l : List Int} {i : Nat} {n : Int} {t : Tok} {k : Nat} (h : (.ok (agdT l i n) : RT) = .ok (t, k)) : i ≤ k := by
 unfold agdT at h
 simp only at h
 injection h with h
 split at h <;> (injection h with h1 h2; omega)
theorem ruby_pos {l : List Int} {i : Nat} {p : Int} {t : Tok} {k : Nat} (h : rubyT l i p = .ok (t, k)) : i ≤ k := by
 unfold rubyT at h
 split at h
 ·injection h with h; injection h with h1 h2; omega
 ·repeat' (split at h)
  all_goals first | (cases h; done) | exact hex_pos h | exact agb_pos h | exact uni_pos h | exact agd_pos h | (injection h with h; injection h with h1 h2; omega)
theorem emacs_pos {l : List Int} {i : Nat} {p : Int} {t : Tok} {k : Nat} (h : emacsT l i p = .ok (t, k)) : i ≤ k := by
 unfold emacsT at h
 split at h
 ·exact part_pos h
 ·repeat' (split at h)
  all_goals (injection h with h; injection h with h1 h2; omega)
theorem next_pos {d : Int} {l : List Int} {i : Nat} {t : Tok} {k : Nat} (h : nextT d l i = .ok (t, k)) : i < k := by
 unfold nextT at h
 split at h
 ·cases h
 ·unfold tokT at h
  split at h
  ·unfold escT at h
   split at h
   ·cases h
   ·split at h
    ·have := ruby_pos h; omega
    ·split at h
     ·have := emacs_pos h; omega
     ·injection h with h; injection h with h1 h2; omega
  ·repeat' (split at h)
   all_goals first | (injection h with h; injection h with h1 h2; omega) | (have := part_pos h; omega) | skip
   ·have := rep_pos d l (i + 1) 0 (-1); injection h with h; rw [h] at this; simp only at this; omega
   ·have := rep_pos d l (i + 1) 1 (-1); injection h with h; rw [h] at this; simp only at this; omega
   ·have := rep_pos d l (i + 1) 0 1; injection h with h; rw [h] at this; simp only at this; omega
end Go.Proofs.YtklbbbldalmnbaaGreatDoor.TK
namespace Go.Proofs.YtklbbbldalmnbaaGreatDoor.TK
set_option linter.unusedVariables false
def eOk (z : Int) : Prop := z = 1 ∨ z = 2 ∨ z = 3
theorem times_err {d : Int} {l : List Int} {i : Nat} {z : Int} (h : timesT d l i = .error z) : eOk z := by
 unfold timesT at h
 simp only at h
 unfold eOk
 repeat' (split at h)
 all_goals first | (cases h; done) | (injection h with h; omega)
theorem opt_err {l : List Int} {i : Nat} {f z : Int} (h : optT l i f = .error z) : eOk z := by
 unfold optT at h
 unfold eOk
 repeat' (split at h)
 all_goals first | (cases h; done) | (injection h with h; omega)
theorem beh_err {l : List Int} {i : Nat} {z : Int} (h : behT l i = .error z) : eOk z := by
 unfold behT at h
 unfold eOk
 repeat' (split at h)
 all_goals first | (cases h; done) | (injection h with h; omega)
theorem open_err {d : Int} {l : List Int} {i : Nat} {z : Int} (h : openS d l i = .error z) : eOk z := by
 unfold openS at h
 repeat' (split at h)
 all_goals first | (cases h; done) | exact beh_err h | exact opt_err h | (unfold eOk; injection h with h; omega)
theorem part_err {d : Int} {l : List Int} {p : Int} {i : Nat} {z : Int} (h : partT d l p i = .error z) : eOk z := by
 unfold partT at h
 repeat' (split at h)
 all_goals first | (cases h; done) | exact open_err h | exact times_err h
theorem hex_err {l : List Int} {i : Nat} {z : Int} (h : hexT l i = .error z) : eOk z := by
 unfold hexT at h
 simp only at h
 unfold eOk
 repeat' (split at h)
 all_goals first | (cases h; done) | (injection h with h; omega)
theorem uni_err {l : List Int} {i : Nat} {z : Int} (h : uniT l i = .error z) : eOk z := by
 unfold uniT at h
 simp only at h
 unfold eOk
 repeat' (split at h)
 all_goals first | (cases h; done) | (injection h with h; omega)
theorem agb_err {l : List Int} {i : Nat} {z : Int} (h : agbT l i = .error z) : eOk z := by
 unfold agbT at h
 simp only at h
 unfold eOk
 repeat' (split at h)
 all_goals first | (cases h; done) | (injection h with h; omega)
theorem ctl_err {p z : Int} (h : ctlT p = .error z) : eOk z := by
 unfold ctlT at h
 unfold eOk
 repeat' (split at h)
 all_goals first | (cases h; done) | (injection h with h; omega)
theorem ruby_err {l : List Int} {i : Nat} {p z : Int} (h : rubyT l i p = .error z) : eOk z := by
 unfold rubyT at h
 split at h
 ·cases h
 ·repeat' (split at h)
  all_goals first | (cases h; done) | exact hex_err h | exact uni_err h | exact agb_err h | (rename_i e he; injection h with h; subst h; exact ctl_err he)
theorem emacs_err {l : List Int} {i : Nat} {p z : Int} (h : emacsT l i p = .error z) : eOk z := by
 unfold emacsT at h
 split at h
 ·exact part_err h
 ·repeat' (split at h)
  all_goals cases h
theorem next_err {d : Int} {l : List Int} {i : Nat} {z : Int} (h : nextT d l i = .error z) : eOk z := by
 unfold nextT at h
 split at h
 ·unfold eOk; injection h with h; omega
 ·unfold tokT at h
  split at h
  ·unfold escT at h
   split at h
   ·unfold eOk; injection h with h; omega
   ·split at h
    ·exact ruby_err h
    ·split at h
     ·exact emacs_err h
     ·cases h
  ·repeat' (split at h)
   all_goals first | (cases h; done) | exact part_err h
end Go.Proofs.YtklbbbldalmnbaaGreatDoor.TK
namespace Go.Proofs.YtklbbbldalmnbaaGreatDoor.TK
set_option linter.unusedVariables false
def shR (n : Nat) : RT → RT
 | .ok (t, k) => .ok (t, k + n)
 | .error e => .error e
section
variable (a l : List Int)
theorem drop_sh (i : Nat) : (a ++ l).drop (i + a.length) = l.drop i := by
 rw [Nat.add_comm, ← List.drop_drop]; simp
theorem says_sh (i : Nat) (s : List Int) : says (a ++ l) (i + a.length) s = says l i s := by unfold says; rw [drop_sh]
theorem digs_sh (base : Int) (most i : Nat) : digs base most (a ++ l) (i + a.length) = digs base most l i := by unfold digs; rw [drop_sh]
theorem name_sh (i : Nat) : nameL (a ++ l) (i + a.length) = nameL l i := by unfold nameL; rw [drop_sh]
theorem get_sh (i : Nat) : (a ++ l)[i + a.length]? = l[i]? := by rw [List.getElem?_append_right (by omega)]; simp
theorem mv (i j : Nat) : i + a.length + j = i + j + a.length := by omega
theorem rep_sh (d : Int) (i : Nat) (x y : Int) : repT d (a ++ l) (i + a.length) x y = ((repT d l i x y).1, (repT d l i x y).2 + a.length) := by
 unfold repT
 simp only [says_sh]
 split
 ·split
  ·simp only [mv a]
  ·split
   ·simp only [mv a]
   ·rfl
 ·rfl
theorem bounds_sh (d : Int) (i : Nat) : boundsT d (a ++ l) (i + a.length) = ((boundsT d l i).1, (boundsT d l i).2.1, (boundsT d l i).2.2.1, (boundsT d l i).2.2.2 + a.length) := by
 unfold boundsT
 simp only [digs_sh, mv a, says_sh]
 cases says l (i + (digs 10 3 l i).2) [44] with
 | true =>
  simp only [if_true, mv a, says_sh]
  split
  ·rfl
  ·split
   ·(repeat' split) <;> first | rfl | simp only [mv a]
   ·(repeat' split) <;> first | rfl | simp only [mv a]
 | false =>
  simp only [Bool.false_eq_true, if_false, mv a, says_sh]
  split
  ·rfl
  ·split
   ·(repeat' split) <;> first | rfl | simp only [mv a]
   ·(repeat' split) <;> first | rfl | simp only [mv a]
theorem times_sh (d : Int) (i : Nat) : timesT d (a ++ l) (i + a.length) = shR a.length (timesT d l i) := by
 unfold timesT
 simp only [bounds_sh, rep_sh]
 split
 ·split <;> rfl
 ·split
  ·rfl
  ·split <;> rfl
theorem opt_sh (i : Nat) (f : Int) : optT (a ++ l) (i + a.length) f = shR a.length (optT l i f) := by
 unfold optT
 simp only [says_sh, mv a]
 split
 ·rfl
 ·split <;> rfl
theorem beh_sh (i : Nat) : behT (a ++ l) (i + a.length) = shR a.length (behT l i) := by
 unfold behT
 simp only [says_sh, name_sh, mv a]
 repeat' split
 all_goals rfl
theorem open_sh (d : Int) (i : Nat) : openS d (a ++ l) (i + a.length) = shR a.length (openS d l i) := by
 unfold openS
 simp only [says_sh, mv a, get_sh, beh_sh, opt_sh]
 split
 ·rfl
 ·split
  ·rfl
  ·split
   ·rfl
   ·repeat' split
    all_goals rfl
theorem part_sh (d p : Int) (i : Nat) : partT d (a ++ l) p (i + a.length) = shR a.length (partT d l p i) := by
 unfold partT
 simp only [open_sh, times_sh]
 repeat' split
 all_goals rfl
theorem hex_sh (i : Nat) : hexT (a ++ l) (i + a.length) = shR a.length (hexT l i) := by
 unfold hexT
 simp only [says_sh, mv a, digs_sh]
 repeat' split
 all_goals rfl
theorem uni_sh (i : Nat) : uniT (a ++ l) (i + a.length) = shR a.length (uniT l i) := by
 unfold uniT
 simp only [digs_sh, mv a]
 repeat' split
 all_goals rfl
theorem agd_sh (i : Nat) (n : Int) : agdT (a ++ l) (i + a.length) n = ((agdT l i n).1, (agdT l i n).2 + a.length) := by
 unfold agdT
 simp only [digs_sh, mv a]
 split <;> rfl
theorem agb_sh (i : Nat) : agbT (a ++ l) (i + a.length) = shR a.length (agbT l i) := by
 unfold agbT
 simp only [says_sh, mv a]
 split
 ·rfl
 ·cases says l (i + 1) [45] with
  | true =>
   simp only [if_true, digs_sh, mv a, says_sh, name_sh]
   repeat' split
   all_goals rfl
  | false =>
   simp only [Bool.false_eq_true, if_false, digs_sh, mv a, says_sh, name_sh]
   repeat' split
   all_goals rfl
theorem ruby_sh (i : Nat) (p : Int) : rubyT (a ++ l) (i + a.length) p = shR a.length (rubyT l i p) := by
 unfold rubyT
 simp only [hex_sh, uni_sh, agb_sh, agd_sh]
 repeat' split
 all_goals rfl
theorem emacs_sh (i : Nat) (p : Int) : emacsT (a ++ l) (i + a.length) p = shR a.length (emacsT l i p) := by
 unfold emacsT
 simp only [part_sh]
 repeat' split
 all_goals rfl
theorem esc_sh (d : Int) (i : Nat) : escT d (a ++ l) (i + a.length) = shR a.length (escT d l i) := by
 unfold escT
 simp only [get_sh, mv a, ruby_sh, emacs_sh]
 split
 ·rfl
 ·repeat' split
  all_goals rfl
theorem next_sh (d : Int) (i : Nat) : nextT d (a ++ l) (i + a.length) = shR a.length (nextT d l i) := by
 unfold nextT
 rw [get_sh]
 split
 ·rfl
 ·unfold tokT
  simp only [mv a, esc_sh, rep_sh, part_sh]
  repeat' split
  all_goals rfl
end
end Go.Proofs.YtklbbbldalmnbaaGreatDoor.TK
