/- What stands ahead of a token does not matter. No program. -/
import Derived.Test.YtlapnhjkhpgklaaTpure
namespace Go.Proofs.Ytlapnhjkhpgklaa
set_option linter.unusedVariables false

/-- moved by so many. -/
def shR (n : Nat) : RT → RT
  | .ok (t, k) => .ok (t, k + n)
  | .error e => .error e
section
variable (a l : List Int)
theorem drop_sh (i : Nat) : (a ++ l).drop (i + a.length) = l.drop i := by
  rw [Nat.add_comm, ← List.drop_drop]; simp
theorem says_sh (i : Nat) (s : List Int) : says (a ++ l) (i + a.length) s = says l i s := by unfold says; rw [drop_sh]
theorem digs_sh (base : Int) (most i : Nat) : digs base most (a ++ l) (i + a.length) = digs base most l i := by unfold digs; rw [drop_sh]
theorem name_sh (i : Nat) : nameL (a ++ l) (i + a.length) = nameL l i := by unfold nameL; rw [drop_sh]
theorem get_sh (i : Nat) : (a ++ l)[i + a.length]? = l[i]? := by rw [List.getElem?_append_right (by omega)]; simp
theorem mv (i j : Nat) : i + a.length + j = i + j + a.length := by omega

theorem rep_sh (d : Int) (i : Nat) (x y : Int) : repT d (a ++ l) (i + a.length) x y = ((repT d l i x y).1, (repT d l i x y).2 + a.length) := by
  unfold repT
  simp only [says_sh]
  split
  · split
    · simp only [mv a]
    · split
      · simp only [mv a]
      · rfl
  · rfl
theorem bounds_sh (d : Int) (i : Nat) : boundsT d (a ++ l) (i + a.length) = ((boundsT d l i).1, (boundsT d l i).2.1, (boundsT d l i).2.2.1, (boundsT d l i).2.2.2 + a.length) := by
  unfold boundsT
  simp only [digs_sh, mv a, says_sh]
  cases says l (i + (digs 10 3 l i).2) [44] with
  | true =>
    simp only [if_true, mv a, says_sh]
    split
    · rfl
    · split
      · (repeat' split) <;> first | rfl | simp only [mv a]
      · (repeat' split) <;> first | rfl | simp only [mv a]
  | false =>
    simp only [Bool.false_eq_true, if_false, mv a, says_sh]
    split
    · rfl
    · split
      · (repeat' split) <;> first | rfl | simp only [mv a]
      · (repeat' split) <;> first | rfl | simp only [mv a]
theorem times_sh (d : Int) (i : Nat) : timesT d (a ++ l) (i + a.length) = shR a.length (timesT d l i) := by
  unfold timesT
  simp only [bounds_sh, rep_sh]
  split
  · split <;> rfl
  · split
    · rfl
    · split <;> rfl
theorem opt_sh (i : Nat) (f : Int) : optT (a ++ l) (i + a.length) f = shR a.length (optT l i f) := by
  unfold optT
  simp only [says_sh, mv a]
  split
  · rfl
  · split <;> rfl
theorem beh_sh (i : Nat) : behT (a ++ l) (i + a.length) = shR a.length (behT l i) := by
  unfold behT
  simp only [says_sh, name_sh, mv a]
  repeat' split
  all_goals rfl
theorem open_sh (d : Int) (i : Nat) : openS d (a ++ l) (i + a.length) = shR a.length (openS d l i) := by
  unfold openS
  simp only [says_sh, mv a, get_sh, beh_sh, opt_sh]
  split
  · rfl
  · split
    · rfl
    · split
      · rfl
      · repeat' split
        all_goals rfl
theorem part_sh (d p : Int) (i : Nat) : partT d (a ++ l) p (i + a.length) = shR a.length (partT d l p i) := by
  unfold partT
  simp only [open_sh, times_sh]
  repeat' split
  all_goals rfl
theorem hex_sh (i : Nat) : hexT (a ++ l) (i + a.length) = shR a.length (hexT l i) := by
  unfold hexT
  simp only [says_sh, mv a, digs_sh]
  repeat' split
  all_goals rfl
theorem uni_sh (i : Nat) : uniT (a ++ l) (i + a.length) = shR a.length (uniT l i) := by
  unfold uniT
  simp only [digs_sh, mv a]
  repeat' split
  all_goals rfl
theorem agd_sh (i : Nat) (n : Int) : agdT (a ++ l) (i + a.length) n = ((agdT l i n).1, (agdT l i n).2 + a.length) := by
  unfold agdT
  simp only [digs_sh, mv a]
  split <;> rfl
theorem agb_sh (i : Nat) : agbT (a ++ l) (i + a.length) = shR a.length (agbT l i) := by
  unfold agbT
  simp only [says_sh, mv a]
  split
  · rfl
  · cases says l (i + 1) [45] with
    | true =>
      simp only [if_true, digs_sh, mv a, says_sh, name_sh]
      repeat' split
      all_goals rfl
    | false =>
      simp only [Bool.false_eq_true, if_false, digs_sh, mv a, says_sh, name_sh]
      repeat' split
      all_goals rfl
theorem ruby_sh (i : Nat) (p : Int) : rubyT (a ++ l) (i + a.length) p = shR a.length (rubyT l i p) := by
  unfold rubyT
  simp only [hex_sh, uni_sh, agb_sh, agd_sh]
  repeat' split
  all_goals rfl
theorem emacs_sh (i : Nat) (p : Int) : emacsT (a ++ l) (i + a.length) p = shR a.length (emacsT l i p) := by
  unfold emacsT
  simp only [part_sh]
  repeat' split
  all_goals rfl
theorem esc_sh (d : Int) (i : Nat) : escT d (a ++ l) (i + a.length) = shR a.length (escT d l i) := by
  unfold escT
  simp only [get_sh, mv a, ruby_sh, emacs_sh]
  split
  · rfl
  · repeat' split
    all_goals rfl
theorem next_sh (d : Int) (i : Nat) : nextT d (a ++ l) (i + a.length) = shR a.length (nextT d l i) := by
  unfold nextT
  rw [get_sh]
  split
  · rfl
  · unfold tokT
    simp only [mv a, esc_sh, rep_sh, part_sh]
    repeat' split
    all_goals rfl
end

end Go.Proofs.Ytlapnhjkhpgklaa
