import Derived.Test.YtklbbbldalmnbaaGreatDoorMC
import Derived.Test.YtklbbbldalmnbaaGreatDoorMK
import Derived.Test.YtklbbbldalmnbaaGreatDoorKL
namespace Go.Proofs.YtklbbbldalmnbaaGreatDoor.TK
open Pa (digs_len name_len)
set_option linter.unusedVariables false
def Brk (c : Int) : Prop := c = 124 ∨ c = 41
def Ext (R R' : RT) : Prop := ∀ x, R = .ok x → R' = .ok x
theorem Ext.of {R R' : RT} (h : R' = R) : Ext R R' := fun x hx => by rw [h]; exact hx
theorem Ext.err {e : Int} {R' : RT} : Ext (.error e) R' := fun x hx => by cases hx
section
variable {c : Int} {l b : List Int} {i : Nat}
theorem get_in (h : i < l.length) : (l ++ c :: b)[i]? = l[i]? := List.getElem?_append_left h
theorem get_at : (l ++ c :: b)[l.length]? = some c := by simp
theorem says_in (h : i < l.length) (p : Int) : says (l ++ c :: b) i [p] = says l i [p] := by rw [says_one, says_one, get_in h]
theorem says_ext (h : i ≤ l.length) {p : Int} (hp : c ≠ p) : says (l ++ c :: b) i [p] = says l i [p] := by
 by_cases hi : i < l.length
 ·exact says_in hi p
 ·have : i = l.length := by omega
  subst this
  rw [says_one, says_one, get_at]
  simp [hp]
theorem digsS_ext (hc : Brk c) (base : Int) (hb : base ≤ 16) : ∀ (k : Nat) (l : List Int) (n : Int) (m : Nat), digsS base k (l ++ c :: b) n m = digsS base k l n m
 | 0, l, n, m => by unfold digsS; rfl
 | k + 1, [], n, m => by
  rw [List.nil_append]
  unfold digsS
  rw [if_neg]
  have : digV c = 16 := by rcases hc with rfl | rfl <;> rfl
  omega
 | k + 1, p :: t, n, m => by
  rw [List.cons_append]
  unfold digsS
  split
  ·exact digsS_ext hc base hb k t _ _
  ·rfl
theorem digs_ext (hc : Brk c) (h : i ≤ l.length) (base : Int) (hb : base ≤ 16) (k : Nat) : digs base k (l ++ c :: b) i = digs base k l i := by
 unfold digs
 rw [List.drop_append_of_le_length h]
 exact digsS_ext hc base hb k _ _ _
theorem takeN_ext (hc : Brk c) : ∀ (k : Nat) (l : List Int) (f : Bool), takeN k (l ++ c :: b) f = takeN k l f
 | 0, l, f => by unfold takeN; rfl
 | k + 1, [], f => by
  rw [List.nil_append]
  show (if nameB c f = true then _ else _) = _
  rw [if_neg (by rcases hc with rfl | rfl <;> cases f <;> decide)]
  rfl
 | k + 1, p :: t, f => by
  show (if nameB p f = true then p :: takeN k (t ++ c :: b) false else []) = (if nameB p f = true then p :: takeN k t false else [])
  rw [takeN_ext hc k t false]
theorem name_ext (hc : Brk c) (h : i ≤ l.length) : nameL (l ++ c :: b) i = nameL l i := by
 unfold nameL
 rw [List.drop_append_of_le_length h]
 exact takeN_ext hc _ _ _
theorem brk_ne (hc : Brk c) {p : Int} (hp : p ≠ 124 ∧ p ≠ 41) : c ≠ p := by unfold Brk at hc; omega
theorem rep_ext (hc : Brk c) (h : i ≤ l.length) (x y : Int) : repT 1 (l ++ c :: b) i x y = repT 1 l i x y := by
 unfold repT
 rw [says_ext h (brk_ne hc (by decide)), says_ext h (brk_ne hc (by decide))]
theorem bounds_ext (hc : Brk c) (h : i ≤ l.length) : boundsT 1 (l ++ c :: b) i = boundsT 1 l i := by
 have e1 := digs_ext (b := b) hc h 10 (by decide) 3
 have h1 := Pa.digs_len 10 3 l i h
 unfold boundsT
 simp only [e1]
 rw [says_ext h1 (brk_ne hc (by decide))]
 by_cases h44 : says l (i + (digs 10 3 l i).2) [44] = true
 ·have h2 := says_len h44 (by simp)
  simp only [List.length_singleton] at h2
  have e2 := digs_ext (b := b) hc h2 10 (by decide) 3
  have h3 := Pa.digs_len 10 3 l _ h2
  simp only [h44, if_true, e2]
  rw [says_ext h3 (brk_ne hc (by decide))]
  rfl
 ·simp only [h44, Bool.false_eq_true, if_false]
  rw [says_ext h1 (brk_ne hc (by decide))]
  rfl
theorem bounds_len (h : i ≤ l.length) : (boundsT 1 l i).2.2.2 ≤ l.length := by
 have h1 := Pa.digs_len 10 3 l i h
 unfold boundsT
 simp only
 by_cases h44 : says l (i + (digs 10 3 l i).2) [44] = true
 ·have h2 := says_len h44 (by simp)
  simp only [List.length_singleton] at h2
  have h3 := Pa.digs_len 10 3 l _ h2
  simp only [h44, if_true]
  split
  ·exact h3
  ·rw [if_neg (by decide)]
   show (if says l (i + (digs 10 3 l i).2 + 1 + (digs 10 3 l (i + (digs 10 3 l i).2 + 1)).2) [125] = true then _ else _) ≤ l.length
   split
   ·rename_i hs
    have := says_len hs (by simp)
    simpa using this
   ·exact h3
 ·simp only [h44, Bool.false_eq_true, if_false]
  split
  ·exact h1
  ·rw [if_neg (by decide)]
   show (if says l (i + (digs 10 3 l i).2) [125] = true then _ else _) ≤ l.length
   split
   ·rename_i hs
    have := says_len hs (by simp)
    simpa using this
   ·exact h1
theorem times_ext (hc : Brk c) (h : i ≤ l.length) : timesT 1 (l ++ c :: b) i = timesT 1 l i := by
 unfold timesT
 simp only [bounds_ext hc h, rep_ext hc (bounds_len h)]
theorem opt_ext (h : i ≤ l.length) (hc : Brk c) (f : Int) : Ext (optT l i f) (optT (l ++ c :: b) i f) := by
 by_cases hi : i < l.length
 ·refine .of ?_
  unfold optT
  rw [says_in hi, says_in hi]
 ·have : i = l.length := by omega
  subst this
  have e : ∀ p, says l l.length [p] = false := fun p => by rw [says_one]; simp
  unfold optT
  rw [e, e]
  exact .err
theorem beh_ext (hc : Brk c) (h : i ≤ l.length) : behT (l ++ c :: b) i = behT l i := by
 unfold behT
 have h1 := Pa.name_len l i h
 rw [name_ext hc h, says_ext h (brk_ne hc (by decide)), says_ext h (brk_ne hc (by decide)), says_ext h1 (brk_ne hc (by decide))]
theorem open_ext (hc : Brk c) (h : i ≤ l.length) : Ext (openS 1 l i) (openS 1 (l ++ c :: b) i) := by
 unfold openS
 simp only [ne_eq, not_true_eq_false, if_false]
 rw [says_ext h (brk_ne hc (by decide))]
 split
 ·exact .of rfl
 ·cases hg : l[i + 1]? with
  | none => exact .err
  | some p =>
   have hlt := (List.getElem?_eq_some_iff.1 hg).1
   rw [get_in hlt, hg]
   simp only
   have h2 : i + 2 ≤ l.length := hlt
   rw [beh_ext hc h2]
   split
   ·exact .of rfl
   ·split
    ·exact .of rfl
    ·split
     ·exact .of rfl
     ·split
      ·exact .of rfl
      ·split
       ·exact .of rfl
       ·split
        ·exact opt_ext h2 hc 1
        ·split
         ·rw [says_ext h2 (brk_ne hc (by decide))]
          split
          ·rename_i hs
           have := says_len hs (by simp)
           exact opt_ext (by simpa using this) hc (-1)
          ·exact .err
         ·exact .err
theorem part_ext (hc : Brk c) (h : i ≤ l.length) (p : Int) : Ext (partT 1 l p i) (partT 1 (l ++ c :: b) p i) := by
 unfold partT
 split
 ·exact open_ext hc h
 ·split
  ·exact .of rfl
  ·split
   ·exact .of rfl
   ·split
    ·exact .of (times_ext hc h)
    ·exact .of rfl
theorem hex_ext (hc : Brk c) (h : i ≤ l.length) : hexT (l ++ c :: b) i = hexT l i := by
 unfold hexT
 rw [says_ext h (brk_ne hc (by decide))]
 split
 ·rw [digs_ext hc h 16 (by decide)]
 ·rename_i hs
  have h1 : says l i [123] = true := by simpa using hs
  have h2 := says_len h1 (by simp)
  simp only [List.length_singleton] at h2
  have h3 := Pa.digs_len 16 6 l _ h2
  simp only [digs_ext (b := b) hc h2 16 (by decide)]
  rw [says_ext h3 (brk_ne hc (by decide))]
theorem agb_ext (hc : Brk c) (h : i ≤ l.length) : agbT (l ++ c :: b) i = agbT l i := by
 unfold agbT
 rw [says_ext h (brk_ne hc (by decide))]
 split
 ·rfl
 ·rename_i hs
  have h1 : says l i [60] = true := by simpa using hs
  have h2 := says_len h1 (by simp)
  simp only [List.length_singleton] at h2
  rw [says_ext h2 (brk_ne hc (by decide))]
  have h3 : (if says l (i + 1) [45] = true then i + 2 else i + 1) ≤ l.length := by
   split
   ·rename_i h45
    have := says_len h45 (by simp)
    simpa using this
   ·exact h2
  simp only
  generalize (if says l (i + 1) [45] = true then i + 2 else i + 1) = j at h3
  have h4 := Pa.digs_len 10 3 l j h3
  have h5 := Pa.name_len l j h3
  rw [digs_ext hc h3 10 (by decide), name_ext hc h3, says_ext h4 (brk_ne hc (by decide)), says_ext h5 (brk_ne hc (by decide))]
theorem ruby_ext (hc : Brk c) (h : i ≤ l.length) (p : Int) : rubyT (l ++ c :: b) i p = rubyT l i p := by
 unfold rubyT uniT agdT
 rw [hex_ext hc h, agb_ext hc h, digs_ext hc h 16 (by decide), digs_ext hc h 10 (by decide)]
theorem esc_ext (hc : Brk c) (h : i ≤ l.length) : Ext (escT 1 l i) (escT 1 (l ++ c :: b) i) := by
 unfold escT
 cases hg : l[i]? with
 | none => exact .err
 | some p =>
  have hlt := (List.getElem?_eq_some_iff.1 hg).1
  rw [get_in hlt, hg]
  simp only [if_true]
  exact .of (ruby_ext hc hlt p)
theorem next_ext (hc : Brk c) (h : i ≤ l.length) : Ext (nextT 1 l i) (nextT 1 (l ++ c :: b) i) := by
 unfold nextT
 cases hg : l[i]? with
 | none => exact .err
 | some p =>
  have hlt : i + 1 ≤ l.length := (List.getElem?_eq_some_iff.1 hg).1
  rw [get_in hlt, hg]
  simp only
  unfold tokT
  rw [rep_ext hc hlt, rep_ext hc hlt, rep_ext hc hlt]
  split
  ·exact esc_ext hc hlt
  ·repeat' split
   all_goals first | exact .of rfl | exact part_ext hc hlt p
end
end Go.Proofs.YtklbbbldalmnbaaGreatDoor.TK
namespace Go.Proofs.YtklbbbldalmnbaaGreatDoor.Br
open TK (Brk get_in next_ext)
set_option linter.unusedVariables false
variable {c : Int} {l b : List Int} {i : Nat} {fo : Bool}
theorem isAt_ext (h : i ≤ l.length) {cs : List Int} (hc : c ∉ cs) : isAt (l ++ c :: b) i cs = isAt l i cs := by
 unfold isAt
 rw [List.drop_append_of_le_length h]
 generalize l.drop i = m
 by_cases hl : cs.length ≤ m.length
 ·rw [List.take_append_of_le_length hl]
 ·have h1 : (List.take cs.length (m ++ c :: b) == cs) = false := by
   rw [beq_eq_false_iff_ne]
   intro e
   apply hc
   rw [← e]
   have : List.take cs.length (m ++ c :: b) = m ++ List.take (cs.length - m.length) (c :: b) := by
    rw [List.take_append]
    rw [List.take_of_length_le (by omega)]
   rw [this]
   obtain ⟨k, hk⟩ : ∃ k, cs.length - m.length = k + 1 := ⟨cs.length - m.length - 1, by omega⟩
   rw [hk]
   simp
  have h2 : (List.take cs.length m == cs) = false := by
   rw [beq_eq_false_iff_ne]
   intro e
   have := congrArg List.length e
   rw [List.length_take] at this
   omega
  rw [h1, h2]
theorem brk_not (hc : Brk c) {cs : List Int} (h : (124 : Int) ∉ cs ∧ (41 : Int) ∉ cs) : c ∉ cs := by
 rcases hc with rfl | rfl
 ·exact h.1
 ·exact h.2
theorem word_ext (hc : Brk c) {x : Wd × Nat} (hi : i ≤ l.length) (h : wordE (par 1 fo) l i = .ok x) : wordE (par 1 fo) (l ++ c :: b) i = .ok x := by
 unfold wordE at h ⊢
 cases hg : l[i]? with
 | none => rw [hg] at h; cases h
 | some p =>
  have hlt := (List.getElem?_eq_some_iff.1 hg).1
  rw [hg] at h
  rw [get_in hlt, hg, isAt_ext hi (brk_not hc (by decide))]
  simp only at h ⊢
  split at h
  ·rename_i hb
   rw [if_pos hb]
   have hnx : ∀ L j, (par 1 fo).nx L j = wordOf (TK.nextT 1 L j) := fun _ _ => rfl
   rw [hnx] at h ⊢
   cases hn : TK.nextT 1 l i with
   | error e => rw [hn] at h; cases h
   | ok y => rw [hn] at h; rw [next_ext hc hi y hn]; exact h
  ·rename_i hb
   rw [if_neg hb]
   exact h
theorem letters_ext (hc : Brk c) (h : i ≤ l.length) : lettersL (l ++ c :: b) i = lettersL l i := by
 unfold lettersL
 rw [List.drop_append_of_le_length h]
 generalize l.drop i = m
 induction m with
 | nil =>
  rw [List.nil_append, List.takeWhile_cons]
  rw [if_neg (by rcases hc with rfl | rfl <;> decide)]
  rfl
 | cons p t ih =>
  rw [List.cons_append, List.takeWhile_cons, List.takeWhile_cons, ih]
theorem lets_len (l : List Int) (j : Nat) (hj : j ≤ l.length) : j + (lettersL l j).length ≤ l.length := by
 unfold lettersL
 have := (List.takeWhile_prefix (l := l.drop j) (fun c : Int => decide (97 ≤ c) && decide (c ≤ 122))).length_le
 rw [List.length_drop] at this
 omega
theorem named_ext (hc : Brk c) (hi : i + 2 ≤ l.length) : namedE (par 1 fo) (l ++ c :: b) i = namedE (par 1 fo) l i := by
 unfold namedE
 rw [isAt_ext hi (brk_not hc (by decide))]
 have hj : (if ((par 1 fo).ruby && isAt l (i + 2) [94]) = true then i + 3 else i + 2) ≤ l.length := by
  split
  ·rename_i hb
   rw [Bool.and_eq_true] at hb
   have := isAt_len hb.2 (by simp)
   simp only [List.length_cons, List.length_nil] at this
   omega
  ·omega
 simp only
 generalize (if ((par 1 fo).ruby && isAt l (i + 2) [94]) = true then i + 3 else i + 2) = j at hj
 rw [letters_ext hc hj, isAt_ext (lets_len l j hj) (brk_not hc (by decide))]
theorem cls_ext (hc : Brk c) (h : i ≤ l.length) : isCls (l ++ c :: b) i = isCls l i := isAt_ext h (brk_not hc (by decide))
theorem in_ext (hc : Brk c) (h : i ≤ l.length) : isIn (par 1 fo) (l ++ c :: b) i = isIn (par 1 fo) l i := by
 unfold isIn
 rw [isAt_ext h (brk_not hc (by decide)), cls_ext hc h]
theorem and_ext (hc : Brk c) (h : i ≤ l.length) : isAnd (par 1 fo) (l ++ c :: b) i = isAnd (par 1 fo) l i := by
 unfold isAnd
 rw [isAt_ext h (brk_not hc (by decide))]
theorem rng_ext (hc : Brk c) (h : i ≤ l.length) : isRng (l ++ c :: b) i = isRng l i := by
 unfold isRng
 rw [isAt_ext h (brk_not hc (by decide)), isAt_ext h (brk_not hc (by decide))]
theorem end_ext (hc : Brk c) {p : Int} {x : Int × Nat} (hi : i ≤ l.length) (h : endE (par 1 fo) l i p = .ok x) : endE (par 1 fo) (l ++ c :: b) i p = .ok x := by
 unfold endE at h ⊢
 rw [cls_ext hc hi, in_ext hc hi, and_ext hc hi]
 split at h
 ·cases h
 ·rename_i hb
  rw [if_neg hb]
  cases hw : wordE (par 1 fo) l i with
  | error e => rw [hw] at h; cases h
  | ok y => rw [hw] at h; rw [word_ext hc hi hw]; exact h
def RecS (c : Int) (l b : List Int) (rec : List Int → Nat → Nat → Except BE (PS × Nat)) : Prop := ∀ i deep x, i ≤ l.length → rec l i deep = .ok x → rec (l ++ c :: b) i deep = .ok x
theorem item_ext (hc : Brk c) {rec : List Int → Nat → Nat → Except BE (PS × Nat)} (hs : RecS c l b rec) {deep : Nat} {x : PS × Nat} (hi : i ≤ l.length) (h : itemE (par 1 fo) rec l i deep = .ok x) : itemE (par 1 fo) rec (l ++ c :: b) i deep = .ok x := by
 unfold itemE at h ⊢
 rw [cls_ext hc hi, in_ext hc hi]
 split at h
 ·rename_i hcl
  rw [if_pos hcl]
  have := isAt_len (show isAt l i [91, 58] = true from hcl) (by simp)
  rw [named_ext hc (by simpa using this)]
  exact h
 ·rename_i hcl
  rw [if_neg hcl]
  split at h
  ·rename_i hin
   rw [if_pos hin]
   split at h
   ·cases h
   ·rename_i hd
    rw [if_neg hd]
    have h1 : isAt l i [91] = true := by unfold isIn at hin; simp at hin; exact hin.1.2
    have := isAt_len h1 (by simp)
    exact hs _ _ _ (by simpa using this) h
  ·rename_i hin
   rw [if_neg hin]
   cases hw : wordE (par 1 fo) l i with
   | error e => rw [hw] at h; cases h
   | ok y =>
    rw [hw] at h
    rw [word_ext hc hi hw]
    obtain ⟨y, k⟩ := y
    have hk := (word_pos (par_nx 1 fo) hw).2
    cases y with
    | cls t no => exact h
    | pt p =>
     simp only at h ⊢
     rw [rng_ext hc hk]
     split at h
     ·rename_i hr
      rw [if_pos hr]
      have h45 : isAt l k [45] = true := by unfold isRng at hr; simp at hr; exact hr.1
      have := isAt_len h45 (by simp)
      cases he : endE (par 1 fo) l (k + 1) p with
      | error e => rw [he] at h; cases h
      | ok z => rw [he] at h; rw [end_ext hc (by simpa using this) he]; exact h
     ·rename_i hr
      rw [if_neg hr]
      exact h
theorem pend_ext (hc : Brk c) {first : Nat} (h : i ≤ l.length) : partEnd (par 1 fo) (l ++ c :: b) first i = partEnd (par 1 fo) l first i := by
 unfold partEnd
 rw [isAt_ext h (brk_not hc (by decide)), and_ext hc h]
theorem items_ext (hc : Brk c) {rec : List Int → Nat → Nat → Except BE (PS × Nat)} (hr : RecP rec) (hs : RecS c l b rec) {first deep : Nat} : ∀ (n m i : Nat) (acc : PS) (x : PS × Nat), i ≤ l.length → l.length + 2 ≤ n + i → l.length + 2 ≤ m + i → itemsE (par 1 fo) rec l first deep n i acc = .ok x → itemsE (par 1 fo) rec (l ++ c :: b) first deep m i acc = .ok x
 | 0, m, i, acc, x, hi, h1, h2, h => by omega
 | n + 1, 0, i, acc, x, hi, h1, h2, h => by omega
 | n + 1, m + 1, i, acc, x, hi, h1, h2, h => by
  unfold itemsE at h ⊢
  rw [pend_ext hc hi]
  split at h
  ·rename_i he
   rw [if_pos he]
   exact h
  ·rename_i he
   rw [if_neg he]
   cases hq : itemE (par 1 fo) rec l i deep with
   | error e => rw [hq] at h; cases h
   | ok y =>
    rw [hq] at h
    rw [item_ext hc hs hi hq]
    obtain ⟨f, k⟩ := y
    have hk := item_pos (par_nx 1 fo) hr hq
    exact items_ext hc hr hs n m k _ x hk.2 (by omega) (by omega) h
theorem part_ext (hc : Brk c) {rec : List Int → Nat → Nat → Except BE (PS × Nat)} (hr : RecP rec) (hs : RecS c l b rec) {first deep : Nat} {x : PS × Nat} (hi : i ≤ l.length) (h : partE (par 1 fo) rec l first deep i = .ok x) : partE (par 1 fo) rec (l ++ c :: b) first deep i = .ok x := by
 unfold partE at h ⊢
 cases hq : itemsE (par 1 fo) rec l first deep (l.length + 2 - i) i (fun _ => false) with
 | error e => rw [hq] at h; cases h
 | ok y =>
  rw [hq] at h
  rw [items_ext hc hr hs _ _ _ _ y hi (by omega) (by simp only [List.length_append, List.length_cons]; omega) hq]
  exact h
theorem ands_ext (hc : Brk c) {rec : List Int → Nat → Nat → Except BE (PS × Nat)} (hr : RecP rec) (hs : RecS c l b rec) {first deep : Nat} : ∀ (n m i : Nat) (acc : PS) (x : PS × Nat), i ≤ l.length → l.length + 2 ≤ n + i → l.length + 2 ≤ m + i → andsE (par 1 fo) rec l first deep n i acc = .ok x → andsE (par 1 fo) rec (l ++ c :: b) first deep m i acc = .ok x
 | 0, m, i, acc, x, hi, h1, h2, h => by omega
 | n + 1, 0, i, acc, x, hi, h1, h2, h => by omega
 | n + 1, m + 1, i, acc, x, hi, h1, h2, h => by
  unfold andsE at h ⊢
  rw [and_ext hc hi]
  split at h
  ·rename_i ha
   rw [if_pos ha]
   have h0 : isAt l i [38, 38] = true := by unfold isAnd at ha; simp at ha; exact ha.2
   have h3 := isAt_len h0 (by simp)
   simp only [List.length_cons, List.length_nil] at h3
   cases hq : partE (par 1 fo) rec l first deep (i + 2) with
   | error e => rw [hq] at h; cases h
   | ok y =>
    rw [hq] at h
    rw [part_ext hc hr hs h3 hq]
    obtain ⟨f, k⟩ := y
    have hk := part_pos (par_nx 1 fo) hr h3 hq
    simp only at h ⊢
    cases hm : meetE (par 1 fo) acc f with
    | error e => rw [hm] at h; cases h
    | ok g => rw [hm] at h; exact ands_ext hc hr hs n m k _ x hk.2 (by omega) (by omega) h
  ·rename_i ha
   rw [if_neg ha]
   exact h
theorem body_ext (hc : Brk c) {rec : List Int → Nat → Nat → Except BE (PS × Nat)} (hr : RecP rec) (hs : RecS c l b rec) {deep : Nat} {x : PS × Nat} (hi : i ≤ l.length) (h : bodyE (par 1 fo) rec l i deep = .ok x) : bodyE (par 1 fo) rec (l ++ c :: b) i deep = .ok x := by
 unfold bodyE at h ⊢
 cases hq : partE (par 1 fo) rec l i deep i with
 | error e => rw [hq] at h; cases h
 | ok y =>
  rw [hq] at h
  rw [part_ext hc hr hs hi hq]
  obtain ⟨f, k⟩ := y
  have hk := part_pos (par_nx 1 fo) hr hi hq
  simp only at h ⊢
  cases ha : andsE (par 1 fo) rec l i deep (l.length + 2 - k) k f with
  | error e => rw [ha] at h; cases h
  | ok z =>
   rw [ha] at h
   rw [ands_ext hc hr hs _ _ _ _ z hk.2 (by omega) (by simp only [List.length_append, List.length_cons]; omega) ha]
   obtain ⟨g, m⟩ := z
   have hm := ands_pos (par_nx 1 fo) hr _ _ _ _ _ hk.2 ha
   simp only at h ⊢
   rw [isAt_ext hm.2 (brk_not hc (by decide))]
   exact h
theorem expr_ext (hc : Brk c) : ∀ n, RecS c l b (exprF (par 1 fo) n)
 | 0 => fun i deep x hi h => by cases h
 | n + 1 => fun i deep x hi h => by
  unfold exprF exprG at h ⊢
  rw [isAt_ext hi (brk_not hc (by decide))]
  split at h
  ·rename_i h94
   rw [if_pos h94]
   have h3 := isAt_len h94 (by simp)
   simp only [List.length_cons, List.length_nil] at h3
   cases hq : bodyE (par 1 fo) (exprF (par 1 fo) n) l (i + 1) deep with
   | error e => rw [hq] at h; cases h
   | ok y =>
    rw [hq] at h
    rw [body_ext hc (expr_pos (par_nx 1 fo) n) (expr_ext hc n) h3 hq]
    exact h
  ·rename_i h94
   rw [if_neg h94]
   exact body_ext hc (expr_pos (par_nx 1 fo) n) (expr_ext hc n) hi h
theorem parse_ext (hc : Brk c) {x : PS × Nat} (hp : TK.patE 1 (l ++ c :: b) = 0) (hi : i ≤ l.length) (h : parseM 1 fo l (i : Int) = .ok x) : parseM 1 fo (l ++ c :: b) (i : Int) = .ok x := by
 unfold parseM at h ⊢
 rw [if_neg (by omega), if_neg (by simp only [List.length_append, List.length_cons]; omega)]
 split at h
 ·cases h
 ·split at h
  ·cases h
  ·unfold readM at h ⊢
   rw [Int.toNat_natCast] at h ⊢
   cases hq : exprF (par 1 fo) 21 l i 0 with
   | error e => rw [hq] at h; cases h
   | ok y =>
    rw [hq] at h
    rw [expr_ext hc 21 i 0 y hi hq]
    exact h
end Go.Proofs.YtklbbbldalmnbaaGreatDoor.Br
namespace Go.Proofs.YtklbbbldalmnbaaGreatDoor.Pa
open TR (Tr)
open Br (BE PS)
open TK (Brk get_in next_ext)
set_option linter.unusedVariables false
variable {c : Int} {l b : List Int} {s s' : St}
def tokC (c : Int) : TK.Tok := if c = 124 then { kind := 9 } else { kind := 8 }
theorem next_at (hc : Brk c) : TK.nextT 1 (l ++ c :: b) l.length = .ok (tokC c, l.length + 1) := by
 unfold TK.nextT
 rw [TK.get_at]
 rcases hc with rfl | rfl <;> rfl
def upS (c : Int) (l : List Int) (s : St) : St := if s.pos = l.length then { s with tok := tokC c, next := l.length + 1 } else s
theorem up_in (h : s.pos < l.length) : upS c l s = s := if_neg (by omega)
theorem tokC_kind (hc : Brk c) : (tokC c).kind = 9 ∨ (tokC c).kind = 8 := by rcases hc with rfl | rfl <;> simp [tokC]
theorem adv_ext (hc : Brk c) (hn : s.next ≤ l.length) (h : advM 1 l s = .ok s') : advM 1 (l ++ c :: b) s = .ok (upS c l s') := by
 unfold advM at h ⊢
 rw [if_neg (by simp only [List.length_append, List.length_cons]; omega)]
 split at h
 ·rename_i he
  cases h
  rw [he, next_at hc]
  simp [upS]
 ·rename_i he
  cases hq : TK.nextT 1 l s.next with
  | error z => rw [hq] at h; cases h
  | ok y =>
   rw [hq] at h
   rw [next_ext hc hn y hq]
   obtain ⟨t, k⟩ := y
   cases h
   show _ = Except.ok (if s.next = l.length then _ else _)
   rw [if_neg he]
theorem set_ext (hc : Brk c) (hp : TK.patE 1 (l ++ c :: b) = 0) (hn : s.next ≤ l.length) {x : PS × Nat} (h : setM 1 l s = .ok x) : setM 1 (l ++ c :: b) s = .ok x := by
 unfold setM at h ⊢
 split at h
 ·rename_i h1
  rw [if_pos h1]; exact h
 ·rename_i h1
  rw [if_neg h1]
  split at h
  ·rename_i h4
   rw [if_pos h4]; exact h
  ·rename_i h4
   rw [if_neg h4]
   split at h
   ·rename_i h5
    rw [if_pos h5]
    cases hq : Br.parseM 1 s.folded l (s.next : Int) with
    | error e => rw [hq] at h; cases h
    | ok y => rw [hq] at h; rw [Br.parse_ext hc hp hn hq]; exact h
   ·rename_i h5
    rw [if_neg h5]; exact h
theorem single_ext (hc : Brk c) (hp : TK.patE 1 (l ++ c :: b) = 0) (hn : s.next ≤ l.length) {x : Tr × St} (h : singleM 1 l s = .ok x) : singleM 1 (l ++ c :: b) s = .ok x := by
 unfold singleM at h ⊢
 split at h
 ·rename_i h1
  rw [if_pos h1]; exact h
 ·rename_i h1
  rw [if_neg h1]
  split at h
  ·rename_i h2
   rw [if_pos h2]; exact h
  ·rename_i h2
   rw [if_neg h2]
   split at h
   ·rename_i h3
    rw [if_pos h3]; exact h
   ·rename_i h3
    rw [if_neg h3]
    cases hq : setM 1 l s with
    | error e => rw [hq] at h; cases h
    | ok y => rw [hq] at h; rw [set_ext hc hp hn hq]; exact h
def RecU (c : Int) (l : List Int) (dp : Nat) (rec rec' : Rd) : Prop := ∀ fo s t s1, Inv' l s → s.deep = dp → rec fo s = .ok (t, s1) → s1.pos < l.length → rec' fo s = .ok (t, s1)
theorem open_ext (hc : Brk c) (hpe : TK.patE 1 l = 0) {rec rec' : Rd} (hrg : RecG l (s.deep + 1) rec) (hu : RecU c l (s.deep + 1) rec rec') {t : Tr} (h : Inv' l s) (hp : s.pos < l.length) (hr : openM 1 l rec s = .ok (t, s')) : openM 1 (l ++ c :: b) rec' s = .ok (t, upS c l s') := by
 have h20' := h.inv.deep
 unfold openM at hr ⊢
 split at hr
 ·cases hr
 ·rename_i h20
  rw [if_neg h20]
  split at hr
  ·cases hr
  ·rename_i s1 heq1
   have hs1 : InvA l s1 ∧ s1.deep = s.deep := by
    split at heq1
    ·obtain ⟨a, b, c, e, _⟩ := begin_inv h.toA heq1
     exact ⟨a, e⟩
    ·cases heq1; exact ⟨h.toA, rfl⟩
   split at hr
   ·cases hr
   ·rename_i s2 heq2
    obtain ⟨i2, p2, _, d2, g2, n2, a2⟩ := adv_inv hpe hs1.1 heq2
    have i2' : Inv' l { s2 with deep := s2.deep + 1 } := ⟨⟨i2.inv.pos, i2.inv.next, i2.inv.on, i2.inv.off, i2.inv.ags, i2.inv.nms, i2.inv.grp, by show s2.deep + 1 ≤ 20; omega⟩, i2.pn⟩
    have hd2 : ({ s2 with deep := s2.deep + 1 } : St).deep = s.deep + 1 := by show s2.deep + 1 = _; omega
    split at hr
    ·cases hr
    ·rename_i t3 s3 heq3
     have hg := hrg _ _ _ _ i2' hd2 heq3
     split at hr
     ·cases hr
     ·rename_i h8
      have h3 : s3.pos < l.length := by
       have h1 := hg.inv.inv.pos
       have h2 : s3.pos ≠ l.length := fun e => by have := hg.inv.inv.off e; rw [this] at h8; exact h8 (by decide)
       omega
      have h2 : s2.pos < l.length := Nat.lt_of_le_of_lt hg.pos h3
      rw [adv_ext hc hs1.1.next heq2, up_in h2]
      simp only
      rw [hu _ _ _ _ i2' hd2 heq3 h3]
      simp only
      rw [if_neg h8]
      split at hr
      ·cases hr
      ·rename_i s4 heq4
       rw [adv_ext (s := { s3 with deep := s3.deep - 1 }) hc hg.inv.inv.next heq4]
       simp only
       split at hr
       ·rename_i h1
        rw [if_pos h1]; cases hr; rfl
       ·rename_i h1
        rw [if_neg h1]; cases hr; rfl
theorem atom_ext (hc : Brk c) (hpe : TK.patE 1 l = 0) (hp' : TK.patE 1 (l ++ c :: b) = 0) {rec rec' : Rd} (hrg : RecG l (s.deep + 1) rec) (hu : RecU c l (s.deep + 1) rec rec') {t : Tr} (h : Inv' l s) (hp : s.pos < l.length) (hr : atomM 1 l rec s = .ok (t, s')) : atomM 1 (l ++ c :: b) rec' s = .ok (t, upS c l s') := by
 unfold atomM at hr ⊢
 split at hr
 ·cases hr
 ·rename_i h6
  rw [if_neg h6]
  split at hr
  ·rename_i h7
   rw [if_pos h7]
   exact open_ext hc hpe hrg hu h hp hr
  ·rename_i h7
   rw [if_neg h7]
   split at hr
   ·cases hr
   ·rename_i t1 s1 heq
    rw [single_ext hc hp' h.inv.next heq]
    simp only
    split at hr
    ·cases hr
    ·rename_i s2 heq2
     rw [adv_ext hc (single_inv hpe h hp heq).1.next heq2]
     cases hr; rfl
theorem up_kind (hc : Brk c) (h : Inv' l s) (k : Int) (hk : k ≠ 9 ∧ k ≠ 8 ∧ k ≠ 0) : (upS c l s).tok.kind = k ↔ s.tok.kind = k := by
 unfold upS
 split
 ·rename_i he
  have := h.inv.off he
  have h2 := tokC_kind hc
  show (tokC c).kind = k ↔ _
  rw [this]
  constructor
  ·intro e; omega
  ·intro e; exact absurd e.symm hk.2.2
 ·rfl
theorem reps_ext (hc : Brk c) (hpe : TK.patE 1 l = 0) {may : Bool} : ∀ (n ahead : Nat) (t : Tr) (s : St) (t' : Tr) (s' : St), Inv' l s → repsM 1 l may n ahead t s = .ok (t', s') → repsM 1 (l ++ c :: b) may n ahead t (upS c l s) = .ok (t', upS c l s')
 | 0, ahead, t, s, t', s', hi, hr => by cases hr; rfl
 | n + 1, ahead, t, s, t', s', hi, hr => by
  unfold repsM at hr ⊢
  split at hr
  ·rename_i h6
   have hp : s.pos < l.length := by
    have h1 := hi.inv.pos
    have h2 : s.pos ≠ l.length := fun e => by have := hi.inv.off e; rw [this] at h6; exact absurd h6 (by decide)
    omega
   rw [up_in hp, if_pos h6]
   split at hr
   ·cases hr
   ·rename_i hm
    rw [if_neg hm]
    split at hr
    ·cases hr
    ·rename_i h3
     rw [if_neg h3]
     split at hr
     ·cases hr
     ·rename_i s1 heq
      rw [adv_ext hc hi.inv.next heq]
      exact reps_ext hc hpe n (ahead + 1) _ s1 t' s' (adv_inv hpe hi.toA heq).1 hr
  ·rename_i h6
   rw [if_neg (fun e => h6 ((up_kind hc hi 6 (by decide)).1 e))]
   cases hr; rfl
theorem piece_ext (hc : Brk c) (hpe : TK.patE 1 l = 0) (hp' : TK.patE 1 (l ++ c :: b) = 0) {rec rec' : Rd} (hrg : RecG l (s.deep + 1) rec) (hu : RecU c l (s.deep + 1) rec rec') {t : Tr} (h : Inv' l s) (hp : s.pos < l.length) (hr : pieceM 1 l rec s = .ok (t, s')) : pieceM 1 (l ++ c :: b) rec' s = .ok (t, upS c l s') := by
 unfold pieceM at hr ⊢
 split at hr
 ·cases hr
 ·rename_i t1 s1 heq
  rw [atom_ext hc hpe hp' hrg hu h hp heq]
  exact reps_ext hc hpe _ _ _ _ _ _ (atom_inv hpe hrg h hp heq).1.inv hr
theorem end_up (hc : Brk c) (h : Inv' l s) : endM (l ++ c :: b) (upS c l s) = endM l s := by
 unfold endM upS
 have h1 := h.inv.pos
 split
 ·rename_i he
  have h2 := tokC_kind hc
  rw [show decide (s.pos = l.length) = true by simpa using he]
  simp only [Bool.true_or]
  rcases h2 with h2 | h2 <;> simp [h2]
 ·rename_i he
  rw [show decide (s.pos = l.length) = false by simpa using he, show decide (s.pos = (l ++ c :: b).length) = false by simp only [List.length_append, List.length_cons, decide_eq_false_iff_not]; omega]
theorem pieces_ext (hc : Brk c) (hpe : TK.patE 1 l = 0) (hp' : TK.patE 1 (l ++ c :: b) = 0) {rec rec' : Rd} {dp : Nat} (hrg : RecG l (dp + 1) rec) (hu : RecU c l (dp + 1) rec rec') : ∀ (n m : Nat) (ps : List Tr) (s : St) (ps' : List Tr) (s' : St), Inv' l s → s.deep = dp → l.length + 1 ≤ n + s.pos → l.length + 1 ≤ m + s.pos → piecesM 1 l rec n ps s = .ok (ps', s') → piecesM 1 (l ++ c :: b) rec' m ps (upS c l s) = .ok (ps', upS c l s')
 | 0, m, ps, s, ps', s', hi, hd, h1, h2, hr => by have := hi.inv.pos; omega
 | n + 1, 0, ps, s, ps', s', hi, hd, h1, h2, hr => by have := hi.inv.pos; omega
 | n + 1, m + 1, ps, s, ps', s', hi, hd, h1, h2, hr => by
  unfold piecesM at hr ⊢
  rw [end_up hc hi]
  split at hr
  ·rename_i he
   rw [if_pos he]; cases hr; rfl
  ·rename_i hend
   rw [if_neg hend]
   have hp : s.pos < l.length := by
    have h1 := hi.inv.pos
    have h2 : s.pos ≠ l.length := fun e => hend (by unfold endM; simp [e])
    omega
   rw [up_in hp]
   split at hr
   ·cases hr
   ·rename_i t s1 heq
    have hrg' : RecG l (s.deep + 1) rec := by rw [hd]; exact hrg
    obtain ⟨g, hlt⟩ := piece_inv hpe hrg' hi hp heq
    rw [piece_ext hc hpe hp' hrg' (by rw [hd]; exact hu) hi hp heq]
    exact pieces_ext hc hpe hp' hrg hu n m _ s1 ps' s' g.inv (g.deep.trans hd) (by omega) (by omega) hr
theorem branch_ext (hc : Brk c) (hpe : TK.patE 1 l = 0) (hp' : TK.patE 1 (l ++ c :: b) = 0) {rec rec' : Rd} (hrg : RecG l (s.deep + 1) rec) (hu : RecU c l (s.deep + 1) rec rec') {t : Tr} (h : Inv' l s) (hr : branchM 1 l rec s = .ok (t, s')) : branchM 1 (l ++ c :: b) rec' (upS c l s) = .ok (t, upS c l s') := by
 unfold branchM at hr ⊢
 split at hr
 ·cases hr
 ·rename_i ps s1 heq
  rw [pieces_ext hc hpe hp' hrg hu _ ((l ++ c :: b).length + 1) _ _ _ _ h rfl (by omega) (by simp only [List.length_append, List.length_cons]; omega) heq]
  cases hr; rfl
end Go.Proofs.YtklbbbldalmnbaaGreatDoor.Pa
namespace Go.Proofs.YtklbbbldalmnbaaGreatDoor.Pa
open TR (Tr)
open Br (BE PS)
open TK (Brk)
set_option linter.unusedVariables false
variable {c : Int} {l b : List Int} {s s' : St}
theorem pos_of9 (hi : Inv' l s) (h9 : s.tok.kind = 9) : s.pos < l.length := by
 have h1 := hi.inv.pos
 have h2 : s.pos ≠ l.length := fun e => by have := hi.inv.off e; rw [this] at h9; exact absurd h9 (by decide)
 omega
theorem bars_up (hc : Brk c) (hpe : TK.patE 1 l = 0) (hp' : TK.patE 1 (l ++ c :: b) = 0) {rec rec' : Rd} {dp : Nat} (hrg : RecG l (dp + 1) rec) (hu : RecU c l (dp + 1) rec rec') : ∀ (n m : Nat) (bs : List Tr) (s : St) (bs' : List Tr) (s' : St), Inv' l s → s.deep = dp → l.length + 1 ≤ n + s.pos → l.length + 1 ≤ m + s.pos → barsM 1 l rec n bs s = .ok (bs', s') → ∃ m', m + s.pos ≤ m' + s'.pos ∧ Inv' l s' ∧ s'.deep = dp ∧ s.pos ≤ s'.pos ∧ s'.tok.kind ≠ 9 ∧ barsM 1 (l ++ c :: b) rec' m bs (upS c l s) = barsM 1 (l ++ c :: b) rec' m' bs' (upS c l s')
 | 0, m, bs, s, bs', s', hi, hd, h1, h2, hr => by have := hi.inv.pos; omega
 | n + 1, 0, bs, s, bs', s', hi, hd, h1, h2, hr => by have := hi.inv.pos; omega
 | n + 1, m + 1, bs, s, bs', s', hi, hd, h1, h2, hr => by
  unfold barsM at hr
  split at hr
  ·rename_i h9
   have hp := pos_of9 hi h9
   have hlt := (hi.inv.on hp).1
   cases heq1 : advM 1 l s with
   | error e => rw [heq1] at hr; cases hr
   | ok s1 =>
    rw [heq1] at hr
    simp only at hr
    obtain ⟨i2, p2, _, d2, _, _, a2⟩ := adv_inv hpe hi.toA heq1
    have hd1 : s1.deep = dp := d2.trans hd
    have hrg' : RecG l (s1.deep + 1) rec := by rw [hd1]; exact hrg
    cases heq2 : branchM 1 l rec s1 with
    | error e => rw [heq2] at hr; cases hr
    | ok y =>
     obtain ⟨t, s2⟩ := y
     rw [heq2] at hr
     simp only at hr
     have hg := branch_inv hpe hrg' i2 heq2
     have hgp := hg.pos
     obtain ⟨m', k1, k2, k3, k4, k5, k6⟩ := bars_up hc hpe hp' hrg hu n m _ s2 bs' s' hg.inv (hg.deep.trans hd1) (by omega) (by omega) hr
     refine ⟨m', by omega, k2, k3, by omega, k5, ?_⟩
     rw [← k6, up_in hp]
     conv => lhs; unfold barsM
     rw [if_pos h9, adv_ext hc hi.inv.next heq1]
     simp only
     rw [branch_ext hc hpe hp' hrg' (by rw [hd1]; exact hu) i2 heq2]
  ·rename_i h9
   cases hr
   exact ⟨m + 1, Nat.le_refl _, hi, hd, Nat.le_refl _, h9, rfl⟩
theorem branchesG_u (hc : Brk c) (hpe : TK.patE 1 l = 0) (hp' : TK.patE 1 (l ++ c :: b) = 0) {rec rec' : Rd} {dp : Nat} (hrg : RecG l (dp + 1) rec) (hu : RecU c l (dp + 1) rec rec') : RecU c l dp (branchesG 1 l rec) (branchesG 1 (l ++ c :: b) rec') := by
 intro fo s t s1 h hd hr hlt
 unfold branchesG at hr ⊢
 have hrg' : RecG l (({ s with folded := fo } : St).deep + 1) rec := by show RecG l (s.deep + 1) rec; rw [hd]; exact hrg
 have hu' : RecU c l (({ s with folded := fo } : St).deep + 1) rec rec' := by show RecU c l (s.deep + 1) rec rec'; rw [hd]; exact hu
 cases heq1 : branchM 1 l rec { s with folded := fo } with
 | error e => rw [heq1] at hr; cases hr
 | ok y =>
  obtain ⟨t1, s1'⟩ := y
  rw [heq1] at hr
  have hg := branch_inv hpe hrg' (inv_folded h fo) heq1
  have hgp : s.pos ≤ s1'.pos := hg.pos
  simp only at hr
  cases heq2 : barsM 1 l rec (l.length + 1) [t1] s1' with
  | error e => rw [heq2] at hr; cases hr
  | ok z =>
   obtain ⟨bs, s2⟩ := z
   rw [heq2] at hr
   cases hr
   have h2lt : s2.pos < l.length := hlt
   obtain ⟨m', k1, k2, k3, k4, k5, k6⟩ := bars_up hc hpe hp' hrg hu _ ((l ++ c :: b).length + 1) _ _ _ _ hg.inv (hg.deep.trans hd) (by omega) (by simp only [List.length_append, List.length_cons]; omega) heq2
   have e0 : upS c l { s with folded := fo } = { s with folded := fo } := up_in (show s.pos < l.length by omega)
   have hb := branch_ext hc hpe hp' hrg' hu' (inv_folded h fo) heq1
   rw [e0] at hb
   rw [hb]
   simp only
   rw [k6, up_in h2lt]
   have : barsM 1 (l ++ c :: b) rec' m' bs s2 = .ok (bs, s2) := by
    cases m' with
    | zero => rfl
    | succ m' => unfold barsM; rw [if_neg k5]
   rw [this]
theorem branchesF_u (hc : Brk c) (hpe : TK.patE 1 l = 0) (hp' : TK.patE 1 (l ++ c :: b) = 0) : ∀ (n dp : Nat), RecU c l dp (branchesF 1 l n) (branchesF 1 (l ++ c :: b) n)
 | 0, dp => fun fo s t s1 _ _ hr _ => by cases hr
 | n + 1, dp => branchesG_u hc hpe hp' (branchesF_inv hpe n (dp + 1)) (branchesF_u hc hpe hp' n (dp + 1))
end Go.Proofs.YtklbbbldalmnbaaGreatDoor.Pa
namespace Go.Proofs.YtklbbbldalmnbaaGreatDoor.Pa
open TR (Tr)
open Br (BE PS)
set_option linter.unusedVariables false
variable {p d : Int} {l : List Int} {s s' : St}
theorem next_mv (d p : Int) (l : List Int) (i : Nat) : TK.nextT d (p :: l) (i + 1) = TK.shR 1 (TK.nextT d l i) := TK.next_sh [p] l d i
theorem nx_mv (d : Int) (fo : Bool) : Br.ShN (Br.par d fo) := by
 intro c l i x k h
 have hnx : ∀ L j, (Br.par d fo).nx L j = Br.wordOf (TK.nextT 1 L j) := fun _ _ => rfl
 rw [hnx] at h ⊢
 rw [next_mv]
 cases hn : TK.nextT 1 l i with
 | error e => rw [hn] at h; cases h
 | ok y =>
  rw [hn] at h
  obtain ⟨t, m⟩ := y
  unfold Br.wordOf at h
  unfold TK.shR Br.wordOf
  simp only at h ⊢
  split at h
  ·rename_i h1
   rw [if_pos h1]; cases h; rfl
  ·rename_i h1
   rw [if_neg h1]
   split at h
   ·rename_i h4
    rw [if_pos h4]; cases h; rfl
   ·cases h
theorem parse_mv {fo : Bool} {i : Nat} {f : PS} {k : Nat} (hp : TK.patE d (p :: l) = 0) (h : Br.parseM d fo l (i : Int) = .ok (f, k)) : Br.parseM d fo (p :: l) ((i + 1 : Nat) : Int) = .ok (f, k + 1) := by
 unfold Br.parseM at h ⊢
 rw [if_neg (by omega)]
 split at h
 ·cases h
 ·split at h
  ·cases h
  ·rename_i hi
   rw [if_neg (by simp only [List.length_cons]; omega)]
   unfold Br.readM at h ⊢
   rw [Int.toNat_natCast] at h ⊢
   cases hq : Br.exprF (Br.par d fo) 21 l i 0 with
   | error e => rw [hq] at h; cases h
   | ok y =>
    rw [hq] at h
    obtain ⟨f', k'⟩ := y
    rw [Br.exprF_sh (nx_mv d fo) 21 p l i 0 f' k' hq]
    simp only at h ⊢
    split at h
    ·cases h
    ·rename_i hm
     rw [if_neg hm]; cases h; rfl
def mvS (s : St) : St := { s with pos := s.pos + 1, next := s.next + 1, agains := s.agains.map fun a => { a with pos := a.pos + 1 } }
theorem adv_mv (h : advM d l s = .ok s') : advM d (p :: l) (mvS s) = .ok (mvS s') := by
 unfold advM at h ⊢
 rw [show (mvS s).next = s.next + 1 from rfl, next_mv]
 split at h
 ·rename_i he
  cases h
  rw [if_pos (by rw [List.length_cons, he])]
  rfl
 ·rename_i he
  rw [if_neg (by rw [List.length_cons]; omega)]
  cases hn : TK.nextT d l s.next with
  | error e => rw [hn] at h; cases h
  | ok y => rw [hn] at h; cases h; rfl
theorem again_mv {t : Tr} (h : againM s = .ok (t, s')) : againM (mvS s) = .ok (t, mvS s') := by
 unfold againM at h ⊢
 rw [show (mvS s).tok = s.tok from rfl, show (mvS s).groups = s.groups from rfl]
 simp only at h ⊢
 generalize (if s.tok.num < 0 then s.tok.num + ((s.groups + 1 : Nat) : Int) else s.tok.num) = n at h ⊢
 split at h
 ·cases h
 ·rename_i hn
  cases h
  rw [if_neg hn]
  simp [mvS]
theorem begin_mv {t : ByteArray} (h : beginM s t = .ok s') : beginM (mvS s) t = .ok (mvS s') := by
 unfold beginM at h ⊢
 show (if s.groups = 20 then _ else if t.toList = [] then _ else if hasName s.names t = true then _ else _) = _
 split at h
 ·cases h
 ·rename_i h1
  rw [if_neg h1]
  split at h
  ·rename_i h2
   rw [if_pos h2]; cases h; rfl
  ·rename_i h2
   rw [if_neg h2]
   split at h
   ·cases h
   ·rename_i h3
    rw [if_neg h3]; cases h; rfl
theorem set_mv (hp : TK.patE d (p :: l) = 0) {f : PS} {k : Nat} (h : setM d l s = .ok (f, k)) : setM d (p :: l) (mvS s) = .ok (f, k + 1) := by
 unfold setM at h ⊢
 rw [show (mvS s).next = s.next + 1 from rfl, show (mvS s).tok = s.tok from rfl, show (mvS s).folded = s.folded from rfl]
 split at h
 ·rename_i h1
  rw [if_pos h1]; cases h; rfl
 ·rename_i h1
  rw [if_neg h1]
  split at h
  ·rename_i h4
   rw [if_pos h4]; cases h; rfl
  ·rename_i h4
   rw [if_neg h4]
   split at h
   ·rename_i h5
    rw [if_pos h5]
    cases hq : Br.parseM d s.folded l (s.next : Int) with
    | error e => rw [hq] at h; cases h
    | ok y =>
     rw [hq] at h
     obtain ⟨f', k'⟩ := y
     rw [parse_mv hp hq]
     cases h; rfl
   ·rename_i h5
    rw [if_neg h5]; cases h; rfl
end Go.Proofs.YtklbbbldalmnbaaGreatDoor.Pa
namespace Go.Proofs.YtklbbbldalmnbaaGreatDoor.Pa
open TR (Tr)
open Br (BE PS)
set_option linter.unusedVariables false
variable {p d : Int} {l : List Int} {s s' : St}
theorem single_mv (hp : TK.patE d (p :: l) = 0) {t : Tr} (h : singleM d l s = .ok (t, s')) : singleM d (p :: l) (mvS s) = .ok (t, mvS s') := by
 unfold singleM at h ⊢
 rw [show (mvS s).tok = s.tok from rfl]
 split at h
 ·rename_i h1
  rw [if_pos h1]; cases h; rfl
 ·rename_i h1
  rw [if_neg h1]
  split at h
  ·rename_i h2
   rw [if_pos h2]; exact again_mv h
  ·rename_i h2
   rw [if_neg h2]
   split at h
   ·rename_i h3
    rw [if_pos h3]; cases h; rfl
   ·rename_i h3
    rw [if_neg h3]
    cases hq : setM d l s with
    | error e => rw [hq] at h; cases h
    | ok y =>
     rw [hq] at h
     obtain ⟨f, k⟩ := y
     rw [set_mv hp hq]
     cases h; rfl
def RecM (l : List Int) (dp : Nat) (rec rec' : Rd) : Prop := ∀ fo s t s1, Inv' l s → s.deep = dp → rec fo s = .ok (t, s1) → rec' fo (mvS s) = .ok (t, mvS s1)
theorem open_mv (hpe : TK.patE d l = 0) {rec rec' : Rd} (hrg : RecG l (s.deep + 1) rec) (hm : RecM l (s.deep + 1) rec rec') {t : Tr} (h : Inv' l s) (hp : s.pos < l.length) (hr : openM d l rec s = .ok (t, s')) : openM d (p :: l) rec' (mvS s) = .ok (t, mvS s') := by
 have h20' := h.inv.deep
 unfold openM at hr ⊢
 rw [show (mvS s).tok = s.tok from rfl, show (mvS s).deep = s.deep from rfl]
 split at hr
 ·cases hr
 ·rename_i h20
  rw [if_neg h20]
  cases heq1 : (if s.tok.num = 11 then beginM s s.tok.text else .ok s) with
  | error e => rw [heq1] at hr; cases hr
  | ok s1 =>
   rw [heq1] at hr
   have e1 : (if s.tok.num = 11 then beginM (mvS s) s.tok.text else .ok (mvS s)) = .ok (mvS s1) := by
    split at heq1
    ·rename_i h11
     rw [if_pos h11]; exact begin_mv heq1
    ·rename_i h11
     rw [if_neg h11]; cases heq1; rfl
   rw [e1]
   simp only at hr ⊢
   have hs1 : InvA l s1 ∧ s1.deep = s.deep := by
    split at heq1
    ·obtain ⟨a, b, c, e, _⟩ := begin_inv h.toA heq1
     exact ⟨a, e⟩
    ·cases heq1; exact ⟨h.toA, rfl⟩
   cases heq2 : advM d l s1 with
   | error e => rw [heq2] at hr; cases hr
   | ok s2 =>
    rw [heq2] at hr
    rw [adv_mv heq2]
    simp only at hr ⊢
    obtain ⟨i2, p2, _, d2, g2, n2, a2⟩ := adv_inv hpe hs1.1 heq2
    have i2' : Inv' l { s2 with deep := s2.deep + 1 } := ⟨⟨i2.inv.pos, i2.inv.next, i2.inv.on, i2.inv.off, i2.inv.ags, i2.inv.nms, i2.inv.grp, by show s2.deep + 1 ≤ 20; omega⟩, i2.pn⟩
    have hd2 : ({ s2 with deep := s2.deep + 1 } : St).deep = s.deep + 1 := by show s2.deep + 1 = _; omega
    have ef : foldedBy (mvS s2) s.tok.fold = foldedBy s2 s.tok.fold := rfl
    have em : ({ mvS s2 with deep := (mvS s2).deep + 1 } : St) = mvS { s2 with deep := s2.deep + 1 } := rfl
    rw [ef, em]
    cases heq3 : rec (foldedBy s2 s.tok.fold) { s2 with deep := s2.deep + 1 } with
    | error e => rw [heq3] at hr; cases hr
    | ok y =>
     obtain ⟨t3, s3⟩ := y
     rw [heq3] at hr
     rw [hm _ _ _ _ i2' hd2 heq3]
     simp only at hr ⊢
     split at hr
     ·cases hr
     ·rename_i h8
      rw [if_neg (show ¬ (mvS s3).tok.kind ≠ 8 from h8)]
      have em3 : ({ mvS s3 with deep := (mvS s3).deep - 1 } : St) = mvS { s3 with deep := s3.deep - 1 } := rfl
      rw [em3]
      cases heq4 : advM d l { s3 with deep := s3.deep - 1 } with
      | error e => rw [heq4] at hr; cases hr
      | ok s4 =>
       rw [heq4] at hr
       rw [adv_mv heq4]
       simp only at hr ⊢
       rw [show (mvS s1).groups = s1.groups from rfl]
       split at hr
       ·rename_i h1
        rw [if_pos h1]; cases hr; rfl
       ·rename_i h1
        rw [if_neg h1]; cases hr; rfl
theorem atom_mv (hpe : TK.patE d l = 0) (hp' : TK.patE d (p :: l) = 0) {rec rec' : Rd} (hrg : RecG l (s.deep + 1) rec) (hm : RecM l (s.deep + 1) rec rec') {t : Tr} (h : Inv' l s) (hp : s.pos < l.length) (hr : atomM d l rec s = .ok (t, s')) : atomM d (p :: l) rec' (mvS s) = .ok (t, mvS s') := by
 unfold atomM at hr ⊢
 rw [show (mvS s).tok = s.tok from rfl]
 split at hr
 ·cases hr
 ·rename_i h6
  rw [if_neg h6]
  split at hr
  ·rename_i h7
   rw [if_pos h7]
   exact open_mv hpe hrg hm h hp hr
  ·rename_i h7
   rw [if_neg h7]
   cases heq : singleM d l s with
   | error e => rw [heq] at hr; cases hr
   | ok y =>
    obtain ⟨t1, s1⟩ := y
    rw [heq] at hr
    rw [single_mv hp' heq]
    simp only at hr ⊢
    cases heq2 : advM d l s1 with
    | error e => rw [heq2] at hr; cases hr
    | ok s2 => rw [heq2] at hr; rw [adv_mv heq2]; cases hr; rfl
theorem reps_mv {may : Bool} : ∀ (n ahead : Nat) (t : Tr) (s : St) (t' : Tr) (s' : St), repsM d l may n ahead t s = .ok (t', s') → repsM d (p :: l) may n ahead t (mvS s) = .ok (t', mvS s')
 | 0, ahead, t, s, t', s', hr => by cases hr; rfl
 | n + 1, ahead, t, s, t', s', hr => by
  unfold repsM at hr ⊢
  rw [show (mvS s).tok = s.tok from rfl]
  split at hr
  ·rename_i h6
   rw [if_pos h6]
   split at hr
   ·cases hr
   ·rename_i hm
    rw [if_neg hm]
    split at hr
    ·cases hr
    ·rename_i h3
     rw [if_neg h3]
     cases heq : advM d l s with
     | error e => rw [heq] at hr; cases hr
     | ok s1 => rw [heq] at hr; rw [adv_mv heq]; exact reps_mv n (ahead + 1) _ s1 t' s' hr
  ·rename_i h6
   rw [if_neg h6]
   cases hr; rfl
theorem piece_mv (hpe : TK.patE d l = 0) (hp' : TK.patE d (p :: l) = 0) {rec rec' : Rd} (hrg : RecG l (s.deep + 1) rec) (hm : RecM l (s.deep + 1) rec rec') {t : Tr} (h : Inv' l s) (hp : s.pos < l.length) (hr : pieceM d l rec s = .ok (t, s')) : pieceM d (p :: l) rec' (mvS s) = .ok (t, mvS s') := by
 unfold pieceM at hr ⊢
 cases heq : atomM d l rec s with
 | error e => rw [heq] at hr; cases hr
 | ok y =>
  obtain ⟨t1, s1⟩ := y
  rw [heq] at hr
  rw [atom_mv hpe hp' hrg hm h hp heq]
  exact reps_mv _ _ _ _ _ _ hr
theorem end_mv : endM (p :: l) (mvS s) = endM l s := by
 unfold endM
 rw [show (mvS s).tok = s.tok from rfl, show (mvS s).pos = s.pos + 1 from rfl, List.length_cons]
 simp
theorem pieces_mv (hpe : TK.patE d l = 0) (hp' : TK.patE d (p :: l) = 0) {rec rec' : Rd} {dp : Nat} (hrg : RecG l (dp + 1) rec) (hm : RecM l (dp + 1) rec rec') : ∀ (n m : Nat) (ps : List Tr) (s : St) (ps' : List Tr) (s' : St), Inv' l s → s.deep = dp → l.length + 1 ≤ n + s.pos → l.length + 1 ≤ m + s.pos → piecesM d l rec n ps s = .ok (ps', s') → piecesM d (p :: l) rec' m ps (mvS s) = .ok (ps', mvS s')
 | 0, m, ps, s, ps', s', hi, hd, h1, h2, hr => by have := hi.inv.pos; omega
 | n + 1, 0, ps, s, ps', s', hi, hd, h1, h2, hr => by have := hi.inv.pos; omega
 | n + 1, m + 1, ps, s, ps', s', hi, hd, h1, h2, hr => by
  unfold piecesM at hr ⊢
  rw [end_mv]
  split at hr
  ·rename_i he
   rw [if_pos he]; cases hr; rfl
  ·rename_i hend
   rw [if_neg hend]
   have hp : s.pos < l.length := by
    have h1 := hi.inv.pos
    have h2 : s.pos ≠ l.length := fun e => hend (by unfold endM; simp [e])
    omega
   split at hr
   ·cases hr
   ·rename_i t s1 heq
    have hrg' : RecG l (s.deep + 1) rec := by rw [hd]; exact hrg
    obtain ⟨g, hlt⟩ := piece_inv hpe hrg' hi hp heq
    rw [piece_mv hpe hp' hrg' (by rw [hd]; exact hm) hi hp heq]
    exact pieces_mv hpe hp' hrg hm n m _ s1 ps' s' g.inv (g.deep.trans hd) (by omega) (by omega) hr
theorem branch_mv (hpe : TK.patE d l = 0) (hp' : TK.patE d (p :: l) = 0) {rec rec' : Rd} (hrg : RecG l (s.deep + 1) rec) (hm : RecM l (s.deep + 1) rec rec') {t : Tr} (h : Inv' l s) (hr : branchM d l rec s = .ok (t, s')) : branchM d (p :: l) rec' (mvS s) = .ok (t, mvS s') := by
 unfold branchM at hr ⊢
 split at hr
 ·cases hr
 ·rename_i ps s1 heq
  rw [pieces_mv hpe hp' hrg hm _ ((p :: l).length + 1) _ _ _ _ h rfl (by omega) (by simp only [List.length_cons]; omega) heq]
  cases hr; rfl
theorem bars_mv (hpe : TK.patE d l = 0) (hp' : TK.patE d (p :: l) = 0) {rec rec' : Rd} {dp : Nat} (hrg : RecG l (dp + 1) rec) (hm : RecM l (dp + 1) rec rec') : ∀ (n m : Nat) (bs : List Tr) (s : St) (bs' : List Tr) (s' : St), Inv' l s → s.deep = dp → l.length + 1 ≤ n + s.pos → l.length + 1 ≤ m + s.pos → barsM d l rec n bs s = .ok (bs', s') → barsM d (p :: l) rec' m bs (mvS s) = .ok (bs', mvS s')
 | 0, m, bs, s, bs', s', hi, hd, h1, h2, hr => by have := hi.inv.pos; omega
 | n + 1, 0, bs, s, bs', s', hi, hd, h1, h2, hr => by have := hi.inv.pos; omega
 | n + 1, m + 1, bs, s, bs', s', hi, hd, h1, h2, hr => by
  unfold barsM at hr ⊢
  rw [show (mvS s).tok = s.tok from rfl]
  split at hr
  ·rename_i h9
   rw [if_pos h9]
   have hp : s.pos < l.length := by
    have h1 := hi.inv.pos
    have h2 : s.pos ≠ l.length := fun e => by have := hi.inv.off e; rw [this] at h9; exact absurd h9 (by decide)
    omega
   have hlt := (hi.inv.on hp).1
   cases heq1 : advM d l s with
   | error e => rw [heq1] at hr; cases hr
   | ok s1 =>
    rw [heq1] at hr
    rw [adv_mv heq1]
    simp only at hr ⊢
    obtain ⟨i2, p2, _, d2, _, _, a2⟩ := adv_inv hpe hi.toA heq1
    have hd1 : s1.deep = dp := d2.trans hd
    have hrg' : RecG l (s1.deep + 1) rec := by rw [hd1]; exact hrg
    cases heq2 : branchM d l rec s1 with
    | error e => rw [heq2] at hr; cases hr
    | ok y =>
     obtain ⟨t, s2⟩ := y
     rw [heq2] at hr
     rw [branch_mv hpe hp' hrg' (by rw [hd1]; exact hm) i2 heq2]
     have hg := branch_inv hpe hrg' i2 heq2
     have hgp := hg.pos
     exact bars_mv hpe hp' hrg hm n m _ s2 bs' s' hg.inv (hg.deep.trans hd1) (by omega) (by omega) hr
  ·rename_i h9
   rw [if_neg h9]
   cases hr; rfl
theorem branchesG_mv (hpe : TK.patE d l = 0) (hp' : TK.patE d (p :: l) = 0) {rec rec' : Rd} {dp : Nat} (hrg : RecG l (dp + 1) rec) (hm : RecM l (dp + 1) rec rec') : RecM l dp (branchesG d l rec) (branchesG d (p :: l) rec') := by
 intro fo s t s1 h hd hr
 unfold branchesG at hr ⊢
 have hrg' : RecG l (({ s with folded := fo } : St).deep + 1) rec := by show RecG l (s.deep + 1) rec; rw [hd]; exact hrg
 have hm' : RecM l (({ s with folded := fo } : St).deep + 1) rec rec' := by show RecM l (s.deep + 1) rec rec'; rw [hd]; exact hm
 have em : ({ mvS s with folded := fo } : St) = mvS { s with folded := fo } := rfl
 rw [em]
 cases heq1 : branchM d l rec { s with folded := fo } with
 | error e => rw [heq1] at hr; cases hr
 | ok y =>
  obtain ⟨t1, s1'⟩ := y
  rw [heq1] at hr
  rw [branch_mv hpe hp' hrg' hm' (inv_folded h fo) heq1]
  have hg := branch_inv hpe hrg' (inv_folded h fo) heq1
  simp only at hr ⊢
  cases heq2 : barsM d l rec (l.length + 1) [t1] s1' with
  | error e => rw [heq2] at hr; cases hr
  | ok z =>
   obtain ⟨bs, s2⟩ := z
   rw [heq2] at hr
   rw [bars_mv hpe hp' hrg hm _ ((p :: l).length + 1) _ _ _ _ hg.inv (hg.deep.trans hd) (by omega) (by simp only [List.length_cons]; omega) heq2]
   cases hr; rfl
theorem branchesF_mv (hpe : TK.patE d l = 0) (hp' : TK.patE d (p :: l) = 0) : ∀ (n dp : Nat), RecM l dp (branchesF d l n) (branchesF d (p :: l) n)
 | 0, dp => fun fo s t s1 _ _ hr => by cases hr
 | n + 1, dp => branchesG_mv hpe hp' (branchesF_inv hpe n (dp + 1)) (branchesF_mv hpe hp' n (dp + 1))
end Go.Proofs.YtklbbbldalmnbaaGreatDoor.Pa
