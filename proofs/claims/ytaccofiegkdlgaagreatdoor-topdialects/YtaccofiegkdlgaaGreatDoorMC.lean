import Derived.Test.YtaccofiegkdlgaaGreatDoorKL
import Derived.Test.YtaccofiegkdlgaaGreatDoorKV
import Derived.Test.YtaccofiegkdlgaaGreatDoorMB
import Derived.Test.YtaccofiegkdlgaaGreatDoorKQ
import Derived.Maps.AppendAt
import Derived.Test.YtaccofiegkdlgaaGreatDoorProg
import Derived.WalkKit
import Derived.WalkLawsBesides
import Derived.Handy
import Derived.Below
import Derived.OneCell
import Derived.Deep.Cut
import Derived.PlainAid
import Derived.BigQuiet
import Derived.Deep.QuietTactic
namespace Go.Proofs.YtaccofiegkdlgaaGreatDoor.Pa
open TK
set_option linter.unusedVariables false
def TokOk (t : Tok) : Prop :=
 (t.kind = 1 ∧ 0 ≤ t.num ∧ t.num ≤ 1114111) ∨ t.kind = 2 ∨ (t.kind = 3 ∧ 3 ≤ t.num ∧ t.num ≤ 8) ∨ (t.kind = 4 ∧ (t.text = bDigit ∨ t.text = bWord ∨ t.text = bSpace ∨ t.text = bXdigit)) ∨ t.kind = 5 ∨
 (t.kind = 6 ∧ 0 ≤ t.least ∧ t.least ≤ 100 ∧ (t.most = -1 ∨ (t.least ≤ t.most ∧ t.most ≤ 100)) ∧ 1 ≤ t.way ∧ t.way ≤ 3) ∨
 (t.kind = 7 ∧ (t.num = 1 ∨ t.num = 11 ∨ t.num = 13 ∨ t.num = 14 ∨ t.num = 15 ∨ t.num = 16 ∨ t.num = 17) ∧ (t.text.toList = [] ∨ ∃ l i, t.text = byteA (nameL l i) ∧ nameL l i ≠ [] ∧ (∀ p ∈ l, 0 ≤ p ∧ p ≤ 1114111)) ∧ -1 ≤ t.fold ∧ t.fold ≤ 1) ∨
 t.kind = 8 ∨ t.kind = 9 ∨ (t.kind = 10 ∧ -999 ≤ t.num ∧ t.num ≤ 999) ∨ (t.kind = 11 ∧ -1 ≤ t.fold ∧ t.fold ≤ 1)
theorem ok_point {p : Int} (h : 0 ≤ p ∧ p ≤ 1114111) : TokOk (pointT p) := .inl ⟨rfl, h⟩
theorem ok_look {p : Int} (h : 3 ≤ p ∧ p ≤ 8) : TokOk (lookT p) := .inr (.inr (.inl ⟨rfl, h⟩))
theorem ok_again {p : Int} (h : -999 ≤ p ∧ p ≤ 999) : TokOk (againT p) := by
 unfold TokOk againT; simp; omega
theorem ok_open {p : Int} (h : p = 1 ∨ p = 11 ∨ p = 13 ∨ p = 14 ∨ p = 15 ∨ p = 16 ∨ p = 17) : TokOk (openT p) := by
 unfold TokOk openT
 simp
 omega
theorem ok_class {c : ByteArray × Bool} (h : c.1 = bDigit ∨ c.1 = bWord ∨ c.1 = bSpace ∨ c.1 = bXdigit) : TokOk (classT c) := by
 unfold TokOk classT; simp; exact h
theorem ok_rep {d : Int} {l : List Int} {i : Nat} {a b : Int} (h : 0 ≤ a ∧ a ≤ 100 ∧ (b = -1 ∨ (a ≤ b ∧ b ≤ 100))) : TokOk (repT d l i a b).1 := by
 unfold repT TokOk
 split
 ·split
  ·simp; omega
  ·split
   ·simp; omega
   ·simp; omega
 ·simp; omega
theorem digsS_rng (base : Int) (hb : 0 < base) : ∀ (k : Nat) (l : List Int) (n : Int) (c : Nat), 0 ≤ n → 0 ≤ (digsS base k l n c).1 ∧ (digsS base k l n c).1 < (n + 1) * base ^ k
 | 0, l, n, c, h => by unfold digsS; simp; omega
 | k + 1, [], n, c, h => by
  unfold digsS
  refine ⟨h, ?_⟩
  have h1 : (1 : Int) ≤ base ^ (k + 1) := Int.pow_pos hb
  have : (n + 1) * 1 ≤ (n + 1) * base ^ (k + 1) := Int.mul_le_mul_of_nonneg_left h1 (by omega)
  omega
 | k + 1, p :: t, n, c, h => by
  unfold digsS
  have hd := digV_rng p
  split
  ·rename_i hlt
   have h0 : 0 ≤ n * base := Int.mul_nonneg h (by omega)
   have := digsS_rng base hb k t (n * base + digV p) (c + 1) (by omega)
   refine ⟨this.1, Int.lt_of_lt_of_le this.2 ?_⟩
   have h1 : (0 : Int) ≤ base ^ k := Int.le_of_lt (Int.pow_pos hb)
   have h2 : n * base + digV p + 1 ≤ (n + 1) * base := by rw [Int.add_mul]; omega
   have h3 := Int.mul_le_mul_of_nonneg_right h2 h1
   rw [Int.pow_succ, Int.mul_comm (base ^ k) base, ← Int.mul_assoc]
   exact h3
  ·have h1 : (1 : Int) ≤ base ^ (k + 1) := Int.pow_pos hb
   have : (n + 1) * 1 ≤ (n + 1) * base ^ (k + 1) := Int.mul_le_mul_of_nonneg_left h1 (by omega)
   exact ⟨h, by omega⟩
theorem digs_rng (base : Int) (hb : 0 < base) (k : Nat) (l : List Int) (i : Nat) : 0 ≤ (digs base k l i).1 ∧ (digs base k l i).1 < base ^ k := by
 have := digsS_rng base hb k (l.drop i) 0 0 (by omega)
 simpa [digs] using this
theorem digs3 (l : List Int) (i : Nat) : 0 ≤ (digs 10 3 l i).1 ∧ (digs 10 3 l i).1 ≤ 999 := by
 have := digs_rng 10 (by decide) 3 l i
 have h : (10 : Int) ^ 3 = 1000 := by decide
 omega
theorem digs1 (l : List Int) (i : Nat) : 0 ≤ (digs 10 1 l i).1 ∧ (digs 10 1 l i).1 ≤ 9 := by
 have := digs_rng 10 (by decide) 1 l i
 have h : (10 : Int) ^ 1 = 10 := by decide
 omega
theorem digs16 (k : Nat) (hk : k ≤ 4) (l : List Int) (i : Nat) : 0 ≤ (digs 16 k l i).1 ∧ (digs 16 k l i).1 ≤ 1114111 := by
 have := digs_rng 16 (by decide) k l i
 have h : (16 : Int) ^ k ≤ 65536 := by
  match k, hk with
  | 0, _ => decide
  | 1, _ => decide
  | 2, _ => decide
  | 3, _ => decide
  | 4, _ => decide
 omega
theorem ok_bounds (d : Int) (l : List Int) (i : Nat) : 0 ≤ (boundsT d l i).1 ∧ -1 ≤ (boundsT d l i).2.1 := by
 have h1 := digs3 l i
 have h2 := digs3 l (i + (digs 10 3 l i).2 + 1)
 unfold boundsT
 simp only
 repeat' split
 all_goals (constructor <;> simp only <;> omega)
theorem ok_times {d : Int} {l : List Int} {i : Nat} {t : Tok} {k : Nat} (h : timesT d l i = .ok (t, k)) : TokOk t := by
 unfold timesT at h
 simp only at h
 have hb := ok_bounds d l i
 split at h
 ·split at h
  ·cases h; exact ok_point (by decide)
  ·cases h
 ·split at h
  ·cases h
  ·split at h
   ·cases h
   ·rename_i h1 h2 h3
    injection h with h
    have h1 := congrArg Prod.fst h
    simp only at h1
    rw [← h1]
    exact ok_rep (by omega)
theorem ok_opt {l : List Int} {i : Nat} {f : Int} {t : Tok} {k : Nat} (hf : -1 ≤ f ∧ f ≤ 1) (h : optT l i f = .ok (t, k)) : TokOk t := by
 unfold optT at h
 split at h
 ·cases h; unfold TokOk; simp; omega
 ·split at h
  ·cases h; unfold TokOk; simp; omega
  ·cases h
theorem ok_beh {l : List Int} {i : Nat} {t : Tok} {k : Nat} (hp : ∀ p ∈ l, 0 ≤ p ∧ p ≤ 1114111) (h : behT l i = .ok (t, k)) : TokOk t := by
 unfold behT at h
 split at h
 ·cases h; exact ok_open (by simp)
 ·split at h
  ·cases h; exact ok_open (by simp)
  ·split at h
   ·cases h
   ·split at h
    ·rename_i hn _
     cases h
     unfold TokOk
     refine .inr (.inr (.inr (.inr (.inr (.inr (.inl ⟨rfl, .inr (.inl rfl), .inr ⟨l, i, rfl, hn, hp⟩, by simp, by simp⟩))))))
    ·cases h
theorem ok_openS {d : Int} {l : List Int} {i : Nat} {t : Tok} {k : Nat} (hp : ∀ p ∈ l, 0 ≤ p ∧ p ≤ 1114111) (h : openS d l i = .ok (t, k)) : TokOk t := by
 unfold openS at h
 split at h
 ·cases h; exact ok_open (by simp)
 ·split at h
  ·cases h; exact ok_open (by simp)
  ·split at h
   ·cases h
   ·split at h
    ·cases h; exact ok_open (by simp)
    ·split at h
     ·cases h; exact ok_open (by simp)
     ·split at h
      ·cases h; exact ok_open (by simp)
      ·split at h
       ·cases h; exact ok_open (by simp)
       ·split at h
        ·exact ok_beh hp h
        ·split at h
         ·exact ok_opt (by omega) h
         ·split at h
          ·split at h
           ·exact ok_opt (by omega) h
           ·cases h
          ·cases h
theorem ok_part {d : Int} {l : List Int} {p : Int} {i : Nat} {t : Tok} {k : Nat} (hl : ∀ p ∈ l, 0 ≤ p ∧ p ≤ 1114111) (hp : 0 ≤ p ∧ p ≤ 1114111) (h : partT d l p i = .ok (t, k)) : TokOk t := by
 unfold partT at h
 split at h
 ·exact ok_openS hl h
 ·split at h
  ·cases h; unfold TokOk; simp
  ·split at h
   ·cases h; unfold TokOk; simp
   ·split at h
    ·exact ok_times h
    ·cases h; exact ok_point hp
theorem ok_hex {l : List Int} {i : Nat} {t : Tok} {k : Nat} (h : hexT l i = .ok (t, k)) : TokOk t := by
 unfold hexT at h
 simp only at h
 split at h
 ·split at h
  ·cases h
  ·cases h; exact ok_point (digs16 2 (by omega) l i)
 ·split at h
  ·cases h
  ·split at h
   ·cases h
   ·split at h
    ·cases h
    ·rename_i h1 h2 h3
     cases h; exact ok_point ⟨(digs_rng 16 (by decide) 6 l (i + 1)).1, by omega⟩
theorem ok_uni {l : List Int} {i : Nat} {t : Tok} {k : Nat} (h : uniT l i = .ok (t, k)) : TokOk t := by
 unfold uniT at h
 simp only at h
 split at h
 ·cases h
 ·cases h; exact ok_point (digs16 4 (by omega) l i)
theorem ok_agd {l : List Int} {i : Nat} {n : Int} (hn : 0 ≤ n ∧ n ≤ 9) : TokOk (agdT l i n).1 := by
 unfold agdT
 have := digs1 l i
 simp only
 split
 ·exact ok_again (by omega)
 ·exact ok_again (by omega)
theorem ok_agb {l : List Int} {i : Nat} {t : Tok} {k : Nat} (h : agbT l i = .ok (t, k)) : TokOk t := by
 unfold agbT at h
 simp only at h
 split at h
 ·cases h
 ·generalize (if says l (i + 1) [45] = true then i + 2 else i + 1) = j at h
  have := digs3 l j
  split at h
  ·split at h
   ·cases h
   ·split at h
    ·cases h
    ·cases h
     refine ok_again ?_
     split <;> omega
  ·split at h
   ·cases h
   ·split at h
    ·cases h
    ·split at h
     ·cases h
     ·cases h; unfold TokOk; simp
theorem ok_cls {p : Int} {c : ByteArray × Bool} (h : clsT p = some c) : c.1 = bDigit ∨ c.1 = bWord ∨ c.1 = bSpace ∨ c.1 = bXdigit := by
 unfold clsT at h
 repeat' split at h
 all_goals first | (cases h; simp) | cases h
theorem ok_ctl {p q : Int} (hp : 0 ≤ p ∧ p ≤ 1114111) (h : ctlT p = .ok q) : 0 ≤ q ∧ q ≤ 1114111 := by
 unfold ctlT at h
 repeat' split at h
 all_goals first | (cases h; omega) | cases h
theorem ok_ruby {l : List Int} {i : Nat} {p : Int} {t : Tok} {k : Nat} (hp : 0 ≤ p ∧ p ≤ 1114111) (h : rubyT l i p = .ok (t, k)) : TokOk t := by
 unfold rubyT at h
 split at h
 ·rename_i c hc
  cases h; exact ok_class (ok_cls hc)
 ·split at h
  ·cases h; exact ok_look (by decide)
  ·split at h
   ·cases h; exact ok_look (by decide)
   ·split at h
    ·cases h; exact ok_look (by decide)
    ·split at h
     ·cases h; exact ok_look (by decide)
     ·split at h
      ·exact ok_hex h
      ·split at h
       ·exact ok_uni h
       ·split at h
        ·exact ok_agb h
        ·split at h
         ·injection h with h
          have h1 := congrArg Prod.fst h
          simp only at h1
          rw [← h1]
          exact ok_agd (by omega)
         ·split at h
          ·rename_i q hq
           cases h; exact ok_point (ok_ctl hp hq)
          ·cases h
theorem ok_emacs {l : List Int} {i : Nat} {p : Int} {t : Tok} {k : Nat} (hl : ∀ p ∈ l, 0 ≤ p ∧ p ≤ 1114111) (hp : 0 ≤ p ∧ p ≤ 1114111) (h : emacsT l i p = .ok (t, k)) : TokOk t := by
 unfold emacsT at h
 split at h
 ·exact ok_part hl hp h
 ·split at h
  ·cases h; exact ok_class (by simp)
  ·split at h
   ·cases h; exact ok_class (by simp)
   ·split at h
    ·cases h; exact ok_look (by decide)
    ·split at h
     ·cases h; exact ok_look (by decide)
     ·split at h
      ·cases h; exact ok_look (by decide)
      ·split at h
       ·cases h; exact ok_look (by decide)
       ·split at h
        ·cases h; exact ok_again (by omega)
        ·cases h; exact ok_point hp
theorem ok_esc {d : Int} {l : List Int} {i : Nat} {t : Tok} {k : Nat} (hl : ∀ p ∈ l, 0 ≤ p ∧ p ≤ 1114111) (h : escT d l i = .ok (t, k)) : TokOk t := by
 unfold escT at h
 split at h
 ·cases h
 ·rename_i p hp
  have hpp := hl p (List.mem_of_getElem? hp)
  split at h
  ·exact ok_ruby hpp h
  ·split at h
   ·exact ok_emacs hl hpp h
   ·cases h; exact ok_point hpp
theorem next_ok {d : Int} {l : List Int} {i : Nat} {t : Tok} {k : Nat} (hl : ∀ p ∈ l, 0 ≤ p ∧ p ≤ 1114111) (h : nextT d l i = .ok (t, k)) : TokOk t := by
 unfold nextT at h
 split at h
 ·cases h
 ·rename_i p hp
  have hpp := hl p (List.mem_of_getElem? hp)
  unfold tokT at h
  split at h
  ·exact ok_esc hl h
  ·split at h
   ·cases h; unfold TokOk; simp
   ·split at h
    ·cases h; exact ok_look (by decide)
    ·split at h
     ·cases h; exact ok_look (by decide)
     ·split at h
      ·cases h; unfold TokOk; simp
      ·split at h
       ·injection h with h
        have h1 := congrArg Prod.fst h
        simp only at h1
        rw [← h1]
        exact ok_rep (by omega)
       ·split at h
        ·injection h with h
         have h1 := congrArg Prod.fst h
         simp only at h1
         rw [← h1]
         exact ok_rep (by omega)
        ·split at h
         ·injection h with h
          have h1 := congrArg Prod.fst h
          simp only at h1
          rw [← h1]
          exact ok_rep (by omega)
         ·split at h
          ·cases h; exact ok_point hpp
          ·exact ok_part hl hpp h
/-! ### where a token ends -/
theorem digsS_len (base : Int) : ∀ (k : Nat) (l : List Int) (n : Int) (c : Nat), (digsS base k l n c).2 ≤ c + l.length
 | 0, l, n, c => by unfold digsS; simp
 | k + 1, [], n, c => by unfold digsS; simp
 | k + 1, p :: t, n, c => by
  unfold digsS
  split
  ·have := digsS_len base k t (n * base + digV p) (c + 1)
   simp only [List.length_cons]
   omega
  ·simp only; omega
theorem digs_len (base : Int) (k : Nat) (l : List Int) (i : Nat) (hi : i ≤ l.length) : i + (digs base k l i).2 ≤ l.length := by
 have := digsS_len base k (l.drop i) 0 0
 rw [List.length_drop] at this
 unfold digs
 omega
theorem says1 {l : List Int} {i : Nat} {p : Int} (h : says l i [p] = true) : i + 1 ≤ l.length := says_len h (by simp)
theorem says2 {l : List Int} {i : Nat} {p q : Int} (h : says l i [p, q] = true) : i + 2 ≤ l.length := says_len h (by simp)
theorem rep_len (d : Int) (l : List Int) (i : Nat) (a b : Int) (hi : i ≤ l.length) : (repT d l i a b).2 ≤ l.length := by
 unfold repT
 split
 ·split
  ·rename_i h; exact says1 h
  ·split
   ·rename_i h; exact says1 h
   ·exact hi
 ·exact hi
theorem bounds_len (d : Int) (l : List Int) (i : Nat) (hi : i ≤ l.length) : (boundsT d l i).2.2.2 ≤ l.length := by
 have h1 := digs_len 10 3 l i hi
 unfold boundsT
 simp only
 by_cases hc : says l (i + (digs 10 3 l i).2) [44] = true
 ·have h2 := digs_len 10 3 l (i + (digs 10 3 l i).2 + 1) (says1 hc)
  rw [if_pos hc]
  simp only
  generalize i + (digs 10 3 l i).2 + 1 + (digs 10 3 l (i + (digs 10 3 l i).2 + 1)).2 = j at *
  split
  ·exact h2
  ·split
   ·simp only
    split
    ·rename_i h; exact says2 h
    ·exact h2
   ·simp only
    split
    ·rename_i h; exact says1 h
    ·exact h2
 ·rw [if_neg hc]
  simp only
  generalize i + (digs 10 3 l i).2 = j at *
  split
  ·exact h1
  ·split
   ·simp only
    split
    ·rename_i h; exact says2 h
    ·exact h1
   ·simp only
    split
    ·rename_i h; exact says1 h
    ·exact h1
theorem times_len {d : Int} {l : List Int} {i : Nat} {t : Tok} {k : Nat} (hi : i ≤ l.length) (h : timesT d l i = .ok (t, k)) : k ≤ l.length := by
 unfold timesT at h
 simp only at h
 split at h
 ·split at h
  ·cases h; exact hi
  ·cases h
 ·split at h
  ·cases h
  ·split at h
   ·cases h
   ·injection h with h
    have h1 := congrArg Prod.snd h
    simp only at h1
    rw [← h1]
    exact rep_len _ _ _ _ _ (bounds_len d l i hi)
theorem opt_len {l : List Int} {i : Nat} {f : Int} {t : Tok} {k : Nat} (h : optT l i f = .ok (t, k)) : k ≤ l.length := by
 unfold optT at h
 split at h
 ·rename_i hs; cases h; exact says1 hs
 ·split at h
  ·rename_i hs; cases h; exact says1 hs
  ·cases h
theorem beh_len {l : List Int} {i : Nat} {t : Tok} {k : Nat} (h : behT l i = .ok (t, k)) : k ≤ l.length := by
 unfold behT at h
 split at h
 ·rename_i hs; cases h; exact says1 hs
 ·split at h
  ·rename_i hs; cases h; exact says1 hs
  ·split at h
   ·cases h
   ·split at h
    ·rename_i hs; cases h; exact says1 hs
    ·cases h
theorem openS_len {d : Int} {l : List Int} {i : Nat} {t : Tok} {k : Nat} (hi : i ≤ l.length) (h : openS d l i = .ok (t, k)) : k ≤ l.length := by
 unfold openS at h
 split at h
 ·cases h; exact hi
 ·split at h
  ·cases h; exact hi
  ·split at h
   ·cases h
   ·rename_i p hp
    have hlt := (List.getElem?_eq_some_iff.1 hp).1
    split at h
    ·cases h; omega
    ·split at h
     ·cases h; omega
     ·split at h
      ·cases h; omega
      ·split at h
       ·cases h; omega
       ·split at h
        ·exact beh_len h
        ·split at h
         ·exact opt_len h
         ·split at h
          ·split at h
           ·exact opt_len h
           ·cases h
          ·cases h
theorem part_len {d : Int} {l : List Int} {p : Int} {i : Nat} {t : Tok} {k : Nat} (hi : i ≤ l.length) (h : partT d l p i = .ok (t, k)) : k ≤ l.length := by
 unfold partT at h
 split at h
 ·exact openS_len hi h
 ·split at h
  ·cases h; exact hi
  ·split at h
   ·cases h; exact hi
   ·split at h
    ·exact times_len hi h
    ·cases h; exact hi
theorem hex_len {l : List Int} {i : Nat} {t : Tok} {k : Nat} (hi : i ≤ l.length) (h : hexT l i = .ok (t, k)) : k ≤ l.length := by
 unfold hexT at h
 simp only at h
 split at h
 ·split at h
  ·cases h
  ·cases h; exact digs_len 16 2 l i hi
 ·split at h
  ·cases h
  ·split at h
   ·cases h
   ·split at h
    ·cases h
    ·rename_i h1 h2 h3
     cases h
     exact says1 (by simpa using h2)
theorem uni_len {l : List Int} {i : Nat} {t : Tok} {k : Nat} (hi : i ≤ l.length) (h : uniT l i = .ok (t, k)) : k ≤ l.length := by
 unfold uniT at h
 simp only at h
 split at h
 ·cases h
 ·cases h; exact digs_len 16 4 l i hi
theorem agd_len {l : List Int} {i : Nat} {n : Int} (hi : i ≤ l.length) : (agdT l i n).2 ≤ l.length := by
 unfold agdT
 have := digs_len 10 1 l i hi
 simp only
 split
 ·simp only; omega
 ·exact hi
theorem agb_len {l : List Int} {i : Nat} {t : Tok} {k : Nat} (h : agbT l i = .ok (t, k)) : k ≤ l.length := by
 unfold agbT at h
 simp only at h
 split at h
 ·cases h
 ·generalize (if says l (i + 1) [45] = true then i + 2 else i + 1) = j at h
  split at h
  ·split at h
   ·cases h
   ·rename_i hs
    split at h
    ·cases h
    ·cases h
     exact says1 (by simpa using hs)
  ·split at h
   ·cases h
   ·split at h
    ·cases h
    ·split at h
     ·cases h
     ·rename_i hs
      cases h; exact says1 (by simpa using hs)
theorem ruby_len {l : List Int} {i : Nat} {p : Int} {t : Tok} {k : Nat} (hi : i ≤ l.length) (h : rubyT l i p = .ok (t, k)) : k ≤ l.length := by
 unfold rubyT at h
 split at h
 ·cases h; exact hi
 ·split at h
  ·cases h; exact hi
  ·split at h
   ·cases h; exact hi
   ·split at h
    ·cases h; exact hi
    ·split at h
     ·cases h; exact hi
     ·split at h
      ·exact hex_len hi h
      ·split at h
       ·exact uni_len hi h
       ·split at h
        ·exact agb_len h
        ·split at h
         ·injection h with h
          have h1 := congrArg Prod.snd h
          simp only at h1
          rw [← h1]
          exact agd_len hi
         ·split at h
          ·cases h; exact hi
          ·cases h
theorem emacs_len {l : List Int} {i : Nat} {p : Int} {t : Tok} {k : Nat} (hi : i ≤ l.length) (h : emacsT l i p = .ok (t, k)) : k ≤ l.length := by
 unfold emacsT at h
 split at h
 ·exact part_len hi h
 ·repeat' split at h
  all_goals (cases h; exact hi)
theorem esc_len {d : Int} {l : List Int} {i : Nat} {t : Tok} {k : Nat} (h : escT d l i = .ok (t, k)) : k ≤ l.length := by
 unfold escT at h
 split at h
 ·cases h
 ·rename_i p hp
  have hlt := (List.getElem?_eq_some_iff.1 hp).1
  split at h
  ·exact ruby_len (by omega) h
  ·split at h
   ·exact emacs_len (by omega) h
   ·cases h; omega
theorem next_len {d : Int} {l : List Int} {i : Nat} {t : Tok} {k : Nat} (h : nextT d l i = .ok (t, k)) : k ≤ l.length := by
 unfold nextT at h
 split at h
 ·cases h
 ·rename_i p hp
  have hlt := (List.getElem?_eq_some_iff.1 hp).1
  unfold tokT at h
  split at h
  ·exact esc_len h
  ·split at h
   ·cases h; omega
   ·split at h
    ·cases h; omega
    ·split at h
     ·cases h; omega
     ·split at h
      ·cases h; omega
      ·split at h
       ·injection h with h
        have h1 := congrArg Prod.snd h
        simp only at h1
        rw [← h1]
        exact rep_len _ _ _ _ _ (by omega)
       ·split at h
        ·injection h with h
         have h1 := congrArg Prod.snd h
         simp only at h1
         rw [← h1]
         exact rep_len _ _ _ _ _ (by omega)
        ·split at h
         ·injection h with h
          have h1 := congrArg Prod.snd h
          simp only at h1
          rw [← h1]
          exact rep_len _ _ _ _ _ (by omega)
         ·split at h
          ·cases h; omega
          ·exact part_len (by omega) h
end Go.Proofs.YtaccofiegkdlgaaGreatDoor.Pa
namespace Go.Proofs.YtaccofiegkdlgaaGreatDoor.Pa
open TR (Tr)
open Br (BE PS)
set_option linter.unusedVariables false
abbrev Nm : Type := ByteArray × Int
structure Ag where
 num : Int
 name : ByteArray
 pos : Nat
structure St where
 tok : TK.Tok := {}
 pos : Nat := 0
 next : Nat := 0
 folded : Bool := false
 deep : Nat := 0
 groups : Nat := 0
 names : List Nm := []
 agains : List Ag := []
def emptyT : Tr := .mk 1 0 0 0 0 false [] []
def kindT (k : Int) : Tr := .mk k 0 0 0 0 false [] []
def setT (S : RL) : Tr := .mk 2 0 0 0 0 false S []
def repT (t : Tr) (k : TK.Tok) : Tr := .mk 12 0 k.least k.most k.way false [] [t]
def rowL (ps : List Tr) : List Tr := ps.flatMap fun t => if t.kind = 1 then [] else if t.kind = 9 then t.kids else [t]
def rowT (ps : List Tr) : Tr := match rowL ps with
 | [] => emptyT
 | [t] => t
 | ks => .mk 9 0 0 0 0 false [] ks
def eitherT (bs : List Tr) : Tr := match bs with
 | [t] => t
 | bs => .mk 10 0 0 0 0 false [] (bs.flatMap fun t => if t.kind = 10 then t.kids else [t])
def advM (d : Int) (l : List Int) (s : St) : Except BE St :=
 if s.next = l.length then .ok { s with pos := s.next, tok := {} }
 else match TK.nextT d l s.next with
  | .error z => .error (z, (s.next : Int))
  | .ok (t, k) => .ok { s with pos := s.next, tok := t, next := k }
def foldedBy (s : St) (o : Int) : Bool := if o = 0 then s.folded else decide (0 < o)
def againM (s : St) : Except BE (Tr × St) :=
 let n := if s.tok.num < 0 then s.tok.num + (s.groups + 1 : Nat) else s.tok.num
 if s.tok.num < 0 ∧ n ≤ 0 then .error (5, (s.pos : Int))
 else .ok (.mk 18 s.agains.length 0 0 0 s.folded [] [], { s with agains := s.agains ++ [⟨n, s.tok.text, s.pos⟩] })
def hasName (names : List Nm) (t : ByteArray) : Bool := names.any fun n => n.1.toList == t.toList
def beginM (s : St) (name : ByteArray) : Except BE St :=
 if s.groups = 20 then .error (2, (s.pos : Int))
 else if name.toList = [] then .ok { s with groups := s.groups + 1 }
 else if hasName s.names name then .error (6, (s.pos : Int))
 else .ok { s with groups := s.groups + 1, names := s.names ++ [(name, ((s.groups + 1 : Nat) : Int))] }
end Go.Proofs.YtaccofiegkdlgaaGreatDoor.Pa
namespace Go.Proofs.YtaccofiegkdlgaaGreatDoor.Pa
open Go.RowKit
open TR (Tr NV NCells nvV nvO NodeC KidsC)
set_option linter.unusedVariables false
def nvL (n : NV) : List Value := [.int .i64 n.kind, .slice n.sa n.sl n.sc, .slice n.ka n.kl n.kc, .int .i64 n.num, .int .i64 n.least, .int .i64 n.most, .int .i64 n.way, .bool n.fold]
theorem nvL_len (n : NV) : (nvL n).length = 8 := rfl
theorem nvL_one (n : NV) : ∀ v ∈ nvL n, v.oneCell' = true := by
 intro v hv
 simp only [nvL, List.mem_cons, List.not_mem_nil, or_false] at hv
 rcases hv with rfl | rfl | rfl | rfl | rfl | rfl | rfl | rfl <;> rfl
structure Pc where
 nv : NV
 tr : Tr
 lo : Nat
 hi : Nat
def cellsP (ps : List Pc) : List Value := ps.flatMap fun p => nvL p.nv
theorem cellsP_cons (p : Pc) (ps : List Pc) : cellsP (p :: ps) = nvL p.nv ++ cellsP ps := rfl
theorem cellsP_append (a b : List Pc) : cellsP (a ++ b) = cellsP a ++ cellsP b := by simp [cellsP]
theorem cellsP_one (p : Pc) : cellsP [p] = nvL p.nv := by simp [cellsP]
theorem cellsP_len (ps : List Pc) : (cellsP ps).length = ps.length * 8 := by
 induction ps with
 | nil => rfl
 | cons p ps ih => rw [cellsP_cons, List.length_append, nvL_len, ih, List.length_cons]; omega
theorem cellsP_get : ∀ (ps : List Pc) (j : Nat) (hj : j < ps.length) (i : Nat), i < 8 → (cellsP ps)[j * 8 + i]? = (nvL ps[j].nv)[i]?
 | p :: ps, 0, hj, i, hi => by
  rw [cellsP_cons, List.getElem?_append_left (by rw [nvL_len]; omega)]
  simp
 | p :: ps, j + 1, hj, i, hi => by
  rw [cellsP_cons, List.getElem?_append_right (by rw [nvL_len]; omega), nvL_len]
  have := cellsP_get ps j (by simpa using hj) i hi
  rw [show (j + 1) * 8 + i - 8 = j * 8 + i from by omega, this]
  rfl
theorem cellsP_ones (ps : List Pc) : ∀ v ∈ cellsP ps, v.oneCell' = true := by
 intro v hv
 obtain ⟨p, _, hp⟩ := List.mem_flatMap.1 hv
 exact nvL_one _ v hp
structure RowI (w : World) (lo hi : Nat) (v : Value) (ps : List Pc) : Prop where
 own : w.ownsRow lo 28 8 v ps.length (cellsP ps)
 top : ∀ k, v.ownBlock = some k → k < hi ∧ ∀ p ∈ ps, k < p.lo ∨ p.hi ≤ k
 rng : ∀ p ∈ ps, lo ≤ p.lo ∧ p.lo ≤ p.hi ∧ p.hi ≤ hi
 par : ps.Pairwise fun a b => a.hi ≤ b.lo
structure SetI (w : World) (lo hi : Nat) (v : Value) (S : RL) : Prop where
 own : w.ownsRow lo 66 2 v S.length (cells2 S)
 top : ∀ k, v.ownBlock = some k → k < hi
inductive NodeI (w : World) : Nat → Nat → NV → Tr → Prop
 | mk (lo hi : Nat) (n : NV) (S : RL) (ps : List Pc) (hs : SetI w lo hi (.slice n.sa n.sl n.sc) S) (hk : RowI w lo hi (.slice n.ka n.kl n.kc) ps) (hne : n.kind = 9 ∨ n.kind = 10 → ps ≠ []) (h : ∀ p ∈ ps, NodeI w p.lo p.hi p.nv p.tr) : NodeI w lo hi n (.mk n.kind n.num n.least n.most n.way n.fold S (ps.map Pc.tr))
def KeepI (lo hi : Nat) (w w' : World) : Prop := ∀ k, lo ≤ k → k < hi → ∀ cs e, (e = 28 ∨ e = 66) → w.heap[k]? = some (.cells cs e (0, 0)) → w'.heap[k]? = some (.cells cs e (0, 0))
theorem KeepI.sub {lo hi lo' hi' : Nat} {w w' : World} (h : KeepI lo hi w w') (h1 : lo ≤ lo') (h2 : hi' ≤ hi) : KeepI lo' hi' w w' := fun k a b => h k (by omega) (by omega)
theorem KeepI.trans {lo hi : Nat} {w w1 w' : World} (h : KeepI lo hi w w1) (h' : KeepI lo hi w1 w') : KeepI lo hi w w' := fun k a b cs e he hh => h' k a b cs e he (h k a b cs e he hh)
theorem KeepI.of_below {lo hi B : Nat} {w w' : World} (h : Below B w w') (hh : hi ≤ B) : KeepI lo hi w w' := fun k a b cs e he hc => by rw [h.block k (by omega)]; exact hc
theorem KeepI.of_blocks {lo hi : Nat} {w w' : World} (h : ∀ k, lo ≤ k → k < hi → w'.heap[k]? = w.heap[k]?) : KeepI lo hi w w' := fun k a b cs e he hc => by rw [h k a b]; exact hc
theorem own_keepI {w w' : World} {lo hi e k n : Nat} {v : Value} {xs : List Value} (h : w.ownsRow lo e k v n xs) (ht : ∀ k, v.ownBlock = some k → k < hi) (he : e = 28 ∨ e = 66) (hK : KeepI lo hi w w') : w'.ownsRow lo e k v n xs := by
 refine ⟨h.1, ?_⟩
 rcases h.2 with h2 | ⟨g, cap, cur, rfl, h3, hg, h4⟩
 ·exact Or.inl h2
 ·exact Or.inr ⟨g, cap, cur, rfl, h3, hK g h3 (ht g rfl) _ _ he hg, h4⟩
theorem RowI.keep {w w' : World} {lo hi : Nat} {v : Value} {ps : List Pc} (h : RowI w lo hi v ps) (hK : KeepI lo hi w w') : RowI w' lo hi v ps :=
 ⟨own_keepI h.own (fun k hk => (h.top k hk).1) (.inl rfl) hK, h.top, h.rng, h.par⟩
theorem SetI.keep {w w' : World} {lo hi : Nat} {v : Value} {S : RL} (h : SetI w lo hi v S) (hK : KeepI lo hi w w') : SetI w' lo hi v S :=
 ⟨own_keepI h.own h.top (.inr rfl) hK, h.top⟩
theorem NodeI.keep {w w' : World} {lo hi : Nat} {n : NV} {t : Tr} (h : NodeI w lo hi n t) (hK : KeepI lo hi w w') : NodeI w' lo hi n t := by
 induction h with
 | mk lo hi n S ps hs hk hne h ih => exact .mk lo hi n S ps (hs.keep hK) (hk.keep hK) hne fun p hp => ih p hp (hK.sub (hk.rng p hp).1 (hk.rng p hp).2.2)
theorem RowI.wide {w : World} {lo hi lo' hi' : Nat} {v : Value} {ps : List Pc} (h : RowI w lo hi v ps) (h1 : lo' ≤ lo) (h2 : hi ≤ hi') : RowI w lo' hi' v ps :=
 ⟨own_base h.own h1, fun k hk => ⟨by have := (h.top k hk).1; omega, (h.top k hk).2⟩, fun p hp => by have := h.rng p hp; omega, h.par⟩
theorem SetI.wide {w : World} {lo hi lo' hi' : Nat} {v : Value} {S : RL} (h : SetI w lo hi v S) (h1 : lo' ≤ lo) (h2 : hi ≤ hi') : SetI w lo' hi' v S :=
 ⟨own_base h.own h1, fun k hk => by have := h.top k hk; omega⟩
theorem NodeI.wide {w : World} {lo hi lo' hi' : Nat} {n : NV} {t : Tr} (h : NodeI w lo hi n t) (h1 : lo' ≤ lo) (h2 : hi ≤ hi') : NodeI w lo' hi' n t := by
 cases h with
 | mk _ _ n S ps hs hk hne h => exact .mk lo' hi' n S ps (hs.wide h1 h2) (hk.wide h1 h2) hne h
theorem RowI.nil (w : World) (lo hi : Nat) : RowI w lo hi (.slice none 0 0) [] := ⟨World.ownsRow_nil _ _ _ _, fun k hk => (by simp [Value.ownBlock] at hk), fun p hp => (by cases hp), List.Pairwise.nil⟩
theorem SetI.nil (w : World) (lo hi : Nat) : SetI w lo hi (.slice none 0 0) [] := ⟨World.ownsRow_nil _ _ _ _, fun k hk => by simp [Value.ownBlock] at hk⟩
theorem NodeI.leaf (w : World) (lo hi : Nat) (k num a b c : Int) (f : Bool) (hk : ¬ (k = 9 ∨ k = 10)) : NodeI w lo hi ⟨k, none, 0, 0, none, 0, 0, num, a, b, c, f⟩ (.mk k num a b c f [] []) :=
 .mk lo hi ⟨k, none, 0, 0, none, 0, 0, num, a, b, c, f⟩ [] [] (SetI.nil _ _ _) (RowI.nil _ _ _) (fun h => absurd h hk) (fun p hp => by cases hp)
structure Pieces (w : World) (lo hi : Nat) (v : Value) (ps : List Pc) : Prop where
 row : RowI w lo hi v ps
 all : ∀ p ∈ ps, NodeI w p.lo p.hi p.nv p.tr
theorem Pieces.keep {w w' : World} {lo hi : Nat} {v : Value} {ps : List Pc} (h : Pieces w lo hi v ps) (hK : KeepI lo hi w w') : Pieces w' lo hi v ps :=
 ⟨h.row.keep hK, fun p hp => (h.all p hp).keep (hK.sub (h.row.rng p hp).1 (h.row.rng p hp).2.2)⟩
theorem Pieces.wide {w : World} {lo hi lo' hi' : Nat} {v : Value} {ps : List Pc} (h : Pieces w lo hi v ps) (h1 : lo' ≤ lo) (h2 : hi ≤ hi') : Pieces w lo' hi' v ps := ⟨h.row.wide h1 h2, h.all⟩
theorem Pieces.nil (w : World) (lo hi : Nat) : Pieces w lo hi (.slice none 0 0) [] := ⟨RowI.nil _ _ _, fun p hp => by cases hp⟩
theorem Pieces.node {w : World} {lo hi : Nat} {ka : Option Addr} {kl kc : Nat} {ps : List Pc} (h : Pieces w lo hi (.slice ka kl kc) ps) (k num a b c : Int) (f : Bool) (hne : ps ≠ []) : NodeI w lo hi ⟨k, none, 0, 0, ka, kl, kc, num, a, b, c, f⟩ (.mk k num a b c f [] (ps.map Pc.tr)) :=
 .mk lo hi ⟨k, none, 0, 0, ka, kl, kc, num, a, b, c, f⟩ [] ps (SetI.nil _ _ _) h.row (fun _ => hne) h.all
theorem own_ncells {w : World} {lo : Nat} {g cap : Nat} {ps : List Pc} (h : w.ownsRow lo 28 8 (.slice (some ⟨g, 0, none⟩) ps.length cap) ps.length (cellsP ps)) {j : Nat} (hj : j < ps.length) : NCells w ⟨g, j * 8, none⟩ ps[j].nv := by
 have hc := fun i (hi : i < 8) => (World.ownsRow.cellAt h (j * 8 + i) (by omega)).trans (cellsP_get ps j hj i hi)
 refine ⟨?_, ?_, ?_, ?_, ?_, ?_, ?_, ?_⟩
 ·exact hc 0 (by omega)
 ·exact hc 1 (by omega)
 ·exact hc 2 (by omega)
 ·exact hc 3 (by omega)
 ·exact hc 4 (by omega)
 ·exact hc 5 (by omega)
 ·exact hc 6 (by omega)
 ·exact hc 7 (by omega)
theorem zadd (g k : Nat) : (⟨g, 0, none⟩ : Addr).add k = ⟨g, k, none⟩ := by
 unfold Addr.add
 by_cases h : k = 0
 ·subst h; simp
 ·simp [h]
theorem NodeI.toC {w : World} {lo hi : Nat} {n : NV} {t : Tr} (h : NodeI w lo hi n t) : NodeC w n t := by
 induction h with
 | mk lo hi n S ps hs hk hne h ih =>
  refine .mk n S (ps.map Pc.tr) (fun j => (ps.getD j ⟨n, .mk 0 0 0 0 0 false [] [], 0, 0⟩).nv) (own_reads hs.own) ?_ ?_
  ·have ho := hk.own
   rcases ho.2 with ⟨h1, h2⟩ | ⟨g, cap, cur, h1, h3, h4, h5, h6, h7, h8⟩
   ·have e1 : n.ka = none := by injection h1
    have e2 : n.kl = 0 := by injection h1
    have e3 : n.kc = 0 := by injection h1
    exact .inl ⟨e1, e2, e3, by simpa using h2⟩
   ·have e1 : n.ka = some ⟨g, 0, none⟩ := by injection h1
    have e2 : n.kl = ps.length := by injection h1
    have e3 : n.kc = cap := by injection h1
    refine .inr ⟨⟨g, 0, none⟩, e1, by simpa using e2, by rw [List.length_map, e3]; exact ⟨h5, h6⟩, fun j hj => ?_⟩
    have hj' : j < ps.length := by simpa using hj
    rw [zadd]
    rw [e1, e2, e3] at ho
    have := own_ncells ho hj'
    simpa [List.getD_eq_getElem?_getD, List.getElem?_eq_getElem hj'] using this
  ·intro j hj
   have hj' : j < ps.length := by simpa using hj
   have := ih ps[j] (List.getElem_mem hj')
   simpa [List.getD_eq_getElem?_getD, List.getElem?_eq_getElem hj'] using this
end Go.Proofs.YtaccofiegkdlgaaGreatDoor.Pa
namespace Go.Proofs.YtaccofiegkdlgaaGreatDoor.Pa
set_option maxHeartbeats 2000000
set_option maxRecDepth 100000
open Go.RowKit
set_option linter.unusedVariables false
theorem hide {p : Prop} (h : p) : Hid p := h
theorem lt_of_cell {w : World} {a : Addr} {v : Value} (h : w.cell? a = some v) : a.block < w.heap.size := World.block_lt_of_cell? _ _ h
theorem below_cell {B : Nat} {w w' : World} (hb : Below B w w') {a : Addr} {v : Value} (ha : a.block < B) (h : w.cell? a = some v) : w'.cell? a = some v := by
 rw [← h]
 unfold World.cell?
 rw [hb.block a.block ha]
theorem ba_ext {a b : ByteArray} (h : a.toList = b.toList) : a = b := by
 rw [ByteArray.toList_eq, ByteArray.toList_eq] at h
 cases a with
 | mk x => cases b with
  | mk y => cases x with
   | mk x => cases y with
    | mk y => simpa using h
abbrev NmL : Type := List (ByteArray × Int)
def Cells2N (w : World) (x : Addr) (N : NmL) : Prop := ∀ j (h : j < N.length), w.cell? (x.add (j * 2)) = some (.string N[j].1) ∧ w.cell? ⟨(x.add (j * 2)).block, (x.add (j * 2)).off + 1, none⟩ = some (.int .i64 N[j].2)
def NamesC (w : World) (v : Value) (N : NmL) : Prop := (v = .slice none 0 0 ∧ N = []) ∨ ∃ x c, v = .slice (some x) N.length c ∧ (N.length ≤ c ∧ c ≤ 9223372036854775807) ∧ Cells2N w x N
def numIn (N : NmL) (t : ByteArray) : Option Int := (N.find? fun n => decide (n.1 = t)).map Prod.snd
theorem numIn_none {N : NmL} {t : ByteArray} (h : ∀ i (hi : i < N.length), ¬ N[i].1 = t) : numIn N t = none := by
 unfold numIn
 rw [List.find?_eq_none.2]
 ·rfl
 ·intro n hn
  obtain ⟨i, hi, rfl⟩ := List.mem_iff_getElem.1 hn
  simpa using h i hi
theorem numIn_some {N : NmL} {t : ByteArray} {j : Nat} (hj : j < N.length) (h : ∀ i (hi : i < j), ¬ N[i].1 = t) (e : N[j].1 = t) : numIn N t = some N[j].2 := by
 unfold numIn
 have : N.find? (fun n => decide (n.1 = t)) = some N[j] := by
  rw [List.find?_eq_some_iff_getElem]
  exact ⟨by simpa using e, j, hj, rfl, fun i hi => by simpa using h i hi⟩
 rw [this]
 rfl
theorem numberIn_any (v : Value) (N : NmL) (t : ByteArray) (w : World) (hN : NamesC w v N) : Calls Tryz.prog 13 #[v, .string t] w fun e w' => e = .returned (.tuple #[.int .i64 ((numIn N t).getD 0), .bool (numIn N t).isSome]) ∧ Below w.heap.size w w' := by
 rcases hN with ⟨rfl, rfl⟩ | ⟨x, c, rfl, hc, hcl⟩
 ·go_enter Tryz.func13, Tryz.ntmps13
  go_wp2
  go_loop [10] (fun i => i = .int .i64 0) (fun i => 0)
  case atStart => exact rfl
  case round =>
   subst hrel
   go_wp2
   go_ret2
   exact ⟨rfl, Below.refl _ _⟩
 ·obtain ⟨m, hm⟩ : ∃ m, m = N.length := ⟨_, rfl⟩
  have HCL := hide hcl
  have HM := hide hm
  rw [← hm] at hc ⊢
  clear hcl hm
  go_enter Tryz.func13, Tryz.ntmps13
  go_wp2
  go_loopw [10] (fun u wr => ∃ j : Nat, j ≤ m ∧ u = .int .i64 j ∧ (∀ i (hi : i < N.length), i < j → ¬ N[i].1 = t) ∧ Below w.heap.size w wr) (fun u _ => m - (intOf u).toNat)
  case atStart => exact ⟨0, Nat.zero_le _, rfl, fun i _ hi => absurd hi (Nat.not_lt_zero _), Below.refl _ _⟩
  case round =>
   obtain ⟨j, hj, rfl, hA, hb⟩ := hrel
   obtain ⟨w2, hw2⟩ : ∃ w2, w2 = wr := ⟨_, rfl⟩
   subst hw2
   have HA := hide hA
   have HB := hide hb
   clear hA hb
   by_cases hlt : j < m
   ·have hjl : j < N.length := by rw [← HM.out]; exact hlt
    have m0 := below_cell HB.out (lt_of_cell (HCL.out j hjl).1) (HCL.out j hjl).1
    have m1 := below_cell HB.out (lt_of_cell (HCL.out j hjl).2) (HCL.out j hjl).2
    obtain ⟨a, ha⟩ : ∃ a, a = N[j].1 := ⟨_, rfl⟩
    obtain ⟨b, hbb⟩ : ∃ b, b = N[j].2 := ⟨_, rfl⟩
    rw [← ha] at m0
    rw [← hbb] at m1
    have HS : Hid (a = t → numIn N t = some b) := fun e => by
     rw [hbb]
     exact numIn_some hjl (fun i hi => HA.out i (by omega) hi) (by rw [← ha]; exact e)
    have HNo : Hid (¬ a = t → ∀ i (hi : i < N.length), i < j + 1 → ¬ N[i].1 = t) := fun e i hi hij => by
     by_cases h2 : i = j
     ·subst h2
      rw [← ha]
      exact e
     ·exact HA.out i hi (by omega)
    clear ha hbb hjl
    have e5 : (j : Int) < (m : Int) := by omega
    have e6 : (0 : Int) ≤ (j : Int) := by omega
    have hkw : IntKind.i64.wrap ((j : Int) + 1) = (j : Int) + 1 := by rw [IntKind.wrap_i64]; omega
    go_upto_region 4 with fail
    obtain ⟨w3, hw3⟩ : ∃ w3, w3 = w2.alloc (.cells #[.string a, .int .i64 b] 45) := ⟨_, rfl⟩
    have f0 : w3.cell? ⟨w2.heap.size, 0, none⟩ = some (.string a) := by rw [hw3, World.cell?_alloc_at _ _ _ _ (by simp)]; rfl
    have f1 : w3.cell? ⟨w2.heap.size, 1, none⟩ = some (.int .i64 b) := by rw [hw3, World.cell?_alloc_at _ _ _ _ (by simp)]; rfl
    have HB3 : Hid (Below w.heap.size w w3) := by show Below _ _ _; rw [hw3]; exact HB.out.alloc HB.out.size _
    rw [← hw3]
    obtain ⟨bx, hbx⟩ : ∃ bx, bx = w2.heap.size := ⟨_, rfl⟩
    rw [← hbx] at f0 f1 ⊢
    clear hw3 m0 m1 hbx
    by_cases hat : a = t
    ·have HSo := hide (HS.out hat)
     have q1 : (a.toList == t.toList) = true := by rw [hat]; simp
     clear hat
     go_wp2
     go_ret2
     rw [HSo.out]
     exact ⟨rfl, HB3.out⟩
    ·have HNN := hide (HNo.out hat)
     have q1 : (a.toList == t.toList) = false := by
      rw [beq_eq_false_iff_ne]
      exact fun hh => hat (ba_ext hh)
     clear hat
     go_wp2
     go_roundw
     case rel => exact ⟨j + 1, by omega, by go_num, HNN.out, HB3.out⟩
     case measure => simp [intOf]; omega
   ·have HNo : Hid (numIn N t = none) := numIn_none fun i hi => HA.out i hi (by have := HM.out; omega)
    go_wp2
    go_ret2
    rw [HNo.out]
    exact ⟨rfl, HB.out⟩
end Go.Proofs.YtaccofiegkdlgaaGreatDoor.Pa
namespace Go.Proofs.YtaccofiegkdlgaaGreatDoor.Pa
set_option maxHeartbeats 2000000
set_option maxRecDepth 100000
open Go.RowKit
set_option linter.unusedVariables false
theorem NamesC.below {w w' : World} {v : Value} {N : NmL} (h : NamesC w v N) (hb : Below w.heap.size w w') : NamesC w' v N := by
 rcases h with h | ⟨x, c, h1, h2, h3⟩
 ·exact .inl h
 ·exact .inr ⟨x, c, h1, h2, fun j hj => ⟨below_cell hb (lt_of_cell (h3 j hj).1) (h3 j hj).1, below_cell hb (lt_of_cell (h3 j hj).2) (h3 j hj).2⟩⟩
theorem NamesC.shape {w : World} {v : Value} {N : NmL} (h : NamesC w v N) : ∃ ao c, v = .slice ao N.length c := by
 rcases h with ⟨rfl, rfl⟩ | ⟨x, c, rfl, _, _⟩
 ·exact ⟨_, _, rfl⟩
 ·exact ⟨_, _, rfl⟩
def numE : Option Int → Int
 | none => 5
 | some _ => 0
theorem number_any (p0 p1 p2 p3 p4 p5 p6 p7 p8 v : Value) (N : NmL) (t : ByteArray) (w : World) (hN : NamesC w v N) : Calls Tryz.prog 9 #[.agg #[p0, p1, p2, p3, p4, p5, p6, p7, p8, v], .string t] w fun e w' => e = .returned (.tuple #[.int .i64 ((numIn N t).getD 0), .int .i64 (numE (numIn N t))]) ∧ Below w.heap.size w w' := by
 have HN := hide hN
 obtain ⟨ao, c, hv⟩ := hN.shape
 obtain ⟨m, hm⟩ : ∃ m, m = N.length := ⟨_, rfl⟩
 rw [← hm] at hv
 rw [hv] at HN ⊢
 clear hN hv hm
 go_enter Tryz.func9, Tryz.ntmps9
 go_upto_region 1 with fail
 obtain ⟨w1, hw1⟩ : ∃ w1, w1 = w.alloc (.cells #[p0, p1, p2, p3, p4, p5, p6, p7, p8, .slice ao m c] 31) := ⟨_, rfl⟩
 have f9 : w1.cell? ⟨w.heap.size, 9, none⟩ = some (.slice ao m c) := by rw [hw1, World.cell?_alloc_at _ _ _ _ (by simp)]; rfl
 have hb1 : Below w.heap.size w w1 := by rw [hw1]; exact (Below.refl _ w).alloc (Nat.le_refl _) _
 rw [← hw1]
 have HB1 := hide hb1
 have HI := hide (numberIn_any _ N t w1 (HN.out.below hb1))
 obtain ⟨r, hr⟩ : ∃ r, r = numIn N t := ⟨_, rfl⟩
 have HR := hide hr
 rw [← hr] at HI
 clear hw1 hb1 hr
 go_wp2_with fail
 refine HI.out.mono ?_
 rintro e w2 ⟨rfl, hb2⟩
 have HB2 := hide (HB1.out.trans (hb2.mono HB1.out.size))
 clear hb2 HI
 cases r with
 | none =>
  simp only [Option.getD_none, Option.isSome_none]
  go_wp2
  go_ret2
  rw [← HR.out]
  exact ⟨rfl, HB2.out⟩
 | some z =>
  simp only [Option.getD_some, Option.isSome_some]
  go_wp2
  go_ret2
  rw [← HR.out]
  exact ⟨rfl, HB2.out⟩
end Go.Proofs.YtaccofiegkdlgaaGreatDoor.Pa
namespace Go.Proofs.YtaccofiegkdlgaaGreatDoor.Pa
set_option maxHeartbeats 1000000
open Go.RowKit
open TR (Tr NV NCells nvV nvO NodeC KidsC)
open TK (Mv PatV)
open Br (BE PS givesF)
set_option linter.unusedVariables false
structure Step (g : Nat) (w w' : World) : Prop where
 os : w'.os = w.os
 tape : w'.tape = w.tape
 output : w'.output = w.output
 size : w.heap.size ≤ w'.heap.size
 low : ∀ k, k < g → w'.heap[k]? = w.heap[k]?
 oth : ∀ k, g < k → k < w.heap.size → ∀ cs e fr, w.heap[k]? = some (.cells cs e fr) → e ≠ 45 → e ≠ 72 → w'.heap[k]? = some (.cells cs e fr)
theorem Step.refl (g : Nat) (w : World) : Step g w w := ⟨rfl, rfl, rfl, Nat.le_refl _, fun _ _ => rfl, fun _ _ _ _ _ _ h _ _ => h⟩
theorem Step.trans {g : Nat} {w w1 w2 : World} (h : Step g w w1) (k : Step g w1 w2) : Step g w w2 :=
 ⟨k.os.trans h.os, k.tape.trans h.tape, k.output.trans h.output, Nat.le_trans h.size k.size, fun i hi => (k.low i hi).trans (h.low i hi), fun i h1 h2 cs e fr hc e1 e2 => k.oth i h1 (Nat.lt_of_lt_of_le h2 h.size) cs e fr (h.oth i h1 h2 cs e fr hc e1 e2) e1 e2⟩
theorem Step.of_mv {g : Nat} {w w' : World} (h : Mv g w w') (hg : g < w.heap.size) : Step g w w' :=
 ⟨h.os, h.tape, h.output, h.size, fun k hk => h.block k (by omega) (by omega), fun k h1 h2 cs e fr hc _ _ => by rw [h.block k h2 (by omega)]; exact hc⟩
theorem Step.of_below {g : Nat} {w w' : World} (h : Below w.heap.size w w') (hg : g < w.heap.size) : Step g w w' := Step.of_mv (Mv.of_below h) hg
theorem Step.below {g : Nat} {w w' : World} (h : Step g w w') : Below g w w' := ⟨h.os, h.tape, h.output, h.size, h.low⟩
theorem Step.keepI {g lo hi : Nat} {w w' : World} (h : Step g w w') (h1 : g < lo) (h2 : hi ≤ w.heap.size) : KeepI lo hi w w' := fun k a b cs e he hc => by
 refine h.oth k (by omega) (by omega) cs e _ hc ?_ ?_
 ·rcases he with rfl | rfl <;> decide
 ·rcases he with rfl | rfl <;> decide
theorem Step.blk {g k : Nat} {w w' : World} {cs : Array Value} {e : TypeId} {fr : Nat × Nat} (h : Step g w w') (hk : g < k) (hc : w.heap[k]? = some (.cells cs e fr)) (e1 : e ≠ 45) (e2 : e ≠ 72) : w'.heap[k]? = some (.cells cs e fr) :=
 h.oth k hk (TR.lt_of_block hc) cs e fr hc e1 e2
def cellsNm (N : List Nm) : List Value := N.flatMap fun n => [.string n.1, .int .i64 n.2]
def cellsAg (A : List Ag) : List Value := A.flatMap fun a => [.int .i64 a.num, .string a.name, .int .i64 (a.pos : Nat)]
theorem cellsNm_append (a b : List Nm) : cellsNm (a ++ b) = cellsNm a ++ cellsNm b := by simp [cellsNm]
theorem cellsAg_append (a b : List Ag) : cellsAg (a ++ b) = cellsAg a ++ cellsAg b := by simp [cellsAg]
theorem cellsNm_get : ∀ (N : List Nm) (k : Nat) (h : k < N.length), (cellsNm N)[k * 2]? = some (.string N[k].1) ∧ (cellsNm N)[k * 2 + 1]? = some (.int .i64 N[k].2)
 | n :: N, 0, h => ⟨rfl, rfl⟩
 | n :: N, k + 1, h => by
  have := cellsNm_get N k (by simpa using h)
  have e : cellsNm (n :: N) = .string n.1 :: .int .i64 n.2 :: cellsNm N := rfl
  rw [e, show (k + 1) * 2 = k * 2 + 1 + 1 from by omega]
  simpa using this
theorem cellsAg_get : ∀ (A : List Ag) (k : Nat) (h : k < A.length), (cellsAg A)[k * 3]? = some (.int .i64 A[k].num) ∧ (cellsAg A)[k * 3 + 1]? = some (.string A[k].name) ∧ (cellsAg A)[k * 3 + 2]? = some (.int .i64 (A[k].pos : Nat))
 | a :: A, 0, h => ⟨rfl, rfl, rfl⟩
 | a :: A, k + 1, h => by
  have := cellsAg_get A k (by simpa using h)
  have e : cellsAg (a :: A) = .int .i64 a.num :: .string a.name :: .int .i64 (a.pos : Nat) :: cellsAg A := rfl
  rw [e, show (k + 1) * 3 = k * 3 + 1 + 1 + 1 from by omega]
  simpa using this
abbrev rdO (d : Int) (v : Value) (s : St) (nv av : Value) : Obj := .cells #[.int .i64 d, v, .int .i64 s.tok.kind, .int .i64 s.tok.num, .string s.tok.text, .bool s.tok.neg, .int .i64 s.tok.least, .int .i64 s.tok.most, .int .i64 s.tok.way, .int .i64 s.tok.fold, .int .i64 (s.pos : Nat), .int .i64 (s.next : Nat), .bool s.folded, .int .i64 (s.deep : Nat), .int .i64 (s.groups : Nat), nv, av] 55 (0, 0)
structure RB (w : World) (g : Nat) (v : Value) (l : List Int) (d : Int) (s : St) (nv av : Value) : Prop where
 box : w.heap[g]? = some (rdO d v s nv av)
 pat : PatV w v l
 ne : ∀ x c, 0 < l.length → v = .slice (some x) l.length c → x.block < g
 nms : w.ownsRow (g + 1) 45 2 nv s.names.length (cellsNm s.names)
 ags : w.ownsRow (g + 1) 72 3 av s.agains.length (cellsAg s.agains)
 tab : Fo.Tab w
 low : 0 < g
 pe : TK.patE d l = 0
variable {w w' : World} {g : Nat} {v : Value} {l : List Int} {d : Int} {s s' : St} {nv av : Value}
theorem RB.lt (h : RB w g v l d s nv av) : g < w.heap.size := TR.lt_of_block h.box
theorem RB.small (h : RB w g v l d s nv av) : l.length ≤ 300 := (TK.patE_ok h.pe).2.1
theorem RB.mv (h : RB w g v l d s nv av) (hm : Mv g w w') (hbox : w'.heap[g]? = some (rdO d v s' nv av)) (hn : s'.names = s.names) (ha : s'.agains = s.agains) : RB w' g v l d s' nv av := by
 have hk : ∀ {e k n : Nat} {u : Value} {xs : List Value}, w.ownsRow (g + 1) e k u n xs → w'.ownsRow (g + 1) e k u n xs := fun {e k n u xs} ho => by
  refine ⟨ho.1, ?_⟩
  rcases ho.2 with h2 | ⟨b, cap, cur, rfl, h3, hg, h4⟩
  ·exact .inl h2
  ·exact .inr ⟨b, cap, cur, rfl, h3, by rw [hm.block b (TR.lt_of_block hg) (by omega)]; exact hg, h4⟩
 refine ⟨hbox, ?_, h.ne, by rw [hn]; exact hk h.nms, by rw [ha]; exact hk h.ags, h.tab.below (hm.below h.lt) h.low, h.low, h.pe⟩
 exact Br.PatV.mv h.pat hm fun x c hl e => by have := h.ne x c hl e; omega
theorem RB.keep (h : RB w g v l d s nv av) (hb : Below w.heap.size w w') : RB w' g v l d s nv av :=
 h.mv (Mv.of_below hb) (by rw [hb.block g h.lt]; exact h.box) rfl rfl
theorem RB.alloc (h : RB w g v l d s nv av) (o : Obj) : RB (w.alloc o) g v l d s nv av := h.keep ((Below.refl _ w).alloc (Nat.le_refl _) o)
theorem RB.drewN (h : RB w g v l d s nv av) (q : Nat) : RB (w.drewN q) g v l d s nv av := h.keep ⟨rfl, rfl, rfl, Nat.le_refl _, fun _ _ => rfl⟩
theorem RB.set (h : RB w g v l d s nv av) (i : Nat) (u : Value) (hbox : (rdO d v s' nv av) = .cells ((#[.int .i64 d, v, .int .i64 s.tok.kind, .int .i64 s.tok.num, .string s.tok.text, .bool s.tok.neg, .int .i64 s.tok.least, .int .i64 s.tok.most, .int .i64 s.tok.way, .int .i64 s.tok.fold, .int .i64 (s.pos : Nat), .int .i64 (s.next : Nat), .bool s.folded, .int .i64 (s.deep : Nat), .int .i64 (s.groups : Nat), nv, av] : Array Value).setIfInBounds i u) 55 (0, 0)) (hn : s'.names = s.names) (ha : s'.agains = s.agains) : RB (w.setCell ⟨g, i, none⟩ u) g v l d s' nv av := by
 refine h.mv ((Mv.refl g w).setCell i u) ?_ hn ha
 rw [hbox]
 exact TK.set_one h.box i u
theorem RB.rd (h : RB w g v l d s nv av) : w.cell? ⟨g, 0, none⟩ = some (.int .i64 d) ∧ w.cell? ⟨g, 1, none⟩ = some v ∧ w.cell? ⟨g, 10, none⟩ = some (.int .i64 (s.pos : Nat)) ∧ w.cell? ⟨g, 11, none⟩ = some (.int .i64 (s.next : Nat)) ∧ w.cell? ⟨g, 12, none⟩ = some (.bool s.folded) ∧ w.cell? ⟨g, 13, none⟩ = some (.int .i64 (s.deep : Nat)) ∧ w.cell? ⟨g, 14, none⟩ = some (.int .i64 (s.groups : Nat)) ∧ w.cell? ⟨g, 15, none⟩ = some nv ∧ w.cell? ⟨g, 16, none⟩ = some av := by
 refine ⟨?_, ?_, ?_, ?_, ?_, ?_, ?_, ?_, ?_⟩ <;> simp [World.cell?, h.box]
theorem RB.tk (h : RB w g v l d s nv av) : w.cell? ⟨g, 2, none⟩ = some (.int .i64 s.tok.kind) ∧ w.cell? ⟨g, 3, none⟩ = some (.int .i64 s.tok.num) ∧ w.cell? ⟨g, 4, none⟩ = some (.string s.tok.text) ∧ w.cell? ⟨g, 5, none⟩ = some (.bool s.tok.neg) ∧ w.cell? ⟨g, 6, none⟩ = some (.int .i64 s.tok.least) ∧ w.cell? ⟨g, 7, none⟩ = some (.int .i64 s.tok.most) ∧ w.cell? ⟨g, 8, none⟩ = some (.int .i64 s.tok.way) ∧ w.cell? ⟨g, 9, none⟩ = some (.int .i64 s.tok.fold) := by
 refine ⟨?_, ?_, ?_, ?_, ?_, ?_, ?_, ?_⟩ <;> simp [World.cell?, h.box]
theorem RB.fr (h : RB w g v l d s nv av) (i : Nat) : w.frozen? ⟨g, i, none⟩ = false := by
 simp [World.frozen?, h.box]
theorem RB.names (h : RB w g v l d s nv av) : NamesC w nv s.names := by
 have ho := h.nms
 rcases ho.2 with ⟨h1, h2⟩ | ⟨b, cap, cur, h1, h3, h4, h5, h6, h7, h8⟩
 ·exact .inl ⟨h1, List.eq_nil_of_length_eq_zero h2⟩
 ·refine .inr ⟨⟨b, 0, none⟩, cap, h1, ⟨h5, h6⟩, fun j hj => ?_⟩
  rw [h1] at ho
  obtain ⟨a1, a2⟩ := cellsNm_get s.names j hj
  rw [zadd]
  exact ⟨(World.ownsRow.cellAt ho (j * 2) (by omega)).trans a1, (World.ownsRow.cellAt ho (j * 2 + 1) (by omega)).trans a2⟩
structure Inv (l : List Int) (s : St) : Prop where
 pos : s.pos ≤ l.length
 next : s.next ≤ l.length
 on : s.pos < l.length → s.pos < s.next ∧ TokOk s.tok
 off : s.pos = l.length → s.tok = {}
 ags : s.agains.length ≤ s.pos
 nms : s.names.length ≤ s.groups
 grp : s.groups ≤ 20
 deep : s.deep ≤ 20
def OutA (R : Except BE St) (g : Nat) (v : Value) (l : List Int) (d : Int) (nv av : Value) (w : World) (e : Ending) (w' : World) : Prop :=
 (∃ s', R = .ok s' ∧ e = .returned (.tuple #[]) ∧ RB w' g v l d s' nv av ∧ Mv g w w') ∨ (∃ z a, R = .error (z, a) ∧ e = givesF z a ∧ Mv g w w')
def OutN (R : Except BE (Tr × St)) (g : Nat) (v : Value) (l : List Int) (d : Int) (w : World) (e : Ending) (w' : World) : Prop :=
 (∃ t s' n nv av, R = .ok (t, s') ∧ e = .returned (nvV n) ∧ NodeI w' w.heap.size w'.heap.size n t ∧ RB w' g v l d s' nv av ∧ Step g w w') ∨ (∃ z a, R = .error (z, a) ∧ e = givesF z a ∧ Step g w w')
theorem ret_node {f : Func} {tmps : Array Value} {W : World} {N s : Nat} {n : NV} {R : Ending → World → Prop} (hres : f.results = #[ResultVar.cell s 28]) (h2 : tmps[s]? = some (.pointer (some ⟨N, 0, none⟩))) (q1 : NCells W ⟨N, 0, none⟩ n) (hF : R (.returned (nvV n)) W) :
  bodyPost Tryz.prog f R Exit.ret { tmps := tmps, defers := [] } W := by
 refine bodyPost_ret (v := nvV n) ?_ rfl hF
 have c0 := q1.c0
 have c1 := q1.c1
 have c2 := q1.c2
 have c3 := q1.c3
 have c4 := q1.c4
 have c5 := q1.c5
 have c6 := q1.c6
 have c7 := q1.c7
 simp only [Nat.zero_add] at c0 c1 c2 c3 c4 c5 c6 c7
 simp [results, hres, go_sem, h2, c0, c1, c2, c3, c4, c5, c6, c7]
theorem giveUp_any (e a : Int) (w : World) : Calls Tryz.prog 23 #[.int .i64 e, .int .i64 a] w fun r w' => r = givesF e a ∧ w = w' := by
 go_enter Tryz.func23, Tryz.ntmps23
 go_wp2
 exact ⟨rfl, rfl, rfl⟩
end Go.Proofs.YtaccofiegkdlgaaGreatDoor.Pa
