import Derived.Test.YtklbbbldalmnbaaGreatDoorMK
import Derived.Test.YtklbbbldalmnbaaGreatDoorMD
import Derived.Test.YtklbbbldalmnbaaGreatDoorMR
import Derived.Test.YtklbbbldalmnbaaGreatDoorMP
import Derived.Test.YtklbbbldalmnbaaGreatDoorMU
namespace Go.Proofs.YtklbbbldalmnbaaGreatDoor.Pa
open TR (Tr chkT chkL nodeS kidsB fieldsB repE kidL)
open Br (BE PS manyB rngOf)
set_option linter.unusedVariables false
variable {l : List Int} {d : Int} {s s' : St}
def NOk (t : Tr) : Prop := (1 ≤ t.kind ∧ t.kind ≤ 18) ∧ kidsB t = true ∧ fieldsB t = true ∧ checkE t.set = 0 ∧ (t.kind = 12 → repE t = 0)
mutual
inductive Rt : Nat → Tr → Nat → Prop
 | mk (g g1 g' : Nat) (t : Tr) (h1 : NOk t) (h2 : (t.kind = 11 ∧ t.num = (g : Int) + 1 ∧ g1 = g + 1) ∨ (t.kind ≠ 11 ∧ g1 = g)) (h3 : RtL g1 t.kids g') : Rt g t g'
inductive RtL : Nat → List Tr → Nat → Prop
 | nil (g : Nat) : RtL g [] g
 | cons (g g1 g' : Nat) (t : Tr) (ts : List Tr) (h1 : Rt g t g1) (h2 : RtL g1 ts g') : RtL g (t :: ts) g'
end
theorem RtL.append {g g1 g' : Nat} : ∀ {ts us : List Tr}, RtL g ts g1 → RtL g1 us g' → RtL g (ts ++ us) g'
 | [], us, h, h' => by cases h; exact h'
 | t :: ts, us, h, h' => by
  cases h with
  | cons _ g2 _ _ _ h1 h2 => exact .cons _ _ _ _ _ h1 (RtL.append h2 h')
theorem RtL.one {g g' : Nat} {t : Tr} (h : Rt g t g') : RtL g [t] g' := .cons _ _ _ _ _ h (.nil _)
theorem Rt.ok {g g' : Nat} {t : Tr} (h : Rt g t g') : NOk t := by cases h with | mk _ _ _ _ h1 h2 h3 => exact h1
theorem Rt.kids {g g' : Nat} {t : Tr} (h : Rt g t g') (hk : t.kind ≠ 11) : RtL g t.kids g' := by
 cases h with
 | mk _ _ _ _ h1 h2 h3 =>
  rcases h2 with ⟨h, _⟩ | ⟨_, h⟩
  ·exact absurd h hk
  ·subst h; exact h3
theorem Rt.node {g g' : Nat} {t : Tr} (h : NOk t) (hk : t.kind ≠ 11) (h3 : RtL g t.kids g') : Rt g t g' := .mk _ _ _ _ h (.inr ⟨hk, rfl⟩) h3
theorem kidL_no {ts : List Tr} {k : Int} (h : ∀ u ∈ ts, u.kind ≠ k) : kidL ts k = false := by
 unfold kidL
 rw [List.any_eq_false]
 intro u hu
 simpa using h u hu
theorem kidL_yes {ts : List Tr} {k : Int} (h : kidL ts k = false) : ∀ u ∈ ts, u.kind ≠ k := by
 unfold kidL at h
 rw [List.any_eq_false] at h
 intro u hu
 simpa using h u hu
theorem row9 {t : Tr} (h : kidsB t = true) (hk : t.kind = 9) : 2 ≤ t.kids.length ∧ ∀ u ∈ t.kids, u.kind ≠ 9 ∧ u.kind ≠ 1 := by
 unfold kidsB at h
 rw [if_pos hk] at h
 simp only [Bool.and_eq_true, decide_eq_true_eq, Bool.not_eq_true'] at h
 exact ⟨h.1.1, fun u hu => ⟨kidL_yes h.1.2 u hu, kidL_yes h.2 u hu⟩⟩
theorem row10 {t : Tr} (h : kidsB t = true) (hk : t.kind = 10) : 2 ≤ t.kids.length ∧ ∀ u ∈ t.kids, u.kind ≠ 10 := by
 unfold kidsB at h
 rw [if_neg (by omega), if_pos hk] at h
 simp only [Bool.and_eq_true, decide_eq_true_eq, Bool.not_eq_true'] at h
 exact ⟨h.1, kidL_yes h.2⟩
theorem row1 {t : Tr} (h : kidsB t = true) (hk : t.kind = 1) : t.kids = [] := by
 unfold kidsB at h
 rw [if_neg (by omega), if_neg (by omega), if_neg (by omega)] at h
 simpa using h
theorem leaf_ok {g : Nat} {k : Int} (h : (1 ≤ k ∧ k ≤ 8 ∧ k ≠ 2)) : Rt g (.mk k 0 0 0 0 false [] []) g := by
 refine .node ⟨⟨h.1, by show k ≤ 18; omega⟩, ?_, ?_, rfl, fun hk => ?_⟩ (by show k ≠ 11; omega) (.nil _)
 ·unfold kidsB
  rw [if_neg (by show ¬ k = 9; omega), if_neg (by show ¬ k = 10; omega), if_neg (by show ¬ (11 ≤ k ∧ k ≤ 17); omega)]
  rfl
 ·simp [fieldsB, Tr.set, Tr.num, Tr.least, Tr.most, Tr.way, Tr.fold]
 ·have : k = 12 := hk
  omega
theorem empty_ok {g : Nat} : Rt g emptyT g := leaf_ok (by omega)
theorem set_ok {g : Nat} {f : PS} (h : manyB f = false) : Rt g (setT (listOf f)) g := by
 refine .node ⟨⟨by show (1 : Int) ≤ 2; decide, by show (2 : Int) ≤ 18; decide⟩, rfl, ?_, ?_, fun hk => ?_⟩ (by show (2 : Int) ≠ 11; decide) (.nil _)
 ·simp [fieldsB, setT, Tr.kind, Tr.num, Tr.least, Tr.most, Tr.way, Tr.fold]
 ·obtain ⟨S, hS⟩ := Br.ex_set f
  show checkE (listOf f) = 0
  rw [listOf_is hS, Br.check_set hS, h]
  rfl
 ·exact absurd hk (by show ¬ (2 : Int) = 12; decide)
theorem again_ok {g : Nat} {n : Int} {f : Bool} : Rt g (.mk 18 n 0 0 0 f [] []) g := by
 refine .node ⟨⟨by show (1 : Int) ≤ 18; decide, by show (18 : Int) ≤ 18; decide⟩, rfl, ?_, rfl, fun hk => ?_⟩ (by show (18 : Int) ≠ 11; decide) (.nil _)
 ·simp [fieldsB, Tr.kind, Tr.set, Tr.num, Tr.least, Tr.most, Tr.way, Tr.fold]
 ·exact absurd hk (by show ¬ (18 : Int) = 12; decide)
theorem group_ok {g g' : Nat} {t : Tr} (h : Rt (g + 1) t g') : Rt g (.mk 11 ((g + 1 : Nat) : Int) 0 0 0 false [] [t]) g' := by
 refine .mk _ (g + 1) _ _ ⟨⟨by show (1 : Int) ≤ 11; decide, by show (11 : Int) ≤ 18; decide⟩, rfl, ?_, rfl, fun hk => ?_⟩ (.inl ⟨rfl, ?_, rfl⟩) (RtL.one h)
 ·simp [fieldsB, Tr.kind, Tr.set, Tr.num, Tr.least, Tr.most, Tr.way, Tr.fold]
 ·exact absurd hk (by show ¬ (11 : Int) = 12; decide)
 ·show ((g + 1 : Nat) : Int) = (g : Int) + 1
  omega
theorem look_ok {g g' : Nat} {t : Tr} {k : Int} (hk : 13 ≤ k ∧ k ≤ 17) (h : Rt g t g') : Rt g (.mk k 0 0 0 0 false [] [t]) g' := by
 refine .node ⟨⟨by show 1 ≤ k; omega, by show k ≤ 18; omega⟩, ?_, ?_, rfl, fun hh => ?_⟩ (by show k ≠ 11; omega) (RtL.one h)
 ·unfold kidsB
  rw [if_neg (by show ¬ k = 9; omega), if_neg (by show ¬ k = 10; omega), if_pos (by show 11 ≤ k ∧ k ≤ 17; omega)]
  rfl
 ·simp [fieldsB, Tr.set, Tr.num, Tr.least, Tr.most, Tr.way, Tr.fold]
 ·have : k = 12 := hh
  omega
theorem rep_ok {g g' : Nat} {t : Tr} {k : TK.Tok} (ht : TokOk k) (hk : k.kind = 6) (h : Rt g t g') : Rt g (repT t k) g' := by
 refine .node ⟨⟨by show (1 : Int) ≤ 12; decide, by show (12 : Int) ≤ 18; decide⟩, rfl, ?_, rfl, fun hh => ?_⟩ (by show (12 : Int) ≠ 11; decide) (RtL.one h)
 ·simp [fieldsB, repT, Tr.kind, Tr.set, Tr.num, Tr.fold]
 ·have hr : 0 ≤ k.least ∧ k.least ≤ 100 ∧ (k.most = -1 ∨ (k.least ≤ k.most ∧ k.most ≤ 100)) ∧ 1 ≤ k.way ∧ k.way ≤ 3 := by unfold TokOk at ht; omega
  unfold repE
  rw [if_neg (by show ¬ ¬ (0 ≤ k.least ∧ k.least ≤ 100); omega), if_neg (by show ¬ ¬ (k.most = -1 ∨ (k.least ≤ k.most ∧ k.most ≤ 100)); omega), if_neg (by show ¬ ¬ (1 ≤ k.way ∧ k.way ≤ 3); omega)]
theorem rowL_ok : ∀ {ps : List Tr} {g g' : Nat}, RtL g ps g' → RtL g (rowL ps) g' ∧ ∀ u ∈ rowL ps, u.kind ≠ 9 ∧ u.kind ≠ 1
 | [], g, g', h => by cases h; exact ⟨.nil _, fun u hu => by cases hu⟩
 | t :: ps, g, g', h => by
  cases h with
  | cons _ g1 _ _ _ h1 h2 =>
   obtain ⟨i1, i2⟩ := rowL_ok h2
   have e : rowL (t :: ps) = (if t.kind = 1 then [] else if t.kind = 9 then t.kids else [t]) ++ rowL ps := by simp [rowL]
   rw [e]
   by_cases k1 : t.kind = 1
   ·rw [if_pos k1]
    have := h1.kids (by omega)
    rw [row1 h1.ok.2.1 k1] at this
    cases this
    exact ⟨i1, i2⟩
   ·rw [if_neg k1]
    by_cases k9 : t.kind = 9
    ·rw [if_pos k9]
     refine ⟨(h1.kids (by omega)).append i1, fun u hu => ?_⟩
     rcases List.mem_append.1 hu with h | h
     ·exact (row9 h1.ok.2.1 k9).2 u h
     ·exact i2 u h
    ·rw [if_neg k9]
     refine ⟨(RtL.one h1).append i1, fun u hu => ?_⟩
     rcases List.mem_append.1 hu with h | h
     ·rw [List.mem_singleton] at h; subst h; exact ⟨k9, k1⟩
     ·exact i2 u h
theorem row_ok {ps : List Tr} {g g' : Nat} (h : RtL g ps g') : Rt g (rowT ps) g' := by
 obtain ⟨h1, h2⟩ := rowL_ok h
 unfold rowT
 cases hr : rowL ps with
 | nil => rw [hr] at h1; cases h1; exact empty_ok
 | cons a r =>
  rw [hr] at h1 h2
  cases r with
  | nil =>
   cases h1 with
   | cons _ _ _ _ _ h3 h4 => cases h4; exact h3
  | cons b r =>
   show Rt g (.mk 9 0 0 0 0 false [] (a :: b :: r)) g'
   refine .node ⟨⟨by show (1 : Int) ≤ 9; decide, by show (9 : Int) ≤ 18; decide⟩, ?_, ?_, rfl, fun hh => absurd hh (by show ¬ (9 : Int) = 12; decide)⟩ (by show (9 : Int) ≠ 11; decide) h1
   ·unfold kidsB
    rw [if_pos (show (Tr.mk 9 0 0 0 0 false [] (a :: b :: r)).kind = 9 from rfl)]
    show (decide (2 ≤ (a :: b :: r).length) && !kidL (a :: b :: r) 9 && !kidL (a :: b :: r) 1) = true
    rw [kidL_no fun u hu => (h2 u hu).1, kidL_no fun u hu => (h2 u hu).2]
    simp
   ·simp [fieldsB, Tr.kind, Tr.set, Tr.num, Tr.least, Tr.most, Tr.way, Tr.fold]
theorem eitherL_ok : ∀ {bs : List Tr} {g g' : Nat}, RtL g bs g' → RtL g (bs.flatMap fun t => if t.kind = 10 then t.kids else [t]) g' ∧ (∀ u ∈ (bs.flatMap fun t => if t.kind = 10 then t.kids else [t]), u.kind ≠ 10) ∧ bs.length ≤ (bs.flatMap fun t => if t.kind = 10 then t.kids else [t]).length
 | [], g, g', h => by cases h; exact ⟨.nil _, fun u hu => (by cases hu), Nat.le_refl _⟩
 | t :: bs, g, g', h => by
  cases h with
  | cons _ g1 _ _ _ h1 h2 =>
   obtain ⟨i1, i2, i3⟩ := eitherL_ok h2
   rw [List.flatMap_cons]
   by_cases k9 : t.kind = 10
   ·rw [if_pos k9]
    have h10 := row10 h1.ok.2.1 k9
    refine ⟨(h1.kids (by omega)).append i1, fun u hu => ?_, by rw [List.length_append, List.length_cons]; omega⟩
    rcases List.mem_append.1 hu with h | h
    ·exact h10.2 u h
    ·exact i2 u h
   ·rw [if_neg k9]
    refine ⟨(RtL.one h1).append i1, fun u hu => ?_, by rw [List.length_append, List.length_cons, List.length_singleton]; omega⟩
    rcases List.mem_append.1 hu with h | h
    ·rw [List.mem_singleton] at h; subst h; exact k9
    ·exact i2 u h
theorem either_ok {bs : List Tr} {g g' : Nat} (h : RtL g bs g') (hne : bs ≠ []) : Rt g (eitherT bs) g' := by
 match bs, hne, h with
 | [t], _, h =>
  cases h with
  | cons _ _ _ _ _ h3 h4 => cases h4; exact h3
 | a :: b :: r, _, h =>
  obtain ⟨i1, i2, i3⟩ := eitherL_ok h
  show Rt g (.mk 10 0 0 0 0 false [] ((a :: b :: r).flatMap fun t => if t.kind = 10 then t.kids else [t])) g'
  refine .node ⟨⟨by show (1 : Int) ≤ 10; decide, by show (10 : Int) ≤ 18; decide⟩, ?_, ?_, rfl, fun hh => absurd hh (by show ¬ (10 : Int) = 12; decide)⟩ (by show (10 : Int) ≠ 11; decide) i1
  ·unfold kidsB
   rw [if_neg (by show ¬ (10 : Int) = 9; decide), if_pos (by show (10 : Int) = 10; rfl)]
   show (decide (2 ≤ (((a :: b :: r).flatMap fun t => if t.kind = 10 then t.kids else [t])).length) && !kidL ((a :: b :: r).flatMap fun t => if t.kind = 10 then t.kids else [t]) 10) = true
   rw [kidL_no i2]
   simp only [List.length_cons] at i3
   simp only [Bool.not_false, Bool.and_true, decide_eq_true_eq]
   omega
  ·simp [fieldsB, Tr.kind, Tr.set, Tr.num, Tr.least, Tr.most, Tr.way, Tr.fold]
end Go.Proofs.YtklbbbldalmnbaaGreatDoor.Pa
namespace Go.Proofs.YtklbbbldalmnbaaGreatDoor.Pa
open TR (Tr)
open Br (BE PS manyB rngOf)
set_option linter.unusedVariables false
variable {l : List Int} {d : Int} {s s' : St}
def NameOk (t : ByteArray) : Prop := ∃ l i, t = TK.byteA (TK.nameL l i) ∧ TK.nameL l i ≠ [] ∧ (∀ p ∈ l, 0 ≤ p ∧ p ≤ 1114111)
structure NmOk (s : St) : Prop where
 one : ∀ n ∈ s.names, NameOk n.1 ∧ 1 ≤ n.2 ∧ n.2 ≤ (s.groups : Int)
 two : s.names.Pairwise fun a b => a.1.toList ≠ b.1.toList ∧ a.2 < b.2
theorem NmOk.same (h : NmOk s) (h1 : s'.names = s.names) (h2 : s'.groups = s.groups) : NmOk s' := ⟨by rw [h1, h2]; exact h.one, by rw [h1]; exact h.two⟩
theorem tok_text (ht : TokOk s.tok) (hk : s.tok.kind = 7) (hne : s.tok.text.toList ≠ []) : NameOk s.tok.text := by
 unfold TokOk at ht
 rcases ht with h | h | h | h | h | h | h | h | h | h | h
 all_goals first
  | omega
  | (rcases h.2.2.1 with h1 | h1
     ·exact absurd h1 hne
     ·exact h1)
theorem begin_ok {t : ByteArray} (hn : t.toList ≠ [] → NameOk t) (hr : beginM s t = .ok s') : s'.groups = s.groups + 1 ∧ (NmOk s → NmOk s') := by
 unfold beginM at hr
 split at hr
 ·cases hr
 ·split at hr
  ·cases hr
   exact ⟨rfl, fun h => ⟨fun n hm => ⟨(h.one n hm).1, (h.one n hm).2.1, by have := (h.one n hm).2.2; show n.2 ≤ ((s.groups + 1 : Nat) : Int); omega⟩, h.two⟩⟩
  ·rename_i hne
   split at hr
   ·cases hr
   ·rename_i hh
    cases hr
    refine ⟨rfl, fun h => ⟨fun n hm => ?_, ?_⟩⟩
    ·show NameOk n.1 ∧ 1 ≤ n.2 ∧ n.2 ≤ ((s.groups + 1 : Nat) : Int)
     rcases List.mem_append.1 hm with h1 | h1
     ·exact ⟨(h.one n h1).1, (h.one n h1).2.1, by have := (h.one n h1).2.2; omega⟩
     ·rw [List.mem_singleton] at h1
      subst h1
      exact ⟨hn hne, by show (1 : Int) ≤ ((s.groups + 1 : Nat) : Int); omega, Int.le_refl _⟩
    ·show (s.names ++ [(t, ((s.groups + 1 : Nat) : Int))]).Pairwise _
     rw [List.pairwise_append]
     refine ⟨h.two, List.pairwise_singleton _ _, fun a ha b hb => ?_⟩
     rw [List.mem_singleton] at hb
     subst hb
     refine ⟨fun e => hh ?_, by have := (h.one a ha).2.2; show a.2 < ((s.groups + 1 : Nat) : Int); omega⟩
     unfold hasName
     rw [List.any_eq_true]
     exact ⟨a, ha, by simpa using e⟩
theorem set_few {f : PS} {k : Nat} (ht : TokOk s.tok) (hr : setM d l s = .ok (f, k)) : manyB f = false := by
 unfold setM at hr
 split at hr
 ·rename_i h1
  cases hr
  exact few_one (by unfold TokOk at ht; omega) s.folded
 ·rename_i h1
  split at hr
  ·rename_i h4
   have hp : s.tok.text = TK.bDigit ∨ s.tok.text = TK.bWord ∨ s.tok.text = TK.bSpace ∨ s.tok.text = TK.bXdigit := by
    unfold TokOk at ht
    rcases ht with h | h | h | h | h | h | h | h | h | h | h
    all_goals first | omega | exact h.2
   cases hr
   cases hn : s.tok.neg with
   | true => exact few_ncls hp s.folded
   | false => exact few_cls hp s.folded
  ·split at hr
   ·cases hb : Br.parseM d s.folded l (s.next : Int) with
    | error e => rw [hb] at hr; cases hr
    | ok x =>
     rw [hb] at hr
     cases hr
     unfold Br.parseM at hb
     split at hb
     ·cases hb
     ·split at hb
      ·cases hb
      ·unfold Br.readM at hb
       split at hb
       ·cases hb
       ·split at hb
        ·cases hb
        ·rename_i hm
         cases hb
         simpa using hm
   ·cases hr
    exact few_dot
def CkA (s : St) (t : Tr) (s' : St) : Prop := Rt s.groups t s'.groups ∧ (NmOk s → NmOk s')
theorem single_ok {t : Tr} (ht : TokOk s.tok) (hr : singleM d l s = .ok (t, s')) : CkA s t s' := by
 unfold singleM at hr
 split at hr
 ·cases hr
  exact ⟨leaf_ok (by unfold TokOk at ht; omega), id⟩
 ·split at hr
  ·unfold againM at hr
   simp only at hr
   generalize (if s.tok.num < 0 then s.tok.num + ((s.groups + 1 : Nat) : Int) else s.tok.num) = n at hr
   split at hr
   ·cases hr
   ·cases hr
    exact ⟨again_ok, fun h => h.same rfl rfl⟩
  ·split at hr
   ·cases hr; exact ⟨empty_ok, fun h => h.same rfl rfl⟩
   ·split at hr
    ·cases hr
    ·rename_i f k heq
     cases hr; exact ⟨set_ok (set_few ht heq), fun h => h.same rfl rfl⟩
theorem adv_gn (ha : advM d l s = .ok s') : s'.groups = s.groups ∧ s'.names = s.names := by
 unfold advM at ha
 split at ha
 ·cases ha; exact ⟨rfl, rfl⟩
 ·split at ha
  ·cases ha
  ·cases ha; exact ⟨rfl, rfl⟩
theorem CkA.adv {s1 : St} {t : Tr} (h : CkA s t s1) (ha : advM d l s1 = .ok s') : CkA s t s' := by
 obtain ⟨h1, h2⟩ := adv_gn ha
 exact ⟨by rw [h1]; exact h.1, fun hn => (h.2 hn).same h2 h1⟩
def RecC (l : List Int) (dp : Nat) (rec : Rd) : Prop := ∀ fo s t s', Inv' l s → s.deep = dp → rec fo s = .ok (t, s') → CkA s t s'
theorem open_ok (hpe : TK.patE d l = 0) {rec : Rd} (hrc : RecC l (s.deep + 1) rec) {t : Tr} (h : Inv' l s) (hp : s.pos < l.length) (hk : s.tok.kind = 7) (hr : openM d l rec s = .ok (t, s')) : CkA s t s' := by
 obtain ⟨h1, htok⟩ := h.inv.on hp
 unfold openM at hr
 split at hr
 ·cases hr
 ·rename_i h20
  split at hr
  ·cases hr
  ·rename_i s1 heq1
   have hs1 : InvA l s1 ∧ s1.deep = s.deep ∧ (s1.groups = if s.tok.num = 11 then s.groups + 1 else s.groups) ∧ (NmOk s → NmOk s1) := by
    split at heq1
    ·rename_i h11
     obtain ⟨a, b, c, e, _⟩ := begin_inv h.toA heq1
     obtain ⟨x, y⟩ := begin_ok (fun hne => tok_text htok hk hne) heq1
     exact ⟨a, e, by rw [if_pos h11]; exact x, y⟩
    ·rename_i h11
     cases heq1; exact ⟨h.toA, rfl, by rw [if_neg h11], id⟩
   obtain ⟨ia, hd1, hg1, hn1⟩ := hs1
   split at hr
   ·cases hr
   ·rename_i s2 heq2
    obtain ⟨i2, p2, _, d2, g2, n2, a2⟩ := adv_inv hpe ia heq2
    split at hr
    ·cases hr
    ·rename_i t3 s3 heq3
     have hd20 : s.deep + 1 ≤ 20 := by have := h.inv.deep; omega
     have hg : CkA { s2 with deep := s2.deep + 1 } t3 s3 := hrc _ { s2 with deep := s2.deep + 1 } _ _ ⟨⟨i2.inv.pos, i2.inv.next, i2.inv.on, i2.inv.off, i2.inv.ags, i2.inv.nms, i2.inv.grp, by show s2.deep + 1 ≤ 20; omega⟩, i2.pn⟩ (by show s2.deep + 1 = _; omega) heq3
     have hgt : Rt s1.groups t3 s3.groups := by rw [← g2]; exact hg.1
     have hgn : NmOk s → NmOk s3 := fun hn => hg.2 ((hn1 hn).same n2 g2)
     split at hr
     ·cases hr
     ·split at hr
      ·cases hr
      ·rename_i s4 heq4
       obtain ⟨g4, n4⟩ := adv_gn (s := { s3 with deep := s3.deep - 1 }) heq4
       have g4' : s4.groups = s3.groups := g4
       have hgn4 : NmOk s → NmOk s4 := fun hn => (hgn hn).same n4 g4
       split at hr
       ·rename_i hone
        cases hr
        rw [if_neg (by omega)] at hg1
        refine ⟨?_, hgn4⟩
        rw [g4', ← hg1]
        exact hgt
       ·rename_i hone
        cases hr
        refine ⟨?_, hgn4⟩
        rw [g4']
        by_cases h11 : s.tok.num = 11
        ·rw [if_pos h11] at hg1
         rw [hg1] at hgt ⊢
         rw [h11, if_pos rfl]
         exact group_ok hgt
        ·rw [if_neg h11] at hg1
         rw [hg1] at hgt
         rw [if_neg h11]
         exact look_ok (by unfold TokOk at htok; omega) hgt
theorem atom_ok (hpe : TK.patE d l = 0) {rec : Rd} (hrc : RecC l (s.deep + 1) rec) {t : Tr} (h : Inv' l s) (hp : s.pos < l.length) (hr : atomM d l rec s = .ok (t, s')) : CkA s t s' := by
 unfold atomM at hr
 split at hr
 ·cases hr
 ·split at hr
  ·rename_i h7
   exact open_ok hpe hrc h hp h7 hr
  ·split at hr
   ·cases hr
   ·rename_i t1 s1 heq
    have h1 := single_ok (h.inv.on hp).2 heq
    split at hr
    ·cases hr
    ·rename_i s2 heq2
     cases hr
     exact h1.adv heq2
theorem reps_ok (hpe : TK.patE d l = 0) {may : Bool} {s0 : St} : ∀ (n ahead : Nat) (t : Tr) (s : St) (t' : Tr) (s' : St), Inv' l s → CkA s0 t s → repsM d l may n ahead t s = .ok (t', s') → CkA s0 t' s'
 | 0, ahead, t, s, t', s', hi, hg, hr => by cases hr; exact hg
 | n + 1, ahead, t, s, t', s', hi, hg, hr => by
  unfold repsM at hr
  split at hr
  ·rename_i h6
   split at hr
   ·cases hr
   ·split at hr
    ·cases hr
    ·split at hr
     ·cases hr
     ·rename_i s1 heq
      obtain ⟨h1, h2⟩ := adv_gn heq
      have hp : s.pos < l.length := by
       have h1 := hi.inv.pos
       have h2 : s.pos ≠ l.length := fun e => by have := hi.inv.off e; rw [this] at h6; exact absurd h6 (by decide)
       omega
      refine reps_ok hpe n (ahead + 1) _ s1 t' s' (adv_inv hpe hi.toA heq).1 ⟨?_, fun hn => (hg.2 hn).same h2 h1⟩ hr
      rw [h1]
      exact rep_ok (hi.inv.on hp).2 h6 hg.1
  ·cases hr; exact hg
theorem piece_ok (hpe : TK.patE d l = 0) {rec : Rd} (hrg : RecG l (s.deep + 1) rec) (hrc : RecC l (s.deep + 1) rec) {t : Tr} (h : Inv' l s) (hp : s.pos < l.length) (hr : pieceM d l rec s = .ok (t, s')) : CkA s t s' := by
 unfold pieceM at hr
 split at hr
 ·cases hr
 ·rename_i t1 s1 heq
  exact reps_ok hpe _ _ _ _ _ _ (atom_inv hpe hrg h hp heq).1.inv (atom_ok hpe hrc h hp heq) hr
def CkL (s : St) (ts : List Tr) (s' : St) : Prop := RtL s.groups ts s'.groups ∧ (NmOk s → NmOk s')
theorem CkL.snoc {s0 : St} {ts : List Tr} {t : Tr} (h : CkL s0 ts s) (hg : CkA s t s') : CkL s0 (ts ++ [t]) s' := ⟨h.1.append (.one hg.1), fun hn => hg.2 (h.2 hn)⟩
theorem pieces_ok (hpe : TK.patE d l = 0) {rec : Rd} {s0 : St} (hrg : RecG l (s0.deep + 1) rec) (hrc : RecC l (s0.deep + 1) rec) : ∀ (n : Nat) (ps : List Tr) (s : St) (ps' : List Tr) (s' : St), Inv' l s → s.deep = s0.deep → CkL s0 ps s → piecesM d l rec n ps s = .ok (ps', s') → CkL s0 ps' s'
 | 0, ps, s, ps', s', hi, hd, hg, hr => by cases hr; exact hg
 | n + 1, ps, s, ps', s', hi, hd, hg, hr => by
  unfold piecesM at hr
  split at hr
  ·cases hr; exact hg
  ·rename_i hend
   split at hr
   ·cases hr
   ·rename_i t s1 heq
    have hp : s.pos < l.length := by
     have h1 := hi.inv.pos
     have h2 : s.pos ≠ l.length := fun e => hend (by unfold endM; simp [e])
     omega
    obtain ⟨a, b⟩ := piece_inv hpe (s := s) (by rw [hd]; exact hrg) hi hp heq
    exact pieces_ok hpe hrg hrc n _ s1 ps' s' a.inv (a.deep.trans hd) (hg.snoc (piece_ok hpe (by rw [hd]; exact hrg) (by rw [hd]; exact hrc) hi hp heq)) hr
theorem branch_ok (hpe : TK.patE d l = 0) {rec : Rd} (hrg : RecG l (s.deep + 1) rec) (hrc : RecC l (s.deep + 1) rec) {t : Tr} (h : Inv' l s) (hr : branchM d l rec s = .ok (t, s')) : CkA s t s' := by
 unfold branchM at hr
 split at hr
 ·cases hr
 ·rename_i ps s1 heq
  cases hr
  have := pieces_ok hpe hrg hrc _ _ _ _ _ h rfl ⟨.nil _, id⟩ heq
  exact ⟨row_ok this.1, this.2⟩
theorem bars_ok (hpe : TK.patE d l = 0) {rec : Rd} {s0 : St} (hrg : RecG l (s0.deep + 1) rec) (hrc : RecC l (s0.deep + 1) rec) : ∀ (n : Nat) (bs : List Tr) (s : St) (bs' : List Tr) (s' : St), Inv' l s → s.deep = s0.deep → CkL s0 bs s → barsM d l rec n bs s = .ok (bs', s') → CkL s0 bs' s'
 | 0, bs, s, bs', s', hi, hd, hg, hr => by cases hr; exact hg
 | n + 1, bs, s, bs', s', hi, hd, hg, hr => by
  unfold barsM at hr
  split at hr
  ·split at hr
   ·cases hr
   ·rename_i s1 heq1
    obtain ⟨i2, p2, _, d2, g2, n2, a2⟩ := adv_inv hpe hi.toA heq1
    split at hr
    ·cases hr
    ·rename_i t s2 heq2
     have hd1 : s1.deep = s0.deep := d2.trans hd
     have hgo := branch_inv hpe (s := s1) (by rw [hd1]; exact hrg) i2 heq2
     have hag := branch_ok hpe (s := s1) (by rw [hd1]; exact hrg) (by rw [hd1]; exact hrc) i2 heq2
     have hg1 : CkL s0 bs s1 := ⟨by rw [g2]; exact hg.1, fun hn => (hg.2 hn).same n2 g2⟩
     exact bars_ok hpe hrg hrc n _ s2 bs' s' hgo.inv (hgo.deep.trans hd1) (hg1.snoc hag) hr
  ·cases hr; exact hg
theorem branchesG_ok (hpe : TK.patE d l = 0) {rec : Rd} {dp : Nat} (hrg : RecG l (dp + 1) rec) (hrc : RecC l (dp + 1) rec) : RecC l dp (branchesG d l rec) := by
 intro fo s t s' h hd hr
 unfold branchesG at hr
 split at hr
 ·cases hr
 ·rename_i t1 s1 heq1
  have hrg' : RecG l (({ s with folded := fo } : St).deep + 1) rec := by show RecG l (s.deep + 1) rec; rw [hd]; exact hrg
  have hrc' : RecC l (({ s with folded := fo } : St).deep + 1) rec := by show RecC l (s.deep + 1) rec; rw [hd]; exact hrc
  have h1 := branch_inv hpe (s := { s with folded := fo }) hrg' (inv_folded h fo) heq1
  have h2 : CkA { s with folded := fo } t1 s1 := branch_ok hpe (s := { s with folded := fo }) hrg' hrc' (inv_folded h fo) heq1
  split at hr
  ·cases hr
  ·rename_i bs s2 heq2
   cases hr
   have h3 := bars_ok hpe (s0 := { s with folded := fo }) hrg' hrc' _ _ _ _ _ h1.inv h1.deep ⟨.one h2.1, h2.2⟩ heq2
   exact ⟨either_ok h3.1 (bars_ne _ _ _ _ _ (by simp) heq2), fun hn => (h3.2 (hn.same rfl rfl)).same rfl rfl⟩
theorem branchesF_ok (hpe : TK.patE d l = 0) : ∀ (n dp : Nat), RecC l dp (branchesF d l n)
 | 0, dp => fun fo s t s' _ _ hr => by cases hr
 | n + 1, dp => branchesG_ok hpe (branchesF_inv hpe n (dp + 1)) (branchesF_ok hpe n (dp + 1))
end Go.Proofs.YtklbbbldalmnbaaGreatDoor.Pa
namespace Go.Proofs.YtklbbbldalmnbaaGreatDoor.Pa
open Go.PlainAid
open TR (Tr chkT nodeS kidsB fieldsB repE kidL PatE ChkE NameE nmS mayP letP treeE numsE countsE AllNm NoTw Rises TwAt ntx nnx ntx_at nnx_at nmS_yes)
open Br (BE PS)
set_option linter.unusedVariables false
variable {l : List Int} {d : Int} {s s' : St}
theorem settle_kind (ns : List Int) (t : Tr) : (settleT ns t).kind = t.kind := by cases t; rw [settle_mk]; rfl
theorem settle_kidL (ns : List Int) (ts : List Tr) (k : Int) : kidL (ts.map (settleT ns)) k = kidL ts k := by
 unfold kidL
 rw [List.any_map]
 congr 1
 funext u
 simp only [Function.comp, settle_kind]
theorem settle_ok {ns : List Int} {t : Tr} (h : NOk t) : NOk (settleT ns t) := by
 cases t with
 | mk k n a b c f S ks =>
  rw [settle_mk]
  obtain ⟨h1, h2, h3, h4, h5⟩ := h
  refine ⟨h1, ?_, ?_, h4, h5⟩
  ·unfold kidsB at h2 ⊢
   simp only [Tr.kind, Tr.kids, List.length_map, settle_kidL] at h2 ⊢
   exact h2
  ·unfold fieldsB at h3 ⊢
   simp only [Tr.kind, Tr.set, Tr.num, Tr.least, Tr.most, Tr.way, Tr.fold] at h3 ⊢
   unfold numS
   by_cases hk : k = 18
   ·simp only [Bool.and_eq_true, Bool.or_eq_true] at h3 ⊢
    obtain ⟨⟨⟨⟨⟨a1, b1⟩, c1⟩, d1⟩, e1⟩, f1⟩ := h3
    exact ⟨⟨⟨⟨⟨a1, .inl (.inr (decide_eq_true hk))⟩, c1⟩, d1⟩, e1⟩, f1⟩
   ·rw [if_neg hk]
    exact h3
theorem settle_kids (ns : List Int) (t : Tr) : (settleT ns t).kids = t.kids.map (settleT ns) := by cases t; rw [settle_mk]; rfl
theorem node_ok {ns : List Int} {t : Tr} {g g1 : Nat} (h1 : NOk t) (h2 : (t.kind = 11 ∧ t.num = (g : Int) + 1 ∧ g1 = g + 1) ∨ (t.kind ≠ 11 ∧ g1 = g)) (ha : AgOk ns.length t) (A : List Int) : ∃ B : List Int, nodeS (settleT ns t) ((g : Int), A) = .ok ((g1 : Int), A ++ B) ∧ ∀ x ∈ B, x ∈ ns := by
 obtain ⟨k1, k2, k3, k4, k5⟩ := settle_ok (ns := ns) h1
 unfold nodeS
 rw [if_neg (by omega), if_neg (by rw [k2, k3]; simp), if_neg (by omega)]
 rw [settle_kind] at k5 ⊢
 by_cases k12 : t.kind = 12
 ·rw [if_pos k12, if_pos (k5 k12)]
  have : g1 = g := by omega
  exact ⟨[], by rw [this]; simp, fun x hx => by cases hx⟩
 ·rw [if_neg k12]
  by_cases k11 : t.kind = 11
  ·rw [if_pos k11]
   have hn : (settleT ns t).num = t.num := by
    cases t with
    | mk k n a b c f S ks =>
     rw [settle_mk]
     show numS ns k n = n
     unfold numS
     rw [if_neg (by have : k = 11 := k11; omega)]
   rw [if_pos (by rw [hn]; show t.num = (g : Int) + 1; omega)]
   have : (g1 : Int) = (g : Int) + 1 := by omega
   exact ⟨[], by rw [this]; simp, fun x hx => by cases hx⟩
  ·rw [if_neg k11]
   have e : g1 = g := by omega
   by_cases k18 : t.kind = 18
   ·rw [if_pos k18]
    refine ⟨[(settleT ns t).num], by rw [e], fun x hx => ?_⟩
    rw [List.mem_singleton] at hx
    subst hx
    cases ha with
    | mk k n a b c f S ks h8 h9 =>
     have := h8 k18
     rw [settle_mk]
     show numS ns k n ∈ ns
     unfold numS
     rw [if_pos (show k = 18 from k18)]
     have hlt : n.toNat < ns.length := by omega
     rw [show ns.getD n.toNat 0 = ns[n.toNat] by simp [List.getD, hlt]]
     exact List.getElem_mem _
   ·rw [if_neg k18]
    exact ⟨[], by rw [e]; simp, fun x hx => by cases hx⟩
mutual
theorem chk_t {ns : List Int} : ∀ (t : Tr) (g g' : Nat), Rt g t g' → AgOk ns.length t → ∀ A : List Int, ∃ B : List Int, chkT (settleT ns t) ((g : Int), A) = .ok ((g' : Int), A ++ B) ∧ ∀ x ∈ B, x ∈ ns
 | .mk k n a b c f S ks, g, g', h, ha, A => by
  cases h with
  | mk _ g1 _ _ h1 h2 h3 =>
   obtain ⟨B, hB, hB2⟩ := node_ok h1 h2 ha A
   obtain ⟨C, hC, hC2⟩ := chk_l ks g1 g' h3 ha.kids (A ++ B)
   refine ⟨B ++ C, ?_, fun x hx => ?_⟩
   ·rw [TR.chkT_kids, hB]
    show TR.chkL _ _ = _
    rw [settle_kids, ← List.append_assoc]
    exact hC
   ·rcases List.mem_append.1 hx with h | h
    ·exact hB2 x h
    ·exact hC2 x h
theorem chk_l {ns : List Int} : ∀ (ts : List Tr) (g g' : Nat), RtL g ts g' → (∀ t ∈ ts, AgOk ns.length t) → ∀ A : List Int, ∃ B : List Int, TR.chkL (ts.map (settleT ns)) ((g : Int), A) = .ok ((g' : Int), A ++ B) ∧ ∀ x ∈ B, x ∈ ns
 | [], g, g', h, ha, A => by
  cases h
  exact ⟨[], by simp [TR.chkL], fun x hx => by cases hx⟩
 | t :: ts, g, g', h, ha, A => by
  cases h with
  | cons _ g1 _ _ _ h1 h2 =>
   obtain ⟨B, hB, hB2⟩ := chk_t t g g1 h1 (ha t (by simp)) A
   obtain ⟨C, hC, hC2⟩ := chk_l ts g1 g' h2 (fun u hu => ha u (by simp [hu])) (A ++ B)
   refine ⟨B ++ C, ?_, fun x hx => ?_⟩
   ·rw [List.map_cons]
    unfold TR.chkL
    rw [hB]
    show TR.chkL _ _ = _
    rw [← List.append_assoc]
    exact hC
   ·rcases List.mem_append.1 hx with h | h
    ·exact hB2 x h
    ·exact hC2 x h
end
theorem takeN_ok : ∀ (k : Nat) (l : List Int) (f : Bool) (i : Nat) (h : i < (TK.takeN k l f).length), TK.nameB (TK.takeN k l f)[i] (decide (i = 0) && f) = true
 | 0, l, f, i, h => by simp [TK.takeN] at h
 | k + 1, [], f, i, h => by simp [TK.takeN] at h
 | k + 1, p :: t, f, i, h => by
  by_cases hp : TK.nameB p f = true
  ·have e : TK.takeN (k + 1) (p :: t) f = p :: TK.takeN k t false := by show (if TK.nameB p f = true then p :: TK.takeN k t false else []) = _; rw [if_pos hp]
   simp only [e] at h ⊢
   cases i with
   | zero => simpa using hp
   | succ i =>
    have := takeN_ok k t false i (by simpa using h)
    simpa using this
  ·have e : TK.takeN (k + 1) (p :: t) f = [] := by show (if TK.nameB p f = true then p :: TK.takeN k t false else []) = _; rw [if_neg hp]
   rw [e] at h
   simp at h
theorem takeN_short : ∀ (k : Nat) (l : List Int) (f : Bool), (TK.takeN k l f).length ≤ k
 | 0, l, f => by simp [TK.takeN]
 | k + 1, [], f => by simp [TK.takeN]
 | k + 1, p :: t, f => by
  unfold TK.takeN
  split
  ·rw [List.length_cons]
   have := takeN_short k t false
   omega
  ·simp
theorem may_of {p : Int} {f : Bool} (h : TK.nameB p f = true) : mayP p f = true ∧ 0 ≤ p ∧ p ≤ 255 := by
 unfold TK.nameB TK.letB TK.digV at h
 unfold mayP letP
 simp only [Bool.or_eq_true, Bool.and_eq_true, decide_eq_true_eq, beq_iff_eq, Bool.not_eq_true'] at h ⊢
 rcases h with (h | h) | ⟨h, h2⟩
 ·omega
 ·omega
 ·split at h2
  ·exact ⟨.inr ⟨⟨h, by omega⟩, by omega⟩, by omega⟩
  ·split at h2
   ·omega
   ·split at h2 <;> omega
theorem name_yes {t : ByteArray} (h : NameOk t) : nmS t = true := by
 obtain ⟨l, i, rfl, hne, hp⟩ := h
 obtain ⟨L, hL⟩ : ∃ L, L = TK.nameL l i := ⟨_, rfl⟩
 have h20 : L.length ≤ 20 := by rw [hL]; exact takeN_short _ _ _
 have hok : ∀ j (h : j < L.length), TK.nameB L[j] (decide (j = 0)) = true := by
  subst hL
  intro j h
  have := takeN_ok 20 (l.drop i) true j h
  show TK.nameB (TK.takeN 20 (l.drop i) true)[j] _ = true
  simpa using this
 rw [← hL] at hne ⊢
 have hsz : (TK.byteA L).size = L.length := by simp [TK.byteA, ByteArray.size]
 have h0 : 0 < L.length := List.length_pos_iff.2 hne
 refine nmS_yes (by omega) (by omega) fun j hj => ?_
 rw [hsz] at hj
 obtain ⟨h1, h2, h3⟩ := may_of (hok j hj)
 have hb : bt (TK.byteA L) j = L[j] := by
  unfold bt
  rw [dif_pos (by omega)]
  have : (TK.byteA L)[j]'(by omega) = UInt8.ofNat (L[j]).toNat := by
   show ((L.map fun p => UInt8.ofNat p.toNat).toArray)[j]'(by simpa using hj) = _
   simp
  rw [this]
  rw [UInt8.toNat_ofNat']
  omega
 rw [hb]
 exact h1
theorem names_yes (h : NmOk s) : NameE s.names 0 := by
 refine .inr (.inr (.inr ⟨rfl, fun i hi => ?_, fun i hi k hk hw => ?_, fun i h1 hi => ?_⟩))
 ·rw [ntx_at hi]
  exact name_yes (h.one _ (List.getElem_mem hi)).1
 ·have h2 := List.pairwise_iff_getElem.1 h.two k i (by omega) hi hk
  unfold TwAt at hw
  rw [ntx_at (by omega : k < s.names.length), ntx_at hi, nnx_at (by omega : k < s.names.length), nnx_at hi] at hw
  rcases hw with hw | hw
  ·exact h2.1 (by rw [hw])
  ·omega
 ·have h2 := List.pairwise_iff_getElem.1 h.two (i - 1) i (by omega) hi (by omega)
  rw [nnx_at (by omega : i - 1 < s.names.length), nnx_at hi]
  exact h2.2
theorem nums_yes {g : Int} : ∀ {L : List Int}, (∀ x ∈ L, 1 ≤ x ∧ x ≤ g) → numsE g L = 0
 | [], h => rfl
 | a :: L, h => by
  unfold numsE
  rw [if_pos (by unfold TR.numE; rw [if_pos (h a (by simp))])]
  exact nums_yes fun x hx => h x (by simp [hx])
theorem nums_rng {names : List Nm} {gr : Nat} : ∀ (A : List Ag) (ns : List Int), numsM names gr A = .ok ns → ∀ x ∈ ns, 1 ≤ x ∧ x ≤ (gr : Int)
 | [], ns, h => by cases h; intro x hx; cases hx
 | a :: A, ns, h => by
  unfold numsM at h
  simp only at h
  generalize (if a.name.toList = [] then a.num else (match names.find? (fun m => m.1.toList == a.name.toList) with | some m => m.2 | none => 0)) = n at h
  split at h
  ·cases h
  ·split at h
   ·cases h
   ·rename_i ns' heq
    cases h
    intro x hx
    rcases List.mem_cons.1 hx with h1 | h1
    ·subst h1; omega
    ·exact nums_rng A ns' heq x h1
theorem invA_begin : InvA l {} := ⟨Nat.zero_le _, Nat.le_refl _, Nat.le_refl _, Nat.zero_le _, Nat.zero_le _⟩
theorem pat_ok {fo : Bool} {p : Pt} (h : patM bigB d fo l = .ok p) : PatE p.tree (p.groups : Nat) p.names 0 := by
 unfold patM at h
 split at h
 ·cases h
 ·rename_i hpe
  have hpe : TK.patE d l = 0 := by omega
  unfold wholeM at h
  split at h
  ·cases h
  ·rename_i s0 heq0
   obtain ⟨i0, _, _, d0, g0, n0, a0⟩ := adv_inv hpe invA_begin heq0
   split at h
   ·cases h
   ·rename_i t s heq
    obtain ⟨hR, hN⟩ := branchesF_ok hpe 21 0 fo s0 t s i0 d0 heq
    have hA := branchesF_ag hpe 21 0 fo s0 t s i0 d0 heq
    have hI := (branchesF_inv hpe 21 0 fo s0 t s i0 d0 heq).inv.inv
    split at h
    ·cases h
    ·split at h
     ·cases h
     ·rename_i ns hns
      split at h
      ·cases h
      ·rename_i hbig
       cases h
       have hbig : TR.cntA (settleT ns t) < 1001 := by unfold bigB at hbig; simpa using hbig
       have hlen := nums_len _ _ hns
       obtain ⟨B, hB, hB2⟩ := chk_t (ns := ns) t s0.groups s.groups hR (by rw [hlen]; exact hA.2) []
       have hg0 : s0.groups = 0 := g0
       rw [hg0] at hB
       have hNs : NmOk s := hN ⟨by rw [n0]; exact (fun n hn => by cases hn), by rw [n0]; exact List.Pairwise.nil⟩
       have hnum : ∀ x ∈ B, 1 ≤ x ∧ x ≤ (s.groups : Int) := fun x hx => nums_rng _ _ hns x (hB2 x hx)
       have hT : treeE (settleT ns t) (s.groups : Nat) = 0 := by
        unfold treeE
        have hB' : chkT (settleT ns t) (0, []) = .ok ((s.groups : Int), B) := by simpa using hB
        rw [hB']
        have hgr := hI.grp
        have hc : countsE ((s.groups : Int), B) ((s.groups : Nat) : Int) = 0 := by
         unfold countsE
         rw [if_neg (by show ¬ 20 < (s.groups : Int); omega), if_pos rfl]
        simp only [hc]
        rw [if_neg (by simp)]
        exact nums_yes hnum
       refine Or.inr ⟨hbig, Or.inr (Or.inr ⟨hT, nums_yes fun x hx => ?_, names_yes hNs⟩)⟩
       obtain ⟨n, hn, rfl⟩ := List.mem_map.1 hx
       exact (hNs.one n hn).2
end Go.Proofs.YtklbbbldalmnbaaGreatDoor.Pa
namespace Go.Proofs.YtklbbbldalmnbaaGreatDoor.Br
set_option linter.unusedVariables false
variable {P : Par} {l : List Int} {i : Nat} {z a : Int}
def AtL (l : List Int) (a : Int) : Prop := 0 ≤ a ∧ a ≤ (l.length : Int)
theorem at_zero : AtL l 0 := ⟨Int.le_refl _, by omega⟩
theorem at_of (h : i ≤ l.length) : AtL l (i : Int) := ⟨by omega, by omega⟩
theorem not_at {f : PS} (h : notE P f = .error (z, a)) : AtL l a := by
 unfold notE at h
 split at h
 ·cases h; exact at_zero
 ·cases h
theorem meet_at {f g : PS} (h : meetE P f g = .error (z, a)) : AtL l a := by
 unfold meetE at h
 split at h
 ·cases h; exact at_zero
 ·cases h
theorem fold_at {f : PS} (h : foldE P f = .error (z, a)) : AtL l a := by
 unfold foldE at h
 split at h
 ·cases h; exact at_zero
 ·cases h
theorem word_at (hi : i ≤ l.length) (h : wordE P l i = .error (z, a)) : AtL l a := by
 unfold wordE at h
 split at h
 ·cases h; exact at_of hi
 ·split at h
  ·split at h
   ·cases h; exact at_of hi
   ·cases h
  ·cases h
theorem class_at {t : ByteArray} {no : Bool} {b : Int} (hb : AtL l b) (h : classE P t no b = .error (z, a)) : AtL l a := by
 unfold classE at h
 split at h
 ·cases h; exact hb
 ·split at h
  ·exact not_at h
  ·cases h
theorem letters_len (l : List Int) (j : Nat) (hj : j ≤ l.length) : j + (lettersL l j).length ≤ l.length := by
 unfold lettersL
 have := (List.takeWhile_prefix (l := l.drop j) (fun c : Int => decide (97 ≤ c) && decide (c ≤ 122))).length_le
 rw [List.length_drop] at this
 omega
theorem named_at (hc : isCls l i = true) (h : namedE P l i = .error (z, a)) : AtL l a := by
 have hi := isAt_len (show isAt l i [91, 58] = true from hc) (by simp)
 simp only [List.length_cons, List.length_nil] at hi
 unfold namedE at h
 simp only at h
 have hj : (if (P.ruby && isAt l (i + 2) [94]) = true then i + 3 else i + 2) ≤ l.length := by
  split
  ·rename_i hb
   rw [Bool.and_eq_true] at hb
   have := isAt_len hb.2 (by simp)
   simp only [List.length_cons, List.length_nil] at this
   omega
  ·omega
 generalize (if (P.ruby && isAt l (i + 2) [94]) = true then i + 3 else i + 2) = j at h hj
 split at h
 ·cases h
  exact at_of (letters_len l j hj)
 ·split at h
  ·rename_i e heq
   cases h
   exact class_at (at_of (by omega)) heq
  ·cases h
theorem end_at {c : Int} (hi : i ≤ l.length) (h : endE P l i c = .error (z, a)) : AtL l a := by
 unfold endE at h
 split at h
 ·cases h; exact at_of hi
 ·split at h
  ·rename_i heq
   cases h; exact word_at hi heq
  ·cases h; exact at_of hi
  ·split at h
   ·cases h; exact at_of hi
   ·cases h
def RecX (rec : List Int → Nat → Nat → Except BE (PS × Nat)) : Prop := ∀ l i deep z a, i ≤ l.length → rec l i deep = .error (z, a) → AtL l a
theorem item_at (hP : NxP P) {rec : List Int → Nat → Nat → Except BE (PS × Nat)} (hx : RecX rec) {deep : Nat} (hi : i ≤ l.length) (h : itemE P rec l i deep = .error (z, a)) : AtL l a := by
 unfold itemE at h
 split at h
 ·rename_i hc
  exact named_at hc h
 ·split at h
  ·rename_i hin
   split at h
   ·cases h; exact at_of hi
   ·have h1 : isAt l i [91] = true := by unfold isIn at hin; simp at hin; exact hin.1.2
    have := isAt_len h1 (by simp)
    exact hx _ _ _ _ _ (by simpa using this) h
  ·split at h
   ·rename_i heq
    cases h; exact word_at hi heq
   ·split at h
    ·rename_i heq
     cases h; exact class_at (at_of hi) heq
    ·cases h
   ·rename_i p k' heq
    have h1 := word_pos hP heq
    split at h
    ·rename_i hr
     split at h
     ·rename_i he
      cases h
      have h45 : isAt l k' [45] = true := by unfold isRng at hr; simp at hr; exact hr.1
      have := isAt_len h45 (by simp)
      exact end_at (by simpa using this) he
     ·cases h
    ·cases h
theorem items_at (hP : NxP P) {rec : List Int → Nat → Nat → Except BE (PS × Nat)} (hr : RecP rec) (hx : RecX rec) {first deep : Nat} : ∀ (n i : Nat) (acc : PS), i ≤ l.length → itemsE P rec l first deep n i acc = .error (z, a) → AtL l a
 | 0, i, acc, hi, h => by cases h
 | n + 1, i, acc, hi, h => by
  unfold itemsE at h
  split at h
  ·cases h
  ·split at h
   ·rename_i heq
    cases h; exact item_at hP hx hi heq
   ·rename_i f' k' heq
    exact items_at hP hr hx n k' _ (item_pos hP hr heq).2 h
theorem part_at (hP : NxP P) {rec : List Int → Nat → Nat → Except BE (PS × Nat)} (hr : RecP rec) (hx : RecX rec) {first deep : Nat} (hi : i ≤ l.length) (h : partE P rec l first deep i = .error (z, a)) : AtL l a := by
 unfold partE at h
 split at h
 ·rename_i heq
  cases h; exact items_at hP hr hx _ _ _ hi heq
 ·rename_i f' k' heq
  have h1 := items_pos hP hr _ _ _ _ _ hi heq
  split at h
  ·cases h; exact at_of h1.2
  ·split at h
   ·split at h
    ·rename_i hf
     cases h; exact fold_at hf
    ·cases h
   ·cases h
theorem ands_at (hP : NxP P) {rec : List Int → Nat → Nat → Except BE (PS × Nat)} (hr : RecP rec) (hx : RecX rec) {first deep : Nat} : ∀ (n i : Nat) (acc : PS), i ≤ l.length → andsE P rec l first deep n i acc = .error (z, a) → AtL l a
 | 0, i, acc, hi, h => by cases h
 | n + 1, i, acc, hi, h => by
  unfold andsE at h
  split at h
  ·rename_i han
   have h0 : isAt l i [38, 38] = true := by unfold isAnd at han; simp at han; exact han.2
   have h3 := isAt_len h0 (by simp)
   simp only [List.length_cons, List.length_nil] at h3
   split at h
   ·rename_i heq
    cases h; exact part_at hP hr hx h3 heq
   ·rename_i f' k' heq
    have h1 := part_pos hP hr h3 heq
    split at h
    ·rename_i hm
     cases h; exact meet_at hm
    ·exact ands_at hP hr hx n k' _ h1.2 h
  ·cases h
theorem body_at (hP : NxP P) {rec : List Int → Nat → Nat → Except BE (PS × Nat)} (hr : RecP rec) (hx : RecX rec) {deep : Nat} (hi : i ≤ l.length) (h : bodyE P rec l i deep = .error (z, a)) : AtL l a := by
 unfold bodyE at h
 split at h
 ·rename_i heq
  cases h; exact part_at hP hr hx hi heq
 ·rename_i f' k' heq
  have h1 := part_pos hP hr hi heq
  split at h
  ·rename_i heq2
   cases h; exact ands_at hP hr hx _ _ _ h1.2 heq2
  ·cases h
theorem expr_at (hP : NxP P) : ∀ n, RecX (exprF P n)
 | 0 => fun l i deep z a hi h => by cases h; exact at_zero
 | n + 1 => fun l i deep z a hi h => by
  unfold exprF exprG at h
  split at h
  ·rename_i h94
   have h3 := isAt_len h94 (by simp)
   simp only [List.length_cons, List.length_nil] at h3
   split at h
   ·rename_i heq
    cases h; exact body_at hP (expr_pos hP n) (expr_at hP n) h3 heq
   ·split at h
    ·rename_i hn
     cases h; exact not_at hn
    ·cases h
  ·exact body_at hP (expr_pos hP n) (expr_at hP n) hi h
theorem parse_at {d : Int} {fo : Bool} (hi : i ≤ l.length) (h : parseM d fo l (i : Int) = .error (z, a)) : AtL l a := by
 unfold parseM at h
 split at h
 ·cases h; exact at_zero
 ·split at h
  ·cases h; exact at_zero
  ·unfold readM at h
   split at h
   ·rename_i heq
    cases h; exact expr_at (par_nx d fo) 21 _ _ _ _ _ (by simpa using hi) heq
   ·split at h
    ·cases h; exact at_zero
    ·cases h
theorem parse_z {d : Int} {fo : Bool} {b : Int} (h : parseM d fo l b = .error (z, a)) : z ≠ 0 := by
 unfold parseM at h
 split at h
 ·rename_i hp
  cases h; exact hp
 ·split at h
  ·cases h; decide
  ·exact read_err h
end Go.Proofs.YtklbbbldalmnbaaGreatDoor.Br
namespace Go.Proofs.YtklbbbldalmnbaaGreatDoor.Pa
open TR (Tr)
open Br (BE PS AtL at_zero at_of)
set_option linter.unusedVariables false
variable {l : List Int} {d z a : Int} {s s' : St}
def ErL (l : List Int) (z a : Int) : Prop := z ≠ 0 ∧ AtL l a
theorem er_of {i : Nat} (hz : z ≠ 0) (h : i ≤ l.length) : ErL l z (i : Int) := ⟨hz, at_of h⟩
theorem er_zero (hz : z ≠ 0) : ErL l z 0 := ⟨hz, at_zero⟩
def AgP (l : List Int) (s : St) : Prop := ∀ x ∈ s.agains, x.pos ≤ l.length
theorem adv_er (hn : s.next ≤ l.length) (h : advM d l s = .error (z, a)) : ErL l z a := by
 unfold advM at h
 split at h
 ·cases h
 ·split at h
  ·rename_i heq
   cases h; exact er_of (by have := TK.next_err heq; unfold TK.eOk at this; omega) hn
  ·cases h
theorem AgP.same (h : AgP l s) (h1 : s'.agains = s.agains) : AgP l s' := by unfold AgP; rw [h1]; exact h
theorem begin_at {t : ByteArray} (hp : s.pos ≤ l.length) (h : beginM s t = .error (z, a)) : ErL l z a := by
 unfold beginM at h
 split at h
 ·cases h; exact er_of (by decide) hp
 ·split at h
  ·cases h
  ·split at h
   ·cases h; exact er_of (by decide) hp
   ·cases h
theorem set_at (h : Inv' l s) (hr : setM d l s = .error (z, a)) : ErL l z a := by
 unfold setM at hr
 split at hr
 ·cases hr
 ·split at hr
  ·cases hr
  ·split at hr
   ·split at hr
    ·rename_i z' a' heq
     cases hr
     have := Br.parse_at h.inv.next heq
     have h2 := h.inv.pos
     refine ⟨Br.parse_z heq, ?_⟩
     unfold AtL at this ⊢
     omega
    ·cases hr
   ·cases hr
theorem single_at (h : Inv' l s) (hr : singleM d l s = .error (z, a)) : ErL l z a := by
 unfold singleM at hr
 split at hr
 ·cases hr
 ·split at hr
  ·unfold againM at hr
   simp only at hr
   generalize (if s.tok.num < 0 then s.tok.num + ((s.groups + 1 : Nat) : Int) else s.tok.num) = n at hr
   split at hr
   ·cases hr; exact er_of (by decide) h.inv.pos
   ·cases hr
  ·split at hr
   ·cases hr
   ·split at hr
    ·rename_i heq
     cases hr; exact set_at h heq
    ·cases hr
theorem single_agp {t : Tr} (h : Inv' l s) (hr : singleM d l s = .ok (t, s')) (hg : AgP l s) : AgP l s' := by
 unfold singleM at hr
 split at hr
 ·cases hr; exact hg
 ·split at hr
  ·unfold againM at hr
   simp only at hr
   generalize (if s.tok.num < 0 then s.tok.num + ((s.groups + 1 : Nat) : Int) else s.tok.num) = n at hr
   split at hr
   ·cases hr
   ·cases hr
    intro x hx
    rcases List.mem_append.1 hx with h1 | h1
    ·exact hg x h1
    ·rw [List.mem_singleton] at h1
     subst h1
     exact h.inv.pos
  ·split at hr
   ·cases hr; exact hg
   ·split at hr
    ·cases hr
    ·cases hr; exact hg
structure RecE (l : List Int) (dp : Nat) (rec : Rd) : Prop where
 err : ∀ fo s z a, Inv' l s → s.deep = dp → rec fo s = .error (z, a) → ErL l z a
 ags : ∀ fo s t s', Inv' l s → s.deep = dp → rec fo s = .ok (t, s') → AgP l s → AgP l s'
theorem open_at (hpe : TK.patE d l = 0) {rec : Rd} (hrg : RecG l (s.deep + 1) rec) (hre : RecE l (s.deep + 1) rec) (h : Inv' l s) (hp : s.pos < l.length) : (∀ z a, openM d l rec s = .error (z, a) → ErL l z a) ∧ (∀ t s', openM d l rec s = .ok (t, s') → AgP l s → AgP l s') := by
 unfold openM
 have h20' := h.inv.deep
 constructor
 ·intro z a hr
  split at hr
  ·cases hr; exact er_of (by decide) h.inv.pos
  ·rename_i h20
   split at hr
   ·rename_i e heq1
    cases hr
    split at heq1
    ·exact begin_at h.inv.pos heq1
    ·cases heq1
   ·rename_i s1 heq1
    have hs1 : InvA l s1 ∧ s1.deep = s.deep := by
     split at heq1
     ·obtain ⟨a, b, c, e, _⟩ := begin_inv h.toA heq1
      exact ⟨a, e⟩
     ·cases heq1; exact ⟨h.toA, rfl⟩
    split at hr
    ·rename_i heq2
     cases hr; exact adv_er hs1.1.next heq2
    ·rename_i s2 heq2
     obtain ⟨i2, p2, _, d2, g2, n2, a2⟩ := adv_inv hpe hs1.1 heq2
     have i2' : Inv' l { s2 with deep := s2.deep + 1 } := ⟨⟨i2.inv.pos, i2.inv.next, i2.inv.on, i2.inv.off, i2.inv.ags, i2.inv.nms, i2.inv.grp, by show s2.deep + 1 ≤ 20; omega⟩, i2.pn⟩
     have hd2 : ({ s2 with deep := s2.deep + 1 } : St).deep = s.deep + 1 := by show s2.deep + 1 = _; omega
     split at hr
     ·rename_i heq3
      cases hr; exact hre.err _ _ _ _ i2' hd2 heq3
     ·rename_i t3 s3 heq3
      have hg := hrg _ _ _ _ i2' hd2 heq3
      split at hr
      ·cases hr; exact er_of (by decide) hg.inv.inv.pos
      ·split at hr
       ·rename_i heq4
        cases hr; exact adv_er (s := { s3 with deep := s3.deep - 1 }) hg.inv.inv.next heq4
       ·split at hr <;> cases hr
 ·intro t s' hr hag
  split at hr
  ·cases hr
  ·rename_i h20
   split at hr
   ·cases hr
   ·rename_i s1 heq1
    have hs1 : InvA l s1 ∧ s1.deep = s.deep ∧ s1.agains = s.agains := by
     split at heq1
     ·obtain ⟨a, b, c, e, _⟩ := begin_inv h.toA heq1
      exact ⟨a, e, begin_ag heq1⟩
     ·cases heq1; exact ⟨h.toA, rfl, rfl⟩
    split at hr
    ·cases hr
    ·rename_i s2 heq2
     obtain ⟨i2, p2, _, d2, g2, n2, a2⟩ := adv_inv hpe hs1.1 heq2
     have i2' : Inv' l { s2 with deep := s2.deep + 1 } := ⟨⟨i2.inv.pos, i2.inv.next, i2.inv.on, i2.inv.off, i2.inv.ags, i2.inv.nms, i2.inv.grp, by show s2.deep + 1 ≤ 20; omega⟩, i2.pn⟩
     have hd2 : ({ s2 with deep := s2.deep + 1 } : St).deep = s.deep + 1 := by show s2.deep + 1 = _; omega
     split at hr
     ·cases hr
     ·rename_i t3 s3 heq3
      have h3 := hre.ags _ _ _ _ i2' hd2 heq3 (hag.same (a2.trans hs1.2.2))
      split at hr
      ·cases hr
      ·split at hr
       ·cases hr
       ·rename_i s4 heq4
        have h4 : s4.agains = s3.agains := adv_ag (s := { s3 with deep := s3.deep - 1 }) heq4
        split at hr
        ·cases hr; exact h3.same h4
        ·cases hr; exact h3.same h4
theorem atom_at (hpe : TK.patE d l = 0) {rec : Rd} (hrg : RecG l (s.deep + 1) rec) (hre : RecE l (s.deep + 1) rec) (h : Inv' l s) (hp : s.pos < l.length) : (∀ z a, atomM d l rec s = .error (z, a) → ErL l z a) ∧ (∀ t s', atomM d l rec s = .ok (t, s') → AgP l s → AgP l s') := by
 unfold atomM
 constructor
 ·intro z a hr
  split at hr
  ·cases hr; exact er_of (by decide) h.inv.pos
  ·split at hr
   ·exact (open_at hpe hrg hre h hp).1 z a hr
   ·split at hr
    ·rename_i heq
     cases hr; exact single_at h heq
    ·rename_i t1 s1 heq
     split at hr
     ·rename_i heq2
      cases hr; exact adv_er (single_inv hpe h hp heq).1.next heq2
     ·cases hr
 ·intro t s' hr hag
  split at hr
  ·cases hr
  ·split at hr
   ·exact (open_at hpe hrg hre h hp).2 t s' hr hag
   ·split at hr
    ·cases hr
    ·rename_i t1 s1 heq
     split at hr
     ·cases hr
     ·rename_i s2 heq2
      cases hr
      exact (single_agp h heq hag).same (adv_ag heq2)
theorem reps_at (hpe : TK.patE d l = 0) {may : Bool} : ∀ (n ahead : Nat) (t : Tr) (s : St), Inv' l s → (∀ z a, repsM d l may n ahead t s = .error (z, a) → ErL l z a) ∧ (∀ t' s', repsM d l may n ahead t s = .ok (t', s') → AgP l s → AgP l s')
 | 0, ahead, t, s, hi => ⟨fun z a hr => (by cases hr), fun t' s' hr hag => (by cases hr; exact hag)⟩
 | n + 1, ahead, t, s, hi => by
  unfold repsM
  constructor
  ·intro z a hr
   split at hr
   ·split at hr
    ·cases hr; exact er_of (by decide) hi.inv.pos
    ·split at hr
     ·cases hr; exact er_of (by decide) hi.inv.pos
     ·split at hr
      ·rename_i heq
       cases hr; exact adv_er hi.inv.next heq
      ·rename_i s1 heq
       exact (reps_at hpe n (ahead + 1) _ s1 (adv_inv hpe hi.toA heq).1).1 z a hr
   ·cases hr
  ·intro t' s' hr hag
   split at hr
   ·split at hr
    ·cases hr
    ·split at hr
     ·cases hr
     ·split at hr
      ·cases hr
      ·rename_i s1 heq
       exact (reps_at hpe n (ahead + 1) _ s1 (adv_inv hpe hi.toA heq).1).2 t' s' hr (hag.same (adv_ag heq))
   ·cases hr; exact hag
theorem piece_at (hpe : TK.patE d l = 0) {rec : Rd} (hrg : RecG l (s.deep + 1) rec) (hre : RecE l (s.deep + 1) rec) (h : Inv' l s) (hp : s.pos < l.length) : (∀ z a, pieceM d l rec s = .error (z, a) → ErL l z a) ∧ (∀ t s', pieceM d l rec s = .ok (t, s') → AgP l s → AgP l s') := by
 unfold pieceM
 constructor
 ·intro z a hr
  split at hr
  ·rename_i heq
   cases hr; exact (atom_at hpe hrg hre h hp).1 _ _ heq
  ·rename_i t1 s1 heq
   exact (reps_at hpe _ _ _ _ (atom_inv hpe hrg h hp heq).1.inv).1 z a hr
 ·intro t s' hr hag
  split at hr
  ·cases hr
  ·rename_i t1 s1 heq
   exact (reps_at hpe _ _ _ _ (atom_inv hpe hrg h hp heq).1.inv).2 t s' hr ((atom_at hpe hrg hre h hp).2 _ _ heq hag)
theorem pieces_at (hpe : TK.patE d l = 0) {rec : Rd} {dp : Nat} (hrg : RecG l (dp + 1) rec) (hre : RecE l (dp + 1) rec) : ∀ (n : Nat) (ps : List Tr) (s : St), Inv' l s → s.deep = dp → (∀ z a, piecesM d l rec n ps s = .error (z, a) → ErL l z a) ∧ (∀ ps' s', piecesM d l rec n ps s = .ok (ps', s') → AgP l s → AgP l s')
 | 0, ps, s, hi, hd => ⟨fun z a hr => (by cases hr), fun ps' s' hr hag => (by cases hr; exact hag)⟩
 | n + 1, ps, s, hi, hd => by
  unfold piecesM
  have hrg' : RecG l (s.deep + 1) rec := by rw [hd]; exact hrg
  have hre' : RecE l (s.deep + 1) rec := by rw [hd]; exact hre
  constructor
  ·intro z a hr
   split at hr
   ·cases hr
   ·rename_i hend
    have hp : s.pos < l.length := by
     have h1 := hi.inv.pos
     have h2 : s.pos ≠ l.length := fun e => hend (by unfold endM; simp [e])
     omega
    split at hr
    ·rename_i heq
     cases hr; exact (piece_at hpe hrg' hre' hi hp).1 _ _ heq
    ·rename_i t s1 heq
     obtain ⟨b, _⟩ := piece_inv hpe hrg' hi hp heq
     exact (pieces_at hpe hrg hre n _ s1 b.inv (b.deep.trans hd)).1 z a hr
  ·intro ps' s' hr hag
   split at hr
   ·cases hr; exact hag
   ·rename_i hend
    have hp : s.pos < l.length := by
     have h1 := hi.inv.pos
     have h2 : s.pos ≠ l.length := fun e => hend (by unfold endM; simp [e])
     omega
    split at hr
    ·cases hr
    ·rename_i t s1 heq
     obtain ⟨b, _⟩ := piece_inv hpe hrg' hi hp heq
     exact (pieces_at hpe hrg hre n _ s1 b.inv (b.deep.trans hd)).2 ps' s' hr ((piece_at hpe hrg' hre' hi hp).2 _ _ heq hag)
theorem branch_at (hpe : TK.patE d l = 0) {rec : Rd} (hrg : RecG l (s.deep + 1) rec) (hre : RecE l (s.deep + 1) rec) (h : Inv' l s) : (∀ z a, branchM d l rec s = .error (z, a) → ErL l z a) ∧ (∀ t s', branchM d l rec s = .ok (t, s') → AgP l s → AgP l s') := by
 unfold branchM
 constructor
 ·intro z a hr
  split at hr
  ·rename_i heq
   cases hr; exact (pieces_at hpe hrg hre _ _ _ h rfl).1 _ _ heq
  ·cases hr
 ·intro t s' hr hag
  split at hr
  ·cases hr
  ·rename_i heq
   cases hr; exact (pieces_at hpe hrg hre _ _ _ h rfl).2 _ _ heq hag
theorem bars_at (hpe : TK.patE d l = 0) {rec : Rd} {dp : Nat} (hrg : RecG l (dp + 1) rec) (hre : RecE l (dp + 1) rec) : ∀ (n : Nat) (bs : List Tr) (s : St), Inv' l s → s.deep = dp → (∀ z a, barsM d l rec n bs s = .error (z, a) → ErL l z a) ∧ (∀ bs' s', barsM d l rec n bs s = .ok (bs', s') → AgP l s → AgP l s')
 | 0, bs, s, hi, hd => ⟨fun z a hr => (by cases hr), fun bs' s' hr hag => (by cases hr; exact hag)⟩
 | n + 1, bs, s, hi, hd => by
  unfold barsM
  constructor
  ·intro z a hr
   split at hr
   ·split at hr
    ·rename_i heq
     cases hr; exact adv_er hi.inv.next heq
    ·rename_i s1 heq1
     obtain ⟨i2, p2, _, d2, _, _, a2⟩ := adv_inv hpe hi.toA heq1
     have hd1 : s1.deep = dp := d2.trans hd
     have hrg' : RecG l (s1.deep + 1) rec := by rw [hd1]; exact hrg
     have hre' : RecE l (s1.deep + 1) rec := by rw [hd1]; exact hre
     split at hr
     ·rename_i heq2
      cases hr; exact (branch_at hpe hrg' hre' i2).1 _ _ heq2
     ·rename_i t s2 heq2
      have hg := branch_inv hpe hrg' i2 heq2
      exact (bars_at hpe hrg hre n _ s2 hg.inv (hg.deep.trans hd1)).1 z a hr
   ·cases hr
  ·intro bs' s' hr hag
   split at hr
   ·split at hr
    ·cases hr
    ·rename_i s1 heq1
     obtain ⟨i2, p2, _, d2, _, _, a2⟩ := adv_inv hpe hi.toA heq1
     have hd1 : s1.deep = dp := d2.trans hd
     have hrg' : RecG l (s1.deep + 1) rec := by rw [hd1]; exact hrg
     have hre' : RecE l (s1.deep + 1) rec := by rw [hd1]; exact hre
     split at hr
     ·cases hr
     ·rename_i t s2 heq2
      have hg := branch_inv hpe hrg' i2 heq2
      exact (bars_at hpe hrg hre n _ s2 hg.inv (hg.deep.trans hd1)).2 bs' s' hr ((branch_at hpe hrg' hre' i2).2 _ _ heq2 (hag.same a2))
   ·cases hr; exact hag
theorem branchesG_at (hpe : TK.patE d l = 0) {rec : Rd} {dp : Nat} (hrg : RecG l (dp + 1) rec) (hre : RecE l (dp + 1) rec) : RecE l dp (branchesG d l rec) := by
 constructor
 ·intro fo s z a h hd hr
  unfold branchesG at hr
  have hrg' : RecG l (({ s with folded := fo } : St).deep + 1) rec := by show RecG l (s.deep + 1) rec; rw [hd]; exact hrg
  have hre' : RecE l (({ s with folded := fo } : St).deep + 1) rec := by show RecE l (s.deep + 1) rec; rw [hd]; exact hre
  split at hr
  ·rename_i heq
   cases hr; exact (branch_at hpe hrg' hre' (inv_folded h fo)).1 _ _ heq
  ·rename_i t1 s1 heq1
   have h1 := branch_inv hpe hrg' (inv_folded h fo) heq1
   split at hr
   ·rename_i heq2
    cases hr; exact (bars_at hpe hrg hre _ _ _ h1.inv (h1.deep.trans hd)).1 _ _ heq2
   ·cases hr
 ·intro fo s t s' h hd hr hag
  unfold branchesG at hr
  have hrg' : RecG l (({ s with folded := fo } : St).deep + 1) rec := by show RecG l (s.deep + 1) rec; rw [hd]; exact hrg
  have hre' : RecE l (({ s with folded := fo } : St).deep + 1) rec := by show RecE l (s.deep + 1) rec; rw [hd]; exact hre
  split at hr
  ·cases hr
  ·rename_i t1 s1 heq1
   have h1 := branch_inv hpe hrg' (inv_folded h fo) heq1
   have g1 := (branch_at hpe hrg' hre' (inv_folded h fo)).2 _ _ heq1 (hag.same rfl)
   split at hr
   ·cases hr
   ·rename_i bs s2 heq2
    cases hr
    exact ((bars_at hpe hrg hre _ _ _ h1.inv (h1.deep.trans hd)).2 _ _ heq2 g1).same rfl
theorem branchesF_at (hpe : TK.patE d l = 0) : ∀ (n dp : Nat), RecE l dp (branchesF d l n)
 | 0, dp => ⟨fun fo s z a _ _ hr => (by cases hr; exact er_zero (by decide)), fun fo s t s' _ _ hr _ => (by cases hr)⟩
 | n + 1, dp => branchesG_at hpe (branchesF_inv hpe n (dp + 1)) (branchesF_at hpe n (dp + 1))
theorem nums_err {names : List Nm} {gr : Nat} : ∀ (A : List Ag), (∀ x ∈ A, x.pos ≤ l.length) → numsM names gr A = .error (z, a) → ErL l z a
 | [], hA, h => by cases h
 | x :: A, hA, h => by
  unfold numsM at h
  simp only at h
  generalize (if x.name.toList = [] then x.num else (match names.find? (fun m => m.1.toList == x.name.toList) with | some m => m.2 | none => 0)) = n at h
  split at h
  ·cases h; exact er_of (by decide) (hA x (by simp))
  ·split at h
   ·rename_i heq
    cases h; exact nums_err A (fun y hy => hA y (by simp [hy])) heq
   ·cases h
theorem pat_at {big : Tr → Bool} {fo : Bool} (h : patM big d fo l = .error (z, a)) : ErL l z a := by
 unfold patM at h
 split at h
 ·rename_i hp
  cases h; exact er_zero hp
 ·rename_i hpe
  have hpe : TK.patE d l = 0 := by omega
  have i0 : InvA l {} := ⟨Nat.zero_le _, Nat.le_refl _, Nat.le_refl _, Nat.zero_le _, Nat.zero_le _⟩
  unfold wholeM at h
  split at h
  ·rename_i heq
   cases h; exact adv_er i0.next heq
  ·rename_i s0 heq0
   obtain ⟨i1, _, _, d0, g0, n0, a0⟩ := adv_inv hpe i0 heq0
   split at h
   ·rename_i heq
    cases h; exact (branchesF_at hpe 21 0).err _ _ _ _ i1 d0 heq
   ·rename_i t s heq
    have hg := (branchesF_at hpe 21 0).ags _ _ _ _ i1 d0 heq (by unfold AgP; rw [a0]; exact fun x hx => by cases hx)
    split at h
    ·cases h; exact er_of (by decide) (branchesF_inv hpe 21 0 _ _ _ _ i1 d0 heq).inv.inv.pos
    ·split at h
     ·rename_i heq2
      cases h; exact nums_err _ hg heq2
     ·split at h
      ·cases h; exact er_zero (by decide)
      ·cases h
end Go.Proofs.YtklbbbldalmnbaaGreatDoor.Pa
