import Derived.Test.YtklbbbldalmnbaaGreatDoorMK
import Derived.Test.YtklbbbldalmnbaaGreatDoorMD
import Derived.Test.YtklbbbldalmnbaaGreatDoorMR
namespace Go.Proofs.YtklbbbldalmnbaaGreatDoor.Pa
open TR (Tr chkT chkL nodeS kidsB fieldsB repE kidL)
open Br (BE PS manyB rngOf)
set_option linter.unusedVariables false
variable {l : List Int} {d : Int} {s s' : St}
def NOk (t : Tr) : Prop := (1 ≤ t.kind ∧ t.kind ≤ 18) ∧ kidsB t = true ∧ fieldsB t = true ∧ checkE t.set = 0 ∧ (t.kind = 12 → repE t = 0)
mutual
inductive Rt : Nat → Tr → Nat → Prop
 | mk (g g1 g' : Nat) (t : Tr) (h1 : NOk t) (h2 : (t.kind = 11 ∧ t.num = (g : Int) + 1 ∧ g1 = g + 1) ∨ (t.kind ≠ 11 ∧ g1 = g)) (h3 : RtL g1 t.kids g') : Rt g t g'
inductive RtL : Nat → List Tr → Nat → Prop
 | nil (g : Nat) : RtL g [] g
 | cons (g g1 g' : Nat) (t : Tr) (ts : List Tr) (h1 : Rt g t g1) (h2 : RtL g1 ts g') : RtL g (t :: ts) g'
end
theorem RtL.append {g g1 g' : Nat} : ∀ {ts us : List Tr}, RtL g ts g1 → RtL g1 us g' → RtL g (ts ++ us) g'
 | [], us, h, h' => by cases h; exact h'
 | t :: ts, us, h, h' => by
  cases h with
  | cons _ g2 _ _ _ h1 h2 => exact .cons _ _ _ _ _ h1 (RtL.append h2 h')
theorem RtL.one {g g' : Nat} {t : Tr} (h : Rt g t g') : RtL g [t] g' := .cons _ _ _ _ _ h (.nil _)
theorem Rt.ok {g g' : Nat} {t : Tr} (h : Rt g t g') : NOk t := by cases h with | mk _ _ _ _ h1 h2 h3 => exact h1
theorem Rt.kids {g g' : Nat} {t : Tr} (h : Rt g t g') (hk : t.kind ≠ 11) : RtL g t.kids g' := by
 cases h with
 | mk _ _ _ _ h1 h2 h3 =>
  rcases h2 with ⟨h, _⟩ | ⟨_, h⟩
  ·exact absurd h hk
  ·subst h; exact h3
theorem Rt.node {g g' : Nat} {t : Tr} (h : NOk t) (hk : t.kind ≠ 11) (h3 : RtL g t.kids g') : Rt g t g' := .mk _ _ _ _ h (.inr ⟨hk, rfl⟩) h3
theorem kidL_no {ts : List Tr} {k : Int} (h : ∀ u ∈ ts, u.kind ≠ k) : kidL ts k = false := by
 unfold kidL
 rw [List.any_eq_false]
 intro u hu
 simpa using h u hu
theorem kidL_yes {ts : List Tr} {k : Int} (h : kidL ts k = false) : ∀ u ∈ ts, u.kind ≠ k := by
 unfold kidL at h
 rw [List.any_eq_false] at h
 intro u hu
 simpa using h u hu
theorem row9 {t : Tr} (h : kidsB t = true) (hk : t.kind = 9) : 2 ≤ t.kids.length ∧ ∀ u ∈ t.kids, u.kind ≠ 9 ∧ u.kind ≠ 1 := by
 unfold kidsB at h
 rw [if_pos hk] at h
 simp only [Bool.and_eq_true, decide_eq_true_eq, Bool.not_eq_true'] at h
 exact ⟨h.1.1, fun u hu => ⟨kidL_yes h.1.2 u hu, kidL_yes h.2 u hu⟩⟩
theorem row10 {t : Tr} (h : kidsB t = true) (hk : t.kind = 10) : 2 ≤ t.kids.length ∧ ∀ u ∈ t.kids, u.kind ≠ 10 := by
 unfold kidsB at h
 rw [if_neg (by omega), if_pos hk] at h
 simp only [Bool.and_eq_true, decide_eq_true_eq, Bool.not_eq_true'] at h
 exact ⟨h.1, kidL_yes h.2⟩
theorem row1 {t : Tr} (h : kidsB t = true) (hk : t.kind = 1) : t.kids = [] := by
 unfold kidsB at h
 rw [if_neg (by omega), if_neg (by omega), if_neg (by omega)] at h
 simpa using h
theorem leaf_ok {g : Nat} {k : Int} (h : (1 ≤ k ∧ k ≤ 8 ∧ k ≠ 2)) : Rt g (.mk k 0 0 0 0 false [] []) g := by
 refine .node ⟨⟨h.1, by show k ≤ 18; omega⟩, ?_, ?_, rfl, fun hk => ?_⟩ (by show k ≠ 11; omega) (.nil _)
 ·unfold kidsB
  rw [if_neg (by show ¬ k = 9; omega), if_neg (by show ¬ k = 10; omega), if_neg (by show ¬ (11 ≤ k ∧ k ≤ 17); omega)]
  rfl
 ·simp [fieldsB, Tr.set, Tr.num, Tr.least, Tr.most, Tr.way, Tr.fold]
 ·have : k = 12 := hk
  omega
theorem empty_ok {g : Nat} : Rt g emptyT g := leaf_ok (by omega)
theorem set_ok {g : Nat} {f : PS} (h : manyB f = false) : Rt g (setT (listOf f)) g := by
 refine .node ⟨⟨by show (1 : Int) ≤ 2; decide, by show (2 : Int) ≤ 18; decide⟩, rfl, ?_, ?_, fun hk => ?_⟩ (by show (2 : Int) ≠ 11; decide) (.nil _)
 ·simp [fieldsB, setT, Tr.kind, Tr.num, Tr.least, Tr.most, Tr.way, Tr.fold]
 ·obtain ⟨S, hS⟩ := Br.ex_set f
  show checkE (listOf f) = 0
  rw [listOf_is hS, Br.check_set hS, h]
  rfl
 ·exact absurd hk (by show ¬ (2 : Int) = 12; decide)
theorem again_ok {g : Nat} {n : Int} {f : Bool} : Rt g (.mk 18 n 0 0 0 f [] []) g := by
 refine .node ⟨⟨by show (1 : Int) ≤ 18; decide, by show (18 : Int) ≤ 18; decide⟩, rfl, ?_, rfl, fun hk => ?_⟩ (by show (18 : Int) ≠ 11; decide) (.nil _)
 ·simp [fieldsB, Tr.kind, Tr.set, Tr.num, Tr.least, Tr.most, Tr.way, Tr.fold]
 ·exact absurd hk (by show ¬ (18 : Int) = 12; decide)
theorem group_ok {g g' : Nat} {t : Tr} (h : Rt (g + 1) t g') : Rt g (.mk 11 ((g + 1 : Nat) : Int) 0 0 0 false [] [t]) g' := by
 refine .mk _ (g + 1) _ _ ⟨⟨by show (1 : Int) ≤ 11; decide, by show (11 : Int) ≤ 18; decide⟩, rfl, ?_, rfl, fun hk => ?_⟩ (.inl ⟨rfl, ?_, rfl⟩) (RtL.one h)
 ·simp [fieldsB, Tr.kind, Tr.set, Tr.num, Tr.least, Tr.most, Tr.way, Tr.fold]
 ·exact absurd hk (by show ¬ (11 : Int) = 12; decide)
 ·show ((g + 1 : Nat) : Int) = (g : Int) + 1
  omega
theorem look_ok {g g' : Nat} {t : Tr} {k : Int} (hk : 13 ≤ k ∧ k ≤ 17) (h : Rt g t g') : Rt g (.mk k 0 0 0 0 false [] [t]) g' := by
 refine .node ⟨⟨by show 1 ≤ k; omega, by show k ≤ 18; omega⟩, ?_, ?_, rfl, fun hh => ?_⟩ (by show k ≠ 11; omega) (RtL.one h)
 ·unfold kidsB
  rw [if_neg (by show ¬ k = 9; omega), if_neg (by show ¬ k = 10; omega), if_pos (by show 11 ≤ k ∧ k ≤ 17; omega)]
  rfl
 ·simp [fieldsB, Tr.set, Tr.num, Tr.least, Tr.most, Tr.way, Tr.fold]
 ·have : k = 12 := hh
  omega
theorem rep_ok {g g' : Nat} {t : Tr} {k : TK.Tok} (ht : TokOk k) (hk : k.kind = 6) (h : Rt g t g') : Rt g (repT t k) g' := by
 refine .node ⟨⟨by show (1 : Int) ≤ 12; decide, by show (12 : Int) ≤ 18; decide⟩, rfl, ?_, rfl, fun hh => ?_⟩ (by show (12 : Int) ≠ 11; decide) (RtL.one h)
 ·simp [fieldsB, repT, Tr.kind, Tr.set, Tr.num, Tr.fold]
 ·have hr : 0 ≤ k.least ∧ k.least ≤ 100 ∧ (k.most = -1 ∨ (k.least ≤ k.most ∧ k.most ≤ 100)) ∧ 1 ≤ k.way ∧ k.way ≤ 3 := by unfold TokOk at ht; omega
  unfold repE
  rw [if_neg (by show ¬ ¬ (0 ≤ k.least ∧ k.least ≤ 100); omega), if_neg (by show ¬ ¬ (k.most = -1 ∨ (k.least ≤ k.most ∧ k.most ≤ 100)); omega), if_neg (by show ¬ ¬ (1 ≤ k.way ∧ k.way ≤ 3); omega)]
theorem rowL_ok : ∀ {ps : List Tr} {g g' : Nat}, RtL g ps g' → RtL g (rowL ps) g' ∧ ∀ u ∈ rowL ps, u.kind ≠ 9 ∧ u.kind ≠ 1
 | [], g, g', h => by cases h; exact ⟨.nil _, fun u hu => by cases hu⟩
 | t :: ps, g, g', h => by
  cases h with
  | cons _ g1 _ _ _ h1 h2 =>
   obtain ⟨i1, i2⟩ := rowL_ok h2
   have e : rowL (t :: ps) = (if t.kind = 1 then [] else if t.kind = 9 then t.kids else [t]) ++ rowL ps := by simp [rowL]
   rw [e]
   by_cases k1 : t.kind = 1
   ·rw [if_pos k1]
    have := h1.kids (by omega)
    rw [row1 h1.ok.2.1 k1] at this
    cases this
    exact ⟨i1, i2⟩
   ·rw [if_neg k1]
    by_cases k9 : t.kind = 9
    ·rw [if_pos k9]
     refine ⟨(h1.kids (by omega)).append i1, fun u hu => ?_⟩
     rcases List.mem_append.1 hu with h | h
     ·exact (row9 h1.ok.2.1 k9).2 u h
     ·exact i2 u h
    ·rw [if_neg k9]
     refine ⟨(RtL.one h1).append i1, fun u hu => ?_⟩
     rcases List.mem_append.1 hu with h | h
     ·rw [List.mem_singleton] at h; subst h; exact ⟨k9, k1⟩
     ·exact i2 u h
theorem row_ok {ps : List Tr} {g g' : Nat} (h : RtL g ps g') : Rt g (rowT ps) g' := by
 obtain ⟨h1, h2⟩ := rowL_ok h
 unfold rowT
 cases hr : rowL ps with
 | nil => rw [hr] at h1; cases h1; exact empty_ok
 | cons a r =>
  rw [hr] at h1 h2
  cases r with
  | nil =>
   cases h1 with
   | cons _ _ _ _ _ h3 h4 => cases h4; exact h3
  | cons b r =>
   show Rt g (.mk 9 0 0 0 0 false [] (a :: b :: r)) g'
   refine .node ⟨⟨by show (1 : Int) ≤ 9; decide, by show (9 : Int) ≤ 18; decide⟩, ?_, ?_, rfl, fun hh => absurd hh (by show ¬ (9 : Int) = 12; decide)⟩ (by show (9 : Int) ≠ 11; decide) h1
   ·unfold kidsB
    rw [if_pos (show (Tr.mk 9 0 0 0 0 false [] (a :: b :: r)).kind = 9 from rfl)]
    show (decide (2 ≤ (a :: b :: r).length) && !kidL (a :: b :: r) 9 && !kidL (a :: b :: r) 1) = true
    rw [kidL_no fun u hu => (h2 u hu).1, kidL_no fun u hu => (h2 u hu).2]
    simp
   ·simp [fieldsB, Tr.kind, Tr.set, Tr.num, Tr.least, Tr.most, Tr.way, Tr.fold]
theorem eitherL_ok : ∀ {bs : List Tr} {g g' : Nat}, RtL g bs g' → RtL g (bs.flatMap fun t => if t.kind = 10 then t.kids else [t]) g' ∧ (∀ u ∈ (bs.flatMap fun t => if t.kind = 10 then t.kids else [t]), u.kind ≠ 10) ∧ bs.length ≤ (bs.flatMap fun t => if t.kind = 10 then t.kids else [t]).length
 | [], g, g', h => by cases h; exact ⟨.nil _, fun u hu => (by cases hu), Nat.le_refl _⟩
 | t :: bs, g, g', h => by
  cases h with
  | cons _ g1 _ _ _ h1 h2 =>
   obtain ⟨i1, i2, i3⟩ := eitherL_ok h2
   rw [List.flatMap_cons]
   by_cases k9 : t.kind = 10
   ·rw [if_pos k9]
    have h10 := row10 h1.ok.2.1 k9
    refine ⟨(h1.kids (by omega)).append i1, fun u hu => ?_, by rw [List.length_append, List.length_cons]; omega⟩
    rcases List.mem_append.1 hu with h | h
    ·exact h10.2 u h
    ·exact i2 u h
   ·rw [if_neg k9]
    refine ⟨(RtL.one h1).append i1, fun u hu => ?_, by rw [List.length_append, List.length_cons, List.length_singleton]; omega⟩
    rcases List.mem_append.1 hu with h | h
    ·rw [List.mem_singleton] at h; subst h; exact k9
    ·exact i2 u h
theorem either_ok {bs : List Tr} {g g' : Nat} (h : RtL g bs g') (hne : bs ≠ []) : Rt g (eitherT bs) g' := by
 match bs, hne, h with
 | [t], _, h =>
  cases h with
  | cons _ _ _ _ _ h3 h4 => cases h4; exact h3
 | a :: b :: r, _, h =>
  obtain ⟨i1, i2, i3⟩ := eitherL_ok h
  show Rt g (.mk 10 0 0 0 0 false [] ((a :: b :: r).flatMap fun t => if t.kind = 10 then t.kids else [t])) g'
  refine .node ⟨⟨by show (1 : Int) ≤ 10; decide, by show (10 : Int) ≤ 18; decide⟩, ?_, ?_, rfl, fun hh => absurd hh (by show ¬ (10 : Int) = 12; decide)⟩ (by show (10 : Int) ≠ 11; decide) i1
  ·unfold kidsB
   rw [if_neg (by show ¬ (10 : Int) = 9; decide), if_pos (by show (10 : Int) = 10; rfl)]
   show (decide (2 ≤ (((a :: b :: r).flatMap fun t => if t.kind = 10 then t.kids else [t])).length) && !kidL ((a :: b :: r).flatMap fun t => if t.kind = 10 then t.kids else [t]) 10) = true
   rw [kidL_no i2]
   simp only [List.length_cons] at i3
   simp only [Bool.not_false, Bool.and_true, decide_eq_true_eq]
   omega
  ·simp [fieldsB, Tr.kind, Tr.set, Tr.num, Tr.least, Tr.most, Tr.way, Tr.fold]
end Go.Proofs.YtklbbbldalmnbaaGreatDoor.Pa
namespace Go.Proofs.YtklbbbldalmnbaaGreatDoor.Pa
open TR (Tr)
open Br (BE PS manyB rngOf)
set_option linter.unusedVariables false
variable {l : List Int} {d : Int} {s s' : St}
def NameOk (t : ByteArray) : Prop := ∃ l i, t = TK.byteA (TK.nameL l i) ∧ TK.nameL l i ≠ [] ∧ (∀ p ∈ l, 0 ≤ p ∧ p ≤ 1114111)
structure NmOk (s : St) : Prop where
 one : ∀ n ∈ s.names, NameOk n.1 ∧ 1 ≤ n.2 ∧ n.2 ≤ (s.groups : Int)
 two : s.names.Pairwise fun a b => a.1.toList ≠ b.1.toList ∧ a.2 < b.2
theorem NmOk.same (h : NmOk s) (h1 : s'.names = s.names) (h2 : s'.groups = s.groups) : NmOk s' := ⟨by rw [h1, h2]; exact h.one, by rw [h1]; exact h.two⟩
theorem tok_text (ht : TokOk s.tok) (hk : s.tok.kind = 7) (hne : s.tok.text.toList ≠ []) : NameOk s.tok.text := by
 unfold TokOk at ht
 rcases ht with h | h | h | h | h | h | h | h | h | h | h
 all_goals first
  | omega
  | (rcases h.2.2.1 with h1 | h1
     ·exact absurd h1 hne
     ·exact h1)
theorem begin_ok {t : ByteArray} (hn : t.toList ≠ [] → NameOk t) (hr : beginM s t = .ok s') : s'.groups = s.groups + 1 ∧ (NmOk s → NmOk s') := by
 unfold beginM at hr
 split at hr
 ·cases hr
 ·split at hr
  ·cases hr
   exact ⟨rfl, fun h => ⟨fun n hm => ⟨(h.one n hm).1, (h.one n hm).2.1, by have := (h.one n hm).2.2; show n.2 ≤ ((s.groups + 1 : Nat) : Int); omega⟩, h.two⟩⟩
  ·rename_i hne
   split at hr
   ·cases hr
   ·rename_i hh
    cases hr
    refine ⟨rfl, fun h => ⟨fun n hm => ?_, ?_⟩⟩
    ·show NameOk n.1 ∧ 1 ≤ n.2 ∧ n.2 ≤ ((s.groups + 1 : Nat) : Int)
     rcases List.mem_append.1 hm with h1 | h1
     ·exact ⟨(h.one n h1).1, (h.one n h1).2.1, by have := (h.one n h1).2.2; omega⟩
     ·rw [List.mem_singleton] at h1
      subst h1
      exact ⟨hn hne, by show (1 : Int) ≤ ((s.groups + 1 : Nat) : Int); omega, Int.le_refl _⟩
    ·show (s.names ++ [(t, ((s.groups + 1 : Nat) : Int))]).Pairwise _
     rw [List.pairwise_append]
     refine ⟨h.two, List.pairwise_singleton _ _, fun a ha b hb => ?_⟩
     rw [List.mem_singleton] at hb
     subst hb
     refine ⟨fun e => hh ?_, by have := (h.one a ha).2.2; show a.2 < ((s.groups + 1 : Nat) : Int); omega⟩
     unfold hasName
     rw [List.any_eq_true]
     exact ⟨a, ha, by simpa using e⟩
theorem set_few {f : PS} {k : Nat} (ht : TokOk s.tok) (hr : setM d l s = .ok (f, k)) : manyB f = false := by
 unfold setM at hr
 split at hr
 ·rename_i h1
  cases hr
  exact few_one (by unfold TokOk at ht; omega) s.folded
 ·rename_i h1
  split at hr
  ·rename_i h4
   have hp : s.tok.text = TK.bDigit ∨ s.tok.text = TK.bWord ∨ s.tok.text = TK.bSpace ∨ s.tok.text = TK.bXdigit := by
    unfold TokOk at ht
    rcases ht with h | h | h | h | h | h | h | h | h | h | h
    all_goals first | omega | exact h.2
   cases hr
   cases hn : s.tok.neg with
   | true => exact few_ncls hp s.folded
   | false => exact few_cls hp s.folded
  ·split at hr
   ·cases hb : Br.parseM d s.folded l (s.next : Int) with
    | error e => rw [hb] at hr; cases hr
    | ok x =>
     rw [hb] at hr
     cases hr
     unfold Br.parseM at hb
     split at hb
     ·cases hb
     ·split at hb
      ·cases hb
      ·unfold Br.readM at hb
       split at hb
       ·cases hb
       ·split at hb
        ·cases hb
        ·rename_i hm
         cases hb
         simpa using hm
   ·cases hr
    exact few_dot
def CkA (s : St) (t : Tr) (s' : St) : Prop := Rt s.groups t s'.groups ∧ (NmOk s → NmOk s')
theorem single_ok {t : Tr} (ht : TokOk s.tok) (hr : singleM d l s = .ok (t, s')) : CkA s t s' := by
 unfold singleM at hr
 split at hr
 ·cases hr
  exact ⟨leaf_ok (by unfold TokOk at ht; omega), id⟩
 ·split at hr
  ·unfold againM at hr
   simp only at hr
   generalize (if s.tok.num < 0 then s.tok.num + ((s.groups + 1 : Nat) : Int) else s.tok.num) = n at hr
   split at hr
   ·cases hr
   ·cases hr
    exact ⟨again_ok, fun h => h.same rfl rfl⟩
  ·split at hr
   ·cases hr; exact ⟨empty_ok, fun h => h.same rfl rfl⟩
   ·split at hr
    ·cases hr
    ·rename_i f k heq
     cases hr; exact ⟨set_ok (set_few ht heq), fun h => h.same rfl rfl⟩
theorem adv_gn (ha : advM d l s = .ok s') : s'.groups = s.groups ∧ s'.names = s.names := by
 unfold advM at ha
 split at ha
 ·cases ha; exact ⟨rfl, rfl⟩
 ·split at ha
  ·cases ha
  ·cases ha; exact ⟨rfl, rfl⟩
theorem CkA.adv {s1 : St} {t : Tr} (h : CkA s t s1) (ha : advM d l s1 = .ok s') : CkA s t s' := by
 obtain ⟨h1, h2⟩ := adv_gn ha
 exact ⟨by rw [h1]; exact h.1, fun hn => (h.2 hn).same h2 h1⟩
def RecC (l : List Int) (dp : Nat) (rec : Rd) : Prop := ∀ fo s t s', Inv' l s → s.deep = dp → rec fo s = .ok (t, s') → CkA s t s'
theorem open_ok (hpe : TK.patE d l = 0) {rec : Rd} (hrc : RecC l (s.deep + 1) rec) {t : Tr} (h : Inv' l s) (hp : s.pos < l.length) (hk : s.tok.kind = 7) (hr : openM d l rec s = .ok (t, s')) : CkA s t s' := by
 obtain ⟨h1, htok⟩ := h.inv.on hp
 unfold openM at hr
 split at hr
 ·cases hr
 ·rename_i h20
  split at hr
  ·cases hr
  ·rename_i s1 heq1
   have hs1 : InvA l s1 ∧ s1.deep = s.deep ∧ (s1.groups = if s.tok.num = 11 then s.groups + 1 else s.groups) ∧ (NmOk s → NmOk s1) := by
    split at heq1
    ·rename_i h11
     obtain ⟨a, b, c, e, _⟩ := begin_inv h.toA heq1
     obtain ⟨x, y⟩ := begin_ok (fun hne => tok_text htok hk hne) heq1
     exact ⟨a, e, by rw [if_pos h11]; exact x, y⟩
    ·rename_i h11
     cases heq1; exact ⟨h.toA, rfl, by rw [if_neg h11], id⟩
   obtain ⟨ia, hd1, hg1, hn1⟩ := hs1
   split at hr
   ·cases hr
   ·rename_i s2 heq2
    obtain ⟨i2, p2, _, d2, g2, n2, a2⟩ := adv_inv hpe ia heq2
    split at hr
    ·cases hr
    ·rename_i t3 s3 heq3
     have hd20 : s.deep + 1 ≤ 20 := by have := h.inv.deep; omega
     have hg : CkA { s2 with deep := s2.deep + 1 } t3 s3 := hrc _ { s2 with deep := s2.deep + 1 } _ _ ⟨⟨i2.inv.pos, i2.inv.next, i2.inv.on, i2.inv.off, i2.inv.ags, i2.inv.nms, i2.inv.grp, by show s2.deep + 1 ≤ 20; omega⟩, i2.pn⟩ (by show s2.deep + 1 = _; omega) heq3
     have hgt : Rt s1.groups t3 s3.groups := by rw [← g2]; exact hg.1
     have hgn : NmOk s → NmOk s3 := fun hn => hg.2 ((hn1 hn).same n2 g2)
     split at hr
     ·cases hr
     ·split at hr
      ·cases hr
      ·rename_i s4 heq4
       obtain ⟨g4, n4⟩ := adv_gn (s := { s3 with deep := s3.deep - 1 }) heq4
       have g4' : s4.groups = s3.groups := g4
       have hgn4 : NmOk s → NmOk s4 := fun hn => (hgn hn).same n4 g4
       split at hr
       ·rename_i hone
        cases hr
        rw [if_neg (by omega)] at hg1
        refine ⟨?_, hgn4⟩
        rw [g4', ← hg1]
        exact hgt
       ·rename_i hone
        cases hr
        refine ⟨?_, hgn4⟩
        rw [g4']
        by_cases h11 : s.tok.num = 11
        ·rw [if_pos h11] at hg1
         rw [hg1] at hgt ⊢
         rw [h11, if_pos rfl]
         exact group_ok hgt
        ·rw [if_neg h11] at hg1
         rw [hg1] at hgt
         rw [if_neg h11]
         exact look_ok (by unfold TokOk at htok; omega) hgt
theorem atom_ok (hpe : TK.patE d l = 0) {rec : Rd} (hrc : RecC l (s.deep + 1) rec) {t : Tr} (h : Inv' l s) (hp : s.pos < l.length) (hr : atomM d l rec s = .ok (t, s')) : CkA s t s' := by
 unfold atomM at hr
 split at hr
 ·cases hr
 ·split at hr
  ·rename_i h7
   exact open_ok hpe hrc h hp h7 hr
  ·split at hr
   ·cases hr
   ·rename_i t1 s1 heq
    have h1 := single_ok (h.inv.on hp).2 heq
    split at hr
    ·cases hr
    ·rename_i s2 heq2
     cases hr
     exact h1.adv heq2
theorem reps_ok (hpe : TK.patE d l = 0) {may : Bool} {s0 : St} : ∀ (n ahead : Nat) (t : Tr) (s : St) (t' : Tr) (s' : St), Inv' l s → CkA s0 t s → repsM d l may n ahead t s = .ok (t', s') → CkA s0 t' s'
 | 0, ahead, t, s, t', s', hi, hg, hr => by cases hr; exact hg
 | n + 1, ahead, t, s, t', s', hi, hg, hr => by
  unfold repsM at hr
  split at hr
  ·rename_i h6
   split at hr
   ·cases hr
   ·split at hr
    ·cases hr
    ·split at hr
     ·cases hr
     ·rename_i s1 heq
      obtain ⟨h1, h2⟩ := adv_gn heq
      have hp : s.pos < l.length := by
       have h1 := hi.inv.pos
       have h2 : s.pos ≠ l.length := fun e => by have := hi.inv.off e; rw [this] at h6; exact absurd h6 (by decide)
       omega
      refine reps_ok hpe n (ahead + 1) _ s1 t' s' (adv_inv hpe hi.toA heq).1 ⟨?_, fun hn => (hg.2 hn).same h2 h1⟩ hr
      rw [h1]
      exact rep_ok (hi.inv.on hp).2 h6 hg.1
  ·cases hr; exact hg
theorem piece_ok (hpe : TK.patE d l = 0) {rec : Rd} (hrg : RecG l (s.deep + 1) rec) (hrc : RecC l (s.deep + 1) rec) {t : Tr} (h : Inv' l s) (hp : s.pos < l.length) (hr : pieceM d l rec s = .ok (t, s')) : CkA s t s' := by
 unfold pieceM at hr
 split at hr
 ·cases hr
 ·rename_i t1 s1 heq
  exact reps_ok hpe _ _ _ _ _ _ (atom_inv hpe hrg h hp heq).1.inv (atom_ok hpe hrc h hp heq) hr
def CkL (s : St) (ts : List Tr) (s' : St) : Prop := RtL s.groups ts s'.groups ∧ (NmOk s → NmOk s')
theorem CkL.snoc {s0 : St} {ts : List Tr} {t : Tr} (h : CkL s0 ts s) (hg : CkA s t s') : CkL s0 (ts ++ [t]) s' := ⟨h.1.append (.one hg.1), fun hn => hg.2 (h.2 hn)⟩
theorem pieces_ok (hpe : TK.patE d l = 0) {rec : Rd} {s0 : St} (hrg : RecG l (s0.deep + 1) rec) (hrc : RecC l (s0.deep + 1) rec) : ∀ (n : Nat) (ps : List Tr) (s : St) (ps' : List Tr) (s' : St), Inv' l s → s.deep = s0.deep → CkL s0 ps s → piecesM d l rec n ps s = .ok (ps', s') → CkL s0 ps' s'
 | 0, ps, s, ps', s', hi, hd, hg, hr => by cases hr; exact hg
 | n + 1, ps, s, ps', s', hi, hd, hg, hr => by
  unfold piecesM at hr
  split at hr
  ·cases hr; exact hg
  ·rename_i hend
   split at hr
   ·cases hr
   ·rename_i t s1 heq
    have hp : s.pos < l.length := by
     have h1 := hi.inv.pos
     have h2 : s.pos ≠ l.length := fun e => hend (by unfold endM; simp [e])
     omega
    obtain ⟨a, b⟩ := piece_inv hpe (s := s) (by rw [hd]; exact hrg) hi hp heq
    exact pieces_ok hpe hrg hrc n _ s1 ps' s' a.inv (a.deep.trans hd) (hg.snoc (piece_ok hpe (by rw [hd]; exact hrg) (by rw [hd]; exact hrc) hi hp heq)) hr
theorem branch_ok (hpe : TK.patE d l = 0) {rec : Rd} (hrg : RecG l (s.deep + 1) rec) (hrc : RecC l (s.deep + 1) rec) {t : Tr} (h : Inv' l s) (hr : branchM d l rec s = .ok (t, s')) : CkA s t s' := by
 unfold branchM at hr
 split at hr
 ·cases hr
 ·rename_i ps s1 heq
  cases hr
  have := pieces_ok hpe hrg hrc _ _ _ _ _ h rfl ⟨.nil _, id⟩ heq
  exact ⟨row_ok this.1, this.2⟩
theorem bars_ok (hpe : TK.patE d l = 0) {rec : Rd} {s0 : St} (hrg : RecG l (s0.deep + 1) rec) (hrc : RecC l (s0.deep + 1) rec) : ∀ (n : Nat) (bs : List Tr) (s : St) (bs' : List Tr) (s' : St), Inv' l s → s.deep = s0.deep → CkL s0 bs s → barsM d l rec n bs s = .ok (bs', s') → CkL s0 bs' s'
 | 0, bs, s, bs', s', hi, hd, hg, hr => by cases hr; exact hg
 | n + 1, bs, s, bs', s', hi, hd, hg, hr => by
  unfold barsM at hr
  split at hr
  ·split at hr
   ·cases hr
   ·rename_i s1 heq1
    obtain ⟨i2, p2, _, d2, g2, n2, a2⟩ := adv_inv hpe hi.toA heq1
    split at hr
    ·cases hr
    ·rename_i t s2 heq2
     have hd1 : s1.deep = s0.deep := d2.trans hd
     have hgo := branch_inv hpe (s := s1) (by rw [hd1]; exact hrg) i2 heq2
     have hag := branch_ok hpe (s := s1) (by rw [hd1]; exact hrg) (by rw [hd1]; exact hrc) i2 heq2
     have hg1 : CkL s0 bs s1 := ⟨by rw [g2]; exact hg.1, fun hn => (hg.2 hn).same n2 g2⟩
     exact bars_ok hpe hrg hrc n _ s2 bs' s' hgo.inv (hgo.deep.trans hd1) (hg1.snoc hag) hr
  ·cases hr; exact hg
theorem branchesG_ok (hpe : TK.patE d l = 0) {rec : Rd} {dp : Nat} (hrg : RecG l (dp + 1) rec) (hrc : RecC l (dp + 1) rec) : RecC l dp (branchesG d l rec) := by
 intro fo s t s' h hd hr
 unfold branchesG at hr
 split at hr
 ·cases hr
 ·rename_i t1 s1 heq1
  have hrg' : RecG l (({ s with folded := fo } : St).deep + 1) rec := by show RecG l (s.deep + 1) rec; rw [hd]; exact hrg
  have hrc' : RecC l (({ s with folded := fo } : St).deep + 1) rec := by show RecC l (s.deep + 1) rec; rw [hd]; exact hrc
  have h1 := branch_inv hpe (s := { s with folded := fo }) hrg' (inv_folded h fo) heq1
  have h2 : CkA { s with folded := fo } t1 s1 := branch_ok hpe (s := { s with folded := fo }) hrg' hrc' (inv_folded h fo) heq1
  split at hr
  ·cases hr
  ·rename_i bs s2 heq2
   cases hr
   have h3 := bars_ok hpe (s0 := { s with folded := fo }) hrg' hrc' _ _ _ _ _ h1.inv h1.deep ⟨.one h2.1, h2.2⟩ heq2
   exact ⟨either_ok h3.1 (bars_ne _ _ _ _ _ (by simp) heq2), fun hn => (h3.2 (hn.same rfl rfl)).same rfl rfl⟩
theorem branchesF_ok (hpe : TK.patE d l = 0) : ∀ (n dp : Nat), RecC l dp (branchesF d l n)
 | 0, dp => fun fo s t s' _ _ hr => by cases hr
 | n + 1, dp => branchesG_ok hpe (branchesF_inv hpe n (dp + 1)) (branchesF_ok hpe n (dp + 1))
end Go.Proofs.YtklbbbldalmnbaaGreatDoor.Pa
