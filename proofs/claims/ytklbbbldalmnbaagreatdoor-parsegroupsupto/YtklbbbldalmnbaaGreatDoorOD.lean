import Derived.Test.YtklbbbldalmnbaaGreatDoorMD
import Derived.Test.YtklbbbldalmnbaaGreatDoorOA
import Derived.Test.YtklbbbldalmnbaaGreatDoorMY
import Derived.Test.YtklbbbldalmnbaaGreatDoorOC
namespace Go.Proofs.YtklbbbldalmnbaaGreatDoor.Pa
open TR (Tr)
open Br (BE PS)
set_option linter.unusedVariables false
variable {d : Int} {l : List Int} {g : Nat} {s s' z : St}
structure AgR (g : Nat) (a b : Ag) : Prop where
 name : b.name = a.name
 num : b.num = a.num ∨ b.num = a.num + g
inductive AgRs (g : Nat) : List Ag → List Ag → Prop
 | nil : AgRs g [] []
 | cons {a b : Ag} {A B : List Ag} (h : AgR g a b) (hs : AgRs g A B) : AgRs g (a :: A) (b :: B)
theorem AgRs.len {A B : List Ag} (h : AgRs g A B) : B.length = A.length := by induction h with | nil => rfl | cons _ _ ih => simp [ih]
theorem AgRs.snoc {A B : List Ag} {a b : Ag} (h : AgRs g A B) (hr : AgR g a b) : AgRs g (A ++ [a]) (B ++ [b]) := by
 induction h with
 | nil => exact .cons hr .nil
 | cons h _ ih => exact .cons h ih
def upN (g : Nat) (n : Nm) : Nm := (n.1, n.2 + g)
structure Lf (g : Nat) (s z : St) : Prop where
 tok : z.tok = s.tok
 pos : z.pos = s.pos
 next : z.next = s.next
 fo : z.folded = s.folded
 grp : z.groups = s.groups + g
 nms : z.names = s.names.map (upN g)
 ags : AgRs g s.agains z.agains
def OrM {α : Type} (R : Except BE α) (P : α → Prop) : Prop := (∃ x, R = .ok x ∧ P x) ∨ ∃ a, R = .error (2, a)
theorem adv_lf (h : Lf g s z) (hr : advM d l s = .ok s') : ∃ z', advM d l z = .ok z' ∧ Lf g s' z' := by
 unfold advM at hr ⊢
 rw [h.next]
 split at hr
 ·rename_i he
  cases hr
  rw [if_pos he]
  exact ⟨_, rfl, rfl, rfl, rfl, h.fo, h.grp, h.nms, h.ags⟩
 ·rename_i he
  rw [if_neg he]
  cases hq : TK.nextT d l s.next with
  | error e => rw [hq] at hr; cases hr
  | ok y =>
   rw [hq] at hr
   obtain ⟨t, k⟩ := y
   cases hr
   exact ⟨_, rfl, rfl, rfl, rfl, h.fo, h.grp, h.nms, h.ags⟩
theorem again_lf (h : Lf g s z) {t : Tr} (hr : againM s = .ok (t, s')) : ∃ z', againM z = .ok (t, z') ∧ Lf g s' z' := by
 unfold againM at hr ⊢
 rw [h.tok, h.grp, h.ags.len, h.fo]
 simp only at hr ⊢
 have key : ∃ n m : Int, (if s.tok.num < 0 then s.tok.num + ((s.groups + 1 : Nat) : Int) else s.tok.num) = n ∧ (if s.tok.num < 0 then s.tok.num + ((s.groups + g + 1 : Nat) : Int) else s.tok.num) = m ∧ (m = n ∨ m = n + g) := by
  refine ⟨_, _, rfl, rfl, ?_⟩
  split
  ·right; omega
  ·left; rfl
 obtain ⟨n, m, e1, e2, hnm⟩ := key
 rw [e1] at hr
 rw [e2]
 split at hr
 ·cases hr
 ·rename_i hn
  cases hr
  rw [if_neg (by omega)]
  exact ⟨_, rfl, by first | rfl | exact h.tok, h.pos, h.next, by first | rfl | exact h.fo, by first | rfl | exact h.grp, h.nms, h.ags.snoc ⟨rfl, hnm⟩⟩
theorem hasName_up (names : List Nm) (t : ByteArray) : hasName (names.map (upN g)) t = hasName names t := by
 unfold hasName
 rw [List.any_map]
 rfl
theorem begin_lf (h : Lf g s z) {t : ByteArray} (hr : beginM s t = .ok s') : OrM (beginM z t) fun z' => Lf g s' z' := by
 unfold beginM at hr ⊢
 split at hr
 ·cases hr
 ·by_cases h20 : z.groups = 20
  ·exact .inr ⟨_, if_pos h20⟩
  ·rw [if_neg h20]
   split at hr
   ·rename_i h2
    cases hr
    exact .inl ⟨_, if_pos h2, h.tok, h.pos, h.next, h.fo, by show z.groups + 1 = s.groups + 1 + g; rw [h.grp]; omega, h.nms, h.ags⟩
   ·rename_i h2
    rw [if_neg h2, h.nms, hasName_up]
    split at hr
    ·cases hr
    ·rename_i h3
     cases hr
     refine .inl ⟨_, if_neg h3, h.tok, h.pos, h.next, h.fo, by show z.groups + 1 = s.groups + 1 + g; rw [h.grp]; omega, ?_, h.ags⟩
     show _ = (s.names ++ [(t, ((s.groups + 1 : Nat) : Int))]).map (upN g)
     rw [List.map_append, h.grp]
     simp only [List.map_cons, List.map_nil, upN]
     congr 3
     omega
theorem set_lf (h : Lf g s z) : setM d l z = setM d l s := by
 unfold setM
 rw [h.tok, h.pos, h.next, h.fo]
theorem single_lf (h : Lf g s z) {t : Tr} (hr : singleM d l s = .ok (t, s')) : ∃ z', singleM d l z = .ok (t, z') ∧ Lf g s' z' := by
 unfold singleM at hr ⊢
 rw [h.tok, set_lf h]
 split at hr
 ·rename_i h1
  cases hr
  exact ⟨_, if_pos h1, h⟩
 ·rename_i h1
  rw [if_neg h1]
  split at hr
  ·rename_i h2
   rw [if_pos h2]
   exact again_lf h hr
  ·rename_i h2
   rw [if_neg h2]
   split at hr
   ·rename_i h3
    cases hr
    refine ⟨_, if_pos h3, by first | rfl | exact h.tok, h.pos, h.next, ?_, h.grp, h.nms, h.ags⟩
    show foldedBy z _ = foldedBy s _
    unfold foldedBy
    rw [h.fo]
   ·rename_i h3
    rw [if_neg h3]
    split at hr
    ·cases hr
    ·rename_i f k heq
     cases hr
     exact ⟨_, rfl, by first | rfl | exact h.tok, h.pos, rfl, h.fo, h.grp, h.nms, h.ags⟩
def RecL (g : Nat) (rec rec' : Rd) : Prop := ∀ fo s z t s1, Lf g s z → rec fo s = .ok (t, s1) → OrM (rec' fo z) fun x => Lf g s1 x.2 ∧ (g = 0 → x.1 = t)
theorem Lf.deep (h : Lf g s z) (a b : Nat) : Lf g { s with deep := a } { z with deep := b } := ⟨h.tok, h.pos, h.next, h.fo, h.grp, h.nms, h.ags⟩
theorem Lf.folded (h : Lf g s z) (fo : Bool) : Lf g { s with folded := fo } { z with folded := fo } := ⟨h.tok, h.pos, h.next, rfl, h.grp, h.nms, h.ags⟩
theorem open_lf {rec rec' : Rd} (hl : RecL g rec rec') (h : Lf g s z) {t : Tr} (hr : openM d l rec s = .ok (t, s')) : OrM (openM d l rec' z) fun x => Lf g s' x.2 ∧ (g = 0 → x.1 = t) := by
 unfold openM at hr ⊢
 split at hr
 ·cases hr
 ·by_cases h20 : z.deep = 20
  ·exact .inr ⟨_, if_pos h20⟩
  ·rw [if_neg h20, h.tok]
   split at hr
   ·cases hr
   ·rename_i s1 heq1
    have h1 : OrM (if s.tok.num = 11 then beginM z s.tok.text else .ok z) fun z1 => Lf g s1 z1 := by
     split at heq1
     ·rename_i h11
      rw [if_pos h11]
      exact begin_lf h heq1
     ·rename_i h11
      rw [if_neg h11]
      cases heq1
      exact .inl ⟨_, rfl, h⟩
    rcases h1 with ⟨z1, e1, f1⟩ | ⟨a, e1⟩
    ·rw [e1]
     simp only
     split at hr
     ·cases hr
     ·rename_i s2 heq2
      obtain ⟨z2, e2, f2⟩ := adv_lf f1 heq2
      rw [e2]
      simp only
      split at hr
      ·cases hr
      ·rename_i t3 s3 heq3
       have hfo : foldedBy z2 s.tok.fold = foldedBy s2 s.tok.fold := by unfold foldedBy; rw [f2.fo]
       rw [hfo]
       rcases hl _ _ { z2 with deep := z2.deep + 1 } _ _ (f2.deep _ _) heq3 with ⟨⟨t3', z3⟩, e3, f3, ht3⟩ | ⟨a, e3⟩
       ·simp only at f3 ht3
        rw [e3]
        simp only
        rw [show z3.tok.kind = s3.tok.kind by rw [f3.tok]]
        split at hr
        ·cases hr
        ·rename_i h8
         rw [if_neg h8]
         split at hr
         ·cases hr
         ·rename_i s4 heq4
          obtain ⟨z4, e4, f4⟩ := adv_lf (f3.deep _ (z3.deep - 1)) heq4
          rw [e4]
          simp only
          split at hr
          ·rename_i hn
           rw [if_pos hn]
           cases hr
           exact .inl ⟨_, rfl, f4, ht3⟩
          ·rename_i hn
           rw [if_neg hn]
           cases hr
           refine .inl ⟨_, rfl, f4, fun h0 => ?_⟩
           rw [ht3 h0]
           subst h0
           rw [f1.grp]
           rfl
       ·rw [e3]
        exact .inr ⟨a, rfl⟩
    ·rw [e1]
     exact .inr ⟨a, rfl⟩
theorem atom_lf {rec rec' : Rd} (hl : RecL g rec rec') (h : Lf g s z) {t : Tr} (hr : atomM d l rec s = .ok (t, s')) : OrM (atomM d l rec' z) fun x => Lf g s' x.2 ∧ (g = 0 → x.1 = t) := by
 unfold atomM at hr ⊢
 rw [h.tok]
 split at hr
 ·cases hr
 ·rename_i h6
  rw [if_neg h6]
  split at hr
  ·rename_i h7
   rw [if_pos h7]
   exact open_lf hl h hr
  ·rename_i h7
   rw [if_neg h7]
   split at hr
   ·cases hr
   ·rename_i t1 s1 heq
    obtain ⟨z1, e1, f1⟩ := single_lf h heq
    rw [e1]
    simp only
    split at hr
    ·cases hr
    ·rename_i s2 heq2
     cases hr
     obtain ⟨z2, e2, f2⟩ := adv_lf f1 heq2
     rw [e2]
     exact .inl ⟨_, rfl, f2, fun _ => rfl⟩
theorem reps_lf {may : Bool} : ∀ (n ahead : Nat) (t u : Tr) (s z : St) (t' : Tr) (s' : St), Lf g s z → (g = 0 → u = t) → repsM d l may n ahead t s = .ok (t', s') → OrM (repsM d l may n ahead u z) fun x => Lf g s' x.2 ∧ (g = 0 → x.1 = t')
 | 0, ahead, t, u, s, z, t', s', h, hu, hr => by cases hr; exact .inl ⟨_, rfl, h, hu⟩
 | n + 1, ahead, t, u, s, z, t', s', h, hu, hr => by
  unfold repsM at hr ⊢
  rw [h.tok]
  split at hr
  ·rename_i h6
   rw [if_pos h6]
   split at hr
   ·cases hr
   ·rename_i hm
    rw [if_neg hm]
    split at hr
    ·cases hr
    ·rename_i h3
     rw [if_neg h3]
     split at hr
     ·cases hr
     ·rename_i s1 heq
      obtain ⟨z1, e1, f1⟩ := adv_lf h heq
      rw [e1]
      exact reps_lf n (ahead + 1) _ _ s1 z1 t' s' f1 (fun h0 => by rw [hu h0]) hr
  ·rename_i h6
   rw [if_neg h6]
   cases hr
   exact .inl ⟨_, rfl, h, hu⟩
theorem piece_lf {rec rec' : Rd} (hl : RecL g rec rec') (h : Lf g s z) {t : Tr} (hr : pieceM d l rec s = .ok (t, s')) : OrM (pieceM d l rec' z) fun x => Lf g s' x.2 ∧ (g = 0 → x.1 = t) := by
 unfold pieceM at hr ⊢
 rw [h.tok]
 split at hr
 ·cases hr
 ·rename_i t1 s1 heq
  rcases atom_lf hl h heq with ⟨⟨t1', z1⟩, e1, f1, ht1⟩ | ⟨a, e1⟩
  ·rw [e1]
   exact reps_lf _ _ _ _ _ _ _ _ f1 ht1 hr
  ·rw [e1]
   exact .inr ⟨a, rfl⟩
theorem end_lf (h : Lf g s z) : endM l z = endM l s := by unfold endM; rw [h.pos, h.tok]
theorem pieces_lf {rec rec' : Rd} (hl : RecL g rec rec') : ∀ (n : Nat) (ps us : List Tr) (s z : St) (ps' : List Tr) (s' : St), Lf g s z → (g = 0 → us = ps) → piecesM d l rec n ps s = .ok (ps', s') → OrM (piecesM d l rec' n us z) fun x => Lf g s' x.2 ∧ (g = 0 → x.1 = ps')
 | 0, ps, us, s, z, ps', s', h, hu, hr => by cases hr; exact .inl ⟨_, rfl, h, hu⟩
 | n + 1, ps, us, s, z, ps', s', h, hu, hr => by
  unfold piecesM at hr ⊢
  rw [end_lf h]
  split at hr
  ·rename_i he
   rw [if_pos he]
   cases hr
   exact .inl ⟨_, rfl, h, hu⟩
  ·rename_i he
   rw [if_neg he]
   split at hr
   ·cases hr
   ·rename_i t s1 heq
    rcases piece_lf hl h heq with ⟨⟨t', z1⟩, e1, f1, ht1⟩ | ⟨a, e1⟩
    ·rw [e1]
     exact pieces_lf hl n _ _ s1 z1 ps' s' f1 (fun h0 => by rw [hu h0, show t' = t from ht1 h0]) hr
    ·rw [e1]
     exact .inr ⟨a, rfl⟩
theorem branch_lf {rec rec' : Rd} (hl : RecL g rec rec') (h : Lf g s z) {t : Tr} (hr : branchM d l rec s = .ok (t, s')) : OrM (branchM d l rec' z) fun x => Lf g s' x.2 ∧ (g = 0 → x.1 = t) := by
 unfold branchM at hr ⊢
 split at hr
 ·cases hr
 ·rename_i ps s1 heq
  cases hr
  rcases pieces_lf hl _ _ _ _ _ _ _ h (fun _ => rfl) heq with ⟨⟨ps', z1⟩, e1, f1, ht1⟩ | ⟨a, e1⟩
  ·rw [e1]
   exact .inl ⟨_, rfl, f1, fun h0 => by rw [show ps' = ps from ht1 h0]⟩
  ·rw [e1]
   exact .inr ⟨a, rfl⟩
theorem bars_lf {rec rec' : Rd} (hl : RecL g rec rec') : ∀ (n : Nat) (bs us : List Tr) (s z : St) (bs' : List Tr) (s' : St), Lf g s z → (g = 0 → us = bs) → barsM d l rec n bs s = .ok (bs', s') → OrM (barsM d l rec' n us z) fun x => Lf g s' x.2 ∧ (g = 0 → x.1 = bs')
 | 0, bs, us, s, z, bs', s', h, hu, hr => by cases hr; exact .inl ⟨_, rfl, h, hu⟩
 | n + 1, bs, us, s, z, bs', s', h, hu, hr => by
  unfold barsM at hr ⊢
  rw [h.tok]
  split at hr
  ·rename_i h9
   rw [if_pos h9]
   split at hr
   ·cases hr
   ·rename_i s1 heq1
    obtain ⟨z1, e1, f1⟩ := adv_lf h heq1
    rw [e1]
    simp only
    split at hr
    ·cases hr
    ·rename_i t s2 heq2
     rcases branch_lf hl f1 heq2 with ⟨⟨t', z2⟩, e2, f2, ht2⟩ | ⟨a, e2⟩
     ·rw [e2]
      exact bars_lf hl n _ _ s2 z2 bs' s' f2 (fun h0 => by rw [hu h0, show t' = t from ht2 h0]) hr
     ·rw [e2]
      exact .inr ⟨a, rfl⟩
  ·rename_i h9
   rw [if_neg h9]
   cases hr
   exact .inl ⟨_, rfl, h, hu⟩
theorem branchesG_lf {rec rec' : Rd} (hl : RecL g rec rec') : RecL g (branchesG d l rec) (branchesG d l rec') := by
 intro fo s z t s1 h hr
 unfold branchesG at hr ⊢
 split at hr
 ·cases hr
 ·rename_i t1 s1' heq1
  rcases branch_lf hl (h.folded fo) heq1 with ⟨⟨t1', z1⟩, e1, f1, ht1⟩ | ⟨a, e1⟩
  ·rw [e1]
   simp only
   split at hr
   ·cases hr
   ·rename_i bs s2 heq2
    cases hr
    rcases bars_lf hl (l.length + 1) [t1] [t1'] s1' z1 bs s2 f1 (fun h0 => by rw [show t1' = t1 from ht1 h0]) heq2 with ⟨⟨bs', z2⟩, e2, f2, ht2⟩ | ⟨a, e2⟩
    ·rw [e2]
     refine .inl ⟨_, rfl, ?_, fun h0 => by rw [show bs' = bs from ht2 h0]⟩
     rw [← h.fo]
     exact f2.folded _
    ·rw [e2]
     exact .inr ⟨a, rfl⟩
  ·rw [e1]
   exact .inr ⟨a, rfl⟩
theorem branchesF_lf : ∀ (n m : Nat), RecL g (branchesF d l n) (branchesF d l m)
 | 0, m => fun fo s z t s1 h hr => by cases hr
 | n + 1, 0 => fun fo s z t s1 h hr => .inr ⟨0, rfl⟩
 | n + 1, m + 1 => branchesG_lf (branchesF_lf n m)
theorem find_up (names : List Nm) (t : ByteArray) : (names.map (upN g)).find? (fun m => m.1.toList == t.toList) = (names.find? (fun m => m.1.toList == t.toList)).map (upN g) := by
 rw [List.find?_map]
 rfl
def agN (names : List Nm) (a : Ag) : Int := if a.name.toList = [] then a.num else (match names.find? (fun m => m.1.toList == a.name.toList) with | some m => m.2 | none => 0)
theorem nums_cons (names : List Nm) (gr : Nat) (a : Ag) (A : List Ag) : numsM names gr (a :: A) = if agN names a < 1 ∨ (gr : Int) < agN names a then .error (5, (a.pos : Int)) else match numsM names gr A with
  | .error e => .error e
  | .ok ns => .ok (agN names a :: ns) := rfl
theorem agN_lf {names : List Nm} {a b : Ag} (h : AgR g a b) (h1 : 1 ≤ agN names a) : agN (names.map (upN g)) b = agN names a ∨ agN (names.map (upN g)) b = agN names a + g := by
 unfold agN at h1 ⊢
 rw [h.name, find_up]
 by_cases hn : a.name.toList = []
 ·rw [if_pos hn, if_pos hn]; exact h.num
 ·rw [if_neg hn] at h1
  rw [if_neg hn, if_neg hn]
  cases hf : names.find? (fun m => m.1.toList == a.name.toList) with
  | none => rw [hf] at h1; exact absurd h1 (by decide)
  | some x => exact .inr rfl
theorem nums_lf {names : List Nm} {gr : Nat} : ∀ (A B : List Ag) (ns : List Int), AgRs g A B → numsM names gr A = .ok ns → ∃ ms, numsM (names.map (upN g)) (gr + g) B = .ok ms ∧ (g = 0 → ms = ns)
 | [], _, ns, .nil, hr => by cases hr; exact ⟨[], rfl, fun _ => rfl⟩
 | a :: A, _, ns, .cons (b := b) (B := B) h hs, hr => by
  rw [nums_cons] at hr ⊢
  split at hr
  ·cases hr
  ·rename_i hb
   have hm := agN_lf (names := names) h (by omega)
   rw [if_neg (by omega)]
   split at hr
   ·cases hr
   ·rename_i ns' heq
    cases hr
    obtain ⟨ms, e3, h3⟩ := nums_lf A B ns' hs heq
    rw [e3]
    refine ⟨_, rfl, fun h0 => ?_⟩
    rw [h3 h0]
    congr 1
    omega
theorem nums_mv {names : List Nm} {gr k : Nat} : ∀ (A : List Ag) (ns : List Int), numsM names gr A = .ok ns → numsM names gr (A.map fun a => { a with pos := a.pos + k }) = .ok ns
 | [], ns, h => h
 | a :: A, ns, h => by
  rw [List.map_cons, nums_cons]
  rw [nums_cons] at h
  have e : agN names { a with pos := a.pos + k } = agN names a := rfl
  rw [e]
  split at h
  ·cases h
  ·rename_i h1
   rw [if_neg h1]
   split at h
   ·cases h
   ·rename_i ns' heq
    rw [nums_mv A ns' heq]
    exact h
end Go.Proofs.YtklbbbldalmnbaaGreatDoor.Pa
namespace Go.Proofs.YtklbbbldalmnbaaGreatDoor.Pa
open TR (Tr)
open Br (BE PS)
open TK (Brk)
set_option linter.unusedVariables false
variable {d : Int} {l : List Int} {s s' : St} {fo : Bool}
structure NmT (t : Tr) : Prop where
 one : t.kind = 1 → t = emptyT
 row : t.kind = 9 → t = .mk 9 0 0 0 0 false [] t.kids ∧ 2 ≤ t.kids.length
theorem NmT.of {t : Tr} (h1 : t.kind ≠ 1) (h2 : t.kind ≠ 9) : NmT t := ⟨fun h => absurd h h1, fun h => absurd h h2⟩
theorem nm_empty : NmT emptyT := ⟨fun _ => rfl, fun h => absurd h (by decide)⟩
theorem nm_clo : Clo NmT where
 kind k h1 h2 := NmT.of (by simp only [kindT, TR.Tr.kind]; omega) (by simp only [kindT, TR.Tr.kind]; omega)
 again n f := NmT.of (by simp [TR.Tr.kind]) (by simp [TR.Tr.kind])
 empty := nm_empty
 set f := NmT.of (by simp [setT, TR.Tr.kind]) (by simp [setT, TR.Tr.kind])
 rep t k h := NmT.of (by simp [repT, TR.Tr.kind]) (by simp [repT, TR.Tr.kind])
 opn k n t h1 h2 h := NmT.of (by simp only [TR.Tr.kind]; omega) (by simp only [TR.Tr.kind]; omega)
 row ps h := by
  unfold rowT
  split
  ·exact nm_empty
  ·rename_i t heq
   exact h t (rowL_one heq (fun u hu h9 => ((h u hu).row h9).2)).1
  ·rename_i ks h1 h2
   refine ⟨fun h1 => absurd h1 (by simp [TR.Tr.kind]), fun _ => ⟨rfl, ?_⟩⟩
   simp only [TR.Tr.kids]
   match hk : rowL ps, h1, h2 with
   | [], h1, _ => exact absurd rfl h1
   | [t], _, h2 => exact absurd rfl (h2 t)
   | a :: b :: r, _, _ => simp
 either bs hne h := by
  match bs, hne with
  | [t], _ => exact h t (by simp)
  | a :: b :: r, _ => exact NmT.of (by simp [eitherT, TR.Tr.kind]) (by simp [eitherT, TR.Tr.kind])
theorem row_one {t : Tr} (h : NmT t) : rowT [t] = t := by
 unfold rowT rowL
 simp only [List.flatMap_cons, List.flatMap_nil, List.append_nil]
 by_cases h1 : t.kind = 1
 ·rw [if_pos h1]; exact (h.one h1).symm
 ·rw [if_neg h1]
  by_cases h9 : t.kind = 9
  ·rw [if_pos h9]
   obtain ⟨h3, h2⟩ := h.row h9
   match hk : t.kids, h2 with
   | a :: b :: r, _ =>
    simp only
    rw [← hk]
    exact h3.symm
  ·rw [if_neg h9]
theorem branchesF_mvN {n : Nat} {t : Tr} (h : Inv' l s) (hr : branchesF d l n fo s = .ok (t, s')) : ∀ (pre : List Int), TK.patE d (pre ++ l) = 0 → branchesF d (pre ++ l) n fo (mvN pre.length s) = .ok (t, mvN pre.length s')
 | [], _ => hr
 | p :: pre, hp => branchesF_mv (pat_cut hp) hp n _ fo _ _ _ (inv_mvN h pre) rfl (branchesF_mvN h hr pre (pat_cut hp))
theorem Whole.branches {p : Pt} {s0 s1 s2 : St} {t1 : Tr} {bs : List Tr} {ns : List Int} (h : Whole d fo l p s0 t1 s1 bs s2 ns) : branchesF d l 21 fo s0 = .ok (eitherT bs, { s2 with folded := s0.folded }) := by
 show branchesG d l (branchesF d l 20) fo s0 = _
 unfold branchesG
 rw [h.br]
 simp only
 rw [h.bars]
theorem Whole.inner {p : Pt} {s0 s1 s2 : St} {t1 : Tr} {bs : List Tr} {ns : List Int} (h : Whole 1 fo l p s0 t1 s1 bs s2 ns) (pre : List Int) (hL : TK.patE 1 (pre ++ (l ++ [41])) = 0) :
  advM 1 (pre ++ (l ++ [41])) (mvN pre.length { folded := fo }) = .ok (mvN pre.length { upS 41 l s0 with folded := fo }) ∧
  branchesF 1 (pre ++ (l ++ [41])) 21 fo (mvN pre.length { upS 41 l s0 with folded := fo }) = .ok (eitherT bs, mvN pre.length { upS 41 l s2 with folded := fo }) := by
 have hc : Brk 41 := .inr rfl
 have hL1 : TK.patE 1 (l ++ [41]) = 0 := pat_cuts hL
 obtain ⟨i0, d0, g0, n0, a0, p0⟩ := h.inv0
 obtain ⟨i1, d1, _⟩ := h.inv1
 obtain ⟨i2, d2, p2, n2⟩ := h.inv2
 have hrg : RecG l (({ s0 with folded := fo } : St).deep + 1) (branchesF 1 l 20) := branchesF_inv h.pe 20 _
 have hadv := adv_ext (b := []) hc (s := {}) (Nat.zero_le _) h.adv
 have hbr := branch_ext (b := []) hc h.pe hL1 hrg (branchesF_u hc h.pe hL1 20 _) (inv_folded i0 fo) h.br
 obtain ⟨m', k1, _, _, _, _, k6⟩ := bars_up (b := []) hc h.pe hL1 (dp := 0) (branchesF_inv h.pe 20 _) (branchesF_u hc h.pe hL1 20 _) _ ((l ++ [41]).length + 1) _ _ _ _ i1 d1 (by omega) (by simp only [List.length_append, List.length_cons]; omega) h.bars
 have hup : upS 41 l s2 = { s2 with tok := tokC 41, next := l.length + 1 } := if_pos p2
 have hbars : barsM 1 (l ++ [41]) (branchesF 1 (l ++ [41]) 20) ((l ++ [41]).length + 1) [t1] (upS 41 l s1) = .ok (bs, upS 41 l s2) := by
  rw [k6]
  cases m' with
  | zero => rfl
  | succ m =>
   unfold barsM
   rw [if_neg (by rw [hup]; show ¬ (tokC 41).kind = 9; decide)]
 have hB : branchesF 1 (l ++ [41]) 21 fo { upS 41 l s0 with folded := fo } = .ok (eitherT bs, { upS 41 l s2 with folded := fo }) := by
  show branchesG 1 (l ++ [41]) (branchesF 1 (l ++ [41]) 20) fo _ = _
  unfold branchesG
  rw [show ({ ({ upS 41 l s0 with folded := fo } : St) with folded := fo } : St) = upS 41 l { s0 with folded := fo } from up_fo 41 fo s0, hbr]
  simp only
  rw [hbars]
  simp only
  rw [show (upS 41 l { s0 with folded := fo }).folded = fo by unfold upS; split <;> rfl]
 have hA : InvA (l ++ [41]) {} := ⟨Nat.zero_le _, Nat.zero_le _, Nat.zero_le _, by decide, by decide⟩
 have hi := inv_folded (adv_inv hL1 hA hadv).1 fo
 exact ⟨adv_mvN (adv_fo hadv) pre, branchesF_mvN hi hB pre hL⟩
theorem wrap_pat {p : Pt} {pre : List Int} {tk : TK.Tok} {g : Nat} (hp : patM bigB 1 fo l = .ok p) (hl : l.length + pre.length < 300) (hpre : ∀ x ∈ pre, 0 ≤ x ∧ x ≤ 1114111) (hne : pre ≠ []) (hnx : TK.nextT 1 (pre ++ (l ++ [41])) 0 = .ok (tk, pre.length))
  (h7 : tk.kind = 7) (hf : tk.fold = 0) (ht : tk.text.toList = []) (hg : (g = 0 ∧ tk.num = 1) ∨ (g = 1 ∧ tk.num = 11)) :
  OrM (patM bigB 1 fo (pre ++ (l ++ [41]))) fun q => q.groups = p.groups + g ∧ q.names = p.names.map (upN g) ∧ (g = 0 → q.tree = p.tree) ∧ (g = 1 → q.tree.kind = 11 ∧ q.tree.num = 1) := by
 obtain ⟨s0, t1, s1, bs, s2, ns, H⟩ := whole_of hp
 have hpl : 0 < pre.length := List.length_pos_iff.2 hne
 obtain ⟨L, hLe⟩ : ∃ L, L = pre ++ (l ++ [41]) := ⟨_, rfl⟩
 have hlen : L.length = pre.length + l.length + 1 := by rw [hLe]; simp only [List.length_append, List.length_cons, List.length_nil]; omega
 have hL : TK.patE 1 L = 0 := by
  have h1 := H.pe
  unfold TK.patE at h1 ⊢
  rw [if_neg (by decide), if_neg (by omega)]
  rw [if_neg (by decide)] at h1
  split at h1
  ·cases h1
  ·split at h1
   ·rename_i h3
    rw [if_pos]
    rw [hLe, List.all_append, List.all_append, h3]
    simp only [Bool.true_and, Bool.and_eq_true, List.all_eq_true]
    refine ⟨fun x hx => ?_, fun x hx => ?_⟩
    ·have := hpre x hx; simp [TK.pointB]; omega
    ·rw [List.mem_singleton] at hx; subst hx; decide
   ·cases h1
 obtain ⟨hadv, hbr⟩ := H.inner pre (by rw [← hLe]; exact hL)
 rw [← hLe] at hadv hbr hnx ⊢
 obtain ⟨i2, d2, p2, n2⟩ := H.inv2
 have hup : upS 41 l s2 = { s2 with tok := tokC 41, next := l.length + 1 } := if_pos p2
 obtain ⟨k, hk⟩ : ∃ k, k = pre.length := ⟨_, rfl⟩
 rw [← hk] at hadv hbr hnx hlen hpl
 -- the opening
 obtain ⟨S, hS⟩ : ∃ S : St, S = { tok := tk, pos := 0, next := k, folded := fo } := ⟨_, rfl⟩
 obtain ⟨S1, hS1⟩ : ∃ S1 : St, S1 = { S with groups := g } := ⟨_, rfl⟩
 have hopn : (if S.tok.num = 11 then beginM S S.tok.text else .ok S) = .ok S1 := by
  rw [hS1, hS]
  rcases hg with ⟨rfl, h1⟩ | ⟨rfl, h1⟩
  ·rw [if_neg (by show ¬ tk.num = 11; omega)]
  ·rw [if_pos (by show tk.num = 11; exact h1)]
   unfold beginM
   rw [if_neg (by show ¬ (0 : Nat) = 20; decide), if_pos (by exact ht)]
 have hadv1 : ∃ z, advM 1 L S1 = .ok z ∧ Lf g (mvN k { upS 41 l s0 with folded := fo }) z := by
  have hlf : Lf g (mvN k { folded := fo }) ({ folded := fo, groups := g, pos := k, next := k } : St) := by
   rw [mvN_eq]
   exact ⟨rfl, (Nat.zero_add k).symm, (Nat.zero_add k).symm, rfl, (Nat.zero_add g).symm, rfl, .nil⟩
  obtain ⟨z, e, f⟩ := adv_lf hlf hadv
  refine ⟨z, ?_, f⟩
  rw [← e, hS1, hS]
  exact adv_same rfl rfl rfl rfl rfl rfl
 obtain ⟨z, ez, fz⟩ := hadv1
 have hfz : foldedBy z tk.fold = fo := by
  unfold foldedBy
  rw [if_pos hf, fz.fo, mvN_eq]
 -- the piece
 have hopen : OrM (openM 1 L (branchesF 1 L 20) S) fun x => Lf g (mvN k { s2 with folded := fo, tok := {}, pos := l.length + 1, next := l.length + 1 }) x.2 ∧ (g = 0 → x.1 = eitherT bs) ∧ (g = 1 → x.1.kind = 11 ∧ x.1.num = 1) := by
  unfold openM
  rw [if_neg (by rw [hS]; show ¬ (0 : Nat) = 20; decide), hopn]
  simp only
  rw [ez]
  simp only
  rw [show S.tok.fold = tk.fold by rw [hS], hfz]
  rcases branchesF_lf 21 20 fo _ { z with deep := z.deep + 1 } _ _ (fz.deep _ _) hbr with ⟨⟨t3, z3⟩, e3, f3, ht3⟩ | ⟨a, e3⟩
  ·rw [e3]
   simp only
   have h8 : z3.tok.kind = 8 := by rw [f3.tok, mvN_eq, hup]; rfl
   have hnext : z3.next = L.length := by rw [f3.next, mvN_eq, hup, hlen]; show l.length + 1 + k = _; omega
   have ha4 : advM 1 L { z3 with deep := z3.deep - 1 } = .ok { z3 with deep := z3.deep - 1, pos := z3.next, tok := {} } := by
    unfold advM
    rw [if_pos (by exact hnext)]
   rw [if_neg (by simp [h8]), ha4]
   simp only
   have hlf : Lf g (mvN k { s2 with folded := fo, tok := {}, pos := l.length + 1, next := l.length + 1 }) ({ z3 with deep := z3.deep - 1, pos := z3.next, tok := {} } : St) := by
    have q := f3
    rw [mvN_eq, hup] at q
    rw [mvN_eq]
    refine ⟨rfl, ?_, q.next, q.fo, q.grp, q.nms, q.ags⟩
    exact q.next
   rw [show S.tok.num = tk.num by rw [hS]]
   rcases hg with ⟨rfl, h1⟩ | ⟨rfl, h1⟩
   ·rw [if_pos h1]
    exact .inl ⟨_, rfl, hlf, ht3, fun h => absurd h (by decide)⟩
   ·rw [if_neg (by omega), h1, if_pos rfl]
    refine .inl ⟨_, rfl, hlf, fun h => absurd h (by decide), fun _ => ⟨rfl, ?_⟩⟩
    rw [hS1]
    rfl
  ·rw [e3]
   exact .inr ⟨a, rfl⟩
 have hadv0 : advM 1 L {} = .ok { tok := tk, pos := 0, next := k } := by
  unfold advM
  rw [if_neg (by show ¬ 0 = L.length; omega)]
  show (match TK.nextT 1 L 0 with | .error z => _ | .ok (t, k) => _) = _
  rw [hnx]
 have hend : endM L S = false := by
  unfold endM
  rw [hS]
  simp only [h7]
  simp
  omega
 -- the whole
 unfold patM
 rw [if_neg (by simp [hL])]
 unfold wholeM
 rw [hadv0]
 simp only
 have hF : branchesF 1 L 21 fo ({ tok := tk, pos := 0, next := k } : St) = branchesG 1 L (branchesF 1 L 20) fo ({ tok := tk, pos := 0, next := k } : St) := rfl
 rw [hF]
 unfold branchesG
 rw [show ({ ({ tok := tk, pos := 0, next := k } : St) with folded := fo } : St) = S by rw [hS]]
 have hatom : atomM 1 L (branchesF 1 L 20) S = openM 1 L (branchesF 1 L 20) S := by
  unfold atomM
  rw [if_neg (by rw [hS]; show ¬ tk.kind = 6; omega), if_pos (by rw [hS]; exact h7)]
 rcases hopen with ⟨⟨t4, z4⟩, e4, f4, h40, h41⟩ | ⟨a, e4⟩
 ·simp only at f4 h40 h41
  have hz4 : z4.tok = {} := by rw [f4.tok, mvN_eq]
  have hz4p : z4.pos = L.length := by rw [f4.pos, mvN_eq, hlen]; show l.length + 1 + k = _; omega
  have hpiece : pieceM 1 L (branchesF 1 L 20) S = .ok (t4, z4) := by
   unfold pieceM
   rw [hatom, e4]
   simp only
   unfold repsM
   rw [if_neg (by rw [hz4]; decide)]
  have hbranch : branchM 1 L (branchesF 1 L 20) S = .ok (rowT [t4], z4) := by
   unfold branchM
   unfold piecesM
   rw [hend, hpiece]
   simp only [Bool.false_eq_true, if_false, List.nil_append]
   have : piecesM 1 L (branchesF 1 L 20) L.length [t4] z4 = .ok ([t4], z4) := pieces_stop (by unfold endM; rw [hz4p]; simp)
   rw [this]
  have hrow : rowT [t4] = t4 := by
   rcases hg with ⟨rfl, _⟩ | ⟨rfl, _⟩
   ·rw [h40 rfl]
    obtain ⟨i0, d0, _⟩ := H.inv0
    exact row_one (branchesF_q nm_clo H.pe 21 0 fo s0 _ _ i0 d0 H.branches)
   ·exact row_one (NmT.of (by rw [(h41 rfl).1]; decide) (by rw [(h41 rfl).1]; decide))
  rw [hbranch]
  simp only
  rw [hrow]
  have hbars : barsM 1 L (branchesF 1 L 20) (L.length + 1) [t4] z4 = .ok ([t4], z4) := by
   unfold barsM
   rw [if_neg (by rw [hz4]; decide)]
  rw [hbars]
  simp only
  rw [if_neg (by rw [hz4]; decide)]
  have hgr : z4.groups = s2.groups + g := by rw [f4.grp, mvN_eq]
  have hnm : z4.names = s2.names.map (upN g) := by rw [f4.nms, mvN_eq]
  have hags : AgRs g (s2.agains.map fun a => { a with pos := a.pos + k }) z4.agains := by have := f4.ags; rw [mvN_eq] at this; exact this
  obtain ⟨ms, em, hms⟩ := nums_lf _ _ _ hags (nums_mv _ _ H.nums)
  rw [hnm, hgr, em]
  simp only
  show OrM (if bigB (settleT ms (eitherT [t4])) = true then _ else _) _
  rw [show eitherT [t4] = t4 from rfl]
  by_cases hbig : bigB (settleT ms t4) = true
  ·rw [if_pos hbig]
   exact .inr ⟨0, rfl⟩
  ·rw [if_neg hbig]
   refine .inl ⟨_, rfl, ?_, ?_, fun h0 => ?_, fun h1 => ?_⟩
   ·rw [H.eq]
   ·rw [H.eq]
   ·rw [h40 h0, hms h0, H.eq]
   ·obtain ⟨h2, h3⟩ := h41 h1
    cases t4 with
    | mk k n a b c f S ks =>
     simp only [TR.Tr.kind, TR.Tr.num] at h2 h3
     subst h2 h3
     rw [settle_mk]
     exact ⟨rfl, rfl⟩
 ·have hbranch : branchM 1 L (branchesF 1 L 20) S = .error (2, a) := by
   unfold branchM
   unfold piecesM
   rw [hend]
   unfold pieceM
   rw [hatom, e4]
   rfl
  rw [hbranch]
  exact .inr ⟨a, rfl⟩
theorem rep_kind (l : List Int) (i : Nat) (a b : Int) : (TK.repT 1 l i a b).1.kind = 6 := by
 unfold TK.repT
 repeat' split
 all_goals rfl
theorem no_rep {p : Pt} (hp : patM bigB 1 fo (63 :: l) = .ok p) : False := by
 obtain ⟨s0, t1, s1, bs, s2, ns, H⟩ := whole_of hp
 have ha := H.adv
 unfold advM at ha
 rw [if_neg (by simp)] at ha
 have e : TK.nextT 1 (63 :: l) 0 = .ok (TK.repT 1 (63 :: l) 1 0 1) := rfl
 have h6 := rep_kind (63 :: l) 1 0 1
 generalize TK.repT 1 (63 :: l) 1 0 1 = y at h6 e
 obtain ⟨t, k⟩ := y
 rw [show (({} : St).next) = 0 from rfl, e] at ha
 cases ha
 have hb := H.br
 obtain ⟨S, hS⟩ : ∃ S : St, S = { ({ ({} : St) with pos := 0, tok := t, next := k } : St) with folded := fo } := ⟨_, rfl⟩
 have hk : S.tok.kind = 6 := by rw [hS]; exact h6
 have hend : endM (63 :: l) S = false := by
  unfold endM
  rw [hk, hS]
  simp
 change branchM 1 (63 :: l) _ { ({ ({} : St) with pos := 0, tok := t, next := k } : St) with folded := fo } = _ at hb
 rw [← hS] at hb
 unfold branchM piecesM at hb
 rw [hend, if_neg (by decide)] at hb
 unfold pieceM atomM at hb
 rw [if_pos hk] at hb
 cases hb
end Go.Proofs.YtklbbbldalmnbaaGreatDoor.Pa
namespace Go.Proofs.YtklbbbldalmnbaaGreatDoor.Pa
open TR (Tr)
open Br (BE PS)
set_option linter.unusedVariables false
variable {fo : Bool} {l : List Int}
theorem upN_none (N : List Nm) : N.map (upN 0) = N := by
 have : upN 0 = id := by funext n; simp [upN]
 rw [this, List.map_id]
theorem pat_groups {d : Int} {p : Pt} (h : patM bigB d fo l = .ok p) : p.groups ≤ 20 := by
 obtain ⟨s0, t1, s1, bs, s2, ns, H⟩ := whole_of h
 rw [H.eq]
 exact H.inv2.1.inv.grp
theorem patR_groups (d : Int) : (patR (patM bigB d fo l)).2.1 ≤ 20 := by
 cases hR : patM bigB d fo l with
 | ok p => exact pat_groups hR
 | error e => exact Nat.zero_le _
theorem groups_trees (h1 : 0 = (patZ (patM bigB 1 fo l)).1) (hl : l.length ≤ 296) : l[0]? ≠ some 63 ∧
  ((patZ (patM bigB 1 fo ([40, 63, 58] ++ l ++ [41]))).1 = 2 ∨ ((patZ (patM bigB 1 fo ([40, 63, 58] ++ l ++ [41]))).1 = 0 ∧ patR (patM bigB 1 fo ([40, 63, 58] ++ l ++ [41])) = patR (patM bigB 1 fo l))) ∧
  ((patZ (patM bigB 1 fo ([40] ++ l ++ [41]))).1 = 2 ∨ ((patZ (patM bigB 1 fo ([40] ++ l ++ [41]))).1 = 0 ∧ (patR (patM bigB 1 fo ([40] ++ l ++ [41]))).2.1 = (patR (patM bigB 1 fo l)).2.1 + 1 ∧ (patR (patM bigB 1 fo ([40] ++ l ++ [41]))).1.kind = 11 ∧ (patR (patM bigB 1 fo ([40] ++ l ++ [41]))).1.num = 1 ∧ (patR (patM bigB 1 fo ([40] ++ l ++ [41]))).2.2.length = (patR (patM bigB 1 fo l)).2.2.length)) := by
 obtain ⟨p, hp⟩ := patZ_ok h1.symm
 have h63 : l[0]? ≠ some 63 := by
  intro e
  cases l with
  | nil => cases e
  | cons x l =>
   simp only [List.getElem?_cons_zero, Option.some.injEq] at e
   subst e
   exact no_rep hp
 refine ⟨h63, ?_, ?_⟩
 ·have hw := wrap_pat (pre := [40, 63, 58]) (tk := TK.openT 1) (g := 0) hp (by simp; omega) (by simp) (by simp) rfl rfl rfl (by rw [ByteArray.toList_eq]; rfl) (.inl ⟨rfl, rfl⟩)
  rw [List.append_assoc]
  rcases hw with ⟨q, e, h1, h2, h3, -⟩ | ⟨a, e⟩
  ·right
   rw [e, hp]
   refine ⟨rfl, ?_⟩
   show (q.tree, q.groups, q.names) = (p.tree, p.groups, p.names)
   rw [h1, h2, h3 rfl, upN_none, Nat.add_zero]
  ·left; rw [e]; rfl
 ·have hnx : TK.nextT 1 ([40] ++ (l ++ [41])) 0 = .ok (TK.openT 11, 1) := by
   show TK.openS 1 ([40] ++ (l ++ [41])) 1 = _
   unfold TK.openS
   rw [if_neg (by decide), if_pos]
   rw [TK.says_one]
   cases l with
   | nil => rfl
   | cons x l =>
    have : x ≠ 63 := fun e => h63 (by rw [e]; rfl)
    simpa using this
  have hw := wrap_pat (pre := [40]) (tk := TK.openT 11) (g := 1) hp (by simp; omega) (by simp) (by simp) hnx rfl rfl (by rw [ByteArray.toList_eq]; rfl) (.inr ⟨rfl, rfl⟩)
  rw [List.append_assoc]
  rcases hw with ⟨q, e, h1, h2, -, h3⟩ | ⟨a, e⟩
  ·right
   rw [e, hp]
   obtain ⟨h4, h5⟩ := h3 rfl
   exact ⟨rfl, h1, h4, h5, by show q.names.length = p.names.length; rw [h2, List.length_map]⟩
  ·left; rw [e]; rfl
end Go.Proofs.YtklbbbldalmnbaaGreatDoor.Pa
namespace Go.Proofs.YtklbbbldalmnbaaGreatDoor.Pa
set_option maxHeartbeats 8000000
open Go.RowKit
open TR (Tr NV NCells nvV nvO NodeC KidsC)
open TK (Mv PatV)
open Br (BE PS givesF fauO fau_cells)
set_option linter.unusedVariables false
set_option maxRecDepth 100000
theorem lit_pat (W : World) (x : Int) : PatV (W.alloc (.cells #[.int .i64 x] 3)) (.slice (some ⟨W.heap.size, 0, none⟩) 1 1) [x] := .inr ⟨_, 1, rfl, by simp, fun j hj => by
 have : j = 0 := by simpa using hj
 subst this
 rw [show (⟨W.heap.size, 0, none⟩ : Addr).add 0 = ⟨W.heap.size, 0, none⟩ from rfl, World.cell?_alloc_at _ _ _ _ (by simp)]
 rfl⟩
theorem wrap_app {W : World} {ao : Option Addr} {ll ac : Nat} {l : List Int} (pre : List Int) (k : Nat) (hk : k = pre.length) (hll : ll = l.length) (h : PatV W (.slice ao ll ac) l) (hp : k ≤ 10) (hl : ll ≤ 4000000) :
  ∃ vo1 vc1 W1 vo2 vc2 W2, (Builtin.append_ #[36, 36] 36 #[.slice (some ⟨W.heap.size, 0, none⟩) k k, .slice ao ll ac]).run Tryz.prog (W.alloc (.cells (i64s pre).toArray 3)) = .ok (.slice vo1 (k + ll) vc1) W1 ∧
   (Builtin.append_ #[36, 36] 36 #[.slice vo1 (k + ll) vc1, .slice (some ⟨W1.heap.size, 0, none⟩) 1 1]).run Tryz.prog (W1.alloc (.cells #[.int .i64 41] 3)) = .ok (.slice vo2 (k + ll + 1) vc2) W2 ∧
   PatV W2 (.slice vo2 (k + ll + 1) vc2) (pre ++ l ++ [41]) ∧ Below W.heap.size W W2 := by
 have h0 : Below W.heap.size W (W.alloc (.cells (i64s pre).toArray 3)) := (Below.refl _ W).alloc (Nat.le_refl _) _
 obtain ⟨vo1, vc1, W1, hr1, ho1, hb1⟩ := app_ints (W := W.alloc (.cells (i64s pre).toArray 3)) (B := W.heap.size) (n := k) (v := .slice (some ⟨W.heap.size, 0, none⟩) k k) (l := pre) (by simp) (by simpa using World.ownsRow_lit (base := W.heap.size) (e := 3) (size := 1) W (i64s pre).toArray k (Nat.le_refl _) (by unfold maxLen; omega) (by simp [i64s, hk])) (h.below h0) (by omega)
 rw [← hll] at hr1 ho1
 have hb01 := h0.trans hb1
 obtain ⟨vo2, vc2, W2, hr2, ho2, hb2⟩ := app_ints (W := W1.alloc (.cells #[.int .i64 41] 3)) (B := W.heap.size) (m := [41]) (by have := hb01.size; simp; omega) (ho1.alloc _) (lit_pat W1 41) (by simp; omega)
 exact ⟨vo1, vc1, W1, vo2, vc2, W2, hr1, hr2, own_pat ho2 (by simp; omega), (hb01.alloc hb01.size _).trans hb2⟩
theorem groups_walk (fo : Bool) (v : Value) (l : List Int) (w : World) (hT : Fo.Tab w) (hpos : 3 < w.heap.size) (h : PatV w v l) (hl : l.length ≤ 4000000) : Calls Tryz.prog 6 #[v, .bool fo] w fun e w' => e = .returned (.bool true) ∧ Below w.heap.size w w' := by
 have HP := hide (parseBegun_fn w hT hpos)
 have HX : Hid (∀ w1 v1 l1, Below w.heap.size w w1 → PatV w1 v1 l1 → _) := fun w1 v1 l1 hb hv => parse_one 1 fo hv (hT.below hb hpos) (Nat.lt_of_lt_of_le hpos hb.size)
 have HA := hide h
 obtain ⟨ao, ac, hv⟩ := h.shape
 obtain ⟨ll, hll⟩ : ∃ ll, ll = l.length := ⟨_, rfl⟩
 have HL := hide hll
 rw [← hll] at hv hl
 rw [hv] at HA ⊢
 clear h hv hll
 go_enter Tryz.func6, Tryz.ntmps6
 go_wp2_with fail
 refine HP.out.mono ?_
 rintro e w1 ⟨rfl, hb1⟩
 have HX1 := hide (HX.out w1 _ _ hb1 (HA.out.below hb1))
 have HB1 := hide hb1
 clear hb1 HP
 go_wp2_with fail
 refine HX1.out.mono ?_
 rintro e w2 ⟨n1, gr1, uo, ul, uc, z1, p1, rfl, hn2, hg2, hz2, hp2, hb2⟩
 have HN2 := hide hn2
 have HZ2 := hide hz2
 have HG2 := hide hg2
 obtain ⟨w3, hw2⟩ : ∃ w3, w3 = (w2.alloc (pnO n1 gr1 (.slice uo ul uc))).alloc (fauO z1 p1) := ⟨_, rfl⟩
 have hbb2 : Below w2.heap.size w2 w3 := by rw [hw2]; exact ((Below.refl _ w2).alloc (Nat.le_refl _) _).alloc (by simp) _
 have HPa2 : Hid (w3.heap[w2.heap.size]? = some (pnO n1 gr1 (.slice uo ul uc))) := by show _ = _; rw [hw2]; exact TK.at_old (TK.at_new _ _)
 have HFa2 : Hid (w3.heap[w2.heap.size + 1]? = some (fauO z1 p1)) := by show _ = _; rw [hw2]; exact TK.at_new' _ _ (by simp)
 have HBo2 := hide hbb2
 have HBi2 := hide hb2
 have HB3 := hide (HB1.out.trans ((hb2.trans (hbb2.mono hb2.size)).mono HB1.out.size))
 obtain ⟨vo1, vc1, W4, vo2, vc2, W5, hr1, hr2, hpv, hbw⟩ := wrap_app [40, 63, 58] 3 rfl HL.out (HA.out.below HB3.out) (by decide) hl
 have HB5 := hide (HB3.out.trans (hbw.mono HB3.out.size))
 have HX5 := hide (HX.out W5 _ _ HB5.out hpv)
 have HBw5 := hide hbw
 simp only [i64s, List.map_cons, List.map_nil] at hr1
 rw [show w3.heap.size = w2.heap.size + 1 + 1 by rw [hw2]; simp] at hr1
 simp only [pnO, fauO] at hw2
 rw [hw2] at hr1
 have HR1 := hide hr1
 have HR2 := hide hr2
 simp only [pnV]
 clear hn2 hg2 hz2 hp2 hb2 hbb2 HX1 hr1 hr2 hpv hbw
 clear hw2
 go_wp2_with (at_builtin; first | (refine wpList_run rfl _ _ _ rfl _ _ _ _ rfl rfl HR1.out ?_; clear HR1) | (refine wpList_run rfl _ _ _ rfl _ _ _ _ rfl rfl HR2.out ?_; clear HR2))
 refine HX5.out.mono ?_
 rintro e w6 ⟨n2, gr2, xo, xl, xc, z2, p2, rfl, hn6, hg6, hz6, hp6, hb6⟩
 have HN6 := hide hn6
 have HZ6 := hide hz6
 have HG6 := hide hg6
 obtain ⟨w7, hw6⟩ : ∃ w7, w7 = (w6.alloc (pnO n2 gr2 (.slice xo xl xc))).alloc (fauO z2 p2) := ⟨_, rfl⟩
 have hbb6 : Below w6.heap.size w6 w7 := by rw [hw6]; exact ((Below.refl _ w6).alloc (Nat.le_refl _) _).alloc (by simp) _
 have HPa6 : Hid (w7.heap[w6.heap.size]? = some (pnO n2 gr2 (.slice xo xl xc))) := by show _ = _; rw [hw6]; exact TK.at_old (TK.at_new _ _)
 have HFa6 : Hid (w7.heap[w6.heap.size + 1]? = some (fauO z2 p2)) := by show _ = _; rw [hw6]; exact TK.at_new' _ _ (by simp)
 have HBo6 := hide hbb6
 have HBi6 := hide hb6
 have HB7 := hide (HB5.out.trans ((hb6.trans (hbb6.mono hb6.size)).mono HB5.out.size))
 obtain ⟨vo3, vc3, W8, vo4, vc4, W9, hr3, hr4, hpv, hbw⟩ := wrap_app [40] 1 rfl HL.out (HA.out.below HB7.out) (by decide) hl
 have HB9 := hide (HB7.out.trans (hbw.mono HB7.out.size))
 have HX9 := hide (HX.out W9 _ _ HB9.out hpv)
 have HBw9 := hide hbw
 simp only [i64s, List.map_cons, List.map_nil] at hr3
 rw [show w7.heap.size = w6.heap.size + 1 + 1 by rw [hw6]; simp] at hr3
 simp only [pnO, fauO] at hw6
 rw [hw6] at hr3
 have HR3 := hide hr3
 have HR4 := hide hr4
 simp only [pnV]
 clear hn6 hg6 hz6 hp6 hb6 hbb6 HX5 hr3 hr4 hpv hbw HX
 clear hw6
 go_wp2_with (at_builtin; first | (refine wpList_run rfl _ _ _ rfl _ _ _ _ rfl rfl HR3.out ?_; clear HR3) | (refine wpList_run rfl _ _ _ rfl _ _ _ _ rfl rfl HR4.out ?_; clear HR4))
 refine HX9.out.mono ?_
 rintro e w10 ⟨n3, gr3, yo, yl, yc, z3, p3, rfl, hn10, hg10, hz10, hp10, hb10⟩
 have HN10 := hide hn10
 have HZ10 := hide hz10
 have HG10 := hide hg10
 obtain ⟨w11, hw10⟩ : ∃ w11, w11 = (w10.alloc (pnO n3 gr3 (.slice yo yl yc))).alloc (fauO z3 p3) := ⟨_, rfl⟩
 have hbb10 : Below w10.heap.size w10 w11 := by rw [hw10]; exact ((Below.refl _ w10).alloc (Nat.le_refl _) _).alloc (by simp) _
 have HPa10 : Hid (w11.heap[w10.heap.size]? = some (pnO n3 gr3 (.slice yo yl yc))) := by show _ = _; rw [hw10]; exact TK.at_old (TK.at_new _ _)
 have HFa10 : Hid (w11.heap[w10.heap.size + 1]? = some (fauO z3 p3)) := by show _ = _; rw [hw10]; exact TK.at_new' _ _ (by simp)
 have HBo10 := hide hbb10
 have HBi10 := hide hb10
 have HB11 := hide (HB9.out.trans ((hb10.trans (hbb10.mono hb10.size)).mono HB9.out.size))
 have hb311 : Below w3.heap.size w3 w11 := HBw5.out.trans ((HBi6.out.trans ((HBo6.out.trans ((HBw9.out.trans ((hb10.trans (hbb10.mono hb10.size)).mono HBw9.out.size)).mono HBo6.out.size)).mono HBi6.out.size)).mono HBw5.out.size)
 have hb711 : Below w7.heap.size w7 w11 := HBw9.out.trans ((hb10.trans (hbb10.mono hb10.size)).mono HBw9.out.size)
 have hb211 : Below w2.heap.size w2 w11 := HBo2.out.trans (hb311.mono HBo2.out.size)
 have hb611 : Below w6.heap.size w6 w11 := HBo6.out.trans (hb711.mono HBo6.out.size)
 have HPb2 : Hid (w11.heap[w2.heap.size]? = some (pnO n1 gr1 (.slice uo ul uc))) := by show _ = _; rw [hb311.block _ (TR.lt_of_block HPa2.out)]; exact HPa2.out
 have HFb2 : Hid (w11.heap[w2.heap.size + 1]? = some (fauO z1 p1)) := by show _ = _; rw [hb311.block _ (TR.lt_of_block HFa2.out)]; exact HFa2.out
 have HPb6 : Hid (w11.heap[w6.heap.size]? = some (pnO n2 gr2 (.slice xo xl xc))) := by show _ = _; rw [hb711.block _ (TR.lt_of_block HPa6.out)]; exact HPa6.out
 have HFb6 : Hid (w11.heap[w6.heap.size + 1]? = some (fauO z2 p2)) := by show _ = _; rw [hb711.block _ (TR.lt_of_block HFa6.out)]; exact HFa6.out
 have hc1 := HN2.out w11 (fun k _ h => hb211.block k h)
 have hc2 := HN6.out w11 (fun k _ h => hb611.block k h)
 have hc3 := HN10.out w11 (fun k _ h => hbb10.block k h)
 have HC1 := hide hc1
 have HC2 := hide hc2
 have HC3 := hide hc3
 obtain ⟨f0, -, -⟩ := fau_cells HFb2.out
 obtain ⟨g0, -, -⟩ := fau_cells HFb6.out
 obtain ⟨h0, -, -⟩ := fau_cells HFa10.out
 obtain ⟨a0, a1, a2, a3, a4, a5, a6, a7, a8, a9⟩ := pn_cells HPb2.out
 obtain ⟨b0, b1, b2, b3, b4, b5, b6, b7, b8, b9⟩ := pn_cells HPb6.out
 simp only [pnO, fauO] at hw10
 simp only [pnV]
 rw [hw10] at f0 g0 h0 a0 a1 a2 a3 a4 a5 a6 a7 a8 a9 b0 b1 b2 b3 b4 b5 b6 b7 b8 b9
 have HW : Hid (Below w.heap.size w ((w10.alloc (pnO n3 gr3 (.slice yo yl yc))).alloc (fauO z3 p3))) := by show Below _ _ _; simp only [pnO, fauO]; rw [← hw10]; exact HB11.out
 have HCl : Hid (PatV w11 (.slice ao ll ac) l) := HA.out.below HB11.out
 clear hn10 hg10 hz10 hp10 hb10 hbb10 HX9 hb311 hb711 hb211 hb611 hc1 hc2 hc3 HN2 HN6 HN10 HPa2 HPa6 HFa2 HFa6 HA HBw5 HBw9 HBi2 HBi6 HBi10 HBo2 HBo6 HBo10
 by_cases e1 : z1 = 0
 ·subst e1
  by_cases e2 : 296 < ll
  ·have q1 : (296 : Int) < (ll : Int) := by omega
   clear hw10
   go_wp2
   go_ret
   exact ⟨rfl, HW.out⟩
  ·have q1 : ¬ (296 : Int) < (ll : Int) := by omega
   obtain ⟨h63, hQ, hX⟩ := groups_trees HZ2.out (by have := HL.out; omega)
   have HQ : Hid _ := hQ
   have HX3 : Hid _ := hX
   have H63 := hide h63
   have hz2 := HZ6.out
   have hz3 := HZ10.out
   clear hQ hX h63
   by_cases e3 : z2 = 0
   ·subst e3
    by_cases e4 : z3 = 0
    ·subst e4
     have hR2 : Hid (patR (patM bigB 1 fo ([40, 63, 58] ++ l ++ [41])) = patR (patM bigB 1 fo l)) := by
      rcases HQ.out with h | h
      ·rw [← hz2] at h; cases h
      ·exact h.2
     have hR3 : Hid _ := (by
      rcases HX3.out with h | h
      ·rw [← hz3] at h; cases h
      ·exact h.2 : _ ∧ _ ∧ _ ∧ _)
     have e5 : gr2 = gr1 := by rw [HG6.out, HG2.out, hR2.out]
     have e6 : gr3 = gr1 + 1 := by rw [HG10.out, HG2.out, hR3.out.1]; omega
     have e7 : n3.kind = 11 := HC3.out.1.open.1.symm.trans hR3.out.2.1
     have e8 : n3.num = 1 := HC3.out.1.open.2.1.symm.trans hR3.out.2.2.1
     have hul : ul = (patR (patM bigB 1 fo l)).2.2.length := by obtain ⟨_, _, h⟩ := HC1.out.2.shape; injection h
     have hyl : yl = (patR (patM bigB 1 fo ([40] ++ l ++ [41]))).2.2.length := by obtain ⟨_, _, h⟩ := HC3.out.2.shape; injection h
     have e9 : yl = ul := by rw [hul, hyl]; exact hR3.out.2.2.2
     have hgr : gr1 ≤ 20 := by rw [HG2.out]; have := patR_groups (fo := fo) (l := l) 1; omega
     have hgr0 : 0 ≤ gr1 := by rw [HG2.out]; omega
     have hS := samePattern_eq n1 n2 (patR (patM bigB 1 fo l)).1 gr1 (.slice uo ul uc) (.slice xo xl xc) (patR (patM bigB 1 fo l)).2.2 w11 (patR_sm 1 fo l) HC1.out.1 (by rw [← hR2.out]; exact HC2.out.1) HC1.out.2 (by rw [← hR2.out]; exact HC2.out.2)
     have HS := hide hS
     simp only [pnV] at HS
     have HE7 := hide e7
     have HE8 := hide e8
     have HE6 := hide e6
     have HE9 := hide e9
     rw [e5] at b8
     rw [e5]
     clear hS hul hyl e5 e6 e7 e8 e9 HQ HX3 hR2 hR3 HC1 HC2 HC3 hz2 hz3
     have hafter : Hid (∀ w12, Below w11.heap.size w11 w12 → w12.heap[w2.heap.size]? = some (pnO n1 gr1 (.slice uo ul uc)) ∧ w12.heap[w10.heap.size]? = some (pnO n3 gr3 (.slice yo yl yc)) ∧ Below w.heap.size w w12) := fun w12 hb => ⟨by rw [hb.block _ (TR.lt_of_block HPb2.out)]; exact HPb2.out, by rw [hb.block _ (TR.lt_of_block HPa10.out)]; exact HPa10.out, HB11.out.trans (hb.mono HB11.out.size)⟩
     by_cases h00 : ll = 0
     ·have q2 : ¬ (0 : Int) < (ll : Int) := by omega
      clear h00
      go_wp2_with fail
      rw [← hw10]
      refine HS.out.mono ?_
      rintro e w12 ⟨rfl, hb12⟩
      obtain ⟨k1, k2, k3⟩ := hafter.out w12 hb12
      have HK3 := hide k3
      obtain ⟨s0, s1, s2, s3, s4, s5, s6, s7, s8, s9⟩ := pn_cells k1
      obtain ⟨r0, r1, r2, r3, r4, r5, r6, r7, r8, r9⟩ := pn_cells k2
      rw [HE7.out] at r0
      rw [HE8.out] at r3
      rw [HE6.out] at r8
      rw [HE9.out] at r9
      clear k1 k2 k3 hb12 hw10 HS
      go_wp2
      go_ret
      exact ⟨rfl, HK3.out⟩
     ·have q2 : (0 : Int) < (ll : Int) := by omega
      have hl0 : 0 < l.length := by have := HL.out; omega
      obtain ⟨x, hx, c0⟩ : ∃ x, ao = some x ∧ w11.cell? x = some (.int .i64 l[0]) := by
       obtain ⟨x, c, e, _, h3⟩ := HCl.out.some (by omega)
       cases e
       exact ⟨x, rfl, by have := h3 0 hl0; rwa [show x.add 0 = x from rfl] at this⟩
      have hne : l[0] ≠ 63 := fun e => H63.out (by rw [List.getElem?_eq_getElem hl0, e])
      obtain ⟨y, hy⟩ : ∃ y, y = l[0] := ⟨_, rfl⟩
      rw [← hy] at c0 hne
      have q3 : (y == 63) = false := by simpa using hne
      subst hx
      rw [hw10] at c0
      clear hy hne hl0
      go_wp2_with fail
      rw [← hw10]
      refine HS.out.mono ?_
      rintro e w12 ⟨rfl, hb12⟩
      obtain ⟨k1, k2, k3⟩ := hafter.out w12 hb12
      have HK3 := hide k3
      obtain ⟨s0, s1, s2, s3, s4, s5, s6, s7, s8, s9⟩ := pn_cells k1
      obtain ⟨r0, r1, r2, r3, r4, r5, r6, r7, r8, r9⟩ := pn_cells k2
      rw [HE7.out] at r0
      rw [HE8.out] at r3
      rw [HE6.out] at r8
      rw [HE9.out] at r9
      clear k1 k2 k3 hb12 hw10 HS
      go_wp2
      go_ret
      exact ⟨rfl, HK3.out⟩
    ·have e5 : z3 = 2 := by
      rcases HX3.out with h | h
      ·exact hz3.trans h
      ·exact absurd (hz3.trans h.1) e4
     subst e5
     clear hw10 HQ HX3 hz2 hz3
     go_wp2
     go_ret
     exact ⟨rfl, HW.out⟩
   ·have e5 : z2 = 2 := by
     rcases HQ.out with h | h
     ·exact hz2.trans h
     ·exact absurd (hz2.trans h.1) e3
    subst e5
    have e6 : z3 = 2 ∨ z3 = 0 := by
     rcases HX3.out with h | h
     ·exact .inl (hz3.trans h)
     ·exact .inr (hz3.trans h.1)
    clear hw10 HQ HX3 hz2 hz3
    rcases e6 with rfl | rfl
    ·go_wp2
     go_ret
     exact ⟨rfl, HW.out⟩
    ·go_wp2
     go_ret
     exact ⟨rfl, HW.out⟩
 ·have q1 : (z1 == 0) = false := by simpa using e1
  have q2 : (z1 != 0) = true := by simpa using e1
  clear hw10
  go_wp2
  go_ret
  exact ⟨rfl, HW.out⟩
end Go.Proofs.YtklbbbldalmnbaaGreatDoor.Pa
