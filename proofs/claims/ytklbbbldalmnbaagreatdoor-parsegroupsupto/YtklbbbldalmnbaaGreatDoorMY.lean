import Derived.Test.YtklbbbldalmnbaaGreatDoorMB
import Derived.Test.YtklbbbldalmnbaaGreatDoorMK
namespace Go.Proofs.YtklbbbldalmnbaaGreatDoor.Pa
open TR (Tr)
set_option linter.unusedVariables false
mutual
def szT : Tr → Nat
 | .mk _ _ _ _ _ _ _ kids => 1 + szL kids
def szL : List Tr → Nat
 | [] => 0
 | t :: ts => szT t + szL ts
end
theorem szT_kids (t : Tr) : szT t = 1 + szL t.kids := by cases t; rfl
inductive Sm : Tr → Prop
 | mk (k n a b c : Int) (o : Bool) (S : RL) (ks : List Tr) (hs : S.length ≤ 2000000) (h : ∀ t ∈ ks, Sm t) : Sm (.mk k n a b c o S ks)
theorem Sm.kids {t : Tr} (h : Sm t) : t.set.length ≤ 2000000 ∧ ∀ u ∈ t.kids, Sm u := by cases h with | mk k n a b c o S ks hs h => exact ⟨hs, h⟩
end Go.Proofs.YtklbbbldalmnbaaGreatDoor.Pa
namespace Go.Proofs.YtklbbbldalmnbaaGreatDoor.Pa
open TR (Tr)
open Br (BE PS)
set_option linter.unusedVariables false
variable {l : List Int} {d : Int} {s s' : St} {Q : Tr → Prop}
structure Clo (Q : Tr → Prop) : Prop where
 kind : ∀ k, 3 ≤ k → k ≤ 8 → Q (kindT k)
 again : ∀ n f, Q (.mk 18 n 0 0 0 f [] [])
 empty : Q emptyT
 set : ∀ f, Q (setT (listOf f))
 rep : ∀ t k, Q t → Q (repT t k)
 opn : ∀ k n t, k = 11 ∨ 13 ≤ k → k ≤ 17 → Q t → Q (.mk k n 0 0 0 false [] [t])
 row : ∀ ps, (∀ t ∈ ps, Q t) → Q (rowT ps)
 either : ∀ bs, bs ≠ [] → (∀ t ∈ bs, Q t) → Q (eitherT bs)
theorem single_q (C : Clo Q) {t : Tr} (h : Inv' l s) (hp : s.pos < l.length) (hr : singleM d l s = .ok (t, s')) : Q t := by
 obtain ⟨h1, htok⟩ := h.inv.on hp
 unfold singleM at hr
 split at hr
 ·rename_i h3
  cases hr
  have hn : 3 ≤ s.tok.num ∧ s.tok.num ≤ 8 := by unfold TokOk at htok; omega
  exact C.kind _ hn.1 hn.2
 ·split at hr
  ·unfold againM at hr
   simp only at hr
   generalize (if s.tok.num < 0 then s.tok.num + ((s.groups + 1 : Nat) : Int) else s.tok.num) = n at hr
   split at hr
   ·cases hr
   ·cases hr; exact C.again _ _
  ·split at hr
   ·cases hr; exact C.empty
   ·split at hr
    ·cases hr
    ·cases hr; exact C.set _
def RecQ (Q : Tr → Prop) (l : List Int) (dp : Nat) (rec : Rd) : Prop := ∀ fo s t s', Inv' l s → s.deep = dp → rec fo s = .ok (t, s') → Q t
theorem open_q (C : Clo Q) (hpe : TK.patE d l = 0) {rec : Rd} (hrt : RecQ Q l (s.deep + 1) rec) {t : Tr} (h : Inv' l s) (hp : s.pos < l.length) (hk : s.tok.kind = 7) (hr : openM d l rec s = .ok (t, s')) : Q t := by
 obtain ⟨h1, htok⟩ := h.inv.on hp
 unfold openM at hr
 split at hr
 ·cases hr
 ·rename_i h20
  split at hr
  ·cases hr
  ·rename_i s1 heq1
   have hs1 : InvA l s1 ∧ s1.deep = s.deep := by
    split at heq1
    ·obtain ⟨a, b, c, e, _⟩ := begin_inv h.toA heq1
     exact ⟨a, e⟩
    ·cases heq1; exact ⟨h.toA, rfl⟩
   split at hr
   ·cases hr
   ·rename_i s2 heq2
    obtain ⟨i2, p2, _, d2, _, _, a2⟩ := adv_inv hpe hs1.1 heq2
    split at hr
    ·cases hr
    ·rename_i t3 s3 heq3
     have hd20 : s.deep + 1 ≤ 20 := by have := h.inv.deep; omega
     have hg := hrt _ { s2 with deep := s2.deep + 1 } _ _ ⟨⟨i2.inv.pos, i2.inv.next, i2.inv.on, i2.inv.off, i2.inv.ags, i2.inv.nms, i2.inv.grp, by show s2.deep + 1 ≤ 20; omega⟩, i2.pn⟩ (by show s2.deep + 1 = _; omega) heq3
     split at hr
     ·cases hr
     ·split at hr
      ·cases hr
      ·split at hr
       ·cases hr; exact hg
       ·rename_i hn1
        cases hr
        have hn : (s.tok.num = 11 ∨ 13 ≤ s.tok.num) ∧ s.tok.num ≤ 17 := by unfold TokOk at htok; omega
        exact C.opn _ _ _ hn.1 hn.2 hg
theorem atom_q (C : Clo Q) (hpe : TK.patE d l = 0) {rec : Rd} (hrt : RecQ Q l (s.deep + 1) rec) {t : Tr} (h : Inv' l s) (hp : s.pos < l.length) (hr : atomM d l rec s = .ok (t, s')) : Q t := by
 unfold atomM at hr
 split at hr
 ·cases hr
 ·split at hr
  ·rename_i h7
   exact open_q C hpe hrt h hp h7 hr
  ·split at hr
   ·cases hr
   ·rename_i t1 s1 heq
    split at hr
    ·cases hr
    ·cases hr; exact single_q C h hp heq
theorem reps_q (C : Clo Q) {may : Bool} : ∀ (n ahead : Nat) (t : Tr) (s : St) (t' : Tr) (s' : St), Q t → repsM d l may n ahead t s = .ok (t', s') → Q t'
 | 0, ahead, t, s, t', s', hg, hr => by cases hr; exact hg
 | n + 1, ahead, t, s, t', s', hg, hr => by
  unfold repsM at hr
  split at hr
  ·split at hr
   ·cases hr
   ·split at hr
    ·cases hr
    ·split at hr
     ·cases hr
     ·exact reps_q C n (ahead + 1) _ _ t' s' (C.rep _ _ hg) hr
  ·cases hr; exact hg
theorem piece_q (C : Clo Q) (hpe : TK.patE d l = 0) {rec : Rd} (hrt : RecQ Q l (s.deep + 1) rec) {t : Tr} (h : Inv' l s) (hp : s.pos < l.length) (hr : pieceM d l rec s = .ok (t, s')) : Q t := by
 unfold pieceM at hr
 split at hr
 ·cases hr
 ·rename_i t1 s1 heq
  exact reps_q C _ _ _ _ _ _ (atom_q C hpe hrt h hp heq) hr
theorem pieces_q (C : Clo Q) (hpe : TK.patE d l = 0) {rec : Rd} {dp : Nat} (hrg : RecG l (dp + 1) rec) (hrt : RecQ Q l (dp + 1) rec) : ∀ (n : Nat) (ps : List Tr) (s : St) (ps' : List Tr) (s' : St), Inv' l s → s.deep = dp → (∀ t ∈ ps, Q t) → piecesM d l rec n ps s = .ok (ps', s') → ∀ t ∈ ps', Q t
 | 0, ps, s, ps', s', hi, hd, hg, hr => by cases hr; exact hg
 | n + 1, ps, s, ps', s', hi, hd, hg, hr => by
  unfold piecesM at hr
  split at hr
  ·cases hr; exact hg
  ·rename_i hend
   split at hr
   ·cases hr
   ·rename_i t s1 heq
    have hp : s.pos < l.length := by
     have h1 := hi.inv.pos
     have h2 : s.pos ≠ l.length := fun e => hend (by unfold endM; simp [e])
     omega
    obtain ⟨a, b⟩ := piece_inv hpe (s := s) (by rw [hd]; exact hrg) hi hp heq
    refine pieces_q C hpe hrg hrt n _ s1 ps' s' a.inv (a.deep.trans hd) (fun u hu => ?_) hr
    rcases List.mem_append.1 hu with h1 | h1
    ·exact hg u h1
    ·rw [List.mem_singleton] at h1
     subst h1
     exact piece_q C hpe (by rw [hd]; exact hrt) hi hp heq
theorem branch_q (C : Clo Q) (hpe : TK.patE d l = 0) {rec : Rd} (hrg : RecG l (s.deep + 1) rec) (hrt : RecQ Q l (s.deep + 1) rec) {t : Tr} (h : Inv' l s) (hr : branchM d l rec s = .ok (t, s')) : Q t := by
 unfold branchM at hr
 split at hr
 ·cases hr
 ·rename_i ps s1 heq
  cases hr
  exact C.row _ (pieces_q C hpe hrg hrt _ _ _ _ _ h rfl (fun t ht => by cases ht) heq)
theorem bars_q (C : Clo Q) (hpe : TK.patE d l = 0) {rec : Rd} {dp : Nat} (hrg : RecG l (dp + 1) rec) (hrt : RecQ Q l (dp + 1) rec) : ∀ (n : Nat) (bs : List Tr) (s : St) (bs' : List Tr) (s' : St), Inv' l s → s.deep = dp → (∀ t ∈ bs, Q t) → barsM d l rec n bs s = .ok (bs', s') → ∀ t ∈ bs', Q t
 | 0, bs, s, bs', s', hi, hd, hg, hr => by cases hr; exact hg
 | n + 1, bs, s, bs', s', hi, hd, hg, hr => by
  unfold barsM at hr
  split at hr
  ·split at hr
   ·cases hr
   ·rename_i s1 heq1
    obtain ⟨i2, p2, _, d2, _, _, a2⟩ := adv_inv hpe hi.toA heq1
    split at hr
    ·cases hr
    ·rename_i t s2 heq2
     have hd1 : s1.deep = dp := d2.trans hd
     have hgo := branch_inv hpe (s := s1) (by rw [hd1]; exact hrg) i2 heq2
     refine bars_q C hpe hrg hrt n _ s2 bs' s' hgo.inv (hgo.deep.trans hd1) (fun u hu => ?_) hr
     rcases List.mem_append.1 hu with h1 | h1
     ·exact hg u h1
     ·rw [List.mem_singleton] at h1
      subst h1
      exact branch_q C hpe (by rw [hd1]; exact hrg) (by rw [hd1]; exact hrt) i2 heq2
  ·cases hr; exact hg
theorem branchesG_q (C : Clo Q) (hpe : TK.patE d l = 0) {rec : Rd} {dp : Nat} (hrg : RecG l (dp + 1) rec) (hrt : RecQ Q l (dp + 1) rec) : RecQ Q l dp (branchesG d l rec) := by
 intro fo s t s' h hd hr
 unfold branchesG at hr
 split at hr
 ·cases hr
 ·rename_i t1 s1 heq1
  have hrg' : RecG l (({ s with folded := fo } : St).deep + 1) rec := by show RecG l (s.deep + 1) rec; rw [hd]; exact hrg
  have hrt' : RecQ Q l (({ s with folded := fo } : St).deep + 1) rec := by show RecQ Q l (s.deep + 1) rec; rw [hd]; exact hrt
  have h1 := branch_inv hpe (s := { s with folded := fo }) hrg' (inv_folded h fo) heq1
  have h2 := branch_q C hpe (s := { s with folded := fo }) hrg' hrt' (inv_folded h fo) heq1
  split at hr
  ·cases hr
  ·rename_i bs s2 heq2
   cases hr
   exact C.either _ (bars_ne _ _ _ _ _ (by simp) heq2) (bars_q C hpe hrg hrt _ _ _ _ _ h1.inv (h1.deep.trans hd) (fun t ht => by rw [List.mem_singleton] at ht; subst ht; exact h2) heq2)
theorem branchesF_q (C : Clo Q) (hpe : TK.patE d l = 0) : ∀ (n dp : Nat), RecQ Q l dp (branchesF d l n)
 | 0, dp => fun fo s t s' _ _ hr => by cases hr
 | n + 1, dp => branchesG_q C hpe (branchesF_inv hpe n (dp + 1)) (branchesF_q C hpe n (dp + 1))
theorem sm_leaf {k n a b c : Int} {o : Bool} : Sm (.mk k n a b c o [] []) := .mk _ _ _ _ _ _ _ _ (by simp) (fun t ht => by cases ht)
theorem listOf_len (f : PS) : (listOf f).length ≤ 2000000 := by
 unfold listOf
 split
 ·rename_i h
  have h1 := (Classical.choose_spec h).1
  have := canon_len h1 1114112 (by omega) (fun x hx => by have := h1.1 x hx; unfold okR at this; omega)
  omega
 ·simp
theorem sm_one {k n a b c : Int} {o : Bool} {t : Tr} (h : Sm t) : Sm (.mk k n a b c o [] [t]) := .mk _ _ _ _ _ _ _ _ (by simp) (fun u hu => by rw [List.mem_singleton] at hu; subst hu; exact h)
theorem sm_rowL {ps : List Tr} (h : ∀ t ∈ ps, Sm t) : ∀ t ∈ rowL ps, Sm t := by
 intro t ht
 unfold rowL at ht
 obtain ⟨u, hu, hc⟩ := List.mem_flatMap.1 ht
 split at hc
 ·cases hc
 ·split at hc
  ·exact (h u hu).kids.2 t hc
  ·rw [List.mem_singleton] at hc
   subst hc
   exact h t hu
theorem sm_clo : Clo Sm where
 kind k _ _ := sm_leaf
 again n f := sm_leaf
 empty := sm_leaf
 set f := .mk _ _ _ _ _ _ _ _ (listOf_len f) (fun t ht => by cases ht)
 rep t k h := sm_one h
 opn k n t _ _ h := sm_one h
 row ps h := by
  have hL := sm_rowL h
  unfold rowT
  split
  ·exact sm_leaf
  ·rename_i t hr
   exact hL t (by rw [hr]; simp)
  ·exact .mk _ _ _ _ _ _ _ _ (by simp) hL
 either bs hne h := by
  match bs, hne with
  | [t], _ => exact h t (by simp)
  | a :: b :: r, _ =>
   refine .mk _ _ _ _ _ _ _ _ (by simp) (fun t ht => ?_)
   obtain ⟨u, hu, hc⟩ := List.mem_flatMap.1 ht
   split at hc
   ·exact (h u hu).kids.2 t hc
   ·rw [List.mem_singleton] at hc
    subst hc
    exact h t hu
end Go.Proofs.YtklbbbldalmnbaaGreatDoor.Pa
namespace Go.Proofs.YtklbbbldalmnbaaGreatDoor.Pa
open TR (Tr)
open Br (BE PS)
set_option linter.unusedVariables false
variable {l : List Int} {s s' : St}
def NK (t : TK.Tok) : Prop := t.kind ≠ 7 ∧ t.kind ≠ 11
theorem nk_rep (d : Int) (l : List Int) (i : Nat) (a b : Int) : NK (TK.repT d l i a b).1 := by
 unfold TK.repT NK
 repeat' split
 all_goals exact ⟨by simp, by simp⟩
theorem nk_times {d : Int} {l : List Int} {i : Nat} {t : TK.Tok} {k : Nat} (h : TK.timesT d l i = .ok (t, k)) : NK t := by
 unfold TK.timesT at h
 simp only at h
 split at h
 ·split at h
  ·cases h; exact ⟨by decide, by decide⟩
  ·cases h
 ·split at h
  ·cases h
  ·split at h
   ·cases h
   ·injection h with h
    have h1 := congrArg Prod.fst h
    simp only at h1
    rw [← h1]
    exact nk_rep _ _ _ _ _
theorem nk_hex {l : List Int} {i : Nat} {t : TK.Tok} {k : Nat} (h : TK.hexT l i = .ok (t, k)) : NK t := by
 unfold TK.hexT at h
 simp only at h
 repeat' split at h
 all_goals first | (cases h; exact ⟨by simp [TK.pointT], by simp [TK.pointT]⟩) | cases h
theorem nk_uni {l : List Int} {i : Nat} {t : TK.Tok} {k : Nat} (h : TK.uniT l i = .ok (t, k)) : NK t := by
 unfold TK.uniT at h
 simp only at h
 split at h
 ·cases h
 ·cases h; exact ⟨by simp [TK.pointT], by simp [TK.pointT]⟩
theorem nk_agd (l : List Int) (i : Nat) (n : Int) : NK (TK.agdT l i n).1 := by
 unfold TK.agdT
 simp only
 split <;> exact ⟨by simp [TK.againT], by simp [TK.againT]⟩
theorem nk_agb {l : List Int} {i : Nat} {t : TK.Tok} {k : Nat} (h : TK.agbT l i = .ok (t, k)) : NK t := by
 unfold TK.agbT at h
 simp only at h
 generalize (if TK.says l (i + 1) [45] = true then i + 2 else i + 1) = j at h
 split at h
 ·cases h
 ·split at h
  ·split at h
   ·cases h
   ·split at h
    ·cases h
    ·cases h; exact ⟨by simp [TK.againT], by simp [TK.againT]⟩
  ·split at h
   ·cases h
   ·split at h
    ·cases h
    ·split at h
     ·cases h
     ·cases h; exact ⟨by simp, by simp⟩
theorem nk_ruby {l : List Int} {i : Nat} {p : Int} {t : TK.Tok} {k : Nat} (h : TK.rubyT l i p = .ok (t, k)) : NK t := by
 unfold TK.rubyT at h
 split at h
 ·cases h; exact ⟨by simp [TK.classT], by simp [TK.classT]⟩
 ·split at h
  ·cases h; exact ⟨by decide, by decide⟩
  ·split at h
   ·cases h; exact ⟨by decide, by decide⟩
   ·split at h
    ·cases h; exact ⟨by decide, by decide⟩
    ·split at h
     ·cases h; exact ⟨by decide, by decide⟩
     ·split at h
      ·exact nk_hex h
      ·split at h
       ·exact nk_uni h
       ·split at h
        ·exact nk_agb h
        ·split at h
         ·injection h with h
          have h1 := congrArg Prod.fst h
          simp only at h1
          rw [← h1]
          exact nk_agd _ _ _
         ·split at h
          ·cases h; exact ⟨by simp [TK.pointT], by simp [TK.pointT]⟩
          ·cases h
theorem nk_next {l : List Int} {i : Nat} {t : TK.Tok} {k : Nat} (hn : ∀ p ∈ l, p ≠ 40) (h : TK.nextT 1 l i = .ok (t, k)) : NK t := by
 unfold TK.nextT at h
 cases hg : l[i]? with
 | none => rw [hg] at h; cases h
 | some p =>
  rw [hg] at h
  have hp : p ≠ 40 := hn p (List.mem_of_getElem? hg)
  simp only at h
  unfold TK.tokT at h
  split at h
  ·unfold TK.escT at h
   split at h
   ·cases h
   ·rw [if_pos rfl] at h; exact nk_ruby h
  ·split at h
   ·cases h; exact ⟨by decide, by decide⟩
   ·split at h
    ·cases h; exact ⟨by decide, by decide⟩
    ·split at h
     ·cases h; exact ⟨by decide, by decide⟩
     ·split at h
      ·cases h; exact ⟨by decide, by decide⟩
      ·have hrep : ∀ a b, Except.ok (ε := Int) (TK.repT 1 l (i + 1) a b) = .ok (t, k) → NK t := by
        intro a b h
        injection h with h
        have h1 := congrArg Prod.fst h
        simp only at h1
        rw [← h1]
        exact nk_rep _ _ _ _ _
       split at h
       ·exact hrep _ _ h
       ·split at h
        ·exact hrep _ _ h
        ·split at h
         ·exact hrep _ _ h
         ·rw [if_neg (by decide)] at h
          unfold TK.partT at h
          rw [if_neg hp] at h
          split at h
          ·cases h; exact ⟨by decide, by decide⟩
          ·split at h
           ·cases h; exact ⟨by decide, by decide⟩
           ·split at h
            ·exact nk_times h
            ·cases h; exact ⟨by simp [TK.pointT], by simp [TK.pointT]⟩
structure Pl (s s' : St) : Prop where
 tok : NK s'.tok
 grp : s'.groups = s.groups
 nms : s'.names = s.names
 fo : s'.folded = s.folded
theorem adv_pl (hn : ∀ p ∈ l, p ≠ 40) (h : advM 1 l s = .ok s') : Pl s s' := by
 unfold advM at h
 split at h
 ·cases h; exact ⟨⟨by simp, by simp⟩, rfl, rfl, rfl⟩
 ·cases hq : TK.nextT 1 l s.next with
  | error z => rw [hq] at h; cases h
  | ok y =>
   rw [hq] at h
   obtain ⟨t, k⟩ := y
   cases h
   exact ⟨nk_next hn hq, rfl, rfl, rfl⟩
theorem Pl.trans {a b c : St} (h : Pl a b) (h' : Pl b c) : Pl a c := ⟨h'.tok, h'.grp.trans h.grp, h'.nms.trans h.nms, h'.fo.trans h.fo⟩
inductive Dp : Nat → Tr → Prop
 | mk (f : Nat) (k n a b c : Int) (o : Bool) (S : RL) (ks : List Tr) (h : ∀ t ∈ ks, Dp f t) : Dp (f + 1) (.mk k n a b c o S ks)
theorem Dp.kids {f : Nat} {t : Tr} (h : Dp (f + 1) t) : ∀ u ∈ t.kids, Dp f u := by cases h with | mk _ k n a b c o S ks h => exact h
theorem Dp.of {f : Nat} {t : Tr} (h : ∀ u ∈ t.kids, Dp f u) : Dp (f + 1) t := by cases t with | mk k n a b c o S ks => exact .mk f _ _ _ _ _ _ _ _ h
theorem Dp.mono : ∀ {f : Nat} {t : Tr}, Dp f t → Dp (f + 1) t := by
 intro f t h
 induction h with
 | mk f k n a b c o S ks h ih => exact .mk _ _ _ _ _ _ _ _ _ ih
theorem Dp.leaf {f : Nat} {t : Tr} (h : t.kids = []) : Dp (f + 1) t := Dp.of (by rw [h]; intro u hu; cases hu)
theorem single_pl (hk : NK s.tok) {t : Tr} (h : singleM 1 l s = .ok (t, s')) : s'.groups = s.groups ∧ s'.names = s.names ∧ s'.folded = s.folded ∧ t.kids = [] := by
 unfold singleM at h
 split at h
 ·cases h; exact ⟨rfl, rfl, rfl, rfl⟩
 ·split at h
  ·unfold againM at h
   simp only at h
   generalize (if s.tok.num < 0 then s.tok.num + ((s.groups + 1 : Nat) : Int) else s.tok.num) = n at h
   split at h
   ·cases h
   ·cases h; exact ⟨rfl, rfl, rfl, rfl⟩
  ·split at h
   ·rename_i h11
    exact absurd h11 hk.2
   ·split at h
    ·cases h
    ·cases h; exact ⟨rfl, rfl, rfl, rfl⟩
theorem atom_pl (hn : ∀ p ∈ l, p ≠ 40) {rec : Rd} (hk : NK s.tok) {t : Tr} (h : atomM 1 l rec s = .ok (t, s')) : Pl s s' ∧ t.kids = [] := by
 unfold atomM at h
 split at h
 ·cases h
 ·split at h
  ·rename_i h7
   exact absurd h7 hk.1
  ·split at h
   ·cases h
   ·rename_i t1 s1 heq
    obtain ⟨a, b, c, e⟩ := single_pl hk heq
    split at h
    ·cases h
    ·rename_i s2 heq2
     cases h
     have := adv_pl hn heq2
     exact ⟨⟨this.tok, this.grp.trans a, this.nms.trans b, this.fo.trans c⟩, e⟩
theorem szT_leaf {t : Tr} (h : t.kids = []) : szT t = 1 := by rw [szT_kids, h]; rfl
theorem szT_rep (t : Tr) (k : TK.Tok) : szT (repT t k) = szT t + 1 := by simp [repT, szT, szL]; omega
theorem reps_pl (hn : ∀ p ∈ l, p ≠ 40) (hpe : TK.patE 1 l = 0) {may : Bool} {s0 : St} : ∀ (n ahead : Nat) (t : Tr) (s : St) (t' : Tr) (s' : St), Inv' l s → Pl s0 s → s0.pos ≤ s.pos → szT t ≤ s.pos - s0.pos → Dp (ahead + 1) t → ahead ≤ 4 → repsM 1 l may n ahead t s = .ok (t', s') → Pl s0 s' ∧ szT t' ≤ s'.pos - s0.pos ∧ Dp 5 t'
 | 0, ahead, t, s, t', s', hi, hg, hp, hz, hd, ha, hr => by
  cases hr
  refine ⟨hg, hz, ?_⟩
  have h4 : ∀ k, k ≤ 4 → ∀ f, f + k = 5 → Dp f t → Dp 5 t := by
   intro k
   induction k with
   | zero => intro _ f hf h; exact (show f = 5 by omega) ▸ h
   | succ k ih => intro hk f hf h; exact ih (by omega) (f + 1) (by omega) h.mono
  exact h4 (4 - ahead) (by omega) (ahead + 1) (by omega) hd
 | n + 1, ahead, t, s, t', s', hi, hg, hp, hz, hd, ha, hr => by
  unfold repsM at hr
  split at hr
  ·rename_i h6
   have hlt : s.pos < l.length := by
    have h1 := hi.inv.pos
    have h2 : s.pos ≠ l.length := fun e => by have := hi.inv.off e; rw [this] at h6; exact absurd h6 (by decide)
    omega
   have hon := (hi.inv.on hlt).1
   split at hr
   ·cases hr
   ·split at hr
    ·cases hr
    ·rename_i h3
     split at hr
     ·cases hr
     ·rename_i s1 heq
      obtain ⟨i1, p1, _⟩ := adv_inv hpe hi.toA heq
      refine reps_pl hn hpe n (ahead + 1) _ s1 t' s' i1 (hg.trans (adv_pl hn heq)) (by omega) ?_ (Dp.of ?_) (by omega) hr
      ·rw [szT_rep]; omega
      ·intro u hu
       simp only [repT, TR.Tr.kids, List.mem_singleton] at hu
       subst hu
       exact hd
  ·cases hr
   exact reps_pl hn hpe (may := may) 0 ahead t s t s hi hg hp hz hd ha rfl
theorem piece_pl (hn : ∀ p ∈ l, p ≠ 40) (hpe : TK.patE 1 l = 0) {rec : Rd} (hrg : RecG l (s.deep + 1) rec) (hk : NK s.tok) {t : Tr} (h : Inv' l s) (hp : s.pos < l.length) (hr : pieceM 1 l rec s = .ok (t, s')) : Pl s s' ∧ szT t ≤ s'.pos - s.pos ∧ Dp 5 t := by
 unfold pieceM at hr
 split at hr
 ·cases hr
 ·rename_i t1 s1 heq
  obtain ⟨g, hlt⟩ := atom_inv hpe hrg h hp heq
  obtain ⟨a, b⟩ := atom_pl hn hk heq
  exact reps_pl hn hpe _ _ _ _ _ _ g.inv a (by omega) (by rw [szT_leaf b]; omega) (Dp.leaf b) (by omega) hr
theorem szL_app : ∀ a b : List Tr, szL (a ++ b) = szL a + szL b
 | [], b => by simp [szL]
 | t :: ts, b => by rw [List.cons_append, szL, szL, szL_app ts b]; omega
theorem szL_row (ps : List Tr) : szL (rowL ps) ≤ szL ps := by
 induction ps with
 | nil => simp [rowL, szL]
 | cons t ts ih =>
  have : rowL (t :: ts) = (if t.kind = 1 then [] else if t.kind = 9 then t.kids else [t]) ++ rowL ts := by simp [rowL]
  rw [this, szL_app, szL]
  have h2 : szL (if t.kind = 1 then [] else if t.kind = 9 then t.kids else [t]) ≤ szT t := by
   split
   ·simp [szL]
   ·split
    ·rw [szT_kids]; omega
    ·simp [szL]
  omega
theorem szT_row (ps : List Tr) : szT (rowT ps) ≤ szL ps + 1 := by
 have h := szL_row ps
 unfold rowT
 split
 ·simp [emptyT, szT, szL]
 ·rename_i t hr
  rw [hr] at h
  simp [szL] at h
  omega
 ·rename_i ks _ _
  rw [szT_kids]
  simp only [TR.Tr.kids]
  omega
theorem dp_row {ps : List Tr} {f : Nat} (h : ∀ t ∈ ps, Dp (f + 1) t) : Dp (f + 2) (rowT ps) := by
 have hL : ∀ t ∈ rowL ps, Dp (f + 1) t := by
  intro t ht
  unfold rowL at ht
  obtain ⟨u, hu, hc⟩ := List.mem_flatMap.1 ht
  split at hc
  ·cases hc
  ·split at hc
   ·exact ((h u hu).kids t hc).mono
   ·rw [List.mem_singleton] at hc
    subst hc
    exact h t hu
 unfold rowT
 split
 ·exact Dp.leaf rfl
 ·rename_i t hr
  exact (hL t (by rw [hr]; simp)).mono
 ·exact Dp.of hL
theorem pieces_pl (hn : ∀ p ∈ l, p ≠ 40) (hpe : TK.patE 1 l = 0) {rec : Rd} {s0 : St} (hrg : RecG l (s0.deep + 1) rec) : ∀ (n : Nat) (ps : List Tr) (s : St) (ps' : List Tr) (s' : St), Inv' l s → s.deep = s0.deep → Pl s0 s → s0.pos ≤ s.pos → szL ps ≤ s.pos - s0.pos → (∀ t ∈ ps, Dp 5 t) → piecesM 1 l rec n ps s = .ok (ps', s') → Pl s0 s' ∧ szL ps' ≤ s'.pos - s0.pos ∧ ∀ t ∈ ps', Dp 5 t
 | 0, ps, s, ps', s', hi, hd, hg, hp, hz, hq, hr => by cases hr; exact ⟨hg, hz, hq⟩
 | n + 1, ps, s, ps', s', hi, hd, hg, hp, hz, hq, hr => by
  unfold piecesM at hr
  split at hr
  ·cases hr; exact ⟨hg, hz, hq⟩
  ·rename_i hend
   have hlt : s.pos < l.length := by
    have h1 := hi.inv.pos
    have h2 : s.pos ≠ l.length := fun e => hend (by unfold endM; simp [e])
    omega
   split at hr
   ·cases hr
   ·rename_i t s1 heq
    have hrg' : RecG l (s.deep + 1) rec := by rw [hd]; exact hrg
    obtain ⟨g, glt⟩ := piece_inv hpe hrg' hi hlt heq
    obtain ⟨a, b, c⟩ := piece_pl hn hpe hrg' hg.tok hi hlt heq
    refine pieces_pl hn hpe hrg n _ s1 ps' s' g.inv (g.deep.trans hd) (hg.trans a) (by omega) ?_ ?_ hr
    ·rw [szL_app]; simp [szL]; omega
    ·intro u hu
     rcases List.mem_append.1 hu with h1 | h1
     ·exact hq u h1
     ·rw [List.mem_singleton] at h1; subst h1; exact c
theorem branch_pl (hn : ∀ p ∈ l, p ≠ 40) (hpe : TK.patE 1 l = 0) {rec : Rd} (hrg : RecG l (s.deep + 1) rec) (hk : NK s.tok) {t : Tr} (h : Inv' l s) (hr : branchM 1 l rec s = .ok (t, s')) : Pl s s' ∧ szT t ≤ s'.pos - s.pos + 1 ∧ Dp 6 t := by
 unfold branchM at hr
 split at hr
 ·cases hr
 ·rename_i ps s1 heq
  cases hr
  obtain ⟨a, b, c⟩ := pieces_pl hn hpe hrg _ _ _ _ _ h rfl ⟨hk, rfl, rfl, rfl⟩ (Nat.le_refl _) (by simp [szL]) (fun t ht => by cases ht) heq
  have := szT_row ps
  exact ⟨a, by omega, dp_row c⟩
theorem bars_pl (hn : ∀ p ∈ l, p ≠ 40) (hpe : TK.patE 1 l = 0) {rec : Rd} {s0 : St} (hrg : RecG l (s0.deep + 1) rec) : ∀ (n : Nat) (bs : List Tr) (s : St) (bs' : List Tr) (s' : St), Inv' l s → s.deep = s0.deep → Pl s0 s → s0.pos ≤ s.pos → szL bs ≤ s.pos - s0.pos + 1 → (∀ t ∈ bs, Dp 6 t) → barsM 1 l rec n bs s = .ok (bs', s') → Pl s0 s' ∧ szL bs' ≤ s'.pos - s0.pos + 1 ∧ ∀ t ∈ bs', Dp 6 t
 | 0, bs, s, bs', s', hi, hd, hg, hp, hz, hq, hr => by cases hr; exact ⟨hg, hz, hq⟩
 | n + 1, bs, s, bs', s', hi, hd, hg, hp, hz, hq, hr => by
  unfold barsM at hr
  split at hr
  ·rename_i h9
   have hlt : s.pos < l.length := by
    have h1 := hi.inv.pos
    have h2 : s.pos ≠ l.length := fun e => by have := hi.inv.off e; rw [this] at h9; exact absurd h9 (by decide)
    omega
   have hon := (hi.inv.on hlt).1
   split at hr
   ·cases hr
   ·rename_i s1 heq1
    obtain ⟨i2, p2, _, d2, _, _, a2⟩ := adv_inv hpe hi.toA heq1
    have hpl := adv_pl hn heq1
    split at hr
    ·cases hr
    ·rename_i t s2 heq2
     have hd1 : s1.deep = s0.deep := d2.trans hd
     have hrg' : RecG l (s1.deep + 1) rec := by rw [hd1]; exact hrg
     have hgo := branch_inv hpe hrg' i2 heq2
     have hgp := hgo.pos
     obtain ⟨a, b, c⟩ := branch_pl hn hpe hrg' hpl.tok i2 heq2
     refine bars_pl hn hpe hrg n _ s2 bs' s' hgo.inv (hgo.deep.trans hd1) ((hg.trans hpl).trans a) (by omega) ?_ ?_ hr
     ·rw [szL_app]; simp [szL]; omega
     ·intro u hu
      rcases List.mem_append.1 hu with h1 | h1
      ·exact hq u h1
      ·rw [List.mem_singleton] at h1; subst h1; exact c
  ·cases hr; exact ⟨hg, hz, hq⟩
def flatE (bs : List Tr) : List Tr := bs.flatMap fun t => if t.kind = 10 then t.kids else [t]
theorem szL_flatE (bs : List Tr) : szL (flatE bs) ≤ szL bs := by
 induction bs with
 | nil => simp [flatE, szL]
 | cons t ts ih =>
  have : flatE (t :: ts) = (if t.kind = 10 then t.kids else [t]) ++ flatE ts := by simp [flatE]
  rw [this, szL_app, szL]
  have h2 : szL (if t.kind = 10 then t.kids else [t]) ≤ szT t := by
   split
   ·rw [szT_kids]; omega
   ·simp [szL]
  omega
theorem flatE_app (a b : List Tr) : flatE (a ++ b) = flatE a ++ flatE b := by simp [flatE]
theorem either_kids (bs : List Tr) (hne : bs ≠ []) : flatE [eitherT bs] = flatE bs := by
 match bs, hne with
 | [t], _ => rfl
 | a :: b :: r, _ => simp [flatE, eitherT, TR.Tr.kind, TR.Tr.kids]
theorem either_app (a b : List Tr) (ha : a ≠ []) (hb : b ≠ []) : eitherT (a ++ b) = .mk 10 0 0 0 0 false [] (flatE [eitherT a] ++ flatE [eitherT b]) := by
 rw [either_kids a ha, either_kids b hb, ← flatE_app]
 match a, b, ha, hb with
 | [x], y :: ys, _, _ => rfl
 | x :: x' :: xs, y :: ys, _, _ => rfl
theorem dp_flatE {bs : List Tr} {f : Nat} (h : ∀ t ∈ bs, Dp (f + 1) t) : ∀ t ∈ flatE bs, Dp (f + 1) t := by
 intro t ht
 unfold flatE at ht
 obtain ⟨u, hu, hc⟩ := List.mem_flatMap.1 ht
 split at hc
 ·exact ((h u hu).kids t hc).mono
 ·rw [List.mem_singleton] at hc
  subst hc
  exact h t hu
theorem cntL_few {f : Nat} (hs : ∀ t c, c + szT t ≤ 1000 → Dp f t → TR.cntT f t c = c + szT t) : ∀ (ts : List Tr) (c : Nat), c + szL ts ≤ 1000 → (∀ t ∈ ts, Dp f t) → TR.cntL (TR.cntT f) ts c = c + szL ts
 | [], c, hc, _ => by simp [TR.cntL, szL]
 | t :: ts, c, hc, hd => by
  rw [szL] at hc ⊢
  unfold TR.cntL
  rw [if_pos (by omega), hs t c (by omega) (hd t (by simp)), cntL_few hs ts _ (by omega) (fun u hu => hd u (by simp [hu]))]
  omega
theorem cntT_few : ∀ (f : Nat) (t : Tr) (c : Nat), c + szT t ≤ 1000 → Dp f t → TR.cntT f t c = c + szT t := by
 intro f
 induction f with
 | zero => intro t c hc hd; cases hd
 | succ f ih =>
  intro t c hc hd
  unfold TR.cntT
  rw [szT_kids] at hc ⊢
  rw [cntL_few ih _ _ (by omega) hd.kids]
  omega
theorem Dp.up {f : Nat} {t : Tr} (h : Dp f t) : ∀ k, Dp (f + k) t
 | 0 => h
 | k + 1 => (h.up k).mono
theorem cntA_few {t : Tr} (hz : szT t ≤ 1000) (hd : Dp 8 t) : TR.cntA t < 1001 := by
 unfold TR.cntA
 rw [cntT_few 201 t 0 (by omega) (hd.up 193)]
 omega
end Go.Proofs.YtklbbbldalmnbaaGreatDoor.Pa
