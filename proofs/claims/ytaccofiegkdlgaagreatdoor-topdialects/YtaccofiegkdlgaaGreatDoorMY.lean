import Derived.Test.YtaccofiegkdlgaaGreatDoorMB
import Derived.Test.YtaccofiegkdlgaaGreatDoorMK
namespace Go.Proofs.YtaccofiegkdlgaaGreatDoor.Pa
open TR (Tr)
set_option linter.unusedVariables false
mutual
def szT : Tr → Nat
 | .mk _ _ _ _ _ _ _ kids => 1 + szL kids
def szL : List Tr → Nat
 | [] => 0
 | t :: ts => szT t + szL ts
end
theorem szT_kids (t : Tr) : szT t = 1 + szL t.kids := by cases t; rfl
inductive Sm : Tr → Prop
 | mk (k n a b c : Int) (o : Bool) (S : RL) (ks : List Tr) (hs : S.length ≤ 2000000) (h : ∀ t ∈ ks, Sm t) : Sm (.mk k n a b c o S ks)
theorem Sm.kids {t : Tr} (h : Sm t) : t.set.length ≤ 2000000 ∧ ∀ u ∈ t.kids, Sm u := by cases h with | mk k n a b c o S ks hs h => exact ⟨hs, h⟩
end Go.Proofs.YtaccofiegkdlgaaGreatDoor.Pa
namespace Go.Proofs.YtaccofiegkdlgaaGreatDoor.Pa
open TR (Tr)
open Br (BE PS)
set_option linter.unusedVariables false
variable {l : List Int} {d : Int} {s s' : St} {Q : Tr → Prop}
structure Clo (Q : Tr → Prop) : Prop where
 kind : ∀ k, 3 ≤ k → k ≤ 8 → Q (kindT k)
 again : ∀ n f, Q (.mk 18 n 0 0 0 f [] [])
 empty : Q emptyT
 set : ∀ f, Q (setT (listOf f))
 rep : ∀ t k, Q t → Q (repT t k)
 opn : ∀ k n t, k = 11 ∨ 13 ≤ k → k ≤ 17 → Q t → Q (.mk k n 0 0 0 false [] [t])
 row : ∀ ps, (∀ t ∈ ps, Q t) → Q (rowT ps)
 either : ∀ bs, bs ≠ [] → (∀ t ∈ bs, Q t) → Q (eitherT bs)
theorem single_q (C : Clo Q) {t : Tr} (h : Inv' l s) (hp : s.pos < l.length) (hr : singleM d l s = .ok (t, s')) : Q t := by
 obtain ⟨h1, htok⟩ := h.inv.on hp
 unfold singleM at hr
 split at hr
 ·rename_i h3
  cases hr
  have hn : 3 ≤ s.tok.num ∧ s.tok.num ≤ 8 := by unfold TokOk at htok; omega
  exact C.kind _ hn.1 hn.2
 ·split at hr
  ·unfold againM at hr
   simp only at hr
   generalize (if s.tok.num < 0 then s.tok.num + ((s.groups + 1 : Nat) : Int) else s.tok.num) = n at hr
   split at hr
   ·cases hr
   ·cases hr; exact C.again _ _
  ·split at hr
   ·cases hr; exact C.empty
   ·split at hr
    ·cases hr
    ·cases hr; exact C.set _
def RecQ (Q : Tr → Prop) (l : List Int) (dp : Nat) (rec : Rd) : Prop := ∀ fo s t s', Inv' l s → s.deep = dp → rec fo s = .ok (t, s') → Q t
theorem open_q (C : Clo Q) (hpe : TK.patE d l = 0) {rec : Rd} (hrt : RecQ Q l (s.deep + 1) rec) {t : Tr} (h : Inv' l s) (hp : s.pos < l.length) (hk : s.tok.kind = 7) (hr : openM d l rec s = .ok (t, s')) : Q t := by
 obtain ⟨h1, htok⟩ := h.inv.on hp
 unfold openM at hr
 split at hr
 ·cases hr
 ·rename_i h20
  split at hr
  ·cases hr
  ·rename_i s1 heq1
   have hs1 : InvA l s1 ∧ s1.deep = s.deep := by
    split at heq1
    ·obtain ⟨a, b, c, e, _⟩ := begin_inv h.toA heq1
     exact ⟨a, e⟩
    ·cases heq1; exact ⟨h.toA, rfl⟩
   split at hr
   ·cases hr
   ·rename_i s2 heq2
    obtain ⟨i2, p2, _, d2, _, _, a2⟩ := adv_inv hpe hs1.1 heq2
    split at hr
    ·cases hr
    ·rename_i t3 s3 heq3
     have hd20 : s.deep + 1 ≤ 20 := by have := h.inv.deep; omega
     have hg := hrt _ { s2 with deep := s2.deep + 1 } _ _ ⟨⟨i2.inv.pos, i2.inv.next, i2.inv.on, i2.inv.off, i2.inv.ags, i2.inv.nms, i2.inv.grp, by show s2.deep + 1 ≤ 20; omega⟩, i2.pn⟩ (by show s2.deep + 1 = _; omega) heq3
     split at hr
     ·cases hr
     ·split at hr
      ·cases hr
      ·split at hr
       ·cases hr; exact hg
       ·rename_i hn1
        cases hr
        have hn : (s.tok.num = 11 ∨ 13 ≤ s.tok.num) ∧ s.tok.num ≤ 17 := by unfold TokOk at htok; omega
        exact C.opn _ _ _ hn.1 hn.2 hg
theorem atom_q (C : Clo Q) (hpe : TK.patE d l = 0) {rec : Rd} (hrt : RecQ Q l (s.deep + 1) rec) {t : Tr} (h : Inv' l s) (hp : s.pos < l.length) (hr : atomM d l rec s = .ok (t, s')) : Q t := by
 unfold atomM at hr
 split at hr
 ·cases hr
 ·split at hr
  ·rename_i h7
   exact open_q C hpe hrt h hp h7 hr
  ·split at hr
   ·cases hr
   ·rename_i t1 s1 heq
    split at hr
    ·cases hr
    ·cases hr; exact single_q C h hp heq
theorem reps_q (C : Clo Q) {may : Bool} : ∀ (n ahead : Nat) (t : Tr) (s : St) (t' : Tr) (s' : St), Q t → repsM d l may n ahead t s = .ok (t', s') → Q t'
 | 0, ahead, t, s, t', s', hg, hr => by cases hr; exact hg
 | n + 1, ahead, t, s, t', s', hg, hr => by
  unfold repsM at hr
  split at hr
  ·split at hr
   ·cases hr
   ·split at hr
    ·cases hr
    ·split at hr
     ·cases hr
     ·exact reps_q C n (ahead + 1) _ _ t' s' (C.rep _ _ hg) hr
  ·cases hr; exact hg
theorem piece_q (C : Clo Q) (hpe : TK.patE d l = 0) {rec : Rd} (hrt : RecQ Q l (s.deep + 1) rec) {t : Tr} (h : Inv' l s) (hp : s.pos < l.length) (hr : pieceM d l rec s = .ok (t, s')) : Q t := by
 unfold pieceM at hr
 split at hr
 ·cases hr
 ·rename_i t1 s1 heq
  exact reps_q C _ _ _ _ _ _ (atom_q C hpe hrt h hp heq) hr
theorem pieces_q (C : Clo Q) (hpe : TK.patE d l = 0) {rec : Rd} {dp : Nat} (hrg : RecG l (dp + 1) rec) (hrt : RecQ Q l (dp + 1) rec) : ∀ (n : Nat) (ps : List Tr) (s : St) (ps' : List Tr) (s' : St), Inv' l s → s.deep = dp → (∀ t ∈ ps, Q t) → piecesM d l rec n ps s = .ok (ps', s') → ∀ t ∈ ps', Q t
 | 0, ps, s, ps', s', hi, hd, hg, hr => by cases hr; exact hg
 | n + 1, ps, s, ps', s', hi, hd, hg, hr => by
  unfold piecesM at hr
  split at hr
  ·cases hr; exact hg
  ·rename_i hend
   split at hr
   ·cases hr
   ·rename_i t s1 heq
    have hp : s.pos < l.length := by
     have h1 := hi.inv.pos
     have h2 : s.pos ≠ l.length := fun e => hend (by unfold endM; simp [e])
     omega
    obtain ⟨a, b⟩ := piece_inv hpe (s := s) (by rw [hd]; exact hrg) hi hp heq
    refine pieces_q C hpe hrg hrt n _ s1 ps' s' a.inv (a.deep.trans hd) (fun u hu => ?_) hr
    rcases List.mem_append.1 hu with h1 | h1
    ·exact hg u h1
    ·rw [List.mem_singleton] at h1
     subst h1
     exact piece_q C hpe (by rw [hd]; exact hrt) hi hp heq
theorem branch_q (C : Clo Q) (hpe : TK.patE d l = 0) {rec : Rd} (hrg : RecG l (s.deep + 1) rec) (hrt : RecQ Q l (s.deep + 1) rec) {t : Tr} (h : Inv' l s) (hr : branchM d l rec s = .ok (t, s')) : Q t := by
 unfold branchM at hr
 split at hr
 ·cases hr
 ·rename_i ps s1 heq
  cases hr
  exact C.row _ (pieces_q C hpe hrg hrt _ _ _ _ _ h rfl (fun t ht => by cases ht) heq)
theorem bars_q (C : Clo Q) (hpe : TK.patE d l = 0) {rec : Rd} {dp : Nat} (hrg : RecG l (dp + 1) rec) (hrt : RecQ Q l (dp + 1) rec) : ∀ (n : Nat) (bs : List Tr) (s : St) (bs' : List Tr) (s' : St), Inv' l s → s.deep = dp → (∀ t ∈ bs, Q t) → barsM d l rec n bs s = .ok (bs', s') → ∀ t ∈ bs', Q t
 | 0, bs, s, bs', s', hi, hd, hg, hr => by cases hr; exact hg
 | n + 1, bs, s, bs', s', hi, hd, hg, hr => by
  unfold barsM at hr
  split at hr
  ·split at hr
   ·cases hr
   ·rename_i s1 heq1
    obtain ⟨i2, p2, _, d2, _, _, a2⟩ := adv_inv hpe hi.toA heq1
    split at hr
    ·cases hr
    ·rename_i t s2 heq2
     have hd1 : s1.deep = dp := d2.trans hd
     have hgo := branch_inv hpe (s := s1) (by rw [hd1]; exact hrg) i2 heq2
     refine bars_q C hpe hrg hrt n _ s2 bs' s' hgo.inv (hgo.deep.trans hd1) (fun u hu => ?_) hr
     rcases List.mem_append.1 hu with h1 | h1
     ·exact hg u h1
     ·rw [List.mem_singleton] at h1
      subst h1
      exact branch_q C hpe (by rw [hd1]; exact hrg) (by rw [hd1]; exact hrt) i2 heq2
  ·cases hr; exact hg
theorem branchesG_q (C : Clo Q) (hpe : TK.patE d l = 0) {rec : Rd} {dp : Nat} (hrg : RecG l (dp + 1) rec) (hrt : RecQ Q l (dp + 1) rec) : RecQ Q l dp (branchesG d l rec) := by
 intro fo s t s' h hd hr
 unfold branchesG at hr
 split at hr
 ·cases hr
 ·rename_i t1 s1 heq1
  have hrg' : RecG l (({ s with folded := fo } : St).deep + 1) rec := by show RecG l (s.deep + 1) rec; rw [hd]; exact hrg
  have hrt' : RecQ Q l (({ s with folded := fo } : St).deep + 1) rec := by show RecQ Q l (s.deep + 1) rec; rw [hd]; exact hrt
  have h1 := branch_inv hpe (s := { s with folded := fo }) hrg' (inv_folded h fo) heq1
  have h2 := branch_q C hpe (s := { s with folded := fo }) hrg' hrt' (inv_folded h fo) heq1
  split at hr
  ·cases hr
  ·rename_i bs s2 heq2
   cases hr
   exact C.either _ (bars_ne _ _ _ _ _ (by simp) heq2) (bars_q C hpe hrg hrt _ _ _ _ _ h1.inv (h1.deep.trans hd) (fun t ht => by rw [List.mem_singleton] at ht; subst ht; exact h2) heq2)
theorem branchesF_q (C : Clo Q) (hpe : TK.patE d l = 0) : ∀ (n dp : Nat), RecQ Q l dp (branchesF d l n)
 | 0, dp => fun fo s t s' _ _ hr => by cases hr
 | n + 1, dp => branchesG_q C hpe (branchesF_inv hpe n (dp + 1)) (branchesF_q C hpe n (dp + 1))
theorem sm_leaf {k n a b c : Int} {o : Bool} : Sm (.mk k n a b c o [] []) := .mk _ _ _ _ _ _ _ _ (by simp) (fun t ht => by cases ht)
theorem listOf_len (f : PS) : (listOf f).length ≤ 2000000 := by
 unfold listOf
 split
 ·rename_i h
  have h1 := (Classical.choose_spec h).1
  have := canon_len h1 1114112 (by omega) (fun x hx => by have := h1.1 x hx; unfold okR at this; omega)
  omega
 ·simp
theorem sm_one {k n a b c : Int} {o : Bool} {t : Tr} (h : Sm t) : Sm (.mk k n a b c o [] [t]) := .mk _ _ _ _ _ _ _ _ (by simp) (fun u hu => by rw [List.mem_singleton] at hu; subst hu; exact h)
theorem sm_rowL {ps : List Tr} (h : ∀ t ∈ ps, Sm t) : ∀ t ∈ rowL ps, Sm t := by
 intro t ht
 unfold rowL at ht
 obtain ⟨u, hu, hc⟩ := List.mem_flatMap.1 ht
 split at hc
 ·cases hc
 ·split at hc
  ·exact (h u hu).kids.2 t hc
  ·rw [List.mem_singleton] at hc
   subst hc
   exact h t hu
theorem sm_clo : Clo Sm where
 kind k _ _ := sm_leaf
 again n f := sm_leaf
 empty := sm_leaf
 set f := .mk _ _ _ _ _ _ _ _ (listOf_len f) (fun t ht => by cases ht)
 rep t k h := sm_one h
 opn k n t _ _ h := sm_one h
 row ps h := by
  have hL := sm_rowL h
  unfold rowT
  split
  ·exact sm_leaf
  ·rename_i t hr
   exact hL t (by rw [hr]; simp)
  ·exact .mk _ _ _ _ _ _ _ _ (by simp) hL
 either bs hne h := by
  match bs, hne with
  | [t], _ => exact h t (by simp)
  | a :: b :: r, _ =>
   refine .mk _ _ _ _ _ _ _ _ (by simp) (fun t ht => ?_)
   obtain ⟨u, hu, hc⟩ := List.mem_flatMap.1 ht
   split at hc
   ·exact (h u hu).kids.2 t hc
   ·rw [List.mem_singleton] at hc
    subst hc
    exact h t hu
end Go.Proofs.YtaccofiegkdlgaaGreatDoor.Pa
