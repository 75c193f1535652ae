import Derived.Test.YtaccofiegkdlgaaGreatDoorMD
import Derived.Test.YtaccofiegkdlgaaGreatDoorMC
namespace Go.Proofs.YtaccofiegkdlgaaGreatDoor.Br
set_option linter.unusedVariables false
variable {P : Par} {l : List Int} {i : Nat}
def NxP (P : Par) : Prop := ∀ l i x k, P.nx l i = .ok (x, k) → i < k ∧ k ≤ l.length
def RecP (rec : List Int → Nat → Nat → Except BE (PS × Nat)) : Prop := ∀ l i deep f k, i ≤ l.length → rec l i deep = .ok (f, k) → i < k ∧ k ≤ l.length
theorem word_pos (hP : NxP P) {x : Wd} {k : Nat} (h : wordE P l i = .ok (x, k)) : i < k ∧ k ≤ l.length := by
 unfold wordE at h
 cases hl : l[i]? with
 | none => rw [hl] at h; cases h
 | some p =>
  rw [hl] at h
  have hlt := (List.getElem?_eq_some_iff.1 hl).1
  simp only at h
  split at h
  ·cases hn : P.nx l i with
   | error e => rw [hn] at h; cases h
   | ok y => rw [hn] at h; cases h; exact hP _ _ _ _ hn
  ·cases h; omega
theorem named_pos {f : PS} {k : Nat} (h : namedE P l i = .ok (f, k)) : i < k ∧ k ≤ l.length := by
 unfold namedE at h
 simp only at h
 have hj : i + 2 ≤ (if (P.ruby && isAt l (i + 2) [94]) = true then i + 3 else i + 2) := by split <;> omega
 generalize (if (P.ruby && isAt l (i + 2) [94]) = true then i + 3 else i + 2) = j at h hj
 split at h
 ·cases h
 ·rename_i hh
  split at h
  ·cases h
  ·cases h
   have h2 : isAt l (j + (lettersL l j).length) [58, 93] = true := by
    cases hx : isAt l (j + (lettersL l j).length) [58, 93] with
    | true => rfl
    | false => exact absurd (Or.inr hx) hh
   have := isAt_len h2 (by simp)
   simp only [List.length_cons, List.length_nil] at this
   omega
theorem end_pos (hP : NxP P) {c q : Int} {k : Nat} (h : endE P l i c = .ok (q, k)) : i < k ∧ k ≤ l.length := by
 unfold endE at h
 split at h
 ·cases h
 ·split at h
  ·cases h
  ·cases h
  ·rename_i q' k' heq
   split at h
   ·cases h
   ·cases h; exact word_pos hP heq
theorem item_pos (hP : NxP P) {rec : List Int → Nat → Nat → Except BE (PS × Nat)} (hr : RecP rec) {deep : Nat} {f : PS} {k : Nat} (h : itemE P rec l i deep = .ok (f, k)) : i < k ∧ k ≤ l.length := by
 unfold itemE at h
 split at h
 ·exact named_pos h
 ·split at h
  ·rename_i hin
   split at h
   ·cases h
   ·have h1 : isAt l i [91] = true := by unfold isIn at hin; simp at hin; exact hin.1.2
    have := isAt_len h1 (by simp)
    have h2 := hr _ _ _ _ _ (by simpa using this) h
    omega
  ·split at h
   ·cases h
   ·rename_i heq
    split at h
    ·cases h
    ·cases h; exact word_pos hP heq
   ·rename_i p k' heq
    have h1 := word_pos hP heq
    split at h
    ·split at h
     ·cases h
     ·rename_i q m he
      cases h
      have h2 := end_pos hP he
      omega
    ·cases h; exact h1
theorem items_pos (hP : NxP P) {rec : List Int → Nat → Nat → Except BE (PS × Nat)} (hr : RecP rec) {first deep : Nat} : ∀ (n i : Nat) (acc f : PS) (k : Nat), i ≤ l.length → itemsE P rec l first deep n i acc = .ok (f, k) → i ≤ k ∧ k ≤ l.length
 | 0, i, acc, f, k, hi, h => by cases h; exact ⟨Nat.le_refl _, hi⟩
 | n + 1, i, acc, f, k, hi, h => by
  unfold itemsE at h
  split at h
  ·cases h; exact ⟨Nat.le_refl _, hi⟩
  ·split at h
   ·cases h
   ·rename_i f' k' heq
    have h1 := item_pos hP hr heq
    have h2 := items_pos hP hr n k' _ f k h1.2 h
    omega
theorem part_pos (hP : NxP P) {rec : List Int → Nat → Nat → Except BE (PS × Nat)} (hr : RecP rec) {first deep : Nat} {f : PS} {k : Nat} (hi : i ≤ l.length) (h : partE P rec l first deep i = .ok (f, k)) : i < k ∧ k ≤ l.length := by
 unfold partE at h
 split at h
 ·cases h
 ·rename_i f' k' heq
  have h1 := items_pos hP hr _ _ _ _ _ hi heq
  split at h
  ·cases h
  ·split at h
   ·split at h
    ·cases h
    ·cases h; omega
   ·cases h; omega
theorem ands_pos (hP : NxP P) {rec : List Int → Nat → Nat → Except BE (PS × Nat)} (hr : RecP rec) {first deep : Nat} : ∀ (n i : Nat) (acc f : PS) (k : Nat), i ≤ l.length → andsE P rec l first deep n i acc = .ok (f, k) → i ≤ k ∧ k ≤ l.length
 | 0, i, acc, f, k, hi, h => by cases h; exact ⟨Nat.le_refl _, hi⟩
 | n + 1, i, acc, f, k, hi, h => by
  unfold andsE at h
  split at h
  ·rename_i han
   have h0 : isAt l i [38, 38] = true := by unfold isAnd at han; simp at han; exact han.2
   have h3 := isAt_len h0 (by simp)
   simp only [List.length_cons, List.length_nil] at h3
   split at h
   ·cases h
   ·rename_i f' k' heq
    have h1 := part_pos hP hr h3 heq
    split at h
    ·cases h
    ·have h2 := ands_pos hP hr n k' _ f k h1.2 h
     omega
  ·cases h; exact ⟨Nat.le_refl _, hi⟩
theorem body_pos (hP : NxP P) {rec : List Int → Nat → Nat → Except BE (PS × Nat)} (hr : RecP rec) {deep : Nat} {f : PS} {k : Nat} (hi : i ≤ l.length) (h : bodyE P rec l i deep = .ok (f, k)) : i < k ∧ k ≤ l.length := by
 unfold bodyE at h
 split at h
 ·cases h
 ·rename_i f' k' heq
  have h1 := part_pos hP hr hi heq
  split at h
  ·cases h
  ·rename_i g m heq2
   have h2 := ands_pos hP hr _ _ _ _ _ h1.2 heq2
   cases h
   split
   ·rename_i h93
    have := isAt_len h93 (by simp)
    simp only [List.length_cons, List.length_nil] at this
    omega
   ·omega
theorem expr_pos (hP : NxP P) : ∀ n, RecP (exprF P n)
 | 0 => fun l i deep f k hi h => by cases h
 | n + 1 => fun l i deep f k hi h => by
  unfold exprF exprG at h
  split at h
  ·rename_i h94
   have h3 := isAt_len h94 (by simp)
   simp only [List.length_cons, List.length_nil] at h3
   split at h
   ·cases h
   ·rename_i f' k' heq
    have h1 := body_pos hP (expr_pos hP n) h3 heq
    split at h
    ·cases h
    ·cases h; omega
  ·exact body_pos hP (expr_pos hP n) hi h
theorem par_nx (d : Int) (fo : Bool) : NxP (par d fo) := fun l i x k h => by
 simp only [par] at h
 cases hn : TK.nextT 1 l i with
 | error e => rw [hn] at h; cases h
 | ok y =>
  rw [hn] at h
  obtain ⟨t, k'⟩ := y
  have hk : k' = k := by
   unfold wordOf at h
   simp only at h
   split at h
   ·cases h; rfl
   ·split at h
    ·cases h; rfl
    ·cases h
  subst hk
  exact ⟨TK.next_pos hn, Pa.next_len hn⟩
theorem parse_pos {d : Int} {fo : Bool} {f : PS} {k : Nat} (hi : i ≤ l.length) (h : parseM d fo l (i : Int) = .ok (f, k)) : i < k ∧ k ≤ l.length := by
 unfold parseM at h
 split at h
 ·cases h
 ·split at h
  ·cases h
  ·unfold readM at h
   split at h
   ·cases h
   ·rename_i f' k' heq
    split at h
    ·cases h
    ·cases h
     have := expr_pos (par_nx d fo) 21 l (i : Int).toNat 0 _ _ (by simpa using hi) heq
     simpa using this
end Go.Proofs.YtaccofiegkdlgaaGreatDoor.Br
namespace Go.Proofs.YtaccofiegkdlgaaGreatDoor.Pa
open TR (Tr)
open Br (BE PS)
set_option linter.unusedVariables false
variable {l : List Int} {d : Int} {s s' : St}
structure Inv' (l : List Int) (s : St) : Prop where
 inv : Inv l s
 pn : s.pos ≤ s.next
structure InvA (l : List Int) (s : St) : Prop where
 next : s.next ≤ l.length
 ags : s.agains.length ≤ s.next
 nms : s.names.length ≤ s.groups
 grp : s.groups ≤ 20
 deep : s.deep ≤ 20
theorem Inv'.toA (h : Inv' l s) : InvA l s := ⟨h.inv.next, Nat.le_trans h.inv.ags h.pn, h.inv.nms, h.inv.grp, h.inv.deep⟩
theorem adv_inv (hp : TK.patE d l = 0) (h : InvA l s) (ha : advM d l s = .ok s') : Inv' l s' ∧ s'.pos = s.next ∧ s'.folded = s.folded ∧ s'.deep = s.deep ∧ s'.groups = s.groups ∧ s'.names = s.names ∧ s'.agains = s.agains := by
 unfold advM at ha
 split at ha
 ·rename_i he
  cases ha
  exact ⟨⟨⟨h.next, h.next, fun hh => absurd hh (by show ¬ s.next < l.length; omega), fun _ => rfl, h.ags, h.nms, h.grp, h.deep⟩, Nat.le_refl _⟩, rfl, rfl, rfl, rfl, rfl, rfl⟩
 ·rename_i hne
  split at ha
  ·cases ha
  ·rename_i t k heq
   cases ha
   have h1 := TK.next_pos heq
   have h2 := next_len heq
   have h3 := next_ok (TK.patE_ok hp).2.2 heq
   exact ⟨⟨⟨h.next, h2, fun _ => ⟨h1, h3⟩, fun hh => absurd hh hne, h.ags, h.nms, h.grp, h.deep⟩, Nat.le_of_lt h1⟩, rfl, rfl, rfl, rfl, rfl, rfl⟩
structure Good (l : List Int) (s : St) (t : Tr) (s' : St) : Prop where
 inv : Inv' l s'
 pos : s.pos ≤ s'.pos
 deep : s'.deep = s.deep
 kids : t.kids.length ≤ 2 * (s'.pos - s.pos)
 row : t.kind = 9 → 2 ≤ t.kids.length
theorem again_inv {t : Tr} (h : Inv' l s) (hp : s.pos < l.length) (hr : againM s = .ok (t, s')) : InvA l s' ∧ s'.pos = s.pos ∧ s'.next = s.next ∧ s'.deep = s.deep ∧ t.kids = [] ∧ t.kind ≠ 9 := by
 unfold againM at hr
 simp only at hr
 generalize (if s.tok.num < 0 then s.tok.num + ((s.groups + 1 : Nat) : Int) else s.tok.num) = n at hr
 split at hr
 ·cases hr
 ·cases hr
  have h1 := (h.inv.on hp).1
  exact ⟨⟨h.inv.next, by have := h.inv.ags; simp only [List.length_append, List.length_singleton]; omega, h.inv.nms, h.inv.grp, h.inv.deep⟩, rfl, rfl, rfl, rfl, by show (18 : Int) ≠ 9; decide⟩
theorem single_inv (hpe : TK.patE d l = 0) {t : Tr} (h : Inv' l s) (hp : s.pos < l.length) (hr : singleM d l s = .ok (t, s')) : InvA l s' ∧ s'.pos = s.pos ∧ s.pos < s'.next ∧ s'.deep = s.deep ∧ t.kids = [] ∧ t.kind ≠ 9 := by
 obtain ⟨h1, htok⟩ := h.inv.on hp
 unfold singleM at hr
 split at hr
 ·rename_i h3
  cases hr
  refine ⟨h.toA, rfl, h1, rfl, rfl, ?_⟩
  show s.tok.num ≠ 9
  unfold TokOk at htok
  omega
 ·split at hr
  ·obtain ⟨a, b, c, e, f, g⟩ := again_inv h hp hr
   exact ⟨a, b, by omega, e, f, g⟩
  ·split at hr
   ·cases hr
    exact ⟨⟨h.inv.next, Nat.le_trans h.inv.ags h.pn, h.inv.nms, h.inv.grp, h.inv.deep⟩, rfl, h1, rfl, rfl, by decide⟩
   ·split at hr
    ·cases hr
    ·rename_i f k heq
     cases hr
     have hk : s.next ≤ k ∧ k ≤ l.length := by
      unfold setM at heq
      split at heq
      ·cases heq; exact ⟨Nat.le_refl _, h.inv.next⟩
      ·split at heq
       ·cases heq; exact ⟨Nat.le_refl _, h.inv.next⟩
       ·split at heq
        ·split at heq
         ·cases heq
         ·rename_i f' k' heq2
          cases heq
          have := Br.parse_pos h.inv.next heq2
          omega
        ·cases heq; exact ⟨Nat.le_refl _, h.inv.next⟩
     refine ⟨⟨hk.2, ?_, h.inv.nms, h.inv.grp, h.inv.deep⟩, rfl, ?_, rfl, rfl, by show (2 : Int) ≠ 9; decide⟩
     ·have := h.inv.ags
      show s.agains.length ≤ k
      omega
     ·show s.pos < k
      omega
theorem begin_inv {t : ByteArray} (h : InvA l s) (hr : beginM s t = .ok s') : InvA l s' ∧ s'.pos = s.pos ∧ s'.next = s.next ∧ s'.deep = s.deep ∧ s'.tok = s.tok := by
 unfold beginM at hr
 split at hr
 ·cases hr
 ·rename_i h20
  have hg : s.groups + 1 ≤ 20 := by have := h.grp; omega
  split at hr
  ·cases hr
   exact ⟨⟨h.next, h.ags, by have := h.nms; show s.names.length ≤ s.groups + 1; omega, hg, h.deep⟩, rfl, rfl, rfl, rfl⟩
  ·split at hr
   ·cases hr
   ·cases hr
    exact ⟨⟨h.next, h.ags, by have := h.nms; show (s.names ++ _).length ≤ s.groups + 1; simp only [List.length_append, List.length_singleton]; omega, hg, h.deep⟩, rfl, rfl, rfl, rfl⟩
def RecG (l : List Int) (dp : Nat) (rec : Rd) : Prop := ∀ fo s t s', Inv' l s → s.deep = dp → rec fo s = .ok (t, s') → Good l s t s'
theorem open_inv (hpe : TK.patE d l = 0) {rec : Rd} (hrec : RecG l (s.deep + 1) rec) {t : Tr} (h : Inv' l s) (hp : s.pos < l.length) (hk : s.tok.kind = 7) (hr : openM d l rec s = .ok (t, s')) : Good l s t s' ∧ s.pos < s'.pos := by
 obtain ⟨h1, htok⟩ := h.inv.on hp
 unfold openM at hr
 split at hr
 ·cases hr
 ·rename_i h20
  have hd20 : s.deep + 1 ≤ 20 := by have := h.inv.deep; omega
  split at hr
  ·cases hr
  ·rename_i s1 heq1
   have hs1 : InvA l s1 ∧ s1.pos = s.pos ∧ s1.next = s.next ∧ s1.deep = s.deep := by
    split at heq1
    ·obtain ⟨a, b, c, e, _⟩ := begin_inv h.toA heq1
     exact ⟨a, b, c, e⟩
    ·cases heq1; exact ⟨h.toA, rfl, rfl, rfl⟩
   split at hr
   ·cases hr
   ·rename_i s2 heq2
    obtain ⟨i2, p2, _, d2, _⟩ := adv_inv hpe hs1.1 heq2
    split at hr
    ·cases hr
    ·rename_i t3 s3 heq3
     have hg := hrec _ { s2 with deep := s2.deep + 1 } _ _ (⟨⟨i2.inv.pos, i2.inv.next, i2.inv.on, i2.inv.off, i2.inv.ags, i2.inv.nms, i2.inv.grp, by show s2.deep + 1 ≤ 20; omega⟩, i2.pn⟩) (by show s2.deep + 1 = _; omega) heq3
     have hgp : s2.pos ≤ s3.pos := hg.pos
     have hgd : s3.deep = s2.deep + 1 := hg.deep
     split at hr
     ·cases hr
     ·rename_i h8
      split at hr
      ·cases hr
      ·rename_i s4 heq4
       have i3 := hg.inv
       have hp3 : s3.pos < l.length := by
        rcases Nat.lt_or_ge s3.pos l.length with h5 | h5
        ·exact h5
        ·have := i3.inv.off (by have := i3.inv.pos; omega)
         rw [this] at h8
         exact absurd (by decide) h8
       have h6 := (i3.inv.on hp3).1
       obtain ⟨i4, p4, _, d4, _⟩ := adv_inv (s := { s3 with deep := s3.deep - 1 }) hpe ⟨i3.inv.next, Nat.le_trans i3.inv.ags i3.pn, i3.inv.nms, i3.inv.grp, by show s3.deep - 1 ≤ 20; have := i3.inv.deep; omega⟩ heq4
       have p4' : s4.pos = s3.next := p4
       have d4' : s4.deep = s3.deep - 1 := d4
       have hkid : t3.kids.length ≤ 2 * (s3.pos - s2.pos) := hg.kids
       split at hr
       ·cases hr
        exact ⟨⟨i4, by omega, by omega, by omega, hg.row⟩, by omega⟩
       ·rename_i hn1
        cases hr
        refine ⟨⟨i4, by omega, by omega, ?_, ?_⟩, by omega⟩
        ·show [t3].length ≤ _
         simp only [List.length_singleton]
         omega
        ·intro h9
         have h9' : s.tok.num = 9 := h9
         unfold TokOk at htok
         omega
theorem atom_inv (hpe : TK.patE d l = 0) {rec : Rd} (hrec : RecG l (s.deep + 1) rec) {t : Tr} (h : Inv' l s) (hp : s.pos < l.length) (hr : atomM d l rec s = .ok (t, s')) : Good l s t s' ∧ s.pos < s'.pos := by
 unfold atomM at hr
 split at hr
 ·cases hr
 ·split at hr
  ·rename_i h7
   exact open_inv hpe hrec h hp h7 hr
  ·split at hr
   ·cases hr
   ·rename_i t1 s1 heq
    obtain ⟨a, b, c, e, f, g⟩ := single_inv hpe h hp heq
    split at hr
    ·cases hr
    ·rename_i s2 heq2
     cases hr
     obtain ⟨i2, p2, _, d2, _⟩ := adv_inv hpe a heq2
     refine ⟨⟨i2, by omega, by omega, by rw [f]; exact Nat.zero_le _, fun h9 => absurd h9 g⟩, by omega⟩
theorem reps_inv (hpe : TK.patE d l = 0) {may : Bool} {s0 : St} : ∀ (n ahead : Nat) (t : Tr) (s : St) (t' : Tr) (s' : St), Good l s0 t s → s0.pos < s.pos → repsM d l may n ahead t s = .ok (t', s') → Good l s0 t' s' ∧ s0.pos < s'.pos
 | 0, ahead, t, s, t', s', hg, hlt, hr => by cases hr; exact ⟨hg, hlt⟩
 | n + 1, ahead, t, s, t', s', hg, hlt, hr => by
  unfold repsM at hr
  split at hr
  ·split at hr
   ·cases hr
   ·split at hr
    ·cases hr
    ·split at hr
     ·cases hr
     ·rename_i s1 heq
      obtain ⟨i2, p2, _, d2, _⟩ := adv_inv hpe hg.inv.toA heq
      have hpn := hg.inv.pn
      have hd := hg.deep
      refine reps_inv hpe n (ahead + 1) _ s1 t' s' ⟨i2, by omega, by omega, ?_, fun h9 => ?_⟩ (by omega) hr
      ·show [t].length ≤ _
       simp only [List.length_singleton]
       omega
      ·exact absurd (show (12 : Int) = 9 from h9) (by decide)
  ·cases hr; exact ⟨hg, hlt⟩
theorem piece_inv (hpe : TK.patE d l = 0) {rec : Rd} (hrec : RecG l (s.deep + 1) rec) {t : Tr} (h : Inv' l s) (hp : s.pos < l.length) (hr : pieceM d l rec s = .ok (t, s')) : Good l s t s' ∧ s.pos < s'.pos := by
 unfold pieceM at hr
 split at hr
 ·cases hr
 ·rename_i t1 s1 heq
  obtain ⟨a, b⟩ := atom_inv hpe hrec h hp heq
  exact reps_inv hpe _ _ _ _ _ _ a b hr
structure GoodL (l : List Int) (s : St) (ps : List Tr) (s' : St) : Prop where
 inv : Inv' l s'
 pos : s.pos ≤ s'.pos
 deep : s'.deep = s.deep
 len : ps.length ≤ s'.pos - s.pos
 kids : (rowL ps).length ≤ 2 * (s'.pos - s.pos)
 one : ∀ t ∈ ps, t.kids.length ≤ 2 * (s'.pos - s.pos) ∧ (t.kind = 9 → 2 ≤ t.kids.length)
theorem rowL_snoc (ps : List Tr) (t : Tr) : rowL (ps ++ [t]) = rowL ps ++ (if t.kind = 1 then [] else if t.kind = 9 then t.kids else [t]) := by
 unfold rowL
 rw [List.flatMap_append]
 simp
theorem GoodL.snoc {s0 : St} {ps : List Tr} {t : Tr} (h : GoodL l s0 ps s) (hg : Good l s t s') (hlt : s.pos < s'.pos) : GoodL l s0 (ps ++ [t]) s' := by
 have h1 := h.pos
 have h2 := h.len
 have h3 := h.kids
 have h4 := hg.kids
 refine ⟨hg.inv, by omega, hg.deep.trans h.deep, by simp only [List.length_append, List.length_singleton]; omega, ?_, fun u hu => ?_⟩
 ·rw [rowL_snoc, List.length_append]
  have : (if t.kind = 1 then [] else if t.kind = 9 then t.kids else [t]).length ≤ 2 * (s'.pos - s.pos) := by
   split
   ·simp
   ·split
    ·exact h4
    ·simp only [List.length_singleton]; omega
  omega
 ·rcases List.mem_append.1 hu with h5 | h5
  ·have := h.one u h5
   exact ⟨by omega, this.2⟩
  ·rw [List.mem_singleton] at h5
   subst h5
   exact ⟨by omega, hg.row⟩
theorem pieces_inv (hpe : TK.patE d l = 0) {rec : Rd} {s0 : St} (hrec : RecG l (s0.deep + 1) rec) : ∀ (n : Nat) (ps : List Tr) (s : St) (ps' : List Tr) (s' : St), GoodL l s0 ps s → piecesM d l rec n ps s = .ok (ps', s') → GoodL l s0 ps' s'
 | 0, ps, s, ps', s', hg, hr => by cases hr; exact hg
 | n + 1, ps, s, ps', s', hg, hr => by
  unfold piecesM at hr
  split at hr
  ·cases hr; exact hg
  ·rename_i hend
   split at hr
   ·cases hr
   ·rename_i t s1 heq
    have hp : s.pos < l.length := by
     have h1 := hg.inv.inv.pos
     have h2 : s.pos ≠ l.length := fun e => hend (by unfold endM; simp [e])
     omega
    obtain ⟨a, b⟩ := piece_inv hpe (s := s) (by rw [hg.deep]; exact hrec) hg.inv hp heq
    exact pieces_inv hpe hrec n _ s1 ps' s' (hg.snoc a b) hr
theorem flat_mem {α β : Type} (f : α → List β) : ∀ (l : List α) (u : α), u ∈ l → (f u).length ≤ (l.flatMap f).length
 | a :: l, u, h => by
  rw [List.flatMap_cons, List.length_append]
  rcases List.mem_cons.1 h with rfl | h
  ·omega
  ·have := flat_mem f l u h
   omega
theorem rowL_one {ps : List Tr} {t : Tr} (h : rowL ps = [t]) (hr : ∀ u ∈ ps, u.kind = 9 → 2 ≤ u.kids.length) : t ∈ ps ∧ t.kind ≠ 9 := by
 have hm : t ∈ rowL ps := by rw [h]; simp
 unfold rowL at hm
 obtain ⟨u, hu, hc⟩ := List.mem_flatMap.1 hm
 split at hc
 ·cases hc
 ·split at hc
  ·rename_i h9
   exfalso
   have h2 := hr u hu h9
   have h3 : u.kids.length ≤ (rowL ps).length := by
    have h4 : (if u.kind = 1 then [] else if u.kind = 9 then u.kids else [u]).length ≤ (rowL ps).length := by
     exact flat_mem (fun t => if t.kind = 1 then [] else if t.kind = 9 then t.kids else [t]) ps u hu
    rw [if_neg (by omega), if_pos h9] at h4
    exact h4
   rw [h] at h3
   simp only [List.length_singleton] at h3
   omega
  ·rename_i h9
   rw [List.mem_singleton] at hc
   subst hc
   exact ⟨hu, h9⟩
theorem row_good {s0 : St} {ps : List Tr} (h : GoodL l s0 ps s) : Good l s0 (rowT ps) s := by
 refine ⟨h.inv, h.pos, h.deep, ?_, ?_⟩
 ·unfold rowT
  cases hr : rowL ps with
  | nil => exact Nat.zero_le _
  | cons a r =>
   cases r with
   | nil => exact (h.one a (rowL_one hr fun u hu => (h.one u hu).2).1).1
   | cons b r =>
    have := h.kids
    rw [hr] at this
    exact this
 ·unfold rowT
  cases hr : rowL ps with
  | nil => intro h9; exact absurd (show (1 : Int) = 9 from h9) (by decide)
  | cons a r =>
   cases r with
   | nil => intro h9; exact absurd h9 (rowL_one hr fun u hu => (h.one u hu).2).2
   | cons b r => intro _; simp [Tr.kids]
theorem goodL_nil (h : Inv' l s) : GoodL l s [] s := ⟨h, Nat.le_refl _, rfl, by simp, by simp [rowL], fun t ht => by cases ht⟩
theorem branch_inv (hpe : TK.patE d l = 0) {rec : Rd} (hrec : RecG l (s.deep + 1) rec) {t : Tr} (h : Inv' l s) (hr : branchM d l rec s = .ok (t, s')) : Good l s t s' := by
 unfold branchM at hr
 split at hr
 ·cases hr
 ·rename_i ps s1 heq
  cases hr
  exact row_good (pieces_inv hpe hrec _ _ _ _ _ (goodL_nil h) heq)
structure GoodB (l : List Int) (s : St) (bs : List Tr) (s' : St) : Prop where
 inv : Inv' l s'
 pos : s.pos ≤ s'.pos
 deep : s'.deep = s.deep
 len : bs.length ≤ s'.pos - s.pos + 1
 sum : (bs.flatMap fun t => if t.kind = 10 then t.kids else [t]).length + bs.length ≤ 2 * (s'.pos - s.pos) + 2
 one : ∀ t ∈ bs, t.kids.length ≤ 2 * (s'.pos - s.pos) ∧ (t.kind = 9 → 2 ≤ t.kids.length)
theorem GoodB.snoc {s0 s1 : St} {bs : List Tr} {t : Tr} (h : GoodB l s0 bs s) (hp : s.pos < s1.pos) (hd : s1.deep = s.deep) (hg : Good l s1 t s') : GoodB l s0 (bs ++ [t]) s' := by
 have h1 := h.pos
 have h2 := h.len
 have h3 := h.sum
 have h4 := hg.kids
 have h5 := hg.pos
 have h6 := hg.deep
 have h7 := h.deep
 refine ⟨hg.inv, by omega, by omega, by simp only [List.length_append, List.length_singleton]; omega, ?_, fun u hu => ?_⟩
 ·rw [List.flatMap_append, List.length_append]
  have : (([t] : List Tr).flatMap fun t => if t.kind = 10 then t.kids else [t]).length ≤ 2 * (s'.pos - s1.pos) + 1 := by
   simp only [List.flatMap_cons, List.flatMap_nil, List.append_nil]
   split
   ·omega
   ·simp
  simp only [List.length_append, List.length_singleton]
  omega
 ·rcases List.mem_append.1 hu with h8 | h8
  ·have := h.one u h8
   exact ⟨by omega, this.2⟩
  ·rw [List.mem_singleton] at h8
   subst h8
   exact ⟨by omega, hg.row⟩
theorem goodB_one {t : Tr} (hg : Good l s t s') : GoodB l s [t] s' := by
 have h4 := hg.kids
 refine ⟨hg.inv, hg.pos, hg.deep, by simp, ?_, fun u hu => ?_⟩
 ·simp only [List.flatMap_cons, List.flatMap_nil, List.append_nil, List.length_singleton]
  split
  ·omega
  ·simp only [List.length_singleton]; omega
 ·rw [List.mem_singleton] at hu
  subst hu
  exact ⟨h4, hg.row⟩
theorem bars_inv (hpe : TK.patE d l = 0) {rec : Rd} {s0 : St} (hrec : RecG l (s0.deep + 1) rec) : ∀ (n : Nat) (bs : List Tr) (s : St) (bs' : List Tr) (s' : St), GoodB l s0 bs s → barsM d l rec n bs s = .ok (bs', s') → GoodB l s0 bs' s'
 | 0, bs, s, bs', s', hg, hr => by cases hr; exact hg
 | n + 1, bs, s, bs', s', hg, hr => by
  unfold barsM at hr
  split at hr
  ·rename_i h9
   have hp : s.pos < l.length := by
    rcases Nat.lt_or_ge s.pos l.length with h5 | h5
    ·exact h5
    ·have := hg.inv.inv.off (by have := hg.inv.inv.pos; omega)
     rw [this] at h9
     exact absurd h9 (by decide)
   have h6 := (hg.inv.inv.on hp).1
   split at hr
   ·cases hr
   ·rename_i s1 heq1
    obtain ⟨i2, p2, _, d2, _⟩ := adv_inv hpe hg.inv.toA heq1
    split at hr
    ·cases hr
    ·rename_i t s2 heq2
     have hgo := branch_inv hpe (s := s1) (by rw [d2, hg.deep]; exact hrec) i2 heq2
     exact bars_inv hpe hrec n _ s2 bs' s' (hg.snoc (by omega) d2 hgo) hr
  ·cases hr; exact hg
theorem either_good {s0 : St} {bs : List Tr} (h : GoodB l s0 bs s) (hne : bs ≠ []) : Good l s0 (eitherT bs) s := by
 refine ⟨h.inv, h.pos, h.deep, ?_, ?_⟩
 ·match bs, hne with
  | [t], _ => exact (h.one t (by simp)).1
  | a :: b :: r, _ =>
   have h1 := h.sum
   show ((a :: b :: r).flatMap fun t => if t.kind = 10 then t.kids else [t]).length ≤ _
   rw [show (a :: b :: r).length = r.length + 2 from rfl] at h1
   omega
 ·match bs, hne with
  | [t], _ => exact (h.one t (by simp)).2
  | a :: b :: r, _ => intro h9; exact absurd (show (10 : Int) = 9 from h9) (by decide)
theorem bars_ne {rec : Rd} : ∀ (n : Nat) (bs : List Tr) (s : St) (bs' : List Tr) (s' : St), bs ≠ [] → barsM d l rec n bs s = .ok (bs', s') → bs' ≠ []
 | 0, bs, s, bs', s', hb, hr => by cases hr; exact hb
 | n + 1, bs, s, bs', s', hb, hr => by
  unfold barsM at hr
  split at hr
  ·split at hr
   ·cases hr
   ·split at hr
    ·cases hr
    ·exact bars_ne n _ _ bs' s' (by simp) hr
  ·cases hr; exact hb
theorem inv_folded (h : Inv' l s) (fo : Bool) : Inv' l { s with folded := fo } := ⟨⟨h.inv.pos, h.inv.next, h.inv.on, h.inv.off, h.inv.ags, h.inv.nms, h.inv.grp, h.inv.deep⟩, h.pn⟩
theorem branchesG_inv (hpe : TK.patE d l = 0) {rec : Rd} {dp : Nat} (hrec : RecG l (dp + 1) rec) : RecG l dp (branchesG d l rec) := by
 intro fo s t s' h hd hr
 unfold branchesG at hr
 split at hr
 ·cases hr
 ·rename_i t1 s1 heq1
  have h1 : Good l { s with folded := fo } t1 s1 := branch_inv hpe (s := { s with folded := fo }) (by show RecG l (s.deep + 1) rec; rw [hd]; exact hrec) (inv_folded h fo) heq1
  have hb : GoodB l { s with folded := fo } [t1] s1 := goodB_one h1
  split at hr
  ·cases hr
  ·rename_i bs s2 heq2
   cases hr
   have h2 := bars_inv hpe (s0 := { s with folded := fo }) (by show RecG l (s.deep + 1) rec; rw [hd]; exact hrec) _ _ _ _ _ hb heq2
   have h3 := either_good h2 (bars_ne _ _ _ _ _ (by simp) heq2)
   exact ⟨inv_folded h3.inv _, h3.pos, h3.deep, h3.kids, h3.row⟩
theorem branchesF_inv (hpe : TK.patE d l = 0) : ∀ (n dp : Nat), RecG l dp (branchesF d l n)
 | 0, dp => fun fo s t s' _ _ hr => by cases hr
 | n + 1, dp => branchesG_inv hpe (branchesF_inv hpe n (dp + 1))
end Go.Proofs.YtaccofiegkdlgaaGreatDoor.Pa
namespace Go.Proofs.YtaccofiegkdlgaaGreatDoor.Pa
open TR (Tr)
open Br (BE PS)
set_option linter.unusedVariables false
variable {l : List Int} {d : Int} {s s' : St}
inductive AgOk (m : Nat) : Tr → Prop
 | mk (k n a b c : Int) (f : Bool) (S : RL) (ks : List Tr) (h1 : k = 18 → 0 ≤ n ∧ n < m) (h2 : ∀ t ∈ ks, AgOk m t) : AgOk m (.mk k n a b c f S ks)
theorem AgOk.mono {m m' : Nat} {t : Tr} (h : AgOk m t) (hm : m ≤ m') : AgOk m' t := by
 induction h with
 | mk k n a b c f S ks h1 h2 ih => exact .mk k n a b c f S ks (fun hk => by have := h1 hk; omega) ih
theorem AgOk.kids {m : Nat} {t : Tr} (h : AgOk m t) : ∀ u ∈ t.kids, AgOk m u := by
 cases h with
 | mk k n a b c f S ks h1 h2 => exact h2
def AgL (s s' : St) (t : Tr) : Prop := s.agains.length ≤ s'.agains.length ∧ AgOk s'.agains.length t
theorem adv_ag (h : advM d l s = .ok s') : s'.agains = s.agains := by
 unfold advM at h
 split at h
 ·cases h; rfl
 ·split at h
  ·cases h
  ·cases h; rfl
theorem begin_ag {t : ByteArray} (h : beginM s t = .ok s') : s'.agains = s.agains := by
 unfold beginM at h
 split at h
 ·cases h
 ·split at h
  ·cases h; rfl
  ·split at h
   ·cases h
   ·cases h; rfl
theorem leafAg (m : Nat) {k n a b c : Int} {f : Bool} {S : RL} (hk : k ≠ 18) : AgOk m (.mk k n a b c f S []) := .mk k n a b c f S [] (fun h => absurd h hk) (fun t ht => by cases ht)
theorem single_ag {t : Tr} (h : Inv' l s) (hp : s.pos < l.length) (hr : singleM d l s = .ok (t, s')) : AgL s s' t := by
 obtain ⟨h1, htok⟩ := h.inv.on hp
 unfold singleM at hr
 split at hr
 ·cases hr
  exact ⟨Nat.le_refl _, leafAg _ (by unfold TokOk at htok; omega)⟩
 ·split at hr
  ·unfold againM at hr
   simp only at hr
   generalize (if s.tok.num < 0 then s.tok.num + ((s.groups + 1 : Nat) : Int) else s.tok.num) = n at hr
   split at hr
   ·cases hr
   ·cases hr
    refine ⟨by simp, .mk _ _ _ _ _ _ _ _ (fun _ => ⟨by omega, ?_⟩) (fun t ht => by cases ht)⟩
    simp only [List.length_append, List.length_singleton]
    omega
  ·split at hr
   ·cases hr; exact ⟨Nat.le_refl _, leafAg _ (by decide)⟩
   ·split at hr
    ·cases hr
    ·cases hr; exact ⟨Nat.le_refl _, leafAg _ (by decide)⟩
def RecA (l : List Int) (dp : Nat) (rec : Rd) : Prop := ∀ fo s t s', Inv' l s → s.deep = dp → rec fo s = .ok (t, s') → AgL s s' t
theorem open_ag (hpe : TK.patE d l = 0) {rec : Rd} (hra : RecA l (s.deep + 1) rec) {t : Tr} (h : Inv' l s) (hp : s.pos < l.length) (hk : s.tok.kind = 7) (hr : openM d l rec s = .ok (t, s')) : AgL s s' t := by
 obtain ⟨h1, htok⟩ := h.inv.on hp
 unfold openM at hr
 split at hr
 ·cases hr
 ·rename_i h20
  split at hr
  ·cases hr
  ·rename_i s1 heq1
   have hs1 : InvA l s1 ∧ s1.deep = s.deep ∧ s1.agains = s.agains := by
    split at heq1
    ·obtain ⟨a, b, c, e, _⟩ := begin_inv h.toA heq1
     exact ⟨a, e, begin_ag heq1⟩
    ·cases heq1; exact ⟨h.toA, rfl, rfl⟩
   split at hr
   ·cases hr
   ·rename_i s2 heq2
    obtain ⟨i2, p2, _, d2, _, _, a2⟩ := adv_inv hpe hs1.1 heq2
    split at hr
    ·cases hr
    ·rename_i t3 s3 heq3
     have hd20 : s.deep + 1 ≤ 20 := by have := h.inv.deep; omega
     have hg := hra _ { s2 with deep := s2.deep + 1 } _ _ ⟨⟨i2.inv.pos, i2.inv.next, i2.inv.on, i2.inv.off, i2.inv.ags, i2.inv.nms, i2.inv.grp, by show s2.deep + 1 ≤ 20; omega⟩, i2.pn⟩ (by show s2.deep + 1 = _; omega) heq3
     have hg1 : s2.agains.length ≤ s3.agains.length := hg.1
     split at hr
     ·cases hr
     ·split at hr
      ·cases hr
      ·rename_i s4 heq4
       have h4 : s4.agains = s3.agains := adv_ag (s := { s3 with deep := s3.deep - 1 }) heq4
       have e2 : s2.agains = s.agains := a2.trans hs1.2.2
       split at hr
       ·cases hr
        refine ⟨by rw [h4, ← e2]; exact hg1, by rw [h4]; exact hg.2⟩
       ·cases hr
        refine ⟨by rw [h4, ← e2]; exact hg1, .mk _ _ _ _ _ _ _ _ (fun h18 => by unfold TokOk at htok; omega) (fun u hu => ?_)⟩
        rw [List.mem_singleton] at hu
        subst hu
        rw [h4]
        exact hg.2
theorem atom_ag (hpe : TK.patE d l = 0) {rec : Rd} (hra : RecA l (s.deep + 1) rec) {t : Tr} (h : Inv' l s) (hp : s.pos < l.length) (hr : atomM d l rec s = .ok (t, s')) : AgL s s' t := by
 unfold atomM at hr
 split at hr
 ·cases hr
 ·split at hr
  ·rename_i h7
   exact open_ag hpe hra h hp h7 hr
  ·split at hr
   ·cases hr
   ·rename_i t1 s1 heq
    have h1 := single_ag h hp heq
    split at hr
    ·cases hr
    ·rename_i s2 heq2
     cases hr
     have := adv_ag heq2
     exact ⟨by rw [this]; exact h1.1, by rw [this]; exact h1.2⟩
theorem reps_ag {may : Bool} {s0 : St} : ∀ (n ahead : Nat) (t : Tr) (s : St) (t' : Tr) (s' : St), AgL s0 s t → repsM d l may n ahead t s = .ok (t', s') → AgL s0 s' t'
 | 0, ahead, t, s, t', s', hg, hr => by cases hr; exact hg
 | n + 1, ahead, t, s, t', s', hg, hr => by
  unfold repsM at hr
  split at hr
  ·split at hr
   ·cases hr
   ·split at hr
    ·cases hr
    ·split at hr
     ·cases hr
     ·rename_i s1 heq
      have h1 := adv_ag heq
      refine reps_ag n (ahead + 1) _ s1 t' s' ⟨by rw [h1]; exact hg.1, .mk _ _ _ _ _ _ _ _ (fun h18 => absurd h18 (by decide)) (fun u hu => ?_)⟩ hr
      rw [List.mem_singleton] at hu
      subst hu
      rw [h1]
      exact hg.2
  ·cases hr; exact hg
theorem piece_ag (hpe : TK.patE d l = 0) {rec : Rd} (hra : RecA l (s.deep + 1) rec) {t : Tr} (h : Inv' l s) (hp : s.pos < l.length) (hr : pieceM d l rec s = .ok (t, s')) : AgL s s' t := by
 unfold pieceM at hr
 split at hr
 ·cases hr
 ·rename_i t1 s1 heq
  exact reps_ag _ _ _ _ _ _ (atom_ag hpe hra h hp heq) hr
def AgLs (s s' : St) (ts : List Tr) : Prop := s.agains.length ≤ s'.agains.length ∧ ∀ t ∈ ts, AgOk s'.agains.length t
theorem AgLs.snoc {s0 : St} {ts : List Tr} {t : Tr} (h : AgLs s0 s ts) (hg : AgL s s' t) : AgLs s0 s' (ts ++ [t]) := by
 refine ⟨Nat.le_trans h.1 hg.1, fun u hu => ?_⟩
 rcases List.mem_append.1 hu with h1 | h1
 ·exact (h.2 u h1).mono hg.1
 ·rw [List.mem_singleton] at h1
  subst h1
  exact hg.2
theorem pieces_ag (hpe : TK.patE d l = 0) {rec : Rd} {s0 : St} (hrg : RecG l (s0.deep + 1) rec) (hra : RecA l (s0.deep + 1) rec) : ∀ (n : Nat) (ps : List Tr) (s : St) (ps' : List Tr) (s' : St), Inv' l s → s.deep = s0.deep → AgLs s0 s ps → piecesM d l rec n ps s = .ok (ps', s') → AgLs s0 s' ps'
 | 0, ps, s, ps', s', hi, hd, hg, hr => by cases hr; exact hg
 | n + 1, ps, s, ps', s', hi, hd, hg, hr => by
  unfold piecesM at hr
  split at hr
  ·cases hr; exact hg
  ·rename_i hend
   split at hr
   ·cases hr
   ·rename_i t s1 heq
    have hp : s.pos < l.length := by
     have h1 := hi.inv.pos
     have h2 : s.pos ≠ l.length := fun e => hend (by unfold endM; simp [e])
     omega
    obtain ⟨a, b⟩ := piece_inv hpe (s := s) (by rw [hd]; exact hrg) hi hp heq
    exact pieces_ag hpe hrg hra n _ s1 ps' s' a.inv (a.deep.trans hd) (hg.snoc (piece_ag hpe (by rw [hd]; exact hra) hi hp heq)) hr
theorem row_ag {m : Nat} {ps : List Tr} (h : ∀ t ∈ ps, AgOk m t) : AgOk m (rowT ps) := by
 have hL : ∀ t ∈ rowL ps, AgOk m t := by
  intro t ht
  unfold rowL at ht
  obtain ⟨u, hu, hc⟩ := List.mem_flatMap.1 ht
  split at hc
  ·cases hc
  ·split at hc
   ·exact (h u hu).kids t hc
   ·rw [List.mem_singleton] at hc
    subst hc
    exact h t hu
 unfold rowT
 cases hr : rowL ps with
 | nil => exact leafAg _ (by decide)
 | cons a r =>
  cases r with
  | nil => exact hL a (by rw [hr]; simp)
  | cons b r => exact .mk _ _ _ _ _ _ _ _ (fun h18 => absurd h18 (by decide)) (fun t ht => hL t (by rw [hr]; exact ht))
theorem branch_ag (hpe : TK.patE d l = 0) {rec : Rd} (hrg : RecG l (s.deep + 1) rec) (hra : RecA l (s.deep + 1) rec) {t : Tr} (h : Inv' l s) (hr : branchM d l rec s = .ok (t, s')) : AgL s s' t := by
 unfold branchM at hr
 split at hr
 ·cases hr
 ·rename_i ps s1 heq
  cases hr
  have := pieces_ag hpe hrg hra _ _ _ _ _ h rfl ⟨Nat.le_refl _, fun t ht => by cases ht⟩ heq
  exact ⟨this.1, row_ag this.2⟩
theorem bars_ag (hpe : TK.patE d l = 0) {rec : Rd} {s0 : St} (hrg : RecG l (s0.deep + 1) rec) (hra : RecA l (s0.deep + 1) rec) : ∀ (n : Nat) (bs : List Tr) (s : St) (bs' : List Tr) (s' : St), Inv' l s → s.deep = s0.deep → AgLs s0 s bs → barsM d l rec n bs s = .ok (bs', s') → AgLs s0 s' bs'
 | 0, bs, s, bs', s', hi, hd, hg, hr => by cases hr; exact hg
 | n + 1, bs, s, bs', s', hi, hd, hg, hr => by
  unfold barsM at hr
  split at hr
  ·split at hr
   ·cases hr
   ·rename_i s1 heq1
    obtain ⟨i2, p2, _, d2, _, _, a2⟩ := adv_inv hpe hi.toA heq1
    split at hr
    ·cases hr
    ·rename_i t s2 heq2
     have hd1 : s1.deep = s0.deep := d2.trans hd
     have hgo := branch_inv hpe (s := s1) (by rw [hd1]; exact hrg) i2 heq2
     have hag := branch_ag hpe (s := s1) (by rw [hd1]; exact hrg) (by rw [hd1]; exact hra) i2 heq2
     have hg1 : AgLs s0 s1 bs := by unfold AgLs; rw [a2]; exact hg
     exact bars_ag hpe hrg hra n _ s2 bs' s' hgo.inv (hgo.deep.trans hd1) (hg1.snoc hag) hr
  ·cases hr; exact hg
theorem either_ag {m : Nat} {bs : List Tr} (h : ∀ t ∈ bs, AgOk m t) (hne : bs ≠ []) : AgOk m (eitherT bs) := by
 match bs, hne with
 | [t], _ => exact h t (by simp)
 | a :: b :: r, _ =>
  refine .mk _ _ _ _ _ _ _ _ (fun h18 => absurd h18 (by decide)) (fun t ht => ?_)
  obtain ⟨u, hu, hc⟩ := List.mem_flatMap.1 ht
  split at hc
  ·exact (h u hu).kids t hc
  ·rw [List.mem_singleton] at hc
   subst hc
   exact h t hu
theorem branchesG_ag (hpe : TK.patE d l = 0) {rec : Rd} {dp : Nat} (hrg : RecG l (dp + 1) rec) (hra : RecA l (dp + 1) rec) : RecA l dp (branchesG d l rec) := by
 intro fo s t s' h hd hr
 unfold branchesG at hr
 split at hr
 ·cases hr
 ·rename_i t1 s1 heq1
  have hrg' : RecG l (({ s with folded := fo } : St).deep + 1) rec := by show RecG l (s.deep + 1) rec; rw [hd]; exact hrg
  have hra' : RecA l (({ s with folded := fo } : St).deep + 1) rec := by show RecA l (s.deep + 1) rec; rw [hd]; exact hra
  have h1 := branch_inv hpe (s := { s with folded := fo }) hrg' (inv_folded h fo) heq1
  have h2 : AgL s s1 t1 := branch_ag hpe (s := { s with folded := fo }) hrg' hra' (inv_folded h fo) heq1
  split at hr
  ·cases hr
  ·rename_i bs s2 heq2
   cases hr
   have h3 := bars_ag hpe (s0 := { s with folded := fo }) hrg' hra' _ _ _ _ _ h1.inv h1.deep ⟨h2.1, fun t ht => by rw [List.mem_singleton] at ht; subst ht; exact h2.2⟩ heq2
   exact ⟨h3.1, either_ag h3.2 (bars_ne _ _ _ _ _ (by simp) heq2)⟩
theorem branchesF_ag (hpe : TK.patE d l = 0) : ∀ (n dp : Nat), RecA l dp (branchesF d l n)
 | 0, dp => fun fo s t s' _ _ hr => by cases hr
 | n + 1, dp => branchesG_ag hpe (branchesF_inv hpe n (dp + 1)) (branchesF_ag hpe n (dp + 1))
theorem nums_len {names : List Nm} {gr : Nat} : ∀ (A : List Ag) (ns : List Int), numsM names gr A = .ok ns → ns.length = A.length
 | [], ns, h => by cases h; rfl
 | a :: A, ns, h => by
  unfold numsM at h
  simp only at h
  generalize (if a.name.toList = [] then a.num else (match names.find? (fun m => m.1.toList == a.name.toList) with | some m => m.2 | none => 0)) = n at h
  split at h
  ·cases h
  ·split at h
   ·cases h
   ·rename_i ns' heq
    cases h
    have := nums_len A ns' heq
    simp [this]
end Go.Proofs.YtaccofiegkdlgaaGreatDoor.Pa
