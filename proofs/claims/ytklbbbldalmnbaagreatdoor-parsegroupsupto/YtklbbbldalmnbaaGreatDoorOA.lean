import Derived.Test.YtklbbbldalmnbaaGreatDoorMY
import Derived.Test.YtklbbbldalmnbaaGreatDoorMX
import Derived.Test.YtklbbbldalmnbaaGreatDoorMO
import Derived.Test.YtklbbbldalmnbaaGreatDoorMP
import Derived.Test.YtklbbbldalmnbaaGreatDoorMK
namespace Go.Proofs.YtklbbbldalmnbaaGreatDoor.Pa
open TR (Tr)
open Br (BE PS)
open TK (Brk)
set_option linter.unusedVariables false
variable {d : Int} {l : List Int} {s s' : St}
theorem pieces_end (hpe : TK.patE d l = 0) {rec : Rd} {dp : Nat} (hrg : RecG l (dp + 1) rec) : ∀ (n : Nat) (ps : List Tr) (s : St) (ps' : List Tr) (s' : St), Inv' l s → s.deep = dp → l.length + 1 ≤ n + s.pos → piecesM d l rec n ps s = .ok (ps', s') → endM l s' = true
 | 0, ps, s, ps', s', hi, hd, h1, hr => by have := hi.inv.pos; omega
 | n + 1, ps, s, ps', s', hi, hd, h1, hr => by
  unfold piecesM at hr
  split at hr
  ·rename_i he
   cases hr; exact he
  ·rename_i hend
   have hp : s.pos < l.length := by
    have h1 := hi.inv.pos
    have h2 : s.pos ≠ l.length := fun e => hend (by unfold endM; simp [e])
    omega
   split at hr
   ·cases hr
   ·rename_i t s1 heq
    obtain ⟨g, hlt⟩ := piece_inv hpe (by rw [hd]; exact hrg) hi hp heq
    exact pieces_end hpe hrg n _ s1 ps' s' g.inv (g.deep.trans hd) (by omega) hr
theorem branch_end (hpe : TK.patE d l = 0) {rec : Rd} (hrg : RecG l (s.deep + 1) rec) {t : Tr} (h : Inv' l s) (hr : branchM d l rec s = .ok (t, s')) : endM l s' = true := by
 unfold branchM at hr
 split at hr
 ·cases hr
 ·rename_i ps s1 heq
  cases hr
  exact pieces_end hpe hrg _ _ _ _ _ h rfl (by omega) heq
theorem bars_end (hpe : TK.patE d l = 0) {rec : Rd} {dp : Nat} (hrg : RecG l (dp + 1) rec) : ∀ (n : Nat) (bs : List Tr) (s : St) (bs' : List Tr) (s' : St), Inv' l s → s.deep = dp → endM l s = true → barsM d l rec n bs s = .ok (bs', s') → endM l s' = true
 | 0, bs, s, bs', s', hi, hd, he, hr => by cases hr; exact he
 | n + 1, bs, s, bs', s', hi, hd, he, hr => by
  unfold barsM at hr
  split at hr
  ·split at hr
   ·cases hr
   ·rename_i s1 heq1
    obtain ⟨i2, p2, _, d2, _, _, a2⟩ := adv_inv hpe hi.toA heq1
    split at hr
    ·cases hr
    ·rename_i t s2 heq2
     have hd1 : s1.deep = dp := d2.trans hd
     have hrg' : RecG l (s1.deep + 1) rec := by rw [hd1]; exact hrg
     have hgo := branch_inv hpe hrg' i2 heq2
     exact bars_end hpe hrg n _ s2 bs' s' hgo.inv (hgo.deep.trans hd1) (branch_end hpe hrg' i2 heq2) hr
  ·cases hr; exact he
structure Whole (d : Int) (fo : Bool) (l : List Int) (p : Pt) (s0 : St) (t1 : Tr) (s1 : St) (bs : List Tr) (s2 : St) (ns : List Int) : Prop where
 pe : TK.patE d l = 0
 adv : advM d l {} = .ok s0
 br : branchM d l (branchesF d l 20) { s0 with folded := fo } = .ok (t1, s1)
 bars : barsM d l (branchesF d l 20) (l.length + 1) [t1] s1 = .ok (bs, s2)
 ne8 : s2.tok.kind ≠ 8
 nums : numsM s2.names s2.groups s2.agains = .ok ns
 few : TR.cntA (settleT ns (eitherT bs)) < 1001
 eq : p = ⟨settleT ns (eitherT bs), s2.groups, s2.names⟩
theorem whole_of {fo : Bool} {p : Pt} (h : patM bigB d fo l = .ok p) : ∃ s0 t1 s1 bs s2 ns, Whole d fo l p s0 t1 s1 bs s2 ns := by
 unfold patM at h
 split at h
 ·cases h
 ·rename_i hpe
  have hpe : TK.patE d l = 0 := by simpa using hpe
  unfold wholeM at h
  split at h
  ·cases h
  ·rename_i s0 h0
   split at h
   ·cases h
   ·rename_i t s hb
    change branchesG d l (branchesF d l 20) fo s0 = _ at hb
    unfold branchesG at hb
    split at hb
    ·cases hb
    ·rename_i t1 s1 h1
     split at hb
     ·cases hb
     ·rename_i bs s2 h2
      cases hb
      split at h
      ·cases h
      ·rename_i h8
       split at h
       ·cases h
       ·rename_i ns hns
        split at h
        ·cases h
        ·rename_i hbig
         cases h
         exact ⟨s0, t1, s1, bs, s2, ns, hpe, h0, h1, h2, h8, hns, by unfold bigB at hbig; simpa using hbig, rfl⟩
theorem Whole.pat {fo : Bool} {p : Pt} {s0 s1 s2 : St} {t1 : Tr} {bs : List Tr} {ns : List Int} (h : Whole d fo l p s0 t1 s1 bs s2 ns) : patM bigB d fo l = .ok p := by
 unfold patM
 rw [if_neg (by simp [h.pe])]
 unfold wholeM
 rw [h.adv]
 simp only
 have hb : branchesF d l 21 fo s0 = .ok (eitherT bs, { s2 with folded := s0.folded }) := by
  show branchesG d l (branchesF d l 20) fo s0 = _
  unfold branchesG
  rw [h.br]
  simp only
  rw [h.bars]
 rw [hb]
 simp only
 rw [if_neg h.ne8, h.nums]
 simp only
 rw [if_neg (by unfold bigB; simp [h.few]), h.eq]
theorem Whole.inv0 {fo : Bool} {p : Pt} {s0 s1 s2 : St} {t1 : Tr} {bs : List Tr} {ns : List Int} (h : Whole d fo l p s0 t1 s1 bs s2 ns) : Inv' l s0 ∧ s0.deep = 0 ∧ s0.groups = 0 ∧ s0.names = [] ∧ s0.agains = [] ∧ s0.pos = 0 := by
 have hA : InvA l {} := ⟨Nat.zero_le _, Nat.zero_le _, Nat.zero_le _, by decide, by decide⟩
 obtain ⟨i, p, f, dd, g, n, a⟩ := adv_inv h.pe hA h.adv
 exact ⟨i, dd, g, n, a, p⟩
theorem Whole.inv1 {fo : Bool} {p : Pt} {s0 s1 s2 : St} {t1 : Tr} {bs : List Tr} {ns : List Int} (h : Whole d fo l p s0 t1 s1 bs s2 ns) : Inv' l s1 ∧ s1.deep = 0 ∧ endM l s1 = true := by
 obtain ⟨i0, d0, _⟩ := h.inv0
 have hrg : RecG l (({ s0 with folded := fo } : St).deep + 1) (branchesF d l 20) := branchesF_inv h.pe 20 _
 have g := branch_inv h.pe hrg (inv_folded i0 fo) h.br
 exact ⟨g.inv, g.deep.trans d0, branch_end h.pe hrg (inv_folded i0 fo) h.br⟩
theorem bars_ne9 {rec : Rd} (hpe : TK.patE d l = 0) {dp : Nat} (hrg : RecG l (dp + 1) rec) : ∀ (n : Nat) (bs : List Tr) (s : St) (bs' : List Tr) (s' : St), Inv' l s → s.deep = dp → l.length + 1 ≤ n + s.pos → barsM d l rec n bs s = .ok (bs', s') → s'.tok.kind ≠ 9 ∧ Inv' l s' ∧ s'.deep = dp
 | 0, bs, s, bs', s', hi, hd, h1, hr => by have := hi.inv.pos; omega
 | n + 1, bs, s, bs', s', hi, hd, h1, hr => by
  unfold barsM at hr
  split at hr
  ·rename_i h9
   have hlt : s.pos < l.length := by
    have h1 := hi.inv.pos
    have h2 : s.pos ≠ l.length := fun e => by have := hi.inv.off e; rw [this] at h9; exact absurd h9 (by decide)
    omega
   have hon := (hi.inv.on hlt).1
   split at hr
   ·cases hr
   ·rename_i s1 heq1
    obtain ⟨i2, p2, _, d2, _, _, a2⟩ := adv_inv hpe hi.toA heq1
    split at hr
    ·cases hr
    ·rename_i t s2 heq2
     have hd1 : s1.deep = dp := d2.trans hd
     have hgo := branch_inv hpe (s := s1) (by rw [hd1]; exact hrg) i2 heq2
     have hgp := hgo.pos
     exact bars_ne9 hpe hrg n _ s2 bs' s' hgo.inv (hgo.deep.trans hd1) (by omega) hr
  ·rename_i h9
   cases hr; exact ⟨h9, hi, hd⟩
theorem Whole.inv2 {fo : Bool} {p : Pt} {s0 s1 s2 : St} {t1 : Tr} {bs : List Tr} {ns : List Int} (h : Whole d fo l p s0 t1 s1 bs s2 ns) : Inv' l s2 ∧ s2.deep = 0 ∧ s2.pos = l.length ∧ s2.tok.kind ≠ 9 := by
 obtain ⟨i1, d1, e1⟩ := h.inv1
 have hrg : RecG l (0 + 1) (branchesF d l 20) := branchesF_inv h.pe 20 _
 obtain ⟨n9, i2, d2⟩ := bars_ne9 h.pe hrg _ _ _ _ _ i1 d1 (by omega) h.bars
 have he := bars_end h.pe hrg _ _ _ _ _ i1 d1 e1 h.bars
 refine ⟨i2, d2, ?_, n9⟩
 have h8 := h.ne8
 unfold endM at he
 simp only [Bool.or_eq_true, decide_eq_true_eq] at he
 rcases he with (he | he) | he
 ·exact he
 ·exact absurd he n9
 ·exact absurd he h8
def mvN : Nat → St → St
 | 0, s => s
 | k + 1, s => mvS (mvN k s)
theorem mvN_eq : ∀ (k : Nat) (s : St), mvN k s = { s with pos := s.pos + k, next := s.next + k, agains := s.agains.map fun a => { a with pos := a.pos + k } }
 | 0, s => by simp [mvN]
 | k + 1, s => by rw [mvN, mvN_eq k s]; simp [mvS, Function.comp_def, Nat.add_assoc]
theorem inv_mv {p : Int} (h : Inv' l s) : Inv' (p :: l) (mvS s) := by
 refine ⟨⟨?_, ?_, ?_, ?_, ?_, h.inv.nms, h.inv.grp, h.inv.deep⟩, ?_⟩
 ·have := h.inv.pos; simp only [mvS, List.length_cons]; omega
 ·have := h.inv.next; simp only [mvS, List.length_cons]; omega
 ·intro hl
  simp only [mvS, List.length_cons] at hl ⊢
  have := h.inv.on (by omega)
  exact ⟨by omega, this.2⟩
 ·intro hl
  simp only [mvS, List.length_cons] at hl ⊢
  exact h.inv.off (by omega)
 ·have := h.inv.ags; simp only [mvS, List.length_map]; omega
 ·have := h.pn; simp only [mvS]; omega
theorem inv_mvN (h : Inv' l s) : ∀ (pre : List Int), Inv' (pre ++ l) (mvN pre.length s)
 | [] => h
 | p :: pre => inv_mv (inv_mvN h pre)
theorem pat_cut {x : Int} {l : List Int} (h : TK.patE d (x :: l) = 0) : TK.patE d l = 0 := by
 unfold TK.patE at h ⊢
 split at h
 ·cases h
 ·rename_i h1
  rw [if_neg h1]
  split at h
  ·cases h
  ·rename_i h2
   rw [List.length_cons] at h2
   rw [if_neg (by omega)]
   split at h
   ·rename_i h3
    rw [List.all_cons, Bool.and_eq_true] at h3
    rw [if_pos h3.2]
   ·cases h
theorem pat_cuts : ∀ {pre l : List Int}, TK.patE d (pre ++ l) = 0 → TK.patE d l = 0
 | [], l, h => h
 | x :: pre, l, h => pat_cuts (pre := pre) (pat_cut h)
theorem adv_mvN (h : advM d l s = .ok s') : ∀ (pre : List Int), advM d (pre ++ l) (mvN pre.length s) = .ok (mvN pre.length s')
 | [] => h
 | p :: pre => adv_mv (adv_mvN h pre)
theorem branch_mvN {n : Nat} {t : Tr} (h : Inv' l s) (hr : branchM d l (branchesF d l n) s = .ok (t, s')) : ∀ (pre : List Int), TK.patE d (pre ++ l) = 0 → branchM d (pre ++ l) (branchesF d (pre ++ l) n) (mvN pre.length s) = .ok (t, mvN pre.length s')
 | [], _ => hr
 | p :: pre, hp => branch_mv (pat_cut hp) hp (branchesF_inv (pat_cut hp) n _) (branchesF_mv (pat_cut hp) hp n _) (inv_mvN h pre) (branch_mvN h hr pre (pat_cut hp))
theorem bars_fuel {rec : Rd} (hpe : TK.patE d l = 0) {dp : Nat} (hrg : RecG l (dp + 1) rec) : ∀ (n m : Nat) (bs : List Tr) (s : St) (bs' : List Tr) (s' : St), Inv' l s → s.deep = dp → l.length + 1 ≤ n + s.pos → l.length + 1 ≤ m + s.pos → barsM d l rec n bs s = .ok (bs', s') → barsM d l rec m bs s = .ok (bs', s')
 | 0, m, bs, s, bs', s', hi, hd, h1, h2, hr => by have := hi.inv.pos; omega
 | n + 1, 0, bs, s, bs', s', hi, hd, h1, h2, hr => by have := hi.inv.pos; omega
 | n + 1, m + 1, bs, s, bs', s', hi, hd, h1, h2, hr => by
  unfold barsM at hr ⊢
  split at hr
  ·rename_i h9
   rw [if_pos h9]
   have hlt : s.pos < l.length := by
    have h1 := hi.inv.pos
    have h2 : s.pos ≠ l.length := fun e => by have := hi.inv.off e; rw [this] at h9; exact absurd h9 (by decide)
    omega
   have hon := (hi.inv.on hlt).1
   split at hr
   ·cases hr
   ·rename_i s1 heq1
    obtain ⟨i2, p2, _, d2, _, _, a2⟩ := adv_inv hpe hi.toA heq1
    split at hr
    ·cases hr
    ·rename_i t s2 heq2
     have hd1 : s1.deep = dp := d2.trans hd
     have hgo := branch_inv hpe (s := s1) (by rw [hd1]; exact hrg) i2 heq2
     have hgp := hgo.pos
     exact bars_fuel hpe hrg n m _ s2 bs' s' hgo.inv (hgo.deep.trans hd1) (by omega) (by omega) hr
  ·rename_i h9
   rw [if_neg h9]
   cases hr; rfl
theorem bars_mvN {n N : Nat} {bs bs' : List Tr} (h : Inv' l s) (hN : l.length + 1 ≤ N + s.pos) (hr : barsM d l (branchesF d l n) N bs s = .ok (bs', s')) : ∀ (pre : List Int), TK.patE d (pre ++ l) = 0 → ∀ m, l.length + 1 ≤ m + s.pos → barsM d (pre ++ l) (branchesF d (pre ++ l) n) m bs (mvN pre.length s) = .ok (bs', mvN pre.length s')
 | [], hp, m, hm => by
  exact bars_fuel hp (branchesF_inv hp n _) N m _ _ _ _ h rfl hN hm hr
 | p :: pre, hp, m, hm => by
  have e : (mvN pre.length s).pos = s.pos + pre.length := by rw [mvN_eq]
  exact bars_mv (pat_cut hp) hp (branchesF_inv (pat_cut hp) n _) (branchesF_mv (pat_cut hp) hp n _) (pre.length + N) m _ _ _ _ (inv_mvN h pre) rfl (by rw [e]; show (pre ++ l).length + 1 ≤ _; rw [List.length_append]; omega) (by rw [e]; show (pre ++ l).length + 1 ≤ _; rw [List.length_append]; omega) (bars_mvN h hN hr pre (pat_cut hp) _ (by omega))
theorem bars_acc {rec : Rd} {xs : List Tr} : ∀ (n : Nat) (bs : List Tr) (s : St) (bs' : List Tr) (s' : St), barsM d l rec n bs s = .ok (bs', s') → barsM d l rec n (xs ++ bs) s = .ok (xs ++ bs', s')
 | 0, bs, s, bs', s', hr => by cases hr; rfl
 | n + 1, bs, s, bs', s', hr => by
  unfold barsM at hr ⊢
  split at hr
  ·rename_i h9
   rw [if_pos h9]
   split at hr
   ·cases hr
   ·rename_i s1 heq1
    split at hr
    ·cases hr
    ·rename_i t s2 heq2
     rw [List.append_assoc]
     exact bars_acc n _ _ _ _ hr
  ·rename_i h9
   rw [if_neg h9]
   cases hr; rfl
theorem adv_fo {fo : Bool} (h : advM d l s = .ok s') : advM d l { s with folded := fo } = .ok { s' with folded := fo } := by
 unfold advM at h ⊢
 split at h
 ·rename_i he
  cases h
  rw [if_pos he]
 ·rename_i he
  rw [if_neg he]
  cases hq : TK.nextT d l s.next with
  | error z => rw [hq] at h; cases h
  | ok y => rw [hq] at h; cases h; rfl
theorem adv_same {z : St} (h1 : s.next = z.next) (h2 : s.folded = z.folded) (h3 : s.deep = z.deep) (h4 : s.groups = z.groups) (h5 : s.names = z.names) (h6 : s.agains = z.agains) : advM d l s = advM d l z := by
 unfold advM
 rw [h1]
 split
 ·simp [h2, h3, h4, h5, h6]
 ·split
  ·rfl
  ·simp [h2, h3, h4, h5, h6]
theorem nums_none {names : List Nm} {A : List Ag} {ns : List Int} (h : numsM names 0 A = .ok ns) : A = [] ∧ ns = [] := by
 cases A with
 | nil => cases h; exact ⟨rfl, rfl⟩
 | cons a A =>
  unfold numsM at h
  simp only at h
  generalize (if a.name.toList = [] then a.num else (match names.find? (fun m => m.1.toList == a.name.toList) with | some m => m.2 | none => 0)) = n at h
  rw [if_pos (by omega)] at h
  cases h
theorem up_fo (c : Int) (fo : Bool) (s : St) : { upS c l s with folded := fo } = upS c l { s with folded := fo } := by
 unfold upS
 split <;> rfl
theorem pat_both {a b : List Int} {c : Int} (hc : 0 ≤ c ∧ c ≤ 1114111) (ha : TK.patE d a = 0) (hb : TK.patE d b = 0) (hl : a.length + b.length < 300) : TK.patE d (a ++ c :: b) = 0 := by
 unfold TK.patE at ha hb ⊢
 split at ha
 ·cases ha
 ·rename_i h1
  rw [if_neg h1] at hb ⊢
  rw [if_neg (by simp only [List.length_append, List.length_cons]; omega)]
  split at ha
  ·cases ha
  ·split at ha
   ·rename_i h3
    split at hb
    ·cases hb
    ·split at hb
     ·rename_i h4
      rw [if_pos]
      rw [List.all_append, List.all_cons, h3, h4]
      simp [TK.pointB, hc]
     ·cases hb
   ·cases ha
mutual
theorem sz_set (ns : List Int) : ∀ t : Tr, szT (settleT ns t) = szT t
 | .mk k n a b c f S ks => by rw [settleT, szT, szT, sz_setL ns ks]
theorem sz_setL (ns : List Int) : ∀ ts : List Tr, szL (settleT.settleL ns ts) = szL ts
 | [] => rfl
 | t :: ts => by rw [settleT.settleL, szL, szL, sz_set ns t, sz_setL ns ts]
end
theorem dp_set (ns : List Int) {f : Nat} {t : Tr} (h : Dp f t) : Dp f (settleT ns t) := by
 induction h with
 | mk f k n a b c o S ks h ih =>
  rw [settle_mk]
  refine .mk _ _ _ _ _ _ _ _ _ (fun u hu => ?_)
  obtain ⟨t, ht, rfl⟩ := List.mem_map.1 hu
  exact ih t ht
theorem setT_kind (ns : List Int) (t : Tr) : (settleT ns t).kind = t.kind := by cases t; rw [settle_mk]; rfl
theorem setT_kids (ns : List Int) (t : Tr) : (settleT ns t).kids = t.kids.map (settleT ns) := by cases t; rw [settle_mk]; rfl
theorem flatE_one (t : Tr) : flatE [t] = if t.kind = 10 then t.kids else [t] := by simp [flatE]
theorem flatE_set (ns : List Int) (t : Tr) : flatE [settleT ns t] = (flatE [t]).map (settleT ns) := by
 rw [flatE_one, flatE_one, setT_kind, setT_kids]
 split
 ·rfl
 ·rfl
theorem bars_pat {a b : List Int} {fo : Bool} {p q : Pt} (ha : ∀ x ∈ a, x ≠ 40) (hb : ∀ x ∈ b, x ≠ 40) (hl : a.length + b.length < 300) (hp : patM bigB 1 fo a = .ok p) (hq : patM bigB 1 fo b = .ok q) :
  ∃ r, patM bigB 1 fo (a ++ 124 :: b) = .ok r ∧ r.tree = .mk 10 0 0 0 0 false [] (flatE [p.tree] ++ flatE [q.tree]) := by
 obtain ⟨s0, t1, s1, bs, s2, ns, H⟩ := whole_of hp
 obtain ⟨z0, u1, z1, cs, z2, ms, K⟩ := whole_of hq
 have hL : TK.patE 1 (a ++ 124 :: b) = 0 := pat_both (by decide) H.pe K.pe hl
 have hc : Brk 124 := .inl rfl
 obtain ⟨i0, d0, g0, n0, a0, p0⟩ := H.inv0
 obtain ⟨j0, e0, h0, m0, b0, q0⟩ := K.inv0
 obtain ⟨i1, d1, _⟩ := H.inv1
 obtain ⟨j1, e1, _⟩ := K.inv1
 obtain ⟨i2, d2, p2, n2⟩ := H.inv2
 obtain ⟨j2, e2, q2, m2⟩ := K.inv2
 have hrg : RecG a (({ s0 with folded := fo } : St).deep + 1) (branchesF 1 a 20) := branchesF_inv H.pe 20 _
 have hrk : RecG b (({ z0 with folded := fo } : St).deep + 1) (branchesF 1 b 20) := branchesF_inv K.pe 20 _
 have gp1 := (branch_inv H.pe hrg (inv_folded i0 fo) H.br).pos
 have kp1 := (branch_inv K.pe hrk (inv_folded j0 fo) K.br).pos
 have P0 := adv_pl ha H.adv
 have Q0 := adv_pl hb K.adv
 obtain ⟨P1, sz1, dp1⟩ := branch_pl (s := { s0 with folded := fo }) ha H.pe hrg P0.tok (inv_folded i0 fo) H.br
 obtain ⟨Q1, tz1, dq1⟩ := branch_pl (s := { z0 with folded := fo }) hb K.pe hrk Q0.tok (inv_folded j0 fo) K.br
 obtain ⟨P2, sz2, dp2⟩ := bars_pl ha H.pe hrg _ _ _ _ _ i1 (d1.trans d0.symm) P1 gp1 (by simp only [szL]; omega) (fun t ht => by rw [List.mem_singleton] at ht; subst ht; exact dp1) H.bars
 obtain ⟨Q2, tz2, dq2⟩ := bars_pl hb K.pe hrk _ _ _ _ _ j1 (e1.trans e0.symm) Q1 kp1 (by simp only [szL]; omega) (fun t ht => by rw [List.mem_singleton] at ht; subst ht; exact dq1) K.bars
 have g2 : s2.groups = 0 := P2.grp.trans g0
 have k2 : z2.groups = 0 := Q2.grp.trans h0
 have nm2 : s2.names = [] := P2.nms.trans n0
 have km2 : z2.names = [] := Q2.nms.trans m0
 have f2 : s2.folded = fo := P2.fo
 obtain ⟨ag2, ns2⟩ := nums_none (by have := H.nums; rw [g2] at this; exact this)
 obtain ⟨bg2, ms2⟩ := nums_none (by have := K.nums; rw [k2] at this; exact this)
 subst ns2 ms2
 have hu := branchesF_u (b := b) hc H.pe hL 20 (({ s0 with folded := fo } : St).deep + 1)
 have hbr := branch_ext hc H.pe hL hrg hu (inv_folded i0 fo) H.br
 obtain ⟨m', k1, _, _, _, _, k6⟩ := bars_up (b := b) hc H.pe hL (dp := 0) (branchesF_inv H.pe 20 _) (branchesF_u hc H.pe hL 20 _) _ ((a ++ 124 :: b).length + 1) _ _ _ _ i1 d1 (by omega) (by simp only [List.length_append, List.length_cons]; omega) H.bars
 have hlen : (a ++ 124 :: b).length = a.length + b.length + 1 := by simp only [List.length_append, List.length_cons]; omega
 have hpre : (a ++ [124]) ++ b = a ++ 124 :: b := by simp
 have hpl : (a ++ [124]).length = a.length + 1 := by simp
 have hL' : TK.patE 1 ((a ++ [124]) ++ b) = 0 := by rw [hpre]; exact hL
 have hadv : advM 1 (a ++ 124 :: b) (upS 124 a s2) = .ok (mvN (a.length + 1) { z0 with folded := fo }) := by
  have h1 := adv_mvN (adv_fo (fo := fo) K.adv) (a ++ [124])
  rw [hpre, hpl] at h1
  rw [← h1]
  have hup : upS 124 a s2 = { s2 with tok := tokC 124, next := a.length + 1 } := if_pos p2
  rw [hup, mvN_eq]
  refine adv_same ?_ f2 d2 g2 nm2 ?_
  ·show a.length + 1 = 0 + (a.length + 1); omega
  ·show s2.agains = _; rw [ag2]; rfl
 have hbr2 := branch_mvN (inv_folded j0 fo) K.br (a ++ [124]) hL'
 have hbr3 := fun m hm => bars_mvN (N := b.length + 1) j1 (by omega) K.bars (a ++ [124]) hL' m hm
 rw [hpre, hpl] at hbr2
 rw [hpre] at hbr3
 simp only [hpl] at hbr3
 have hk9 : (upS 124 a s2).tok.kind = 9 := by rw [show upS 124 a s2 = { s2 with tok := tokC 124, next := a.length + 1 } from if_pos p2]; rfl
 have hsz : szT (eitherT (bs ++ cs)) ≤ 1000 := by
  have hbs : bs ≠ [] := bars_ne _ _ _ _ _ (by simp) H.bars
  have hcs : cs ≠ [] := bars_ne _ _ _ _ _ (by simp) K.bars
  rw [either_app bs cs hbs hcs, either_kids bs hbs, either_kids cs hcs, szT_kids]
  simp only [TR.Tr.kids]
  rw [szL_app]
  have h1 := szL_flatE bs
  have h2 := szL_flatE cs
  have h3 := i2.inv.pos
  have h4 := j2.inv.pos
  omega
 have hbs : bs ≠ [] := bars_ne _ _ _ _ _ (by simp) H.bars
 have hcs : cs ≠ [] := bars_ne _ _ _ _ _ (by simp) K.bars
 have hdp : Dp 8 (eitherT (bs ++ cs)) := by
  rw [either_app bs cs hbs hcs, either_kids bs hbs, either_kids cs hcs]
  refine Dp.of (fun u hu => ?_)
  rcases List.mem_append.1 hu with h1 | h1
  ·exact (dp_flatE dp2 u h1).mono
  ·exact (dp_flatE dq2 u h1).mono
 have W : Whole 1 fo (a ++ 124 :: b) ⟨settleT [] (eitherT (bs ++ cs)), 0, []⟩ (upS 124 a s0) t1 (upS 124 a s1) (bs ++ cs) (mvN (a.length + 1) z2) [] := by
  refine ⟨hL, adv_ext hc (Nat.zero_le _) H.adv, by rw [up_fo]; exact hbr, ?_, ?_, ?_, ?_, ?_⟩
  ·rw [k6]
   obtain ⟨m, rfl⟩ : ∃ m, m' = m + 1 := ⟨m' - 1, by omega⟩
   unfold barsM
   rw [if_pos hk9, hadv]
   simp only
   rw [hbr2]
   simp only
   exact bars_acc _ _ _ _ _ (hbr3 m (by omega))
  ·rw [mvN_eq]; exact K.ne8
  ·rw [mvN_eq]
   simp only [km2, k2, bg2]
   rfl
  ·exact cntA_few (by rw [sz_set]; exact hsz) (dp_set _ hdp)
  ·rw [mvN_eq]; simp only [km2, k2]
 refine ⟨_, W.pat, ?_⟩
 rw [either_app bs cs hbs hcs, H.eq, K.eq]
 simp only
 rw [flatE_set, flatE_set, settle_mk, ← List.map_append]
 rfl
end Go.Proofs.YtklbbbldalmnbaaGreatDoor.Pa
namespace Go.Proofs.YtklbbbldalmnbaaGreatDoor.Br
set_option linter.unusedVariables false
variable {P : Par} {l : List Int} {i : Nat} {z a : Int}
def AtL (l : List Int) (a : Int) : Prop := 0 ≤ a ∧ a ≤ (l.length : Int)
theorem at_zero : AtL l 0 := ⟨Int.le_refl _, by omega⟩
theorem at_of (h : i ≤ l.length) : AtL l (i : Int) := ⟨by omega, by omega⟩
theorem not_at {f : PS} (h : notE P f = .error (z, a)) : AtL l a := by
 unfold notE at h
 split at h
 ·cases h; exact at_zero
 ·cases h
theorem meet_at {f g : PS} (h : meetE P f g = .error (z, a)) : AtL l a := by
 unfold meetE at h
 split at h
 ·cases h; exact at_zero
 ·cases h
theorem fold_at {f : PS} (h : foldE P f = .error (z, a)) : AtL l a := by
 unfold foldE at h
 split at h
 ·cases h; exact at_zero
 ·cases h
theorem word_at (hi : i ≤ l.length) (h : wordE P l i = .error (z, a)) : AtL l a := by
 unfold wordE at h
 split at h
 ·cases h; exact at_of hi
 ·split at h
  ·split at h
   ·cases h; exact at_of hi
   ·cases h
  ·cases h
theorem class_at {t : ByteArray} {no : Bool} {b : Int} (hb : AtL l b) (h : classE P t no b = .error (z, a)) : AtL l a := by
 unfold classE at h
 split at h
 ·cases h; exact hb
 ·split at h
  ·exact not_at h
  ·cases h
theorem letters_len (l : List Int) (j : Nat) (hj : j ≤ l.length) : j + (lettersL l j).length ≤ l.length := by
 unfold lettersL
 have := (List.takeWhile_prefix (l := l.drop j) (fun c : Int => decide (97 ≤ c) && decide (c ≤ 122))).length_le
 rw [List.length_drop] at this
 omega
theorem named_at (hc : isCls l i = true) (h : namedE P l i = .error (z, a)) : AtL l a := by
 have hi := isAt_len (show isAt l i [91, 58] = true from hc) (by simp)
 simp only [List.length_cons, List.length_nil] at hi
 unfold namedE at h
 simp only at h
 have hj : (if (P.ruby && isAt l (i + 2) [94]) = true then i + 3 else i + 2) ≤ l.length := by
  split
  ·rename_i hb
   rw [Bool.and_eq_true] at hb
   have := isAt_len hb.2 (by simp)
   simp only [List.length_cons, List.length_nil] at this
   omega
  ·omega
 generalize (if (P.ruby && isAt l (i + 2) [94]) = true then i + 3 else i + 2) = j at h hj
 split at h
 ·cases h
  exact at_of (letters_len l j hj)
 ·split at h
  ·rename_i e heq
   cases h
   exact class_at (at_of (by omega)) heq
  ·cases h
theorem end_at {c : Int} (hi : i ≤ l.length) (h : endE P l i c = .error (z, a)) : AtL l a := by
 unfold endE at h
 split at h
 ·cases h; exact at_of hi
 ·split at h
  ·rename_i heq
   cases h; exact word_at hi heq
  ·cases h; exact at_of hi
  ·split at h
   ·cases h; exact at_of hi
   ·cases h
def RecX (rec : List Int → Nat → Nat → Except BE (PS × Nat)) : Prop := ∀ l i deep z a, i ≤ l.length → rec l i deep = .error (z, a) → AtL l a
theorem item_at (hP : NxP P) {rec : List Int → Nat → Nat → Except BE (PS × Nat)} (hx : RecX rec) {deep : Nat} (hi : i ≤ l.length) (h : itemE P rec l i deep = .error (z, a)) : AtL l a := by
 unfold itemE at h
 split at h
 ·rename_i hc
  exact named_at hc h
 ·split at h
  ·rename_i hin
   split at h
   ·cases h; exact at_of hi
   ·have h1 : isAt l i [91] = true := by unfold isIn at hin; simp at hin; exact hin.1.2
    have := isAt_len h1 (by simp)
    exact hx _ _ _ _ _ (by simpa using this) h
  ·split at h
   ·rename_i heq
    cases h; exact word_at hi heq
   ·split at h
    ·rename_i heq
     cases h; exact class_at (at_of hi) heq
    ·cases h
   ·rename_i p k' heq
    have h1 := word_pos hP heq
    split at h
    ·rename_i hr
     split at h
     ·rename_i he
      cases h
      have h45 : isAt l k' [45] = true := by unfold isRng at hr; simp at hr; exact hr.1
      have := isAt_len h45 (by simp)
      exact end_at (by simpa using this) he
     ·cases h
    ·cases h
theorem items_at (hP : NxP P) {rec : List Int → Nat → Nat → Except BE (PS × Nat)} (hr : RecP rec) (hx : RecX rec) {first deep : Nat} : ∀ (n i : Nat) (acc : PS), i ≤ l.length → itemsE P rec l first deep n i acc = .error (z, a) → AtL l a
 | 0, i, acc, hi, h => by cases h
 | n + 1, i, acc, hi, h => by
  unfold itemsE at h
  split at h
  ·cases h
  ·split at h
   ·rename_i heq
    cases h; exact item_at hP hx hi heq
   ·rename_i f' k' heq
    exact items_at hP hr hx n k' _ (item_pos hP hr heq).2 h
theorem part_at (hP : NxP P) {rec : List Int → Nat → Nat → Except BE (PS × Nat)} (hr : RecP rec) (hx : RecX rec) {first deep : Nat} (hi : i ≤ l.length) (h : partE P rec l first deep i = .error (z, a)) : AtL l a := by
 unfold partE at h
 split at h
 ·rename_i heq
  cases h; exact items_at hP hr hx _ _ _ hi heq
 ·rename_i f' k' heq
  have h1 := items_pos hP hr _ _ _ _ _ hi heq
  split at h
  ·cases h; exact at_of h1.2
  ·split at h
   ·split at h
    ·rename_i hf
     cases h; exact fold_at hf
    ·cases h
   ·cases h
theorem ands_at (hP : NxP P) {rec : List Int → Nat → Nat → Except BE (PS × Nat)} (hr : RecP rec) (hx : RecX rec) {first deep : Nat} : ∀ (n i : Nat) (acc : PS), i ≤ l.length → andsE P rec l first deep n i acc = .error (z, a) → AtL l a
 | 0, i, acc, hi, h => by cases h
 | n + 1, i, acc, hi, h => by
  unfold andsE at h
  split at h
  ·rename_i han
   have h0 : isAt l i [38, 38] = true := by unfold isAnd at han; simp at han; exact han.2
   have h3 := isAt_len h0 (by simp)
   simp only [List.length_cons, List.length_nil] at h3
   split at h
   ·rename_i heq
    cases h; exact part_at hP hr hx h3 heq
   ·rename_i f' k' heq
    have h1 := part_pos hP hr h3 heq
    split at h
    ·rename_i hm
     cases h; exact meet_at hm
    ·exact ands_at hP hr hx n k' _ h1.2 h
  ·cases h
theorem body_at (hP : NxP P) {rec : List Int → Nat → Nat → Except BE (PS × Nat)} (hr : RecP rec) (hx : RecX rec) {deep : Nat} (hi : i ≤ l.length) (h : bodyE P rec l i deep = .error (z, a)) : AtL l a := by
 unfold bodyE at h
 split at h
 ·rename_i heq
  cases h; exact part_at hP hr hx hi heq
 ·rename_i f' k' heq
  have h1 := part_pos hP hr hi heq
  split at h
  ·rename_i heq2
   cases h; exact ands_at hP hr hx _ _ _ h1.2 heq2
  ·cases h
theorem expr_at (hP : NxP P) : ∀ n, RecX (exprF P n)
 | 0 => fun l i deep z a hi h => by cases h; exact at_zero
 | n + 1 => fun l i deep z a hi h => by
  unfold exprF exprG at h
  split at h
  ·rename_i h94
   have h3 := isAt_len h94 (by simp)
   simp only [List.length_cons, List.length_nil] at h3
   split at h
   ·rename_i heq
    cases h; exact body_at hP (expr_pos hP n) (expr_at hP n) h3 heq
   ·split at h
    ·rename_i hn
     cases h; exact not_at hn
    ·cases h
  ·exact body_at hP (expr_pos hP n) (expr_at hP n) hi h
theorem parse_at {d : Int} {fo : Bool} (hi : i ≤ l.length) (h : parseM d fo l (i : Int) = .error (z, a)) : AtL l a := by
 unfold parseM at h
 split at h
 ·cases h; exact at_zero
 ·split at h
  ·cases h; exact at_zero
  ·unfold readM at h
   split at h
   ·rename_i heq
    cases h; exact expr_at (par_nx d fo) 21 _ _ _ _ _ (by simpa using hi) heq
   ·split at h
    ·cases h; exact at_zero
    ·cases h
theorem parse_z {d : Int} {fo : Bool} {b : Int} (h : parseM d fo l b = .error (z, a)) : z ≠ 0 := by
 unfold parseM at h
 split at h
 ·rename_i hp
  cases h; exact hp
 ·split at h
  ·cases h; decide
  ·exact read_err h
end Go.Proofs.YtklbbbldalmnbaaGreatDoor.Br
namespace Go.Proofs.YtklbbbldalmnbaaGreatDoor.Pa
open TR (Tr)
open Br (BE PS AtL at_zero at_of)
set_option linter.unusedVariables false
variable {l : List Int} {d z a : Int} {s s' : St}
def ErL (l : List Int) (z a : Int) : Prop := z ≠ 0 ∧ AtL l a
theorem er_of {i : Nat} (hz : z ≠ 0) (h : i ≤ l.length) : ErL l z (i : Int) := ⟨hz, at_of h⟩
theorem er_zero (hz : z ≠ 0) : ErL l z 0 := ⟨hz, at_zero⟩
def AgP (l : List Int) (s : St) : Prop := ∀ x ∈ s.agains, x.pos ≤ l.length
theorem adv_er (hn : s.next ≤ l.length) (h : advM d l s = .error (z, a)) : ErL l z a := by
 unfold advM at h
 split at h
 ·cases h
 ·split at h
  ·rename_i heq
   cases h; exact er_of (by have := TK.next_err heq; unfold TK.eOk at this; omega) hn
  ·cases h
theorem AgP.same (h : AgP l s) (h1 : s'.agains = s.agains) : AgP l s' := by unfold AgP; rw [h1]; exact h
theorem begin_at {t : ByteArray} (hp : s.pos ≤ l.length) (h : beginM s t = .error (z, a)) : ErL l z a := by
 unfold beginM at h
 split at h
 ·cases h; exact er_of (by decide) hp
 ·split at h
  ·cases h
  ·split at h
   ·cases h; exact er_of (by decide) hp
   ·cases h
theorem set_at (h : Inv' l s) (hr : setM d l s = .error (z, a)) : ErL l z a := by
 unfold setM at hr
 split at hr
 ·cases hr
 ·split at hr
  ·cases hr
  ·split at hr
   ·split at hr
    ·rename_i z' a' heq
     cases hr
     have := Br.parse_at h.inv.next heq
     have h2 := h.inv.pos
     refine ⟨Br.parse_z heq, ?_⟩
     unfold AtL at this ⊢
     omega
    ·cases hr
   ·cases hr
theorem single_at (h : Inv' l s) (hr : singleM d l s = .error (z, a)) : ErL l z a := by
 unfold singleM at hr
 split at hr
 ·cases hr
 ·split at hr
  ·unfold againM at hr
   simp only at hr
   generalize (if s.tok.num < 0 then s.tok.num + ((s.groups + 1 : Nat) : Int) else s.tok.num) = n at hr
   split at hr
   ·cases hr; exact er_of (by decide) h.inv.pos
   ·cases hr
  ·split at hr
   ·cases hr
   ·split at hr
    ·rename_i heq
     cases hr; exact set_at h heq
    ·cases hr
theorem single_agp {t : Tr} (h : Inv' l s) (hr : singleM d l s = .ok (t, s')) (hg : AgP l s) : AgP l s' := by
 unfold singleM at hr
 split at hr
 ·cases hr; exact hg
 ·split at hr
  ·unfold againM at hr
   simp only at hr
   generalize (if s.tok.num < 0 then s.tok.num + ((s.groups + 1 : Nat) : Int) else s.tok.num) = n at hr
   split at hr
   ·cases hr
   ·cases hr
    intro x hx
    rcases List.mem_append.1 hx with h1 | h1
    ·exact hg x h1
    ·rw [List.mem_singleton] at h1
     subst h1
     exact h.inv.pos
  ·split at hr
   ·cases hr; exact hg
   ·split at hr
    ·cases hr
    ·cases hr; exact hg
structure RecE (l : List Int) (dp : Nat) (rec : Rd) : Prop where
 err : ∀ fo s z a, Inv' l s → s.deep = dp → rec fo s = .error (z, a) → ErL l z a
 ags : ∀ fo s t s', Inv' l s → s.deep = dp → rec fo s = .ok (t, s') → AgP l s → AgP l s'
theorem open_at (hpe : TK.patE d l = 0) {rec : Rd} (hrg : RecG l (s.deep + 1) rec) (hre : RecE l (s.deep + 1) rec) (h : Inv' l s) (hp : s.pos < l.length) : (∀ z a, openM d l rec s = .error (z, a) → ErL l z a) ∧ (∀ t s', openM d l rec s = .ok (t, s') → AgP l s → AgP l s') := by
 unfold openM
 have h20' := h.inv.deep
 constructor
 ·intro z a hr
  split at hr
  ·cases hr; exact er_of (by decide) h.inv.pos
  ·rename_i h20
   split at hr
   ·rename_i e heq1
    cases hr
    split at heq1
    ·exact begin_at h.inv.pos heq1
    ·cases heq1
   ·rename_i s1 heq1
    have hs1 : InvA l s1 ∧ s1.deep = s.deep := by
     split at heq1
     ·obtain ⟨a, b, c, e, _⟩ := begin_inv h.toA heq1
      exact ⟨a, e⟩
     ·cases heq1; exact ⟨h.toA, rfl⟩
    split at hr
    ·rename_i heq2
     cases hr; exact adv_er hs1.1.next heq2
    ·rename_i s2 heq2
     obtain ⟨i2, p2, _, d2, g2, n2, a2⟩ := adv_inv hpe hs1.1 heq2
     have i2' : Inv' l { s2 with deep := s2.deep + 1 } := ⟨⟨i2.inv.pos, i2.inv.next, i2.inv.on, i2.inv.off, i2.inv.ags, i2.inv.nms, i2.inv.grp, by show s2.deep + 1 ≤ 20; omega⟩, i2.pn⟩
     have hd2 : ({ s2 with deep := s2.deep + 1 } : St).deep = s.deep + 1 := by show s2.deep + 1 = _; omega
     split at hr
     ·rename_i heq3
      cases hr; exact hre.err _ _ _ _ i2' hd2 heq3
     ·rename_i t3 s3 heq3
      have hg := hrg _ _ _ _ i2' hd2 heq3
      split at hr
      ·cases hr; exact er_of (by decide) hg.inv.inv.pos
      ·split at hr
       ·rename_i heq4
        cases hr; exact adv_er (s := { s3 with deep := s3.deep - 1 }) hg.inv.inv.next heq4
       ·split at hr <;> cases hr
 ·intro t s' hr hag
  split at hr
  ·cases hr
  ·rename_i h20
   split at hr
   ·cases hr
   ·rename_i s1 heq1
    have hs1 : InvA l s1 ∧ s1.deep = s.deep ∧ s1.agains = s.agains := by
     split at heq1
     ·obtain ⟨a, b, c, e, _⟩ := begin_inv h.toA heq1
      exact ⟨a, e, begin_ag heq1⟩
     ·cases heq1; exact ⟨h.toA, rfl, rfl⟩
    split at hr
    ·cases hr
    ·rename_i s2 heq2
     obtain ⟨i2, p2, _, d2, g2, n2, a2⟩ := adv_inv hpe hs1.1 heq2
     have i2' : Inv' l { s2 with deep := s2.deep + 1 } := ⟨⟨i2.inv.pos, i2.inv.next, i2.inv.on, i2.inv.off, i2.inv.ags, i2.inv.nms, i2.inv.grp, by show s2.deep + 1 ≤ 20; omega⟩, i2.pn⟩
     have hd2 : ({ s2 with deep := s2.deep + 1 } : St).deep = s.deep + 1 := by show s2.deep + 1 = _; omega
     split at hr
     ·cases hr
     ·rename_i t3 s3 heq3
      have h3 := hre.ags _ _ _ _ i2' hd2 heq3 (hag.same (a2.trans hs1.2.2))
      split at hr
      ·cases hr
      ·split at hr
       ·cases hr
       ·rename_i s4 heq4
        have h4 : s4.agains = s3.agains := adv_ag (s := { s3 with deep := s3.deep - 1 }) heq4
        split at hr
        ·cases hr; exact h3.same h4
        ·cases hr; exact h3.same h4
theorem atom_at (hpe : TK.patE d l = 0) {rec : Rd} (hrg : RecG l (s.deep + 1) rec) (hre : RecE l (s.deep + 1) rec) (h : Inv' l s) (hp : s.pos < l.length) : (∀ z a, atomM d l rec s = .error (z, a) → ErL l z a) ∧ (∀ t s', atomM d l rec s = .ok (t, s') → AgP l s → AgP l s') := by
 unfold atomM
 constructor
 ·intro z a hr
  split at hr
  ·cases hr; exact er_of (by decide) h.inv.pos
  ·split at hr
   ·exact (open_at hpe hrg hre h hp).1 z a hr
   ·split at hr
    ·rename_i heq
     cases hr; exact single_at h heq
    ·rename_i t1 s1 heq
     split at hr
     ·rename_i heq2
      cases hr; exact adv_er (single_inv hpe h hp heq).1.next heq2
     ·cases hr
 ·intro t s' hr hag
  split at hr
  ·cases hr
  ·split at hr
   ·exact (open_at hpe hrg hre h hp).2 t s' hr hag
   ·split at hr
    ·cases hr
    ·rename_i t1 s1 heq
     split at hr
     ·cases hr
     ·rename_i s2 heq2
      cases hr
      exact (single_agp h heq hag).same (adv_ag heq2)
theorem reps_at (hpe : TK.patE d l = 0) {may : Bool} : ∀ (n ahead : Nat) (t : Tr) (s : St), Inv' l s → (∀ z a, repsM d l may n ahead t s = .error (z, a) → ErL l z a) ∧ (∀ t' s', repsM d l may n ahead t s = .ok (t', s') → AgP l s → AgP l s')
 | 0, ahead, t, s, hi => ⟨fun z a hr => (by cases hr), fun t' s' hr hag => (by cases hr; exact hag)⟩
 | n + 1, ahead, t, s, hi => by
  unfold repsM
  constructor
  ·intro z a hr
   split at hr
   ·split at hr
    ·cases hr; exact er_of (by decide) hi.inv.pos
    ·split at hr
     ·cases hr; exact er_of (by decide) hi.inv.pos
     ·split at hr
      ·rename_i heq
       cases hr; exact adv_er hi.inv.next heq
      ·rename_i s1 heq
       exact (reps_at hpe n (ahead + 1) _ s1 (adv_inv hpe hi.toA heq).1).1 z a hr
   ·cases hr
  ·intro t' s' hr hag
   split at hr
   ·split at hr
    ·cases hr
    ·split at hr
     ·cases hr
     ·split at hr
      ·cases hr
      ·rename_i s1 heq
       exact (reps_at hpe n (ahead + 1) _ s1 (adv_inv hpe hi.toA heq).1).2 t' s' hr (hag.same (adv_ag heq))
   ·cases hr; exact hag
theorem piece_at (hpe : TK.patE d l = 0) {rec : Rd} (hrg : RecG l (s.deep + 1) rec) (hre : RecE l (s.deep + 1) rec) (h : Inv' l s) (hp : s.pos < l.length) : (∀ z a, pieceM d l rec s = .error (z, a) → ErL l z a) ∧ (∀ t s', pieceM d l rec s = .ok (t, s') → AgP l s → AgP l s') := by
 unfold pieceM
 constructor
 ·intro z a hr
  split at hr
  ·rename_i heq
   cases hr; exact (atom_at hpe hrg hre h hp).1 _ _ heq
  ·rename_i t1 s1 heq
   exact (reps_at hpe _ _ _ _ (atom_inv hpe hrg h hp heq).1.inv).1 z a hr
 ·intro t s' hr hag
  split at hr
  ·cases hr
  ·rename_i t1 s1 heq
   exact (reps_at hpe _ _ _ _ (atom_inv hpe hrg h hp heq).1.inv).2 t s' hr ((atom_at hpe hrg hre h hp).2 _ _ heq hag)
theorem pieces_at (hpe : TK.patE d l = 0) {rec : Rd} {dp : Nat} (hrg : RecG l (dp + 1) rec) (hre : RecE l (dp + 1) rec) : ∀ (n : Nat) (ps : List Tr) (s : St), Inv' l s → s.deep = dp → (∀ z a, piecesM d l rec n ps s = .error (z, a) → ErL l z a) ∧ (∀ ps' s', piecesM d l rec n ps s = .ok (ps', s') → AgP l s → AgP l s')
 | 0, ps, s, hi, hd => ⟨fun z a hr => (by cases hr), fun ps' s' hr hag => (by cases hr; exact hag)⟩
 | n + 1, ps, s, hi, hd => by
  unfold piecesM
  have hrg' : RecG l (s.deep + 1) rec := by rw [hd]; exact hrg
  have hre' : RecE l (s.deep + 1) rec := by rw [hd]; exact hre
  constructor
  ·intro z a hr
   split at hr
   ·cases hr
   ·rename_i hend
    have hp : s.pos < l.length := by
     have h1 := hi.inv.pos
     have h2 : s.pos ≠ l.length := fun e => hend (by unfold endM; simp [e])
     omega
    split at hr
    ·rename_i heq
     cases hr; exact (piece_at hpe hrg' hre' hi hp).1 _ _ heq
    ·rename_i t s1 heq
     obtain ⟨b, _⟩ := piece_inv hpe hrg' hi hp heq
     exact (pieces_at hpe hrg hre n _ s1 b.inv (b.deep.trans hd)).1 z a hr
  ·intro ps' s' hr hag
   split at hr
   ·cases hr; exact hag
   ·rename_i hend
    have hp : s.pos < l.length := by
     have h1 := hi.inv.pos
     have h2 : s.pos ≠ l.length := fun e => hend (by unfold endM; simp [e])
     omega
    split at hr
    ·cases hr
    ·rename_i t s1 heq
     obtain ⟨b, _⟩ := piece_inv hpe hrg' hi hp heq
     exact (pieces_at hpe hrg hre n _ s1 b.inv (b.deep.trans hd)).2 ps' s' hr ((piece_at hpe hrg' hre' hi hp).2 _ _ heq hag)
theorem branch_at (hpe : TK.patE d l = 0) {rec : Rd} (hrg : RecG l (s.deep + 1) rec) (hre : RecE l (s.deep + 1) rec) (h : Inv' l s) : (∀ z a, branchM d l rec s = .error (z, a) → ErL l z a) ∧ (∀ t s', branchM d l rec s = .ok (t, s') → AgP l s → AgP l s') := by
 unfold branchM
 constructor
 ·intro z a hr
  split at hr
  ·rename_i heq
   cases hr; exact (pieces_at hpe hrg hre _ _ _ h rfl).1 _ _ heq
  ·cases hr
 ·intro t s' hr hag
  split at hr
  ·cases hr
  ·rename_i heq
   cases hr; exact (pieces_at hpe hrg hre _ _ _ h rfl).2 _ _ heq hag
theorem bars_at (hpe : TK.patE d l = 0) {rec : Rd} {dp : Nat} (hrg : RecG l (dp + 1) rec) (hre : RecE l (dp + 1) rec) : ∀ (n : Nat) (bs : List Tr) (s : St), Inv' l s → s.deep = dp → (∀ z a, barsM d l rec n bs s = .error (z, a) → ErL l z a) ∧ (∀ bs' s', barsM d l rec n bs s = .ok (bs', s') → AgP l s → AgP l s')
 | 0, bs, s, hi, hd => ⟨fun z a hr => (by cases hr), fun bs' s' hr hag => (by cases hr; exact hag)⟩
 | n + 1, bs, s, hi, hd => by
  unfold barsM
  constructor
  ·intro z a hr
   split at hr
   ·split at hr
    ·rename_i heq
     cases hr; exact adv_er hi.inv.next heq
    ·rename_i s1 heq1
     obtain ⟨i2, p2, _, d2, _, _, a2⟩ := adv_inv hpe hi.toA heq1
     have hd1 : s1.deep = dp := d2.trans hd
     have hrg' : RecG l (s1.deep + 1) rec := by rw [hd1]; exact hrg
     have hre' : RecE l (s1.deep + 1) rec := by rw [hd1]; exact hre
     split at hr
     ·rename_i heq2
      cases hr; exact (branch_at hpe hrg' hre' i2).1 _ _ heq2
     ·rename_i t s2 heq2
      have hg := branch_inv hpe hrg' i2 heq2
      exact (bars_at hpe hrg hre n _ s2 hg.inv (hg.deep.trans hd1)).1 z a hr
   ·cases hr
  ·intro bs' s' hr hag
   split at hr
   ·split at hr
    ·cases hr
    ·rename_i s1 heq1
     obtain ⟨i2, p2, _, d2, _, _, a2⟩ := adv_inv hpe hi.toA heq1
     have hd1 : s1.deep = dp := d2.trans hd
     have hrg' : RecG l (s1.deep + 1) rec := by rw [hd1]; exact hrg
     have hre' : RecE l (s1.deep + 1) rec := by rw [hd1]; exact hre
     split at hr
     ·cases hr
     ·rename_i t s2 heq2
      have hg := branch_inv hpe hrg' i2 heq2
      exact (bars_at hpe hrg hre n _ s2 hg.inv (hg.deep.trans hd1)).2 bs' s' hr ((branch_at hpe hrg' hre' i2).2 _ _ heq2 (hag.same a2))
   ·cases hr; exact hag
theorem branchesG_at (hpe : TK.patE d l = 0) {rec : Rd} {dp : Nat} (hrg : RecG l (dp + 1) rec) (hre : RecE l (dp + 1) rec) : RecE l dp (branchesG d l rec) := by
 constructor
 ·intro fo s z a h hd hr
  unfold branchesG at hr
  have hrg' : RecG l (({ s with folded := fo } : St).deep + 1) rec := by show RecG l (s.deep + 1) rec; rw [hd]; exact hrg
  have hre' : RecE l (({ s with folded := fo } : St).deep + 1) rec := by show RecE l (s.deep + 1) rec; rw [hd]; exact hre
  split at hr
  ·rename_i heq
   cases hr; exact (branch_at hpe hrg' hre' (inv_folded h fo)).1 _ _ heq
  ·rename_i t1 s1 heq1
   have h1 := branch_inv hpe hrg' (inv_folded h fo) heq1
   split at hr
   ·rename_i heq2
    cases hr; exact (bars_at hpe hrg hre _ _ _ h1.inv (h1.deep.trans hd)).1 _ _ heq2
   ·cases hr
 ·intro fo s t s' h hd hr hag
  unfold branchesG at hr
  have hrg' : RecG l (({ s with folded := fo } : St).deep + 1) rec := by show RecG l (s.deep + 1) rec; rw [hd]; exact hrg
  have hre' : RecE l (({ s with folded := fo } : St).deep + 1) rec := by show RecE l (s.deep + 1) rec; rw [hd]; exact hre
  split at hr
  ·cases hr
  ·rename_i t1 s1 heq1
   have h1 := branch_inv hpe hrg' (inv_folded h fo) heq1
   have g1 := (branch_at hpe hrg' hre' (inv_folded h fo)).2 _ _ heq1 (hag.same rfl)
   split at hr
   ·cases hr
   ·rename_i bs s2 heq2
    cases hr
    exact ((bars_at hpe hrg hre _ _ _ h1.inv (h1.deep.trans hd)).2 _ _ heq2 g1).same rfl
theorem branchesF_at (hpe : TK.patE d l = 0) : ∀ (n dp : Nat), RecE l dp (branchesF d l n)
 | 0, dp => ⟨fun fo s z a _ _ hr => (by cases hr; exact er_zero (by decide)), fun fo s t s' _ _ hr _ => (by cases hr)⟩
 | n + 1, dp => branchesG_at hpe (branchesF_inv hpe n (dp + 1)) (branchesF_at hpe n (dp + 1))
theorem nums_err {names : List Nm} {gr : Nat} : ∀ (A : List Ag), (∀ x ∈ A, x.pos ≤ l.length) → numsM names gr A = .error (z, a) → ErL l z a
 | [], hA, h => by cases h
 | x :: A, hA, h => by
  unfold numsM at h
  simp only at h
  generalize (if x.name.toList = [] then x.num else (match names.find? (fun m => m.1.toList == x.name.toList) with | some m => m.2 | none => 0)) = n at h
  split at h
  ·cases h; exact er_of (by decide) (hA x (by simp))
  ·split at h
   ·rename_i heq
    cases h; exact nums_err A (fun y hy => hA y (by simp [hy])) heq
   ·cases h
theorem pat_at {big : Tr → Bool} {fo : Bool} (h : patM big d fo l = .error (z, a)) : ErL l z a := by
 unfold patM at h
 split at h
 ·rename_i hp
  cases h; exact er_zero hp
 ·rename_i hpe
  have hpe : TK.patE d l = 0 := by omega
  have i0 : InvA l {} := ⟨Nat.zero_le _, Nat.le_refl _, Nat.le_refl _, Nat.zero_le _, Nat.zero_le _⟩
  unfold wholeM at h
  split at h
  ·rename_i heq
   cases h; exact adv_er i0.next heq
  ·rename_i s0 heq0
   obtain ⟨i1, _, _, d0, g0, n0, a0⟩ := adv_inv hpe i0 heq0
   split at h
   ·rename_i heq
    cases h; exact (branchesF_at hpe 21 0).err _ _ _ _ i1 d0 heq
   ·rename_i t s heq
    have hg := (branchesF_at hpe 21 0).ags _ _ _ _ i1 d0 heq (by unfold AgP; rw [a0]; exact fun x hx => by cases hx)
    split at h
    ·cases h; exact er_of (by decide) (branchesF_inv hpe 21 0 _ _ _ _ i1 d0 heq).inv.inv.pos
    ·split at h
     ·rename_i heq2
      cases h; exact nums_err _ hg heq2
     ·split at h
      ·cases h; exact er_zero (by decide)
      ·cases h
end Go.Proofs.YtklbbbldalmnbaaGreatDoor.Pa
