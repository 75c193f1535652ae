import Derived.Test.YtaccofiegkdlgaaGreatDoorKM
import Derived.Test.YtaccofiegkdlgaaGreatDoorKR
import Derived.Test.YtaccofiegkdlgaaGreatDoorKL
import Derived.Test.YtaccofiegkdlgaaGreatDoorKT
import Derived.Test.YtaccofiegkdlgaaGreatDoorKV
namespace Go.Proofs.YtaccofiegkdlgaaGreatDoor.Br
open Go.RowKit
open TK (Mv PatV ReadsI)
set_option linter.unusedVariables false
def wordOf : Except Int (TK.Tok × Nat) → Except Int (Wd × Nat)
 | .error z => .error z
 | .ok (t, k) => if t.kind = 1 then .ok (.pt t.num, k) else if t.kind = 4 then .ok (.cls t.text t.neg, k) else .error 1
theorem cdec {p : Prop} : @decide p (Classical.propDecidable p) = true ↔ p := @decide_eq_true_iff p (Classical.propDecidable p)
noncomputable def manyB (f : PS) : Bool := @decide (∃ S, IsSet f S ∧ 400 < S.length) (Classical.propDecidable _)
noncomputable def fldB (f : PS) : PS := fun q => @decide (∃ A, IsSet f A ∧ foldF A q = true) (Classical.propDecidable _)
noncomputable def par (d : Int) (fo : Bool) : Par where
 ruby := d == 1
 folded := fo
 nx := fun l i => wordOf (TK.nextT 1 l i)
 cl := fun s => @ite _ (s ∈ names) (Classical.propDecidable _) (.ok (ins (rngOf s))) (.error 5)
 many := manyB
 fld := fldB
theorem many_of {f : PS} {S : RL} (h : IsSet f S) : manyB f = decide (400 < S.length) := by
 unfold manyB
 rw [Bool.eq_iff_iff, cdec, decide_eq_true_iff]
 constructor
 ·rintro ⟨T, hT, hl⟩; rw [isSet_one h hT]; exact hl
 ·intro hl; exact ⟨S, h, hl⟩
theorem fld_of {f : PS} {S : RL} (h : IsSet f S) (q : Int) : fldB f q = foldF S q := by
 unfold fldB
 rw [Bool.eq_iff_iff, cdec]
 constructor
 ·rintro ⟨T, hT, hl⟩; rw [isSet_one h hT]; exact hl
 ·intro hl; exact ⟨S, h, hl⟩
theorem many_congr {f g : PS} (h : ∀ q, 0 ≤ q → q ≤ 1114111 → f q = g q) : manyB f = manyB g := by
 unfold manyB
 rw [Bool.eq_iff_iff, cdec, cdec]
 exact ⟨fun ⟨S, a, b⟩ => ⟨S, isSet_congr a h, b⟩, fun ⟨S, a, b⟩ => ⟨S, isSet_congr a fun q h0 h1 => (h q h0 h1).symm, b⟩⟩
theorem ins_of_set {f : PS} {S : RL} (h : IsSet f S) {q : Int} (h0 : 0 ≤ q) (h1 : q ≤ 1114111) : ins S q = f q := by rw [h.2 q]; simp [h0, h1]
theorem digsS_rng {base : Int} (hb : base = 10 ∨ base = 16) : ∀ (k : Nat) (l : List Int) (n : Int) (c : Nat), 0 ≤ n → 0 ≤ (TK.digsS base k l n c).1 ∧ (TK.digsS base k l n c).1 < (n + 1) * 16 ^ k
 | 0, l, n, c, h => by simp only [TK.digsS]; omega
 | k + 1, [], n, c, h => by
  simp only [TK.digsS]
  have : (0 : Int) < 16 ^ (k + 1) := Int.pow_pos (by omega)
  refine ⟨h, ?_⟩
  have h2 : (n + 1) * 1 ≤ (n + 1) * 16 ^ (k + 1) := Int.mul_le_mul_of_nonneg_left (by omega) (by omega)
  omega
 | k + 1, p :: t, n, c, h => by
  unfold TK.digsS
  have hd := TK.digV_rng p
  split
  ·rename_i hlt
   have h0 : 0 ≤ n * base + TK.digV p := by rcases hb with rfl | rfl <;> omega
   obtain ⟨a, b⟩ := digsS_rng hb k t (n * base + TK.digV p) (c + 1) h0
   refine ⟨a, ?_⟩
   have e1 : n * base + TK.digV p + 1 ≤ (n + 1) * 16 := by rcases hb with rfl | rfl <;> omega
   have hp : (0 : Int) ≤ 16 ^ k := Int.le_of_lt (Int.pow_pos (by omega))
   have e2 := Int.mul_le_mul_of_nonneg_right e1 hp
   have e3 : (n + 1) * 16 * 16 ^ k = (n + 1) * 16 ^ (k + 1) := by rw [Int.pow_succ, Int.mul_assoc, Int.mul_comm 16]
   omega
  ·have : (0 : Int) < 16 ^ (k + 1) := Int.pow_pos (by omega)
   refine ⟨h, ?_⟩
   have h2 : (n + 1) * 1 ≤ (n + 1) * 16 ^ (k + 1) := Int.mul_le_mul_of_nonneg_left (by omega) (by omega)
   simp only
   omega
theorem dig_rng (base : Int) (most : Nat) (l : List Int) (i : Nat) (hb : base = 10 ∨ base = 16) : 0 ≤ (TK.digs base most l i).1 ∧ (TK.digs base most l i).1 < 16 ^ most := by
 have := digsS_rng hb most (l.drop i) 0 0 (by omega)
 simpa [TK.digs] using this
theorem point_ok {l : List Int} {i : Nat} {t : TK.Tok} {k : Nat} (hl : ∀ p ∈ l, 0 ≤ p ∧ p ≤ 1114111) (h92 : isAt l i [92] = true) (h : TK.nextT 1 l i = .ok (t, k)) (hk : t.kind = 1) : 0 ≤ t.num ∧ t.num ≤ 1114111 := by
 rw [isAt_says, TK.says_one] at h92
 have h92 : l[i]? = some 92 := by simpa using h92
 unfold TK.nextT at h
 rw [h92] at h
 simp only [TK.tokT, if_true] at h
 unfold TK.escT at h
 cases hp : l[i + 1]? with
 | none => rw [hp] at h; cases h
 | some p =>
  rw [hp] at h
  have hpm := hl p (List.mem_of_getElem? hp)
  simp only [if_true] at h
  unfold TK.rubyT at h
  split at h
  ·simp only [Except.ok.injEq, Prod.mk.injEq] at h
   rw [← h.1] at hk
   simp [TK.classT] at hk
  ·split at h
   ·simp only [Except.ok.injEq, Prod.mk.injEq] at h; rw [← h.1] at hk; simp [TK.lookT] at hk
   split at h
   ·simp only [Except.ok.injEq, Prod.mk.injEq] at h; rw [← h.1] at hk; simp [TK.lookT] at hk
   split at h
   ·simp only [Except.ok.injEq, Prod.mk.injEq] at h; rw [← h.1] at hk; simp [TK.lookT] at hk
   split at h
   ·simp only [Except.ok.injEq, Prod.mk.injEq] at h; rw [← h.1] at hk; simp [TK.lookT] at hk
   split at h
   ·-- hex
    unfold TK.hexT at h
    simp only at h
    split at h
    ·split at h
     ·cases h
     ·simp only [Except.ok.injEq, Prod.mk.injEq] at h
      rw [← h.1]
      simp only [TK.pointT]
      have hb := dig_rng 16 2 l (i + 1 + 1) (Or.inr rfl)
      omega
    ·split at h
     ·cases h
     ·split at h
      ·cases h
      ·split at h
       ·cases h
       ·simp only [Except.ok.injEq, Prod.mk.injEq] at h
        rw [← h.1]
        simp only [TK.pointT]
        have hb := dig_rng 16 6 l (i + 1 + 1 + 1) (Or.inr rfl)
        omega
   split at h
   ·unfold TK.uniT at h
    simp only at h
    split at h
    ·cases h
    ·simp only [Except.ok.injEq, Prod.mk.injEq] at h
     rw [← h.1]
     simp only [TK.pointT]
     have hb := dig_rng 16 4 l (i + 1 + 1) (Or.inr rfl)
     omega
   split at h
   ·-- again by a bracket
    unfold TK.agbT at h
    simp only at h
    repeat' split at h
    all_goals first | cases h; done | (simp only [Except.ok.injEq, Prod.mk.injEq] at h; rw [← h.1] at hk; simp [TK.againT] at hk)
   split at h
   ·unfold TK.agdT at h
    simp only at h
    split at h <;> (simp only [Except.ok.injEq, Prod.mk.injEq] at h; rw [← h.1] at hk; simp [TK.againT] at hk)
   ·split at h
    ·rename_i q hq
     simp only [Except.ok.injEq, Prod.mk.injEq] at h
     rw [← h.1]
     simp only [TK.pointT]
     unfold TK.ctlT at hq
     repeat' split at hq
     all_goals first | cases hq; done | (simp only [Except.ok.injEq] at hq; omega)
    ·cases h
end Go.Proofs.YtaccofiegkdlgaaGreatDoor.Br
namespace Go.Proofs.YtaccofiegkdlgaaGreatDoor.Br
set_option maxHeartbeats 2000000
open Go.RowKit
open TK (Mv PatV ReadsI byteA)
set_option linter.unusedVariables false
variable {w w' : World} {b : Nat} {v : Value} {l : List Int} {i : Nat} {d : Int} {fo : Bool}
theorem checkE_canon {A : RL} (h : Canon A) : checkE A = if 400 < A.length then 2 else 0 := by
 by_cases hl : 400 < A.length
 ·rw [if_pos hl]
  have : rightE A = 2 := by unfold rightE; rw [if_pos hl]
  rw [checkE_bad (by rw [this]; decide), this]
 ·rw [if_neg hl]
  exact checkE_ok.2 ⟨by omega, h⟩
theorem check_set {f : PS} {A : RL} (h : IsSet f A) : checkE A = if manyB f then 2 else 0 := by
 rw [checkE_canon h.1, many_of h]
 by_cases hl : 400 < A.length <;> simp [hl]
theorem check_two {f g : PS} {A B : RL} (h : IsSet f A) (h' : IsSet g B) : chk2 A B = if manyB f || manyB g then 2 else 0 := by
 unfold chk2
 rw [check_set h, check_set h']
 cases manyB f <;> cases manyB g <;> simp
theorem bridge {g g' : PS} {c err : Int} {O : RL} {m : Bool} (h : Made g c err O) (hg : ∀ q, 0 ≤ q → q ≤ 1114111 → g q = g' q) (hc : c = if m then 2 else 0) : ((m || manyB g') = true ∧ err = 2) ∨ ((m || manyB g') = false ∧ err = 0 ∧ IsSet g' O) := by
 rcases h with ⟨h1, h2, h3⟩ | ⟨h1, S, hS, ⟨h2, h3, h4⟩ | ⟨h2, h3, h4⟩⟩
 ·cases m
  ·rw [hc] at h1; exact absurd rfl h1
  ·exact .inl ⟨rfl, by rw [h2, hc]; rfl⟩
 ·subst h4
  have hS' := isSet_congr hS hg
  cases m
  ·exact .inr ⟨by rw [many_of hS']; simp; omega, h3, hS'⟩
  ·rw [hc] at h1; simp at h1
 ·have hS' := isSet_congr hS hg
  cases m
  ·exact .inl ⟨by rw [many_of hS']; simp; omega, h3⟩
  ·exact .inl ⟨rfl, h3⟩
theorem bridge_not {f : PS} {A O : RL} {err : Int} (hA : IsSet f A) (h : Made (fun q => !ins A q) (checkE A) err O) : (notE (par d fo) f = .error (2, 0) ∧ err = 2) ∨ (notE (par d fo) f = .ok (fun q => !f q) ∧ err = 0 ∧ IsSet (fun q => !f q) O) := by
 rcases bridge h (g' := fun q => !f q) (fun q h0 h1 => by show (!ins A q) = (!f q); rw [ins_of_set hA h0 h1]) (check_set hA) with ⟨h1, h2⟩ | ⟨h1, h2, h3⟩
 ·exact .inl ⟨by unfold notE; exact if_pos h1, h2⟩
 ·exact .inr ⟨by unfold notE; exact if_neg (by rw [show ((par d fo).many f || (par d fo).many fun q => !f q) = false from h1]; simp), h2, h3⟩
theorem bridge_meet {f g : PS} {A B O : RL} {err : Int} (hA : IsSet f A) (hB : IsSet g B) (h : Made (fun q => ins A q && ins B q) (chk2 A B) err O) : (meetE (par d fo) f g = .error (2, 0) ∧ err = 2) ∨ (meetE (par d fo) f g = .ok (fun q => f q && g q) ∧ err = 0 ∧ IsSet (fun q => f q && g q) O) := by
 rcases bridge h (g' := fun q => f q && g q) (fun q h0 h1 => by show (ins A q && ins B q) = (f q && g q); rw [ins_of_set hA h0 h1, ins_of_set hB h0 h1]) (check_two hA hB) with ⟨h1, h2⟩ | ⟨h1, h2, h3⟩
 ·exact .inl ⟨by unfold meetE; exact if_pos h1, h2⟩
 ·exact .inr ⟨by unfold meetE; exact if_neg (by rw [show ((par d fo).many f || (par d fo).many g || (par d fo).many fun q => f q && g q) = false from h1]; simp), h2, h3⟩
theorem bridge_fold {f : PS} {A O : RL} {err : Int} (hA : IsSet f A) (h : Made (foldF A) (checkE A) err O) : (foldE (par d fo) f = .error (2, 0) ∧ err = 2) ∨ (foldE (par d fo) f = .ok (fldB f) ∧ err = 0 ∧ IsSet (fldB f) O) := by
 rcases bridge h (g' := fldB f) (fun q h0 h1 => (fld_of hA q).symm) (check_set hA) with ⟨h1, h2⟩ | ⟨h1, h2, h3⟩
 ·exact .inl ⟨by unfold foldE; exact if_pos h1, h2⟩
 ·exact .inr ⟨by unfold foldE; exact if_neg (by rw [show ((par d fo).many f || (par d fo).many ((par d fo).fld f)) = false from h1]; simp), h2, h3⟩
def OR (w : World) (B : Nat) (sv : Value) (L : RL) : Prop := w.ownsRow B 66 2 sv L.length (cells2 L)
theorem OR.reads {B : Nat} {sv : Value} {L : RL} (h : OR w B sv L) : Reads w sv L := own_reads h
theorem OR.shape {B : Nat} {sv : Value} {L : RL} (h : OR w B sv L) : ∃ ao c, sv = .slice ao L.length c := own_shape (show w.ownsRow B 66 2 sv L.length (cells2 L) from h)
theorem OR.low {B B' : Nat} {sv : Value} {L : RL} (h : OR w B' sv L) (hb : B ≤ B') : OR w B sv L := own_low (show w.ownsRow B' 66 2 sv L.length (cells2 L) from h) hb
theorem OR.below {B : Nat} {sv : Value} {L : RL} (h : OR w B sv L) (hb : Below w.heap.size w w') : OR w' B sv L := own_below (show w.ownsRow B 66 2 sv L.length (cells2 L) from h) hb
theorem OR.mv {B : Nat} {sv : Value} {L : RL} (h : OR w B sv L) (hm : Mv b w w') (hb : b < B) : OR w' B sv L := by
 obtain ⟨h1, h2⟩ := (show w.ownsRow B 66 2 sv L.length (cells2 L) from h)
 refine ⟨h1, ?_⟩
 rcases h2 with h | ⟨g, cap, cur, rfl, hg, hh, hn, hm', hs, ht⟩
 ·exact .inl h
 ·exact .inr ⟨g, cap, cur, rfl, hg, by rw [hm.block g (lt_of_block hh) (by omega)]; exact hh, hn, hm', hs, ht⟩
def SetE (R : Except BE PS) (w : World) (e : Ending) (w' : World) : Prop :=
 (∃ f sv L, R = .ok f ∧ e = .returned sv ∧ OR w' w.heap.size sv L ∧ IsSet f L ∧ Below w.heap.size w w') ∨ (∃ z a, R = .error (z, a) ∧ e = givesF z a ∧ Below w.heap.size w w')
theorem pointsOf_any (s : ByteArray) (no : Bool) (a : Int) (w : World) : Calls Tryz.prog 169 #[.string s, .bool no, .int .i64 a] w fun e w' => SetE (classE (par d fo) s no a) w e w' := by
 by_cases hs : s ∈ names
 ·have HC := hide (class_some s w hs)
  have hE : Hid (classE (par d fo) s no a = if no then notE (par d fo) (ins (rngOf s)) else .ok (ins (rngOf s))) := by show _ = _; unfold classE; simp only [par]; rw [if_pos hs]
  obtain ⟨f, hf⟩ : ∃ f, f = ins (rngOf s) := ⟨_, rfl⟩
  rw [← hf] at HC hE
  clear hs hf
  cases no with
  | false =>
   replace hE : Hid (classE (par d fo) s false a = .ok f) := by show _ = _; rw [hE.out]; rfl
   go_enter Tryz.func169, Tryz.ntmps169
   go_wp2_with fail
   refine HC.out.mono ?_
   rintro e w1 ⟨sv, L, rfl, ho, hset, hb⟩
   have hr : Hid (OR w1 w.heap.size sv L) := ho
   have HS := hide hset
   have HB := hide hb
   obtain ⟨ao, c, rfl⟩ := own_shape ho
   clear ho hset hb
   go_wp2
   go_ret
   exact .inl ⟨f, _, L, hE.out, rfl, hr.out, HS.out, HB.out⟩
  | true =>
   replace hE : Hid (classE (par d fo) s true a = notE (par d fo) f) := by show _ = _; rw [hE.out]; rfl
   go_enter Tryz.func169, Tryz.ntmps169
   go_wp2_with fail
   refine HC.out.mono ?_
   rintro e w1 ⟨sv, L, rfl, ho, hset, hb⟩
   have hr := own_reads ho
   have HN := hide (not_any sv L w1 hr)
   have HS := hide hset
   have HB := hide hb
   obtain ⟨ao, c, rfl⟩ := own_shape ho
   clear ho hset hb hr HC
   go_wp2_with fail
   refine HN.out.mono ?_
   rintro e w2 ⟨v2, err, O, rfl, hr2, hm2, hb2⟩
   have HB2 := hide (HB.out.trans (hb2.mono HB.out.size))
   obtain ⟨ao2, c2, hv2⟩ := own_shape hr2
   have HR2 : Hid (OR w2 w.heap.size v2 O) := own_low hr2 HB.out.size
   rw [hv2] at HR2 ⊢
   obtain ⟨n2, hn2⟩ : ∃ n2, n2 = O.length := ⟨_, rfl⟩
   rw [← hn2] at HR2 ⊢
   rcases bridge_not (d := d) (fo := fo) HS.out hm2 with ⟨h1, h2⟩ | ⟨h1, h2, h3⟩
   ·have HE := hide (hE.out.trans h1)
    rw [h2]
    have HM := hide (made_no ao2 n2 c2 2 (by decide) w2)
    simp only [givesF] at HM
    clear h1 h2 hm2 hr2 hv2 hb2 hE HN HR2 hn2
    go_wp2_with fail
    refine HM.out.mono ?_
    rintro e w3 ⟨rfl, rfl⟩
    go_wp2
    exact ⟨rfl, .inr ⟨2, 0, HE.out, rfl, HB2.out⟩⟩
   ·have HE := hide (hE.out.trans h1)
    rw [h2]
    have HM := hide (made_ok ao2 n2 c2 w2)
    have H3 := hide h3
    clear h1 h2 hm2 hr2 hv2 hb2 hE HN h3 hn2
    go_wp2_with fail
    refine HM.out.mono ?_
    rintro e w3 ⟨rfl, rfl⟩
    go_wp2
    go_ret
    exact .inl ⟨_, _, O, HE.out, rfl, HR2.out, H3.out, HB2.out⟩
 ·have HC := hide (class_none s w hs)
  have hE : Hid (classE (par d fo) s no a = .error (5, a)) := by show _ = _; unfold classE; simp only [par]; rw [if_neg hs]
  clear hs
  go_enter Tryz.func169, Tryz.ntmps169
  go_wp2_with fail
  refine HC.out.mono ?_
  rintro e w1 ⟨rfl, hb⟩
  have HB := hide hb
  have HM := hide (giveUp_any 5 a w1)
  simp only [givesF] at HM
  clear hb HC
  go_wp2_with fail
  refine HM.out.mono ?_
  rintro e w3 ⟨rfl, rfl⟩
  go_wp2
  exact ⟨rfl, .inr ⟨5, a, hE.out, rfl, HB.out⟩⟩
def OutS (R : Except BE (PS × Nat)) (b : Nat) (v : Value) (l : List Int) (i : Nat) (d : Int) (fo : Bool) (w : World) (e : Ending) (w' : World) : Prop :=
 (∃ f k sv L, R = .ok (f, k) ∧ e = .returned sv ∧ OR w' w.heap.size sv L ∧ IsSet f L ∧ BB w' b v l k d fo ∧ i < k ∧ Mv b w w') ∨ (∃ z a, R = .error (z, a) ∧ e = givesF z a ∧ Mv b w w')
theorem Mv.then {w1 : World} (h : Mv b w w1) (hb : Below w1.heap.size w1 w') : Mv b w w' := h.trans (Mv.of_below hb)
theorem letters_one {s : ByteArray} : (s.toList = [] → s.toList.isEmpty = true) ∧ (¬ s.toList = [] → s.toList.isEmpty = false) := by
 constructor
 ·intro h; rw [h]; rfl
 ·intro h
  cases hh : s.toList with
  | nil => exact absurd hh h
  | cons _ _ => rfl
theorem named_err {no : Bool} {j n : Nat} (hno : no = ((par d fo).ruby && isAt l (i + 2) [94])) (hj : j = if no then i + 3 else i + 2) (hn : n = (lettersL l j).length) (h : lettersL l j = [] ∨ isAt l (j + n) [58, 93] = false) : namedE (par d fo) l i = .error (1, ((j + n : Nat) : Int)) := by
 subst hno hj hn
 unfold namedE
 exact if_pos h
theorem named_ok {no : Bool} {j n : Nat} (hno : no = ((par d fo).ruby && isAt l (i + 2) [94])) (hj : j = if no then i + 3 else i + 2) (hn : n = (lettersL l j).length) (h : ¬ lettersL l j = []) (h2 : isAt l (j + n) [58, 93] = true) : namedE (par d fo) l i = match classE (par d fo) (byteA (lettersL l j)) no i with | .error e => .error e | .ok f => .ok (f, j + n + 2) := by
 subst hno hj hn
 unfold namedE
 exact if_neg (by rw [h2]; simpa using h)
end Go.Proofs.YtaccofiegkdlgaaGreatDoor.Br
