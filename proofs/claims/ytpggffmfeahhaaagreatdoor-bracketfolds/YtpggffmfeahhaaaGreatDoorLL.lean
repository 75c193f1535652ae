/- An expression without '^' and '&', folded, against itself unfolded: the reader. No program. -/
import Derived.Test.YtpggffmfeahhaaaGreatDoorLK
namespace Go.Proofs.YtpggffmfeahhaaaGreatDoor.Br
set_option linter.unusedVariables false
set_option maxRecDepth 100000
variable {l : List Int} {i : Nat} {d : Int}

theorem at_len {k : Nat} {s : List Int} (h : isAt l k s = true) (hs : s ≠ []) : k + s.length ≤ l.length := by
  rw [isAt_says] at h
  exact TK.says_len h hs
theorem isAt_not {k : Nat} {c : Int} {s : List Int} (h : c ∉ l) : isAt l k (c :: s) = false := by
  rw [Bool.eq_false_iff]
  intro hh
  have hl := at_len hh (by simp)
  simp only [List.length_cons] at hl
  have hk : k < l.length := by omega
  by_cases e : l[k] = c
  · exact h (e ▸ List.getElem_mem hk)
  · rw [isAt_ne (List.getElem?_eq_getElem hk) e] at hh
    cases hh
theorem item_weak {i' k k' : Nat} {f f' : PS} (h : ItemR i k f f') (h1 : i' ≤ i) (h2 : k ≤ k') : ItemR i' k' f f' := by
  obtain ⟨D, a1, a2, a3⟩ := h
  exact ⟨D, a1, by omega, a3⟩
theorem word_ok (hl : ∀ p ∈ l, 0 ≤ p ∧ p ≤ 1114111) {fo : Bool} {x : Wd} {k : Nat} (h : wordE (par d fo) l i = .ok (x, k)) : k ≤ l.length ∧ i < k ∧ (∀ p, x = .pt p → 0 ≤ p ∧ p ≤ 1114111) ∧ (∀ s no, x = .cls s no → i + 2 ≤ k ∧ ∃ j, j < 14 ∧ s = names.getD j Fo.nm_any ∧ mcJ j ≤ 2) := by
  unfold wordE at h
  cases hp : l[i]? with
  | none => rw [hp] at h; cases h
  | some p =>
    rw [hp] at h
    have hlt : i < l.length := (List.getElem?_eq_some_iff.1 hp).1
    simp only at h
    split at h
    · rename_i hb
      have h92 : isAt l i [92] = true := by
        rw [Bool.and_eq_true] at hb
        exact hb.2
      have hx : wordOf (TK.nextT 1 l i) = .ok (x, k) := by
        cases hn : wordOf (TK.nextT 1 l i) with
        | error e =>
          rw [show (par d fo).nx l i = wordOf (TK.nextT 1 l i) from rfl, hn] at h
          cases h
        | ok y =>
          rw [show (par d fo).nx l i = wordOf (TK.nextT 1 l i) from rfl, hn] at h
          cases h
          rfl
      obtain ⟨a, b, c⟩ := esc_len h92 hx
      refine ⟨a, by omega, fun q e => ?_, fun s no e => ⟨b, c s no e⟩⟩
      subst e
      cases hn : TK.nextT 1 l i with
      | error e => rw [hn] at hx; cases hx
      | ok y =>
        obtain ⟨t, k'⟩ := y
        rw [hn] at hx
        simp only [wordOf] at hx
        split at hx
        · rename_i hk
          simp only [Except.ok.injEq, Prod.mk.injEq, Wd.pt.injEq] at hx
          rw [← hx.1]
          exact point_ok hl h92 hn hk
        · split at hx
          · cases hx
          · cases hx
    · simp only [Except.ok.injEq, Prod.mk.injEq] at h
      obtain ⟨rfl, rfl⟩ := h
      refine ⟨by omega, by omega, fun q e => ?_, fun s no e => by cases e⟩
      simp only [Wd.pt.injEq] at e
      subst e
      exact hl _ (List.mem_of_getElem? hp)
theorem names_len : names.length = 14 := by decide +kernel
theorem mcJ_all : ((List.range 14).all fun j => decide (mcJ j ≤ 4 + (names.getD j Fo.nm_any).size) && decide (mcJ j ≤ 9)) = true := by decide +kernel
theorem mcJ_name {j : Nat} (h : j < 14) : mcJ j ≤ 4 + (names.getD j Fo.nm_any).size ∧ mcJ j ≤ 9 := by
  have := List.all_eq_true.1 mcJ_all j (List.mem_range.2 h)
  rw [Bool.and_eq_true, decide_eq_true_iff, decide_eq_true_iff] at this
  exact this
theorem cls_many {j : Nat} (h : j < 14) (no : Bool) : manyB (It.cls j no (mcJ j)).set = false := by
  have hD : ∀ t ∈ [(It.cls j no (mcJ j), false)], It.ok t.1 := fun t ht => by
    rw [List.mem_singleton] at ht
    subst ht
    exact ⟨h, Nat.le_refl _⟩
  have := (mcJ_name h).2
  have hc := count_all hD (by simp [costs, It.cost]; omega)
  rw [many_congr (g := US [(It.cls j no (mcJ j), false)]) fun q _ _ => by simp [US, fP]]
  exact hc
theorem class_ok {fo : Bool} {j : Nat} (h : j < 14) (no : Bool) (a : Int) : classE (par d fo) (names.getD j Fo.nm_any) no a = .ok (It.cls j no (mcJ j)).set := by
  have hm : names.getD j Fo.nm_any ∈ names := by
    have hj : j < names.length := by rw [names_len]; exact h
    rw [show names.getD j Fo.nm_any = names[j] by simp [List.getD, hj]]
    exact List.getElem_mem hj
  unfold classE
  rw [show (par d fo).cl (names.getD j Fo.nm_any) = .ok (ins (rngJ j)) from if_pos hm]
  simp only
  have m1 := cls_many h false
  have m2 := cls_many h true
  cases no with
  | false => rfl
  | true =>
    simp only [if_true]
    unfold notE
    rw [if_neg (by
      rw [show ((par d fo).many (ins (rngJ j)) || (par d fo).many fun q => !ins (rngJ j) q) = (manyB (It.cls j false (mcJ j)).set || manyB (It.cls j true (mcJ j)).set) from rfl, m1, m2]
      decide)]
    rfl
theorem class_cases {fo : Bool} {s : ByteArray} {no : Bool} {a : Int} {f : PS} (h : classE (par d fo) s no a = .ok f) : ∃ j, j < 14 ∧ s = names.getD j Fo.nm_any ∧ f = (It.cls j no (mcJ j)).set := by
  by_cases hm : s ∈ names
  · obtain ⟨j, hj, e⟩ := List.mem_iff_getElem.1 hm
    have hj' : j < 14 := by rw [names_len] at hj; exact hj
    have es : s = names.getD j Fo.nm_any := by exact e.symm.trans (show names.getD j Fo.nm_any = names[j] by rw [List.getD, List.getElem?_eq_getElem hj]; rfl).symm
    refine ⟨j, hj', es, ?_⟩
    rw [es, class_ok hj' no a] at h
    injection h with h
    exact h.symm
  · unfold classE at h
    rw [show (par d fo).cl s = .error 5 from if_neg hm] at h
    cases h
theorem name_ok {fo : Bool} {f : PS} {k : Nat} (h : namedE (par d fo) l i = .ok (f, k)) : i < k ∧ k ≤ l.length ∧ ItemR i k f f := by
  unfold namedE at h
  obtain ⟨no, hno⟩ : ∃ no, no = ((par d fo).ruby && isAt l (i + 2) [94]) := ⟨_, rfl⟩
  simp only [← hno] at h
  obtain ⟨j, hj⟩ : ∃ j, j = (if no = true then i + 3 else i + 2) := ⟨_, rfl⟩
  have hij : i + 2 ≤ j := by rw [hj]; split <;> omega
  rw [← hj] at h
  split at h
  · cases h
  · rename_i hb
    have he : isAt l (j + (lettersL l j).length) [58, 93] = true := by
      cases hh : isAt l (j + (lettersL l j).length) [58, 93] with
      | true => rfl
      | false => exact absurd (.inr hh) hb
    have hlen := at_len he (by simp)
    simp only [List.length_cons, List.length_nil] at hlen
    cases hc : classE (par d fo) ⟨((lettersL l j).map fun c => UInt8.ofNat c.toNat).toArray⟩ no i with
    | error e => rw [hc] at h; cases h
    | ok g =>
      rw [hc] at h
      simp only [Except.ok.injEq, Prod.mk.injEq] at h
      obtain ⟨rfl, rfl⟩ := h
      obtain ⟨q, hq, es, ef⟩ := class_cases hc
      have hm := (mcJ_name hq).1
      have hsz : (names.getD q Fo.nm_any).size = (lettersL l j).length := by
        rw [← es]
        simp [ByteArray.size]
      refine ⟨by omega, by omega, ?_⟩
      refine item_raw (t := .cls q no (mcJ q)) ⟨hq, Nat.le_refl _⟩ ?_ (fun x _ _ => by rw [ef])
      simp only [It.cost]
      omega
theorem end_ok (hl : ∀ p ∈ l, 0 ≤ p ∧ p ≤ 1114111) {fo : Bool} {p q : Int} {k m : Nat} (h : endE (par d fo) l k p = .ok (q, m)) : k < m ∧ m ≤ l.length ∧ p ≤ q ∧ q ≤ 1114111 := by
  unfold endE at h
  split at h
  · cases h
  · cases hw : wordE (par d fo) l k with
    | error e => rw [hw] at h; cases h
    | ok x =>
      rw [hw] at h
      obtain ⟨x, n⟩ := x
      obtain ⟨a, b, c, _⟩ := word_ok hl hw
      cases x with
      | cls t no => cases h
      | pt r =>
        simp only at h
        split at h
        · cases h
        · rename_i hlt
          simp only [Except.ok.injEq, Prod.mk.injEq] at h
          obtain ⟨rfl, rfl⟩ := h
          exact ⟨b, a, by omega, (c _ rfl).2⟩
abbrev RecB : Type := List Int → Nat → Nat → Except BE (PS × Nat)
theorem rel_same {X : Except BE (PS × Nat)} (h : ∀ f k, X = .ok (f, k) → i < k ∧ k ≤ l.length ∧ ItemR i k f f) : RelR (l := l) i X X := by
  cases X with
  | error z => exact .inl ⟨z, rfl, rfl⟩
  | ok x =>
    obtain ⟨f, k⟩ := x
    obtain ⟨a, b, c⟩ := h f k rfl
    exact .inr ⟨f, f, k, rfl, rfl, a, b, c⟩
theorem item_rel (hl : ∀ p ∈ l, 0 ≤ p ∧ p ≤ 1114111) {rec rec' : RecB} (hr : ∀ i deep, RelR (l := l) i (rec l i deep) (rec' l i deep)) (deep : Nat) : RelR (l := l) i (itemE (par d false) rec l i deep) (itemE (par d true) rec' l i deep) := by
  unfold itemE
  rw [show namedE (par d true) l i = namedE (par d false) l i from rfl, show isIn (par d true) l i = isIn (par d false) l i from rfl, show wordE (par d true) l i = wordE (par d false) l i from rfl]
  by_cases h1 : isCls l i = true
  · rw [if_pos h1, if_pos h1]
    exact rel_same fun f k h => name_ok h
  · rw [if_neg h1, if_neg h1]
    by_cases h2 : isIn (par d false) l i = true
    · rw [if_pos h2, if_pos h2]
      by_cases h3 : deep = 20
      · rw [if_pos h3, if_pos h3]
        exact .inl ⟨_, rfl, rfl⟩
      · rw [if_neg h3, if_neg h3]
        rcases hr (i + 1) (deep + 1) with h | ⟨f, f', k, a, b, c, e, g⟩
        · exact .inl h
        · exact .inr ⟨f, f', k, a, b, by omega, e, item_weak g (by omega) (by omega)⟩
    · rw [if_neg h2, if_neg h2]
      cases hw : wordE (par d false) l i with
      | error e => exact .inl ⟨e, rfl, rfl⟩
      | ok x =>
        obtain ⟨x, m⟩ := x
        obtain ⟨a, b, c, e⟩ := word_ok hl hw
        cases x with
        | cls t no =>
          obtain ⟨e1, j, e2, rfl, e3⟩ := e t no rfl
          simp only
          rw [class_ok e2 no i, class_ok e2 no i]
          refine .inr ⟨_, _, m, rfl, rfl, b, a, item_raw (t := .cls j no (mcJ j)) ⟨e2, Nat.le_refl _⟩ ?_ fun q _ _ => rfl⟩
          simp only [It.cost]
          omega
        | pt p =>
          obtain ⟨p0, p1⟩ := c p rfl
          simp only
          rw [show endE (par d true) l (m + 1) p = endE (par d false) l (m + 1) p from rfl]
          refine rel_same fun f k h => ?_
          split at h
          · cases he : endE (par d false) l (m + 1) p with
            | error z => rw [he] at h; cases h
            | ok y =>
              rw [he] at h
              obtain ⟨q, n⟩ := y
              obtain ⟨g1, g2, g3, g4⟩ := end_ok hl he
              simp only [Except.ok.injEq, Prod.mk.injEq] at h
              obtain ⟨rfl, rfl⟩ := h
              refine ⟨by omega, g2, item_raw (t := .rng p q) ⟨p0, g3, g4⟩ ?_ fun x _ _ => rfl⟩
              simp only [It.cost]
              omega
          · simp only [Except.ok.injEq, Prod.mk.injEq] at h
            obtain ⟨rfl, rfl⟩ := h
            refine ⟨b, a, item_raw (t := .rng p p) ⟨p0, Int.le_refl _, p1⟩ ?_ fun x _ _ => rfl⟩
            simp only [It.cost]
            omega
theorem part_end {fo : Bool} {first k : Nat} (h38 : (38 : Int) ∉ l) (h : partEnd (par d fo) l first k = true) : isAt l k [93] = true := by
  unfold partEnd isAnd at h
  rw [isAt_not h38] at h
  simp only [Bool.and_false, Bool.or_false, Bool.and_eq_true] at h
  exact h.2
theorem items_rel (hl : ∀ p ∈ l, 0 ≤ p ∧ p ≤ 1114111) (h38 : (38 : Int) ∉ l) {rec rec' : RecB} (hr : ∀ i deep, RelR (l := l) i (rec l i deep) (rec' l i deep)) (first deep i0 : Nat) : ∀ (n i : Nat) (acc acc' : PS), i0 ≤ i → ItemR i0 i acc acc' → l.length + 2 ≤ n + i → (i = i0 ∨ i ≤ l.length) →
    (∃ z, itemsE (par d false) rec l first deep n i acc = .error z ∧ itemsE (par d true) rec' l first deep n i acc' = .error z) ∨ ∃ f f' k, itemsE (par d false) rec l first deep n i acc = .ok (f, k) ∧ itemsE (par d true) rec' l first deep n i acc' = .ok (f', k) ∧ i0 ≤ k ∧ (k = i0 ∨ isAt l k [93] = true) ∧ ItemR i0 k f f'
  | 0, i, acc, acc', h0, ha, hn, hi => .inr ⟨acc, acc', i, rfl, rfl, h0, .inl (by omega), ha⟩
  | n + 1, i, acc, acc', h0, ha, hn, hi => by
    unfold itemsE
    rw [show partEnd (par d true) l first i = partEnd (par d false) l first i from rfl]
    by_cases hp : partEnd (par d false) l first i = true
    · rw [if_pos hp, if_pos hp]
      exact .inr ⟨acc, acc', i, rfl, rfl, h0, .inr (part_end h38 hp), ha⟩
    · rw [if_neg hp, if_neg hp]
      rcases item_rel (d := d) (i := i) hl hr deep with ⟨z, a, b⟩ | ⟨f, f', k, a, b, c, e, g⟩
      · rw [a, b]
        exact .inl ⟨z, rfl, rfl⟩
      · rw [a, b]
        exact items_rel hl h38 hr first deep i0 n k _ _ (by omega) (item_join ha g) (by omega) (.inr e)
/-- as RelR; folded it is the fold of what it is unfolded, and not too many. -/
def RelX (i : Nat) (R R' : Except BE (PS × Nat)) : Prop := (∃ z, R = .error z ∧ R' = .error z) ∨ ∃ f f' k, R = .ok (f, k) ∧ R' = .ok (f', k) ∧ i < k ∧ k ≤ l.length ∧ ItemR i k f f' ∧ OnP f' (fldB f) ∧ manyB f' = false
theorem RelX.r {R R' : Except BE (PS × Nat)} (h : RelX (l := l) i R R') : RelR (l := l) i R R' := by
  rcases h with h | ⟨f, f', k, a, b, c, e, g, _⟩
  · exact .inl h
  · exact .inr ⟨f, f', k, a, b, c, e, g⟩
theorem part_rel (hl : ∀ p ∈ l, 0 ≤ p ∧ p ≤ 1114111) (hn : l.length ≤ 300) (h38 : (38 : Int) ∉ l) {rec rec' : RecB} (hr : ∀ i deep, RelR (l := l) i (rec l i deep) (rec' l i deep)) (first deep : Nat) :
    (∃ z, partE (par d false) rec l first deep i = .error z ∧ partE (par d true) rec' l first deep i = .error z) ∨ ∃ f f' k, partE (par d false) rec l first deep i = .ok (f, k) ∧ partE (par d true) rec' l first deep i = .ok (f', k) ∧ i < k ∧ isAt l k [93] = true ∧ ItemR i k f f' ∧ OnP f' (fldB f) ∧ manyB f' = false := by
  unfold partE
  rcases items_rel (d := d) hl h38 hr first deep i (l.length + 2 - i) i (fun _ => false) (fun _ => false) (Nat.le_refl _) (item_none i) (by omega) (.inl rfl) with ⟨z, a, b⟩ | ⟨f, f', k, a, b, c, e, g⟩
  · rw [a, b]
    exact .inl ⟨z, rfl, rfl⟩
  · rw [a, b]
    simp only
    by_cases hk : k = i
    · rw [if_pos hk, if_pos hk]
      exact .inl ⟨_, rfl, rfl⟩
    · rw [if_neg hk, if_neg hk]
      have e : isAt l k [93] = true := e.resolve_left hk
      have hlen := at_len e (by simp)
      simp only [List.length_cons, List.length_nil] at hlen
      obtain ⟨f1, f2⟩ := item_fold (d := d) g (by omega)
      rw [show (par d true).folded = true from rfl, show (par d false).folded = false from rfl, if_pos rfl, if_neg (by decide), f1]
      obtain ⟨D, _, _, _, a4⟩ := g
      obtain ⟨D', b1, b2, b3, _⟩ := id f2
      exact .inr ⟨f, fldB f', k, rfl, rfl, by omega, e, f2, a4, by rw [many_congr b3]; exact count_all b1 (by omega)⟩
theorem body_rel (hl : ∀ p ∈ l, 0 ≤ p ∧ p ≤ 1114111) (hn : l.length ≤ 300) (h38 : (38 : Int) ∉ l) {rec rec' : RecB} (hr : ∀ i deep, RelR (l := l) i (rec l i deep) (rec' l i deep)) (deep : Nat) : RelX (l := l) i (bodyE (par d false) rec l i deep) (bodyE (par d true) rec' l i deep) := by
  have ands : ∀ (fo : Bool) (rec : RecB) (n k : Nat) (f : PS), andsE (par d fo) rec l i deep n k f = .ok (f, k) := fun fo rec n k f => by
    cases n with
    | zero => rfl
    | succ n =>
      unfold andsE isAnd
      rw [isAt_not h38]
      simp
  unfold bodyE
  rcases part_rel (d := d) (i := i) hl hn h38 hr i deep with ⟨z, a, b⟩ | ⟨f, f', k, a, b, c, e, g, g2⟩
  · rw [a, b]
    exact .inl ⟨z, rfl, rfl⟩
  · rw [a, b]
    simp only
    rw [ands, ands]
    simp only
    have hlen := at_len e (by simp)
    simp only [List.length_cons, List.length_nil] at hlen
    rw [if_pos e]
    exact .inr ⟨f, f', k + 1, rfl, rfl, by omega, by omega, item_weak g (Nat.le_refl _) (by omega), g2⟩
theorem expr_rel (hl : ∀ p ∈ l, 0 ≤ p ∧ p ≤ 1114111) (hn : l.length ≤ 300) (h38 : (38 : Int) ∉ l) (h94 : (94 : Int) ∉ l) : ∀ (n : Nat) (i deep : Nat), RelX (l := l) i (exprF (par d false) n l i deep) (exprF (par d true) n l i deep)
  | 0, i, deep => .inl ⟨_, rfl, rfl⟩
  | n + 1, i, deep => by
    unfold exprF exprG
    rw [if_neg (by rw [isAt_not h94]; decide), if_neg (by rw [isAt_not h94]; decide)]
    exact body_rel hl hn h38 (fun i deep => (expr_rel hl hn h38 h94 n i deep).r) deep
/-- Parse, folded and not. -/
theorem parse_rel (h38 : (38 : Int) ∉ l) (h94 : (94 : Int) ∉ l) : (∃ z c c', parseM d false l 0 = .error (z, c) ∧ parseM d true l 0 = .error (z, c')) ∨ (∃ c, parseM d false l 0 = .error (2, c)) ∨ ∃ f f' k, parseM d false l 0 = .ok (f, k) ∧ parseM d true l 0 = .ok (f', k) ∧ OnP f' (fldB f) ∧ manyB f' = false := by
  unfold parseM
  by_cases hp : TK.patE d l ≠ 0
  · rw [if_pos hp, if_pos hp]
    exact .inl ⟨_, _, _, rfl, rfl⟩
  · rw [if_neg hp, if_neg hp]
    by_cases h0 : (0 : Int) < 0 ∨ (l.length : Int) < 0
    · rw [if_pos h0, if_pos h0]
      exact .inl ⟨_, _, _, rfl, rfl⟩
    · rw [if_neg h0, if_neg h0]
      obtain ⟨_, hn, hl⟩ := TK.patE_ok (d := d) (l := l) (by simpa using hp)
      unfold readM
      rw [show (0 : Int).toNat = 0 from rfl]
      rcases expr_rel (d := d) hl hn h38 h94 21 0 0 with ⟨⟨z, c⟩, a, b⟩ | ⟨f, f', k, a, b, c, e, g, g1, g2⟩
      · rw [a, b]
        exact .inl ⟨z, c, c, rfl, rfl⟩
      · rw [a, b]
        simp only
        rw [if_neg (show ¬ manyB f' = true by rw [g2]; decide)]
        by_cases hm : manyB f = true
        · rw [if_pos hm]
          exact .inr (.inl ⟨0, rfl⟩)
        · rw [if_neg hm]
          exact .inr (.inr ⟨f, f', k, rfl, rfl, g1, g2⟩)
end Go.Proofs.YtpggffmfeahhaaaGreatDoor.Br
/- The walk of BracketFolds. -/
namespace Go.Proofs.YtpggffmfeahhaaaGreatDoor.Br
open Go.RowKit
open TK (Mv PatV ReadsI byteA add_block peel)
set_option linter.unusedVariables false
set_option maxRecDepth 100000
variable {w w' : World}

set_option maxHeartbeats 2000000 in
theorem hasInt_big (v : Value) (l : List Int) (p : Int) (w : World) (hv : PatV w v l) (hl : l.length ≤ 9223372036854775807) : Calls Tryz.prog 14 #[v, .int .i64 p] w fun e w' => e = .returned (.bool (decide (p ∈ l))) ∧ w = w' := by
  by_cases h0 : l.length = 0
  · obtain rfl : l = [] := List.eq_nil_of_length_eq_zero h0
    obtain ⟨ao, c, hvv⟩ := hv.shape
    have hvv : v = .slice ao 0 c := hvv
    rw [hvv]
    clear hv hvv h0 hl
    go_enter Tryz.func14, Tryz.ntmps14
    go_wp2
    go_loop [5] (fun i => i = .int .i64 0) (fun i => 0)
    case atStart => exact rfl
    case round =>
      subst hrel
      go_wp2
      go_ret
      exact ⟨rfl, rfl⟩
  · obtain ⟨x, c, rfl, hcap, hc⟩ := hv.some (by omega)
    obtain ⟨n, hn⟩ : ∃ n, n = l.length := ⟨_, rfl⟩
    have HC := hide hc
    have HN := hide hn
    rw [← hn] at hl hcap ⊢
    clear hc hn hv h0
    go_enter Tryz.func14, Tryz.ntmps14
    go_wp2
    go_loop [5] (fun i => ∃ k : Nat, k ≤ n ∧ i = .int .i64 k ∧ p ∉ l.take k) (fun i => n - (intOf i).toNat)
    case atStart => exact ⟨0, Nat.zero_le _, rfl, by simp⟩
    case round =>
      obtain ⟨k, hk, rfl, hf⟩ := hrel
      have HF := hide hf
      clear hf
      by_cases hlt : k < n
      · have hkl : k < l.length := by have := HN.out; omega
        have c1 := HC.out k hkl
        have HM : Hid (l[k] ∈ l) := List.getElem_mem hkl
        have HT : Hid (l.take (k + 1) = l.take k ++ [l[k]]) := by show _ = _; rw [List.take_add_one, List.getElem?_eq_getElem hkl]; rfl
        obtain ⟨r, hr⟩ : ∃ r, r = l[k] := ⟨_, rfl⟩
        rw [← hr] at c1 HM HT
        clear hr hkl
        by_cases hrp : r = p
        · have q1 : (r == p) = true := by simpa using hrp
          have HRP := hide hrp
          clear hrp
          go_wp2
          go_ret
          exact ⟨ret_bool (by rw [← HRP.out]; simp [HM.out]), rfl⟩
        · have q1 : (r == p) = false := by simpa using hrp
          have HRP := hide hrp
          clear hrp
          go_wp2
          go_round
          case rel => exact ⟨k + 1, by omega, by go_num, by rw [HT.out]; simp [HF.out, Ne.symm HRP.out]⟩
          case measure => simp [intOf]; omega
      · have HE : Hid (p ∉ l) := by
          have := HF.out
          rw [List.take_of_length_le (by have := HN.out; omega)] at this
          exact this
        go_wp2
        go_ret
        exact ⟨ret_bool (by simp [HE.out]), rfl⟩
/-- what a call of Parse came to: its error, or a set. -/
def Told (er : Int) (R : Except BE (PS × Nat)) (w : World) (sv : Value) (k : Nat) (l : List Int) : Prop := (er ≠ 0 ∧ ∃ c, R = .error (er, c)) ∨ (er = 0 ∧ ∃ f L, R = .ok (f, k) ∧ Reads w sv L ∧ IsSet f L ∧ L.length ≤ 400 ∧ k ≤ l.length)
theorem Told.keep {er : Int} {R : Except BE (PS × Nat)} {sv : Value} {k : Nat} {l : List Int} (h : Told er R w sv k l) (hb : Below w.heap.size w w') : Told er R w' sv k l := by
  rcases h with h | ⟨h, f, L, h1, h2, h3⟩
  · exact .inl h
  · exact .inr ⟨h, f, L, h1, h2.below hb, h3⟩
theorem parse_told (d a : Int) (v : Value) (l : List Int) (fo : Bool) (w : World) (h : PatV w v l) (hT : Fo.Tab w) (hpos : 0 < w.heap.size) : Calls Tryz.prog 8 #[.int .i64 d, v, .int .i64 a, .bool fo] w fun e w' => ∃ so ln sc, ∃ (k : Nat) (er at_ : Int), e = .returned (.tuple #[.slice so ln sc, .int .i64 (k : Nat), .agg #[.int .i64 er, .int .i64 at_]]) ∧ Below w.heap.size w w' ∧ Told er (parseM d fo l a) w' (.slice so ln sc) k l := by
  refine (parse_any d a v l fo w h hT hpos).mono ?_
  rintro e w1 (⟨f, k, sv, L, hR, rfl, ho, hs, hL, hkl, hb1⟩ | ⟨z, c, hR, hz, rfl, hb1⟩)
  · obtain ⟨so, sc, rfl⟩ := ho.shape
    exact ⟨so, _, sc, k, 0, 0, rfl, hb1, .inr ⟨rfl, f, L, hR, ho.reads, hs, hL, hkl⟩⟩
  · exact ⟨none, 0, 0, 0, z, c, rfl, hb1, .inl ⟨hz, c, hR⟩⟩
/-- the fold of what was read, against what was read folded. -/
theorem fold_told {d : Int} {f f' : PS} {L M O : RL} {err : Int} (h : Made (foldF L) (checkE L) err O) (hs : IsSet f L) (hL : L.length ≤ 400) (hs' : IsSet f' M) (h1 : OnP f' (fldB f)) (h2 : manyB f' = false) : err = 0 ∧ O = M := by
  have m1 : manyB f = false := by rw [many_of hs]; simp; omega
  have m2 : manyB (fldB f) = false := by rw [← many_congr h1]; exact h2
  rcases bridge_fold (d := d) (fo := true) hs h with ⟨a, b⟩ | ⟨a, b, c⟩
  · exfalso
    unfold foldE at a
    rw [if_neg (by rw [show ((par d true).many f || (par d true).many ((par d true).fld f)) = (manyB f || manyB (fldB f)) from rfl, m1, m2]; decide)] at a
    cases a
  · exact ⟨b, isSet_one c (isSet_congr hs' h1)⟩
/-- what both calls came to. -/
theorem both_told {d : Int} {l : List Int} {er er2 : Int} {sv sv2 : Value} {k k2 : Nat} (h38 : (38 : Int) ∉ l) (h94 : (94 : Int) ∉ l) (h : Told er (parseM d false l 0) w sv k l) (h' : Told er2 (parseM d true l 0) w sv2 k2 l) :
    (er ≠ 0 ∧ (er2 = er ∨ er = 2)) ∨ (er = 0 ∧ er2 = 0 ∧ k = k2 ∧ ∃ f f' L M, Reads w sv L ∧ IsSet f L ∧ L.length ≤ 400 ∧ Reads w sv2 M ∧ IsSet f' M ∧ M.length ≤ 400 ∧ k ≤ l.length ∧ l.length ≤ 300 ∧ OnP f' (fldB f) ∧ manyB f' = false) := by
  rcases parse_rel (d := d) h38 h94 with ⟨z, c, c', a, b⟩ | ⟨c, a⟩ | ⟨f, f', m, a, b, c, e⟩
  · rw [a] at h
    rw [b] at h'
    rcases h with ⟨h, _, h1⟩ | ⟨_, _, _, h1, _⟩
    · rcases h' with ⟨_, _, h2⟩ | ⟨_, _, _, h2, _⟩
      · cases h1
        cases h2
        exact .inl ⟨h, .inl rfl⟩
      · cases h2
    · cases h1
  · rw [a] at h
    rcases h with ⟨h, _, h1⟩ | ⟨_, _, _, h1, _⟩
    · cases h1
      exact .inl ⟨h, .inr rfl⟩
    · cases h1
  · have hlen := (parse_expr a).2
    rw [a] at h
    rw [b] at h'
    rcases h with ⟨_, _, h1⟩ | ⟨e1, g, L, h1, hr, hs, hl, hk⟩
    · cases h1
    · rcases h' with ⟨_, _, h2⟩ | ⟨e2, g', M, h2, hr', hs', hl', hk'⟩
      · cases h2
      · cases h1
        cases h2
        exact .inr ⟨e1, e2, rfl, f, f', L, M, hr, hs, hl, hr', hs', hl', hk, hlen, c, e⟩

set_option maxHeartbeats 16000000 in
theorem folds_walk (d : Int) (v : Value) (l : List Int) (w : World) (hT : Fo.Tab w) (hpos : 0 < w.heap.size) (h : PatV w v l) (hl : l.length ≤ 9223372036854775807) : Calls Tryz.prog 5 #[.int .i64 d, v] w fun e w' => e = .returned (.bool true) ∧ Below w.heap.size w w' := by
  have HT := hide hT
  have HH := hide h
  have HBg := hide (bbegun_any w hT hpos)
  have HLl := hide hl
  obtain ⟨ao, c, hv⟩ := h.shape
  obtain ⟨n, hn⟩ : ∃ n, n = l.length := ⟨_, rfl⟩
  have HN := hide hn
  rw [← hn] at hv
  rw [hv] at HH ⊢
  clear h hT hv hl hn
  go_enter Tryz.func5, Tryz.ntmps5
  go_wp2_with fail
  refine HBg.out.mono ?_
  rintro e w1 ⟨rfl, hb1⟩
  have HB1 := hide hb1
  clear hb1 HBg
  go_wp2_with fail
  refine (begun_any w1).mono ?_
  rintro e w2 ⟨rfl, hb2'⟩
  have HB2 := hide (HB1.out.trans (hb2'.mono HB1.out.size))
  have HT2 := hide (HT.out.below HB2.out hpos)
  have hp2 : 0 < w2.heap.size := Nat.lt_of_lt_of_le hpos HB2.out.size
  have HPV := hide (HH.out.below HB2.out)
  clear hb2' HB1 HT HH
  have HI1 := hide (hasInt_big _ l 94 w2 HPV.out HLl.out)
  have HI2 := hide (hasInt_big _ l 38 w2 HPV.out HLl.out)
  have HBg2 := hide (bbegun_any w2 HT2.out hp2)
  by_cases h94 : (94 : Int) ∈ l
  · rw [decide_eq_true h94] at HI1
    clear h94 HI2
    go_wp2_with fail
    refine HI1.out.mono ?_
    rintro e w3 ⟨rfl, rfl⟩
    clear HI1
    go_wp2_with fail
    refine HBg2.out.mono ?_
    rintro e w3 ⟨rfl, hb3⟩
    have HB3 := hide (HB2.out.trans (hb3.mono HB2.out.size))
    clear hb3 HBg2
    go_wp2_with fail
    refine (begun_any w3).mono ?_
    rintro e w4 ⟨rfl, hb4⟩
    have HB4 := hide (HB3.out.trans (hb4.mono HB3.out.size))
    clear hb4
    go_wp2
    go_ret
    exact ⟨rfl, HB4.out⟩
  by_cases h38 : (38 : Int) ∈ l
  · rw [decide_eq_false h94] at HI1
    rw [decide_eq_true h38] at HI2
    clear h94 h38
    go_wp2_with fail
    refine HI1.out.mono ?_
    rintro e w3 ⟨rfl, rfl⟩
    clear HI1
    go_wp2_with fail
    refine HI2.out.mono ?_
    rintro e w3 ⟨rfl, rfl⟩
    clear HI2
    go_wp2_with fail
    refine HBg2.out.mono ?_
    rintro e w3 ⟨rfl, hb3⟩
    have HB3 := hide (HB2.out.trans (hb3.mono HB2.out.size))
    clear hb3 HBg2
    go_wp2_with fail
    refine (begun_any w3).mono ?_
    rintro e w4 ⟨rfl, hb4⟩
    have HB4 := hide (HB3.out.trans (hb4.mono HB3.out.size))
    clear hb4
    go_wp2
    go_ret
    exact ⟨rfl, HB4.out⟩
  rw [decide_eq_false h94] at HI1
  rw [decide_eq_false h38] at HI2
  have H94 := hide h94
  have H38 := hide h38
  clear h94 h38 HBg2
  go_wp2_with fail
  refine HI1.out.mono ?_
  rintro e w3 ⟨rfl, rfl⟩
  clear HI1
  go_wp2_with fail
  refine HI2.out.mono ?_
  rintro e w3 ⟨rfl, rfl⟩
  clear HI2
  have HP1 := hide (parse_told d 0 _ l false w2 HPV.out HT2.out hp2)
  go_wp2_with fail
  refine HP1.out.mono ?_
  rintro e w3 ⟨so, ln, sc, k, er, at1, rfl, hb3', hg3⟩
  have hb3 := HB2.out.trans (hb3'.mono HB2.out.size)
  have HB3 := hide hb3
  have HT3 := hide (HT2.out.below hb3' hp2)
  have HPV3 := hide (HPV.out.below hb3')
  have HG3 := hide hg3
  clear hb3' hb3 hg3 HP1 HPV HT2 HB2 hp2
  go_upto_region 4 with fail
  obtain ⟨w4, hw4⟩ : ∃ w4, w4 = w3.alloc (.cells #[.int .i64 er, .int .i64 at1] 27) := ⟨_, rfl⟩
  have hb4' : Below w3.heap.size w3 w4 := by rw [hw4]; exact (Below.refl _ w3).alloc (Nat.le_refl _) _
  have e0 : w4.cell? ⟨w3.heap.size, 0, none⟩ = some (.int .i64 er) := by rw [hw4, World.cell?_alloc_at _ _ _ _ (by simp)]; rfl
  have hlt4 : w3.heap.size < w4.heap.size := by rw [hw4]; simp
  rw [← hw4]
  have HB4 := hide (HB3.out.trans (hb4'.mono HB3.out.size))
  have hp3 : 0 < w3.heap.size := Nat.lt_of_lt_of_le hpos HB3.out.size
  have HT4 := hide (HT3.out.below hb4' hp3)
  have HPV4 := hide (HPV3.out.below hb4')
  have HG4 := hide (HG3.out.keep hb4')
  obtain ⟨M1, hM1⟩ : ∃ M1, M1 = w3.heap.size := ⟨_, rfl⟩
  rw [← hM1] at e0 hlt4 ⊢
  have HE0 := hide e0
  have HLT4 := hide hlt4
  have hp4 : 0 < w4.heap.size := by omega
  clear hw4 hb4' HB3 HT3 HPV3 HG3 e0 hlt4 hM1 hp3
  have HP2 := hide (parse_told d 0 _ l true w4 HPV4.out HT4.out hp4)
  go_wp2_with fail
  refine HP2.out.mono ?_
  rintro e w6 ⟨so2, ln2, sc2, k2, er2, at2, rfl, hb6', hg6⟩
  have HB6 := hide (HB4.out.trans (hb6'.mono HB4.out.size))
  have HG6a := hide (HG4.out.keep hb6')
  have HG6b := hide hg6
  have HT6 := hide (HT4.out.below hb6' hp4)
  have HE6 := hide (below_cell hb6' HLT4.out HE0.out)
  have hlt6 : M1 < w6.heap.size := Nat.lt_of_lt_of_le HLT4.out hb6'.size
  clear hb6' hg6 HP2 HT4 HB4 HG4 HPV4 HE0 HLT4
  go_upto_region 5 with fail
  obtain ⟨w7, hw7⟩ : ∃ w7, w7 = w6.alloc (.cells #[.int .i64 er2, .int .i64 at2] 27) := ⟨_, rfl⟩
  have hb7' : Below w6.heap.size w6 w7 := by rw [hw7]; exact (Below.refl _ w6).alloc (Nat.le_refl _) _
  have f2 : w7.cell? ⟨w6.heap.size, 0, none⟩ = some (.int .i64 er2) := by rw [hw7, World.cell?_alloc_at _ _ _ _ (by simp)]; rfl
  have f1 : w7.cell? ⟨M1, 0, none⟩ = some (.int .i64 er) := below_cell hb7' hlt6 HE6.out
  have hlt7 : w6.heap.size < w7.heap.size := by rw [hw7]; simp
  rw [← hw7]
  have HB7 := hide (HB6.out.trans (hb7'.mono HB6.out.size))
  have HT7 := hide (HT6.out.below hb7' (by omega))
  have HG7a := hide (HG6a.out.keep hb7')
  have HG7b := hide (HG6b.out.keep hb7')
  have hp7 : 0 < w7.heap.size := by omega
  obtain ⟨M2, hM2⟩ : ∃ M2, M2 = w6.heap.size := ⟨_, rfl⟩
  rw [← hM2] at f2 hlt7 ⊢
  clear hw7 hb7' HB6 HG6a HG6b HE6 hlt6 hM2 HT6
  rcases both_told H38.out H94.out HG7a.out HG7b.out with ⟨h1, h2⟩ | ⟨h1, h2, h3, f, f', L, M, hr, hs, hL, hr', hs', hL', hk, hlen, g1, g2⟩
  · have q1 : (er != 0) = true := by simpa using h1
    by_cases h3 : er2 = er
    · have q2 : (er2 == er) = true := by simpa using h3
      clear h1 h2 h3
      go_wp2
      go_ret
      exact ⟨rfl, HB7.out⟩
    · have q2 : (er2 == er) = false := by simpa using h3
      have q3 : er = 2 := h2.resolve_left h3
      subst q3
      clear h1 h2 h3
      go_wp2
      go_ret
      exact ⟨rfl, HB7.out⟩
  subst h1
  subst h2
  subst h3
  have hkb : k ≤ 300 := by omega
  have HF := hide (fold_any _ L w7 HT7.out hp7 hr)
  have HR' := hide hr'
  have HL' := hide hL'
  have HTold := hide (fun (O : RL) (err : Int) (hm : Made (foldF L) (checkE L) err O) => fold_told (d := d) hm hs hL hs' g1 g2)
  have HF2 := hide f2
  have HLT7 := hide hlt7
  clear hr hs hL hr' hs' hL' hk hlen g1 g2 HG7a HG7b H38 H94 HT7
  go_wp2_with fail
  refine HF.out.mono ?_
  rintro e w8 ⟨v8, err, O, rfl, hown, hmade, hb8⟩
  obtain ⟨rfl, rfl⟩ := HTold.out O err hmade
  have HB8 := hide (HB7.out.trans (hb8.mono HB7.out.size))
  have c2 := below_cell hb8 HLT7.out HF2.out
  have HR8 := hide (own_reads hown)
  have HR9 := hide (HR'.out.below hb8)
  obtain ⟨ao8, c8, hv8⟩ := own_shape hown
  rw [hv8] at HR8 ⊢
  have HSm := hide (same_yes _ _ _ w8 HR8.out HR9.out (by have := HL'.out; omega))
  clear hown hmade hb8 hv8 HF HTold HF2 HLT7 HR' HR8 HR9 f2
  go_wp2_with fail
  refine HSm.out.mono ?_
  rintro e w9 ⟨rfl, hb9⟩
  have HB9 := hide (HB8.out.trans (hb9.mono HB8.out.size))
  clear hb9 HSm
  go_wp2
  go_ret
  exact ⟨rfl, HB9.out⟩
end Go.Proofs.YtpggffmfeahhaaaGreatDoor.Br
