/- A pattern's text, as a function of its tree. -/
import Derived.Test.YtpcohmbipbiglaaDoorWs1
import Derived.Lib.UnsafeStr

namespace Go.Proofs.YtpcohmbipbiglaaDoor
open Go.RowKit Go.Lib
set_option linter.unusedVariables false

abbrev bA (l : List UInt8) : ByteArray := ⟨l.toArray⟩
theorem bA_app (a b : List UInt8) : bA a ++ bA b = bA (a ++ b) := by
  apply ByteArray.ext
  rw [ByteArray.data_append]
  simp
theorem bA_size (l : List UInt8) : (bA l).size = l.length := List.size_toArray
theorem bA_of (s : ByteArray) : bA s.data.toList = s := rfl
/-- pieces, one behind the other. -/
def upT (f : Nat → List UInt8) : Nat → List UInt8
  | 0 => []
  | j + 1 => upT f j ++ f j
def wrapT (b : Bool) (l : List UInt8) : List UInt8 := if b then [40, 63, 58] ++ (l ++ [41]) else l
def rngT (r : Int × Int) : List UInt8 := [92, 120, 123] ++ (hexDigits r.1.toNat ++ ([125, 45, 92, 120, 123] ++ (hexDigits r.2.toNat ++ [125])))
def rngAt (s : RL) (j : Nat) : List UInt8 := rngT (s.getD j (0, 0))
def noneT : List UInt8 := [91, 94, 92, 120, 123, 48, 125, 45, 92, 120, 123, 49, 48, 102, 102, 102, 102, 125, 93]
def setT (s : RL) : List UInt8 := if s.length = 0 then noneT else [91] ++ (upT (rngAt s) s.length ++ [93])
/-- how a group opens. -/
def nameT (N : NmL) (num : Int) : List UInt8 := match N.find? (fun x => decide (x.2 = num)) with
  | some x => [40, 63, 60] ++ (x.1.data.toList ++ [62])
  | none => [40]
def openT (N : NmL) (k num : Int) : List UInt8 :=
  if k = 13 then [40, 63, 62] else if k = 14 then [40, 63, 61] else if k = 15 then [40, 63, 33]
  else if k = 16 then [40, 63, 60, 61] else if k = 17 then [40, 63, 60, 33] else nameT N num
def mostT (most : Int) : List UInt8 := if 0 ≤ most then decDigits most.toNat else []
def repT (least most way : Int) : List UInt8 := [123] ++ (decDigits least.toNat ++ ([44] ++ (mostT most ++ ([125] ++ (wayS way).data.toList))))
def agT (fold : Bool) (num : Int) : List UInt8 :=
  if fold then [40, 63, 105, 58, 92, 107, 60] ++ (decDigits num.toNat ++ [62, 41]) else [92, 107, 60] ++ (decDigits num.toNat ++ [62])
def aloneB (k : Int) : Bool := decide (k = 9) || decide (k = 10) || decide (k = 12)
def partAt (K : List Int) (T : List (List UInt8)) (j : Nat) : List UInt8 := wrapT (decide (K.getD j 0 = 10)) (T.getD j [])
def barAt (T : List (List UInt8)) (j : Nat) : List UInt8 := (if j = 0 then [] else [124]) ++ T.getD j []
def nodeT (N : NmL) (k num least most way : Int) (fold : Bool) (set : RL) (K : List Int) (T : List (List UInt8)) : List UInt8 :=
  if k = 2 then setT set
  else if k = 9 then upT (partAt K T) T.length
  else if k = 10 then upT (barAt T) T.length
  else if k = 12 then wrapT (aloneB (K.getD 0 0)) (T.getD 0 []) ++ repT least most way
  else if k = 18 then agT fold num
  else if k = 11 ∨ (13 ≤ k ∧ k ≤ 17) then openT N k num ++ (T.getD 0 [] ++ [41])
  else (signS k).data.toList
mutual
/-- a tree, as it is shown. -/
def shT (N : NmL) : Tr → List UInt8
  | .mk k num least most way fold set kids => nodeT N k num least most way fold set (kids.map Tr.kind) (shL N kids)
def shL (N : NmL) : List Tr → List (List UInt8)
  | [] => []
  | t :: ts => shT N t :: shL N ts
end
theorem shL_map (N : NmL) : ∀ ts : List Tr, shL N ts = ts.map (shT N)
  | [] => by rw [shL]; rfl
  | t :: ts => by rw [shL, shL_map N ts]; rfl
theorem shL_len (N : NmL) (ts : List Tr) : (shL N ts).length = ts.length := by rw [shL_map, List.length_map]
theorem shL_at (N : NmL) (ts : List Tr) (j : Nat) (h : j < ts.length) : (shL N ts).getD j [] = shT N ts[j] := by
  rw [shL_map]; simp [List.getD, h]
theorem kind_at (ts : List Tr) (j : Nat) (h : j < ts.length) : (ts.map Tr.kind).getD j 0 = ts[j].kind := by simp [List.getD, h]
theorem shT_kids (N : NmL) (t : Tr) : shT N t = nodeT N t.kind t.num t.least t.most t.way t.fold t.set (t.kids.map Tr.kind) (shL N t.kids) := by cases t; rw [shT]; rfl
theorem partAt_at (N : NmL) (ts : List Tr) (j : Nat) (h : j < ts.length) : partAt (ts.map Tr.kind) (shL N ts) j = wrapT (decide (ts[j].kind = 10)) (shT N ts[j]) := by
  unfold partAt; rw [kind_at _ _ h, shL_at _ _ _ h]
theorem barAt_at (N : NmL) (ts : List Tr) (j : Nat) (h : j < ts.length) : barAt (shL N ts) j = (if j = 0 then [] else [124]) ++ shT N ts[j] := by
  unfold barAt; rw [shL_at _ _ _ h]
theorem rngAt_at (s : RL) (j : Nat) (h : j < s.length) : rngAt s j = rngT s[j] := by unfold rngAt; simp [List.getD, h]
theorem upT_le (f : Nat → List UInt8) {j n : Nat} (h : j ≤ n) : (upT f j).length ≤ (upT f n).length := by
  induction n with
  | zero => have : j = 0 := by omega
            subst this; exact Nat.le_refl _
  | succ n ih =>
    by_cases hj : j = n + 1
    · subst hj; exact Nat.le_refl _
    · have := ih (by omega); rw [upT, List.length_append]; omega

/-- a name's text, by its number. -/
def NameAt (N : NmL) (num : Int) (l : List UInt8) : Prop :=
  (∃ k, k < N.length ∧ nnx N k = num ∧ l = [40, 63, 60] ++ ((ntx N k).data.toList ++ [62])) ∨ ((∀ k, k < N.length → nnx N k ≠ num) ∧ l = [40])
theorem NameAt.nameT (N : NmL) (num : Int) : NameAt N num (nameT N num) := by
  unfold Go.Proofs.YtpcohmbipbiglaaDoor.nameT
  split
  · rename_i x hx
    have h1 := List.find?_some hx
    have h2 := List.mem_of_find?_eq_some hx
    obtain ⟨k, hk, e⟩ := List.mem_iff_getElem.1 h2
    refine .inl ⟨k, hk, ?_, ?_⟩
    · rw [nnx_at hk, e]; simpa using h1
    · rw [ntx_at hk, e]
  · rename_i hx
    refine .inr ⟨fun k hk e => ?_, rfl⟩
    rw [List.find?_eq_none] at hx
    have := hx N[k] (List.getElem_mem hk)
    rw [nnx_at hk] at e
    exact this (by simpa using e)
theorem NameAt.one {N : NmL} {num : Int} {l l' : List UInt8} (hn : NoTw N N.length) (h : NameAt N num l) (h' : NameAt N num l') : l = l' := by
  rcases h with ⟨k, hk, e, rfl⟩ | ⟨ha, rfl⟩
  · rcases h' with ⟨j, hj, e', rfl⟩ | ⟨ha', rfl⟩
    · have : k = j := by
        rcases Nat.lt_trichotomy k j with h | h | h
        · exact absurd (.inr (by rw [e, e'])) (hn j hj k h)
        · exact h
        · exact absurd (.inr (by rw [e, e'])) (hn k hk j h)
      rw [this]
    · exact absurd e (ha' k hk)
  · rcases h' with ⟨j, hj, e', rfl⟩ | ⟨ha', rfl⟩
    · exact absurd e' (ha j hj)
    · rfl

/-- what is known of a node that is right. -/
structure NodeOk (t : Tr) : Prop where
  kind : 1 ≤ t.kind ∧ t.kind ≤ 18
  kids : kidsB t = true
  set : t.set.length ≤ 400 ∧ ∀ r ∈ t.set, okR r
  rep : t.kind = 12 → (0 ≤ t.least ∧ t.least ≤ 100) ∧ (t.most = -1 ∨ (0 ≤ t.most ∧ t.most ≤ 100)) ∧ 1 ≤ t.way ∧ t.way ≤ 3
  ag : t.kind = 18 → 1 ≤ t.num ∧ t.num ≤ 20
inductive OkT : Tr → Prop
  | mk (k num least most way : Int) (fold : Bool) (set : RL) (kids : List Tr) (h : NodeOk (.mk k num least most way fold set kids)) (hk : ∀ j (hj : j < kids.length), OkT kids[j]) : OkT (.mk k num least most way fold set kids)
theorem OkT.open {t : Tr} (h : OkT t) : NodeOk t ∧ ∀ j (hj : j < t.kids.length), OkT t.kids[j] := by
  cases h with
  | mk k num least most way fold set kids h hk => exact ⟨h, hk⟩
theorem OkT.one {t : Tr} (h : OkT t) (hk : 11 ≤ t.kind ∧ t.kind ≤ 17) : t.kids.length = 1 := by
  have h1 := h.open.1.kids
  unfold kidsB at h1
  rw [if_neg (by omega), if_neg (by omega), if_pos (by omega)] at h1
  simpa using h1

end Go.Proofs.YtpcohmbipbiglaaDoor

namespace Go.Proofs.YtpcohmbipbiglaaDoor
open Go.RowKit
open Go.Lib (decDigits decDigits_length)
set_option linter.unusedVariables false

def NumOk (l : List Int) : Prop := ∀ a ∈ l, 1 ≤ a ∧ a ≤ 20
theorem checkE_all {S : RL} (h : checkE S = 0) : S.length ≤ 400 ∧ ∀ r ∈ S, okR r := by
  unfold checkE at h
  have hr : rightE S = 0 := by
    by_cases hh : rightE S = 0
    · exact hh
    · rw [if_neg hh] at h; exact absurd h hh
  unfold rightE at hr
  by_cases h4 : 400 < S.length
  · rw [if_pos h4] at hr; exact absurd hr (by decide)
  · rw [if_neg h4] at hr
    by_cases ha : S.all okB = true
    · exact ⟨by omega, fun r hr' => (okB_iff r).1 (List.all_eq_true.1 ha r hr')⟩
    · rw [if_neg ha] at hr; exact absurd hr (by decide)
theorem repE_ok {t : Tr} (h : repE t = 0) : (0 ≤ t.least ∧ t.least ≤ 100) ∧ (t.most = -1 ∨ (0 ≤ t.most ∧ t.most ≤ 100)) ∧ 1 ≤ t.way ∧ t.way ≤ 3 := by
  unfold repE at h
  split at h
  · exact absurd h (by decide)
  · split at h
    · exact absurd h (by decide)
    · split at h
      · exact absurd h (by decide)
      · omega
theorem nodeS_ok {t : Tr} {s s' : St} (h : nodeS t s = .ok s') (hn : NumOk s'.2) : NodeOk t ∧ NumOk s.2 := by
  unfold nodeS at h
  split at h
  · cases h
  · rename_i hk
    split at h
    · cases h
    · rename_i hf
      have hkb : kidsB t = true := by
        have : (kidsB t && fieldsB t) = true := by simpa using hf
        exact (Bool.and_eq_true_iff.1 this).1
      split at h
      · cases h
      · rename_i hs
        have hse := checkE_all (by omega : checkE t.set = 0)
        have hkk : 1 ≤ t.kind ∧ t.kind ≤ 18 := by omega
        split at h
        · rename_i h12
          split at h
          · rename_i hrep
            cases h
            exact ⟨⟨hkk, hkb, hse, fun _ => repE_ok hrep, fun e => by omega⟩, hn⟩
          · cases h
        · rename_i h12
          split at h
          · rename_i h11
            split at h
            · cases h
              exact ⟨⟨hkk, hkb, hse, fun e => absurd e h12, fun e => by omega⟩, hn⟩
            · cases h
          · split at h
            · rename_i h18
              cases h
              exact ⟨⟨hkk, hkb, hse, fun e => absurd e h12, fun _ => hn t.num (by simp)⟩, fun a ha => hn a (by simp [ha])⟩
            · rename_i h18
              cases h
              exact ⟨⟨hkk, hkb, hse, fun e => absurd e h12, fun e => absurd e h18⟩, hn⟩
mutual
theorem chkT_ok : ∀ (t : Tr) (s s' : St), chkT t s = .ok s' → NumOk s'.2 → OkT t ∧ NumOk s.2
  | .mk k a b c d e f kids, s, s', h, hn => by
    rw [chkT] at h
    split at h
    · rename_i s1 h1
      obtain ⟨hk, hn1⟩ := chkL_ok kids s1 s' h hn
      obtain ⟨ho, hn2⟩ := nodeS_ok h1 hn1
      exact ⟨.mk k a b c d e f kids ho hk, hn2⟩
    · cases h
theorem chkL_ok : ∀ (ts : List Tr) (s s' : St), chkL ts s = .ok s' → NumOk s'.2 → (∀ j (hj : j < ts.length), OkT ts[j]) ∧ NumOk s.2
  | [], s, s', h, hn => by
    rw [chkL] at h
    cases h
    exact ⟨fun j hj => by simp at hj, hn⟩
  | t :: ts, s, s', h, hn => by
    rw [chkL] at h
    split at h
    · rename_i s1 h1
      obtain ⟨hk, hn1⟩ := chkL_ok ts s1 s' h hn
      obtain ⟨ho, hn2⟩ := chkT_ok t s s1 h1 hn1
      refine ⟨fun j hj => ?_, hn2⟩
      cases j with
      | zero => exact ho
      | succ j => exact hk j (by simpa using hj)
    · cases h
end
theorem numsE_ok {g : Int} : ∀ {l : List Int}, numsE g l = 0 → ∀ a ∈ l, 1 ≤ a ∧ a ≤ g
  | [], _, a, ha => by simp at ha
  | b :: l, h, a, ha => by
    unfold numsE at h
    have hb : numE g b = 0 := by
      by_cases hh : numE g b = 0
      · exact hh
      · first
        | (rw [if_neg hh] at h; exact absurd h (by first | exact hh | decide))
        | (simp [hh] at h)
    have hl : numsE g l = 0 := by simpa [hb] using h
    rcases List.mem_cons.1 ha with rfl | ha
    · unfold numE at hb
      by_cases hh : 1 ≤ a ∧ a ≤ g
      · exact hh
      · rw [if_neg hh] at hb; exact absurd hb (by decide)
    · exact numsE_ok hl a ha
theorem treeE_ok {t : Tr} {g : Int} (h : treeE t g = 0) : OkT t := by
  unfold treeE at h
  split at h
  · rename_i z hz
    exact absurd h (chkT_errz t _ z hz)
  · rename_i s hs
    by_cases hc : countsE s g = 0
    · rw [if_neg (by omega)] at h
      have h20 : s.1 ≤ 20 := by
        unfold countsE at hc
        by_cases hh : 20 < s.1
        · rw [if_pos hh] at hc; exact absurd hc (by decide)
        · omega
      exact (chkT_ok t (0, []) s hs (fun a ha => by have := numsE_ok h a ha; omega)).1
    · rw [if_pos hc] at h; exact absurd h hc

theorem upT_ne (f : Nat → List UInt8) {j n : Nat} (h : j < n) (hf : f j ≠ []) : upT f n ≠ [] := by
  intro e
  have := upT_le f (j := j + 1) (n := n) (by omega)
  rw [e, upT, List.length_append, List.length_nil] at this
  have h2 : (f j).length ≠ 0 := by simpa using hf
  omega
theorem wrapT_ne {b : Bool} {l : List UInt8} (h : l ≠ []) : wrapT b l ≠ [] := by cases b <;> simp [wrapT, h]
theorem OkT.two {t : Tr} (h : OkT t) (hk : t.kind = 9 ∨ t.kind = 10) : 2 ≤ t.kids.length := by
  have h1 := h.open.1.kids
  unfold kidsB at h1
  rcases hk with e | e
  · rw [if_pos e] at h1; simp at h1; omega
  · rw [if_neg (by omega), if_pos e] at h1; simp at h1; omega
theorem shT_ne (N : NmL) {t : Tr} (h : OkT t) : shT N t ≠ [] := by
  induction h with
  | mk k num least most way fold set kids hn hk ih =>
    have hot : OkT (.mk k num least most way fold set kids) := .mk k num least most way fold set kids hn hk
    rw [shT]
    unfold nodeT
    split
    · unfold setT; split
      · decide
      · simp
    · split
      · rename_i h2 h9
        have := hot.two (.inl h9)
        simp only [Tr.kids] at this
        rw [shL_len]
        exact upT_ne _ (j := 0) (by omega) (by rw [partAt_at N kids 0 (by omega)]; exact wrapT_ne (ih 0 (by omega)))
      · split
        · rename_i h2 h9 h10
          have := hot.two (.inr h10)
          simp only [Tr.kids] at this
          rw [shL_len]
          exact upT_ne _ (j := 1) (by omega) (by rw [barAt_at N kids 1 (by omega)]; simp)
        · split
          · unfold repT; simp
          · split
            · unfold agT; split <;> simp
            · split
              · simp
              · unfold signS
                repeat' split
                all_goals (intro e; cases e)

theorem hexDigits_small {p : Int} (h : p ≤ 1114111) : (hexDigits p.toNat).length ≤ 1114112 := by
  have := hexDigits_len p.toNat
  omega
theorem decDigits_small {p : Int} (h : p ≤ 100) : (decDigits p.toNat).length ≤ 101 := by
  rw [decDigits_length]
  have := nDig_le p.toNat
  omega
theorem upT_sum {f : Nat → List UInt8} {c : Nat} : ∀ {n : Nat}, (∀ j, j < n → (f j).length ≤ c) → (upT f n).length ≤ c * n
  | 0, _ => by simp [upT]
  | n + 1, h => by
    rw [upT, List.length_append]
    have h1 := upT_sum (n := n) (fun j hj => h j (by omega))
    have h2 := h n (by omega)
    rw [Nat.mul_succ]
    omega
theorem setT_len {S : RL} (h4 : S.length ≤ 400) (hok : ∀ r ∈ S, okR r) : (setT S).length ≤ 1000000000 := by
  unfold setT
  split
  · simp [noneT]
  · have := upT_sum (f := rngAt S) (c := 2228300) (n := S.length) (fun j hj => by
      rw [rngAt_at S j hj]
      obtain ⟨o1, o2, o3⟩ := hok _ (List.getElem_mem hj)
      have h1 := hexDigits_small (p := S[j].1) (by omega)
      have h2 := hexDigits_small (p := S[j].2) o3
      simp only [rngT, List.length_append, List.length_cons, List.length_nil]
      omega)
    simp only [List.length_append, List.length_cons, List.length_nil]
    have h3 : 2228300 * S.length ≤ 2228300 * 400 := Nat.mul_le_mul_left _ h4
    omega
theorem nameT_len {N : NmL} (hz : ∀ i, i < N.length → (ntx N i).size ≤ 1048576) (num : Int) : (nameT N num).length ≤ 1048580 := by
  rcases NameAt.nameT N num with ⟨k, hk, _, e⟩ | ⟨_, e⟩
  · rw [e]
    have := hz k hk
    have h2 : (ntx N k).data.toList.length = (ntx N k).size := Array.length_toList
    simp only [List.length_append, List.length_cons, List.length_nil]
    omega
  · rw [e]; simp
theorem openT_len {N : NmL} (hz : ∀ i, i < N.length → (ntx N i).size ≤ 1048576) (k num : Int) : (openT N k num).length ≤ 1048580 := by
  have := nameT_len hz num
  unfold openT
  repeat' split
  all_goals first | omega | (simp)
theorem szL_takeW {ts : List Tr} {j : Nat} (hj : j < ts.length) : szL (ts.take (j + 1)) = szL (ts.take j) + szT ts[j] := by
  induction ts generalizing j with
  | nil => simp at hj
  | cons t ts ih =>
    cases j with
    | zero => simp [szL]
    | succ j =>
      have := ih (j := j) (by simpa using hj)
      rw [List.take_succ_cons, List.take_succ_cons, szL, szL, this]
      simp
      omega
theorem upT_kids {f : Nat → List UInt8} {ts : List Tr} {K : Nat} (h : ∀ j (hj : j < ts.length), (f j).length ≤ K * szT ts[j]) : ∀ j, j ≤ ts.length → (upT f j).length ≤ K * szL (ts.take j)
  | 0, _ => by simp [upT]
  | j + 1, hj => by
    rw [upT, List.length_append, szL_takeW (by omega), Nat.mul_add]
    have h1 := upT_kids h j (by omega)
    have h2 := h j (by omega)
    omega
theorem wrapT_len (b : Bool) (l : List UInt8) : (wrapT b l).length ≤ l.length + 4 := by cases b <;> simp [wrapT]
theorem wayS_len (v : Int) : (wayS v).data.toList.length ≤ 1 := by unfold wayS; repeat' split
                                                                   all_goals simp
theorem signS_len (v : Int) : (signS v).data.toList.length ≤ 4 := by unfold signS; repeat' split
                                                                     all_goals simp
theorem shT_len (N : NmL) (hz : ∀ i, i < N.length → (ntx N i).size ≤ 1048576) {t : Tr} (h : OkT t) : (shT N t).length + 4 ≤ 10000000000 * szT t := by
  induction h with
  | mk k num least most way fold set kids hn hk ih =>
    have hot : OkT (.mk k num least most way fold set kids) := .mk k num least most way fold set kids hn hk
    have hsz : szT (.mk k num least most way fold set kids) = 1 + szL kids := by rw [szT]
    have hone : ∀ (h1 : kids.length = 1), szL kids = szT kids[0] := fun h1 => by
      match kids, h1 with
      | [t], _ => simp [szL]
    rw [shT, hsz, Nat.mul_add]
    unfold nodeT
    split
    · have := setT_len hn.set.1 hn.set.2
      simp only [Tr.set] at this
      omega
    · split
      · have := upT_kids (f := partAt (kids.map Tr.kind) (shL N kids)) (ts := kids) (K := 10000000000) (fun j hj => by
          rw [partAt_at N kids j hj]
          have h1 := wrapT_len (decide (kids[j].kind = 10)) (shT N kids[j])
          have h2 := ih j hj
          omega) kids.length (Nat.le_refl _)
        rw [List.take_length] at this
        rw [shL_len]
        omega
      · split
        · have := upT_kids (f := barAt (shL N kids)) (ts := kids) (K := 10000000000) (fun j hj => by
            rw [barAt_at N kids j hj]
            have h2 := ih j hj
            rw [List.length_append]
            split <;> simp <;> omega) kids.length (Nat.le_refl _)
          rw [List.take_length] at this
          rw [shL_len]
          omega
        · split
          · rename_i h12
            have h1 : kids.length = 1 := hot.one (by show 11 ≤ k ∧ k ≤ 17; omega)
            obtain ⟨r1, r2, r3⟩ := hn.rep h12
            simp only [Tr.least, Tr.most, Tr.way] at r1 r2 r3
            rw [shL_at N kids 0 (by omega), hone h1]
            have h2 := ih 0 (by omega)
            have h3 := wrapT_len (aloneB ((kids.map Tr.kind).getD 0 0)) (shT N kids[0])
            have h4 := decDigits_small (p := least) (by omega)
            have h5 : (mostT most).length ≤ 101 := by
              unfold mostT
              split
              · exact decDigits_small (by omega)
              · simp
            have h6 := wayS_len way
            simp only [repT, List.length_append, List.length_cons, List.length_nil]
            omega
          · split
            · rename_i h18
              have := hn.ag h18
              simp only [Tr.num] at this
              have h4 := decDigits_small (p := num) (by omega)
              unfold agT
              split <;> simp only [List.length_append, List.length_cons, List.length_nil] <;> omega
            · split
              · rename_i ho
                have h1 : kids.length = 1 := hot.one (by show 11 ≤ k ∧ k ≤ 17; omega)
                rw [shL_at N kids 0 (by omega), hone h1]
                have h2 := ih 0 (by omega)
                have h3 := openT_len hz k num
                simp only [List.length_append, List.length_cons, List.length_nil]
                omega
              · have := signS_len k
                omega

/-- what is known of a pattern that passes. -/
theorem PatE.okay {t : Tr} {g : Int} {N : NmL} (h : PatE t g N 0) : szT t ≤ 1000 ∧ OkT t ∧ NoTw N N.length := by
  rcases h with ⟨_, h⟩ | ⟨h1, h2⟩
  · exact absurd h (by decide)
  · refine ⟨cntA_sz h1, ?_⟩
    rcases h2 with ⟨a, b⟩ | ⟨_, _, b⟩ | ⟨a, _, c⟩
    · exact absurd b.symm a
    · exact absurd b (by decide)
    · refine ⟨treeE_ok a, ?_⟩
      rcases c with ⟨b, _⟩ | ⟨b, _⟩ | ⟨b, _⟩ | ⟨_, _, hn, _⟩
      · exact absurd b (by decide)
      · exact absurd b (by decide)
      · exact absurd b (by decide)
      · exact hn
theorem PatE.short {t : Tr} {g : Int} {N : NmL} (h : PatE t g N 0) (hz : ∀ i, i < N.length → (ntx N i).size ≤ 1048576) : (shT N t).length ≤ 10000000000000 := by
  obtain ⟨h1, h2, _⟩ := h.okay
  have := shT_len N hz h2
  omega

end Go.Proofs.YtpcohmbipbiglaaDoor
