import Derived.WalkKit
import Derived.Test.YtklbbbldalmnbaaGreatDoorKK
import Derived.Test.YtklbbbldalmnbaaGreatDoorKA
import Derived.Test.YtklbbbldalmnbaaGreatDoorKC
namespace Go.Proofs.YtklbbbldalmnbaaGreatDoor.Br
set_option linter.unusedVariables false
abbrev PS : Type := Int → Bool
abbrev BE : Type := Int × Int
def isAt (l : List Int) (i : Nat) (cs : List Int) : Bool := (l.drop i).take cs.length == cs
theorem isAt_cons (c : Int) (l : List Int) (i : Nat) (cs : List Int) : isAt (c :: l) (i + 1) cs = isAt l i cs := by simp [isAt]
inductive Wd where
 | pt (p : Int)
 | cls (t : ByteArray) (no : Bool)
structure Par where
 ruby : Bool
 folded : Bool
 nx : List Int → Nat → Except Int (Wd × Nat)
 cl : ByteArray → Except Int PS
 many : PS → Bool
 fld : PS → PS
variable (P : Par)
def notE (f : PS) : Except BE PS := if P.many f || P.many (fun q => !f q) then .error (2, 0) else .ok fun q => !f q
def meetE (f g : PS) : Except BE PS := if P.many f || P.many g || P.many (fun q => f q && g q) then .error (2, 0) else .ok fun q => f q && g q
def foldE (f : PS) : Except BE PS := if P.many f || P.many (P.fld f) then .error (2, 0) else .ok (P.fld f)
def wordE (l : List Int) (i : Nat) : Except BE (Wd × Nat) :=
 match l[i]? with
 | none => .error (1, i)
 | some p => if P.ruby && isAt l i [92] then (match P.nx l i with | .error e => .error (e, i) | .ok x => .ok x) else .ok (.pt p, i + 1)
def classE (t : ByteArray) (no : Bool) (at_ : Int) : Except BE PS :=
 match P.cl t with
 | .error e => .error (e, at_)
 | .ok f => if no then notE P f else .ok f
def isCls (l : List Int) (i : Nat) : Bool := isAt l i [91, 58]
def isIn (l : List Int) (i : Nat) : Bool := P.ruby && isAt l i [91] && !isCls l i
def isAnd (l : List Int) (i : Nat) : Bool := P.ruby && isAt l i [38, 38]
def isRng (l : List Int) (i : Nat) : Bool := isAt l i [45] && !isAt l i [45, 93]
def lettersL (l : List Int) (i : Nat) : List Int := (l.drop i).takeWhile fun c => decide (97 ≤ c) && decide (c ≤ 122)
def namedE (l : List Int) (i : Nat) : Except BE (PS × Nat) :=
 let no := P.ruby && isAt l (i + 2) [94]
 let j := if no then i + 3 else i + 2
 let t := lettersL l j
 if t = [] ∨ isAt l (j + t.length) [58, 93] = false then .error (1, ((j + t.length : Nat) : Int))
 else match classE P ⟨(t.map fun c => UInt8.ofNat c.toNat).toArray⟩ no i with
  | .error e => .error e
  | .ok f => .ok (f, j + t.length + 2)
def endE (l : List Int) (j : Nat) (from_ : Int) : Except BE (Int × Nat) :=
 if isCls l j || isIn P l j || isAnd P l j then .error (1, j)
 else match wordE P l j with
  | .error e => .error e
  | .ok (.cls _ _, _) => .error (1, j)
  | .ok (.pt q, k) => if q < from_ then .error (3, j) else .ok (q, k)
def itemE (rec : List Int → Nat → Nat → Except BE (PS × Nat)) (l : List Int) (i deep : Nat) : Except BE (PS × Nat) :=
 if isCls l i then namedE P l i
 else if isIn P l i then (if deep = 20 then .error (2, i) else rec l (i + 1) (deep + 1))
 else match wordE P l i with
  | .error e => .error e
  | .ok (.cls t no, k) => (match classE P t no i with | .error e => .error e | .ok f => .ok (f, k))
  | .ok (.pt p, k) =>
   if isRng l k then (match endE P l (k + 1) p with | .error e => .error e | .ok (q, m) => .ok (fun x => decide (p ≤ x) && decide (x ≤ q), m))
   else .ok (fun x => decide (p ≤ x) && decide (x ≤ p), k)
def partEnd (l : List Int) (first i : Nat) : Bool := (decide (i ≠ first) && isAt l i [93]) || isAnd P l i
def itemsE (rec : List Int → Nat → Nat → Except BE (PS × Nat)) (l : List Int) (first deep : Nat) : Nat → Nat → PS → Except BE (PS × Nat)
 | 0, i, acc => .ok (acc, i)
 | n + 1, i, acc =>
  if partEnd P l first i then .ok (acc, i)
  else match itemE P rec l i deep with
   | .error e => .error e
   | .ok (f, k) => itemsE rec l first deep n k (fun x => acc x || f x)
def partE (rec : List Int → Nat → Nat → Except BE (PS × Nat)) (l : List Int) (first deep i : Nat) : Except BE (PS × Nat) :=
 match itemsE P rec l first deep (l.length + 2 - i) i (fun _ => false) with
 | .error e => .error e
 | .ok (f, k) =>
  if k = i then .error (1, k)
  else if P.folded then (match foldE P f with | .error e => .error e | .ok g => .ok (g, k)) else .ok (f, k)
def andsE (rec : List Int → Nat → Nat → Except BE (PS × Nat)) (l : List Int) (first deep : Nat) : Nat → Nat → PS → Except BE (PS × Nat)
 | 0, i, acc => .ok (acc, i)
 | n + 1, i, acc =>
  if isAnd P l i then
   (match partE P rec l first deep (i + 2) with
   | .error e => .error e
   | .ok (f, k) => match meetE P acc f with
    | .error e => .error e
    | .ok g => andsE rec l first deep n k g)
  else .ok (acc, i)
def bodyE (rec : List Int → Nat → Nat → Except BE (PS × Nat)) (l : List Int) (i deep : Nat) : Except BE (PS × Nat) :=
 match partE P rec l i deep i with
 | .error e => .error e
 | .ok (f, k) => match andsE P rec l i deep (l.length + 2 - k) k f with
  | .error e => .error e
  | .ok (g, m) => .ok (g, if isAt l m [93] then m + 1 else m)
def exprG (rec : List Int → Nat → Nat → Except BE (PS × Nat)) (l : List Int) (i deep : Nat) : Except BE (PS × Nat) :=
 if isAt l i [94] then
  (match bodyE P rec l (i + 1) deep with
  | .error e => .error e
  | .ok (f, k) => match notE P f with
   | .error e => .error e
   | .ok g => .ok (g, k))
 else bodyE P rec l i deep
def exprF : Nat → List Int → Nat → Nat → Except BE (PS × Nat)
 | 0 => fun _ _ _ => .error (2, 0)
 | n + 1 => exprG P (exprF n)
def ShN (P : Par) : Prop := ∀ c l i x k, P.nx l i = .ok (x, k) → P.nx (c :: l) (i + 1) = .ok (x, k + 1)
def ShR (rec : List Int → Nat → Nat → Except BE (PS × Nat)) : Prop := ∀ c l i deep f k, rec l i deep = .ok (f, k) → rec (c :: l) (i + 1) deep = .ok (f, k + 1)
variable {P}
theorem wordE_sh (hP : ShN P) (c : Int) {l : List Int} {i : Nat} {x : Wd} {k : Nat} (h : wordE P l i = .ok (x, k)) : wordE P (c :: l) (i + 1) = .ok (x, k + 1) := by
 unfold wordE at h ⊢
 rw [List.getElem?_cons_succ, isAt_cons]
 cases hl : l[i]? with
 | none => rw [hl] at h; cases h
 | some p =>
  rw [hl] at h
  simp only at h ⊢
  split at h
  ·rename_i hb
   rw [if_pos hb]
   cases hn : P.nx l i with
   | error e => rw [hn] at h; cases h
   | ok y =>
    rw [hn] at h
    simp only [Except.ok.injEq] at h
    subst h
    rw [hP c l i _ _ hn]
  ·rename_i hb
   rw [if_neg hb]
   simp only [Except.ok.injEq, Prod.mk.injEq] at h
   obtain ⟨rfl, rfl⟩ := h
   rfl
theorem isCls_cons (c : Int) (l : List Int) (i : Nat) : isCls (c :: l) (i + 1) = isCls l i := isAt_cons _ _ _ _
theorem isIn_cons (c : Int) (l : List Int) (i : Nat) : isIn P (c :: l) (i + 1) = isIn P l i := by unfold isIn; rw [isAt_cons, isCls_cons]
theorem isAnd_cons (c : Int) (l : List Int) (i : Nat) : isAnd P (c :: l) (i + 1) = isAnd P l i := by unfold isAnd; rw [isAt_cons]
theorem isRng_cons (c : Int) (l : List Int) (i : Nat) : isRng (c :: l) (i + 1) = isRng l i := by unfold isRng; rw [isAt_cons, isAt_cons]
theorem partEnd_cons (c : Int) (l : List Int) (f i : Nat) : partEnd P (c :: l) (f + 1) (i + 1) = partEnd P l f i := by
 unfold partEnd
 rw [isAt_cons, isAnd_cons]
 simp
theorem letters_cons (c : Int) (l : List Int) (i : Nat) : lettersL (c :: l) (i + 1) = lettersL l i := by simp [lettersL]
theorem classE_at {t : ByteArray} {no : Bool} {a b : Int} {f : PS} (h : classE P t no a = .ok f) : classE P t no b = .ok f := by
 unfold classE at h ⊢
 cases hc : P.cl t with
 | error e => rw [hc] at h; cases h
 | ok g => rw [hc] at h; exact h
theorem namedE_sh (c : Int) {l : List Int} {i : Nat} {f : PS} {k : Nat} (h : namedE P l i = .ok (f, k)) : namedE P (c :: l) (i + 1) = .ok (f, k + 1) := by
 unfold namedE at h ⊢
 have e1 : isAt (c :: l) (i + 1 + 2) [94] = isAt l (i + 2) [94] := isAt_cons c l (i + 2) _
 rw [e1]
 obtain ⟨no, hno⟩ : ∃ no, no = (P.ruby && isAt l (i + 2) [94]) := ⟨_, rfl⟩
 simp only [← hno] at h ⊢
 obtain ⟨j, hj⟩ : ∃ j, j = (if no = true then i + 3 else i + 2) := ⟨_, rfl⟩
 have hj' : (if no = true then i + 1 + 3 else i + 1 + 2) = j + 1 := by rw [hj]; split <;> omega
 rw [hj', letters_cons]
 rw [← hj] at h
 have e2 : isAt (c :: l) (j + 1 + (lettersL l j).length) [58, 93] = isAt l (j + (lettersL l j).length) [58, 93] := by
  rw [show j + 1 + (lettersL l j).length = j + (lettersL l j).length + 1 by omega]
  exact isAt_cons _ _ _ _
 rw [e2]
 split at h
 ·cases h
 ·rename_i hb
  rw [if_neg hb]
  cases hc : classE P ⟨((lettersL l j).map fun c => UInt8.ofNat c.toNat).toArray⟩ no i with
  | error e => rw [hc] at h; cases h
  | ok g =>
   rw [hc] at h
   simp only [Except.ok.injEq, Prod.mk.injEq] at h
   obtain ⟨rfl, rfl⟩ := h
   rw [classE_at (b := ((i + 1 : Nat) : Int)) hc]
   simp only [Except.ok.injEq, Prod.mk.injEq, true_and]
   omega
theorem endE_sh (hP : ShN P) (c : Int) {l : List Int} {j : Nat} {a q : Int} {k : Nat} (h : endE P l j a = .ok (q, k)) : endE P (c :: l) (j + 1) a = .ok (q, k + 1) := by
 unfold endE at h ⊢
 rw [isCls_cons, isIn_cons, isAnd_cons]
 split at h
 ·cases h
 ·rename_i hb
  rw [if_neg hb]
  cases hw : wordE P l j with
  | error e => rw [hw] at h; cases h
  | ok x =>
   rw [hw] at h
   obtain ⟨x, m⟩ := x
   cases x with
   | cls t no => cases h
   | pt p =>
    rw [wordE_sh hP c hw]
    simp only at h ⊢
    split at h
    ·cases h
    ·rename_i hc
     rw [if_neg hc]
     simp only [Except.ok.injEq, Prod.mk.injEq] at h
     obtain ⟨rfl, rfl⟩ := h
     rfl
theorem itemE_sh (hP : ShN P) {rec : List Int → Nat → Nat → Except BE (PS × Nat)} (hr : ShR rec) (c : Int) {l : List Int} {i deep : Nat} {f : PS} {k : Nat} (h : itemE P rec l i deep = .ok (f, k)) : itemE P rec (c :: l) (i + 1) deep = .ok (f, k + 1) := by
 unfold itemE at h ⊢
 rw [isCls_cons, isIn_cons]
 split at h
 ·rename_i hb
  rw [if_pos hb]
  exact namedE_sh c h
 ·rename_i hb
  rw [if_neg hb]
  split at h
  ·rename_i hb2
   rw [if_pos hb2]
   split at h
   ·cases h
   ·rename_i hd
    rw [if_neg hd]
    exact hr c l _ _ _ _ h
  ·rename_i hb2
   rw [if_neg hb2]
   cases hw : wordE P l i with
   | error e => rw [hw] at h; cases h
   | ok x =>
    rw [hw] at h
    obtain ⟨x, m⟩ := x
    rw [wordE_sh hP c hw]
    cases x with
    | cls t no =>
     simp only at h ⊢
     cases hc : classE P t no i with
     | error e => rw [hc] at h; cases h
     | ok g =>
      rw [hc] at h
      rw [classE_at (b := ((i + 1 : Nat) : Int)) hc]
      simp only [Except.ok.injEq, Prod.mk.injEq] at h
      obtain ⟨rfl, rfl⟩ := h
      rfl
    | pt p =>
     simp only at h ⊢
     rw [isRng_cons]
     split at h
     ·rename_i hg
      rw [if_pos hg]
      cases he : endE P l (m + 1) p with
      | error e => rw [he] at h; cases h
      | ok y =>
       rw [he] at h
       obtain ⟨q, n⟩ := y
       rw [endE_sh hP c he]
       simp only [Except.ok.injEq, Prod.mk.injEq] at h
       obtain ⟨rfl, rfl⟩ := h
       rfl
     ·rename_i hg
      rw [if_neg hg]
      simp only [Except.ok.injEq, Prod.mk.injEq] at h
      obtain ⟨rfl, rfl⟩ := h
      rfl
theorem itemsE_sh (hP : ShN P) {rec : List Int → Nat → Nat → Except BE (PS × Nat)} (hr : ShR rec) (c : Int) {l : List Int} {first deep : Nat} : ∀ (n i : Nat) (acc f : PS) (k : Nat), itemsE P rec l first deep n i acc = .ok (f, k) → itemsE P rec (c :: l) (first + 1) deep n (i + 1) acc = .ok (f, k + 1)
 | 0, i, acc, f, k, h => by
  simp only [itemsE, Except.ok.injEq, Prod.mk.injEq] at h ⊢
  exact ⟨h.1, by omega⟩
 | n + 1, i, acc, f, k, h => by
  unfold itemsE at h ⊢
  rw [partEnd_cons]
  split at h
  ·rename_i hb
   rw [if_pos hb]
   simp only [Except.ok.injEq, Prod.mk.injEq] at h ⊢
   exact ⟨h.1, by omega⟩
  ·rename_i hb
   rw [if_neg hb]
   cases hi : itemE P rec l i deep with
   | error e => rw [hi] at h; cases h
   | ok x =>
    rw [hi] at h
    obtain ⟨g, m⟩ := x
    rw [itemE_sh hP hr c hi]
    exact itemsE_sh hP hr c n m _ f k h
theorem partE_sh (hP : ShN P) {rec : List Int → Nat → Nat → Except BE (PS × Nat)} (hr : ShR rec) (c : Int) {l : List Int} {first deep i : Nat} {f : PS} {k : Nat} (h : partE P rec l first deep i = .ok (f, k)) : partE P rec (c :: l) (first + 1) deep (i + 1) = .ok (f, k + 1) := by
 unfold partE at h ⊢
 rw [show (c :: l).length + 2 - (i + 1) = l.length + 2 - i by simp]
 cases hi : itemsE P rec l first deep (l.length + 2 - i) i (fun _ => false) with
 | error e => rw [hi] at h; cases h
 | ok x =>
  rw [hi] at h
  obtain ⟨g, m⟩ := x
  rw [itemsE_sh hP hr c _ _ _ _ _ hi]
  simp only at h ⊢
  split at h
  ·cases h
  ·rename_i hb
   rw [if_neg (by omega)]
   split at h
   ·rename_i hf
    rw [if_pos hf]
    cases hg : foldE P g with
    | error e => rw [hg] at h; cases h
    | ok y =>
     rw [hg] at h
     simp only [Except.ok.injEq, Prod.mk.injEq] at h ⊢
     exact ⟨h.1, by omega⟩
   ·rename_i hf
    rw [if_neg hf]
    simp only [Except.ok.injEq, Prod.mk.injEq] at h ⊢
    exact ⟨h.1, by omega⟩
theorem andsE_sh (hP : ShN P) {rec : List Int → Nat → Nat → Except BE (PS × Nat)} (hr : ShR rec) (c : Int) {l : List Int} {first deep : Nat} : ∀ (n i : Nat) (acc f : PS) (k : Nat), andsE P rec l first deep n i acc = .ok (f, k) → andsE P rec (c :: l) (first + 1) deep n (i + 1) acc = .ok (f, k + 1)
 | 0, i, acc, f, k, h => by
  simp only [andsE, Except.ok.injEq, Prod.mk.injEq] at h ⊢
  exact ⟨h.1, by omega⟩
 | n + 1, i, acc, f, k, h => by
  unfold andsE at h ⊢
  rw [isAnd_cons]
  split at h
  ·rename_i hb
   rw [if_pos hb]
   cases hi : partE P rec l first deep (i + 2) with
   | error e => rw [hi] at h; cases h
   | ok x =>
    rw [hi] at h
    obtain ⟨g, m⟩ := x
    have := partE_sh hP hr c hi
    rw [show i + 2 + 1 = i + 1 + 2 by omega] at this
    rw [this]
    simp only at h ⊢
    cases hg : meetE P acc g with
    | error e => rw [hg] at h; cases h
    | ok y =>
     rw [hg] at h
     exact andsE_sh hP hr c n m _ f k h
  ·rename_i hb
   rw [if_neg hb]
   simp only [Except.ok.injEq, Prod.mk.injEq] at h ⊢
   exact ⟨h.1, by omega⟩
theorem bodyE_sh (hP : ShN P) {rec : List Int → Nat → Nat → Except BE (PS × Nat)} (hr : ShR rec) (c : Int) {l : List Int} {i deep : Nat} {f : PS} {k : Nat} (h : bodyE P rec l i deep = .ok (f, k)) : bodyE P rec (c :: l) (i + 1) deep = .ok (f, k + 1) := by
 unfold bodyE at h ⊢
 cases hp : partE P rec l i deep i with
 | error e => rw [hp] at h; cases h
 | ok x =>
  rw [hp] at h
  obtain ⟨g, m⟩ := x
  rw [partE_sh hP hr c hp]
  simp only at h ⊢
  rw [show (c :: l).length + 2 - (m + 1) = l.length + 2 - m by simp]
  cases ha : andsE P rec l i deep (l.length + 2 - m) m g with
  | error e => rw [ha] at h; cases h
  | ok y =>
   rw [ha] at h
   obtain ⟨u, n⟩ := y
   rw [andsE_sh hP hr c _ _ _ _ _ ha]
   simp only [isAt_cons, Except.ok.injEq, Prod.mk.injEq] at h ⊢
   refine ⟨h.1, ?_⟩
   rw [← h.2]
   split <;> rfl
theorem exprF_sh (hP : ShN P) : ∀ n, ShR (exprF P n)
 | 0 => fun c l i deep f k h => by cases h
 | n + 1 => fun c l i deep f k h => by
  have ih := exprF_sh hP n
  unfold exprF exprG at h ⊢
  rw [isAt_cons]
  split at h
  ·rename_i hb
   rw [if_pos hb]
   cases hp : bodyE P (exprF P n) l (i + 1) deep with
   | error e => rw [hp] at h; cases h
   | ok x =>
    rw [hp] at h
    obtain ⟨g, m⟩ := x
    rw [bodyE_sh hP ih c hp]
    simp only at h ⊢
    cases hg : notE P g with
    | error e => rw [hg] at h; cases h
    | ok y =>
     rw [hg] at h
     simp only [Except.ok.injEq, Prod.mk.injEq] at h ⊢
     exact ⟨h.1, by omega⟩
  ·rename_i hb
   rw [if_neg hb]
   exact bodyE_sh hP ih c h
end Go.Proofs.YtklbbbldalmnbaaGreatDoor.Br
namespace Go.Proofs.YtklbbbldalmnbaaGreatDoor.Br
set_option maxHeartbeats 1000000
open Go.RowKit
open TK (Mv PatV ReadsI add_block)
set_option linter.unusedVariables false
structure BB (w : World) (b : Nat) (v : Value) (l : List Int) (i : Nat) (d : Int) (fo : Bool) : Prop where
 box : w.heap[b]? = some (.cells #[v, .int .i64 i, .int .i64 d, .bool fo] 185 (0, 0))
 pat : PatV w v l
 ne : ∀ x c, 0 < l.length → v = .slice (some x) l.length c → x.block ≠ b
 small : l.length ≤ 300
 at' : i ≤ l.length
 pts : ∀ p ∈ l, 0 ≤ p ∧ p ≤ 1114111
 dia : d = 1 ∨ d = 2 ∨ d = 3
 tab : Fo.Tab w
 pos : 3 < b
variable {w w' : World} {b : Nat} {v : Value} {l : List Int} {i : Nat} {d : Int} {fo : Bool}
theorem BB.lt (h : BB w b v l i d fo) : b < w.heap.size := lt_of_block h.box
theorem BB.cells (h : BB w b v l i d fo) :
  w.cell? ⟨b, 0, none⟩ = some v ∧ w.cell? ⟨b, 1, none⟩ = some (.int .i64 i) ∧ w.cell? ⟨b, 2, none⟩ = some (.int .i64 d) ∧ w.cell? ⟨b, 3, none⟩ = some (.bool fo) ∧ w.frozen? ⟨b, 1, none⟩ = false := by
 refine ⟨?_, ?_, ?_, ?_, ?_⟩ <;> simp [World.cell?, World.frozen?, h.box]
theorem BB.keep (h : BB w b v l i d fo) (hb : Below w.heap.size w w') : BB w' b v l i d fo :=
 ⟨by rw [hb.block b h.lt]; exact h.box, h.pat.below hb, h.ne, h.small, h.at', h.pts, h.dia, h.tab.below hb (Nat.lt_trans h.pos h.lt), h.pos⟩
theorem BB.drewN (h : BB w b v l i d fo) (q : Nat) : BB (w.drewN q) b v l i d fo := h.keep (by exact ⟨rfl, rfl, rfl, Nat.le_refl _, fun _ _ => rfl⟩)
theorem BB.alloc (h : BB w b v l i d fo) (o : Obj) : BB (w.alloc o) b v l i d fo := h.keep ((Below.refl _ w).alloc (Nat.le_refl _) o)
theorem PatV.mv (hp : PatV w v l) (hm : Mv b w w') (hne : ∀ x c, 0 < l.length → v = .slice (some x) l.length c → x.block ≠ b) : PatV w' v l := by
 rcases hp with ⟨h1, h2⟩ | ⟨x, c, h1, h2, h3⟩
 ·exact .inl ⟨h1, h2⟩
 ·refine .inr ⟨x, c, h1, h2, fun j hj => ?_⟩
  exact hm.cell (by rw [add_block]; exact hne x c (by omega) h1) (h3 j hj)
theorem BB.mv (h : BB w b v l i d fo) (hm : Mv b w w') {j : Nat} (hj : j ≤ l.length) (hbox : w'.heap[b]? = some (.cells #[v, .int .i64 j, .int .i64 d, .bool fo] 185 (0, 0))) : BB w' b v l j d fo :=
 ⟨hbox, PatV.mv h.pat hm h.ne, h.ne, h.small, hj, h.pts, h.dia, h.tab.below (hm.below h.lt) h.pos, h.pos⟩
theorem BB.go (h : BB w b v l i d fo) (k : Nat) (hk : k ≤ l.length) : BB (w.setCell ⟨b, 1, none⟩ (.int .i64 k)) b v l k d fo := by
 refine h.mv ((Mv.refl b w).setCell 1 _) hk ?_
 have hlt := h.lt
 have h' : w.heap[b] = .cells #[v, .int .i64 i, .int .i64 d, .bool fo] 185 (0, 0) := by simpa [Array.getElem?_eq_getElem hlt] using h.box
 show (w.heap.modify b _)[b]? = _
 rw [Array.getElem?_eq_getElem (by simpa using hlt), Array.getElem_modify_self, h']
 rfl
theorem isAt_says (l : List Int) (i : Nat) (s : List Int) : isAt l i s = TK.says l i s := (TK.says_eq l i s).symm
theorem isAt_len {s : List Int} (h : isAt l i s = true) (hs : s ≠ []) : i + s.length ≤ l.length := by rw [isAt_says] at h; exact TK.says_len h hs
theorem isAt_out {s : List Int} (h : l.length < i + s.length) (hs : 1 ≤ s.length) : isAt l i s = false := by rw [isAt_says]; exact TK.says_out h hs
theorem cended_any (h : BB w b v l i d fo) :
  Calls Tryz.prog 104 #[.pointer (some ⟨b, 0, none⟩)] w fun e w' => e = .returned (.bool (decide (l.length ≤ i))) ∧ ∃ q, w' = w.drewN q := by
 obtain ⟨c0, c1, c2, c3, f1⟩ := h.cells
 obtain ⟨ao, c, rfl⟩ := h.pat.shape
 clear h
 go_enter Tryz.func104, Tryz.ntmps104
 go_wp2
 go_quiet (fail)
 go_wp2
 go_ret
 exact ⟨rfl, _, rfl⟩
theorem cis_any (y : Addr) (cs : Nat) (s : List Int) (h : BB w b v l i d fo) (hs : ReadsI w y s) (hs1 : 1 ≤ s.length) (hs2 : s.length ≤ 4) :
  Calls Tryz.prog 124 #[.pointer (some ⟨b, 0, none⟩), .slice (some y) s.length cs] w fun e w' => e = .returned (.bool (isAt l i s)) ∧ ∃ q, w' = w.drewN q := by
 obtain ⟨c0, c1, c2, c3, f1⟩ := h.cells
 have hsm := h.small
 have hat := h.at'
 by_cases hin : i + s.length ≤ l.length
 ·obtain ⟨x, c, rfl, hcap, hpat⟩ := h.pat.some (by omega)
  have hlen : ((l.drop i).take s.length).length = s.length := by rw [List.length_take, List.length_drop]; omega
  have HEq : Hid (∀ q, Calls Tryz.prog 137 #[.slice (some (x.add i)) s.length (c - i), .slice (some y) s.length cs] (w.drewN q) fun e w' => e = .returned (.bool (isAt l i s)) ∧ ∃ m, w' = (w.drewN q).drewN m) := by
   intro q
   have := TK.equal_any (x.add i) y (c - i) cs ((l.drop i).take s.length) s (w.drewN q) (TK.readsI_drop hpat i s.length) hs (by omega) (by omega)
   rw [hlen] at this
   exact this
  obtain ⟨z, hz⟩ : ∃ z, z = isAt l i s := ⟨_, rfl⟩
  obtain ⟨n, hn⟩ : ∃ n, n = l.length := ⟨_, rfl⟩
  obtain ⟨m, hm⟩ : ∃ m, m = s.length := ⟨_, rfl⟩
  rw [← hn] at c0 hin hcap hsm hat
  rw [← hm] at hin HEq hs1 hs2 ⊢
  rw [← hz] at HEq ⊢
  have hci : ¬ c = i := by omega
  clear hn hm hz h hs hlen hpat
  go_enter Tryz.func124, Tryz.ntmps124
  go_wp2
  have e1 : (decide ((i : Int) + (m : Int) ≤ (n : Int))) = true := by simp; omega
  go_quiet (first | (go_at_call 137; refine Calls.quiet_of (HEq.out _)))
  go_wp2
  go_ret
  exact ⟨rfl, _, rfl⟩
 ·rw [isAt_out (by omega) hs1]
  obtain ⟨ao, c, rfl⟩ := h.pat.shape
  obtain ⟨n, hn⟩ : ∃ n, n = l.length := ⟨_, rfl⟩
  obtain ⟨m, hm⟩ : ∃ m, m = s.length := ⟨_, rfl⟩
  rw [← hn] at c0 hin hsm hat
  rw [← hm] at hin hs1 hs2 ⊢
  clear hn hm h hs
  go_enter Tryz.func124, Tryz.ntmps124
  go_wp2
  have e1 : (decide ((i : Int) + (m : Int) ≤ (n : Int))) = false := by simp; omega
  go_quiet (fail)
  go_wp2
  go_ret
  exact ⟨rfl, _, rfl⟩
theorem cskip_any (y : Addr) (cs : Nat) (s : List Int) (h : BB w b v l i d fo) (hs : ReadsI w y s) (hs1 : 1 ≤ s.length) (hs2 : s.length ≤ 4) :
  Calls Tryz.prog 107 #[.pointer (some ⟨b, 0, none⟩), .slice (some y) s.length cs] w fun e w' => e = .returned (.bool (isAt l i s)) ∧ BB w' b v l (if isAt l i s then i + s.length else i) d fo ∧ Mv b w w' := by
 have HI := hide (cis_any y cs s h hs hs1 hs2)
 have HR := hide h
 have hat := h.at'
 have hsm := h.small
 cases hz : isAt l i s with
 | true =>
  have hin := hide (isAt_len hz (by intro e; rw [e] at hs1; simp at hs1))
  rw [hz] at HI
  obtain ⟨m, hm⟩ : ∃ m, m = s.length := ⟨_, rfl⟩
  rw [← hm] at HI hin hs1 hs2 ⊢
  clear hz hs hm
  go_enter Tryz.func107, Tryz.ntmps107
  go_wp2_with fail
  refine HI.out.mono ?_
  rintro e w1 ⟨rfl, q, rfl⟩
  obtain ⟨c0, c1, c2, c3, f1⟩ := h.cells
  clear h
  go_wp2
  go_ret
  refine ⟨rfl, ?_, ?_⟩
  ·have := (HR.out.drewN q).go (i + m) (by have := hin.out; omega)
   simpa using this
  ·have := ((Mv.refl b w).drewN q).setCell 1 (.int .i64 ((i + m : Nat) : Int))
   simpa using this
 | false =>
  rw [hz] at HI
  obtain ⟨m, hm⟩ : ∃ m, m = s.length := ⟨_, rfl⟩
  rw [← hm] at HI hs1 hs2 ⊢
  clear hz hs hm h
  go_enter Tryz.func107, Tryz.ntmps107
  go_wp2_with fail
  refine HI.out.mono ?_
  rintro e w1 ⟨rfl, q, rfl⟩
  go_wp2
  go_ret
  exact ⟨rfl, HR.out.drewN q, (Mv.refl b w).drewN q⟩
end Go.Proofs.YtklbbbldalmnbaaGreatDoor.Br
