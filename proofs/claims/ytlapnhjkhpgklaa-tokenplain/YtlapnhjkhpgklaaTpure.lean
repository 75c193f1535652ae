/- Words of patterns as functions of lists: what the reader of the program reads. No program. -/
import Derived.WalkKit
namespace Go.Proofs.Ytlapnhjkhpgklaa
set_option linter.unusedVariables false

/-- a token. -/
structure Tok where
  kind : Int := 0
  num : Int := 0
  text : ByteArray := ⟨#[]⟩
  neg : Bool := false
  least : Int := 0
  most : Int := 0
  way : Int := 0
  fold : Int := 0

def pointT (p : Int) : Tok := { kind := 1, num := p }
def lookT (k : Int) : Tok := { kind := 3, num := k }
def openT (k : Int) : Tok := { kind := 7, num := k }
def againT (k : Int) : Tok := { kind := 10, num := k }

/-- do these points come there. -/
def says (l : List Int) (i : Nat) (s : List Int) : Bool := s.isPrefixOf (l.drop i)
/-- what a digit counts. -/
def digV (p : Int) : Int := if 48 ≤ p ∧ p ≤ 57 then p - 48 else if 97 ≤ p ∧ p ≤ 102 then p - 97 + 10 else if 65 ≤ p ∧ p ≤ 70 then p - 65 + 10 else 16
theorem digV_rng (p : Int) : 0 ≤ digV p ∧ digV p ≤ 16 := by unfold digV; split <;> (try split) <;> (try split) <;> omega
def digsS (base : Int) : Nat → List Int → Int → Nat → Int × Nat
  | 0, _, n, c => (n, c)
  | _ + 1, [], n, c => (n, c)
  | k + 1, p :: t, n, c => if digV p < base then digsS base k t (n * base + digV p) (c + 1) else (n, c)
def digs (base : Int) (most : Nat) (l : List Int) (i : Nat) : Int × Nat := digsS base most (l.drop i) 0 0
def letB (p : Int) : Bool := (decide (97 ≤ p) && decide (p ≤ 122)) || (decide (65 ≤ p) && decide (p ≤ 90))
def nameB (p : Int) (first : Bool) : Bool := letB p || p == 95 || (!first && decide (digV p < 10))
def takeN : Nat → List Int → Bool → List Int
  | 0, _, _ => []
  | _ + 1, [], _ => []
  | k + 1, p :: t, f => if nameB p f then p :: takeN k t false else []
def nameL (l : List Int) (i : Nat) : List Int := takeN 20 (l.drop i) true
def byteA (l : List Int) : ByteArray := ⟨(l.map fun p => UInt8.ofNat p.toNat).toArray⟩

abbrev RT : Type := Except Int (Tok × Nat)

/-- how often, with its way. -/
def repT (d : Int) (l : List Int) (i : Nat) (least most : Int) : Tok × Nat :=
  if d = 1 then
    if says l i [63] then ({ kind := 6, least := least, most := most, way := 2 }, i + 1)
    else if says l i [43] then ({ kind := 6, least := least, most := most, way := 3 }, i + 1)
    else ({ kind := 6, least := least, most := most, way := 1 }, i)
  else ({ kind := 6, least := least, most := most, way := 1 }, i)
/-- behind an opening brace: least, most, whether it is one, and where one is then. -/
def boundsT (d : Int) (l : List Int) (i : Nat) : Int × Int × Bool × Nat :=
  let a := digs 10 3 l i
  let j := i + a.2
  let m : Int × Nat × Nat :=
    if says l j [44] then
      let b := digs 10 3 l (j + 1)
      ((if b.2 = 0 then -1 else b.1), a.2 + b.2, j + 1 + b.2)
    else (a.1, a.2, j)
  if m.2.1 = 0 then (0, 0, false, m.2.2)
  else if d = 3 then (a.1, m.1, says l m.2.2 [92, 125], if says l m.2.2 [92, 125] then m.2.2 + 2 else m.2.2)
  else (a.1, m.1, says l m.2.2 [125], if says l m.2.2 [125] then m.2.2 + 1 else m.2.2)
def timesT (d : Int) (l : List Int) (i : Nat) : RT :=
  let b := boundsT d l i
  if b.2.2.1 = false then (if d = 1 then .ok (pointT 123, i) else .error 1)
  else if b.2.1 ≠ -1 ∧ b.1 > b.2.1 then .error 3
  else if b.1 > 100 ∨ b.2.1 > 100 then .error 2
  else .ok (repT d l b.2.2.2 b.1 b.2.1)
def optT (l : List Int) (i : Nat) (f : Int) : RT :=
  if says l i [41] then .ok ({ kind := 11, fold := f }, i + 1)
  else if says l i [58] then .ok ({ kind := 7, num := 1, fold := f }, i + 1)
  else .error 1
def behT (l : List Int) (i : Nat) : RT :=
  if says l i [61] then .ok (openT 16, i + 1)
  else if says l i [33] then .ok (openT 17, i + 1)
  else if nameL l i = [] then .error 1
  else if says l (i + (nameL l i).length) [62] then .ok ({ kind := 7, num := 11, text := byteA (nameL l i) }, i + (nameL l i).length + 1)
  else .error 1
def openS (d : Int) (l : List Int) (i : Nat) : RT :=
  if d ≠ 1 then .ok (openT 11, i)
  else if says l i [63] = false then .ok (openT 11, i)
  else match l[i + 1]? with
    | none => .error 1
    | some p =>
      if p = 58 then .ok (openT 1, i + 2)
      else if p = 62 then .ok (openT 13, i + 2)
      else if p = 61 then .ok (openT 14, i + 2)
      else if p = 33 then .ok (openT 15, i + 2)
      else if p = 60 then behT l (i + 2)
      else if p = 105 then optT l (i + 2) 1
      else if p = 45 then (if says l (i + 2) [105] then optT l (i + 3) (-1) else .error 1)
      else .error 1
def partT (d : Int) (l : List Int) (p : Int) (i : Nat) : RT :=
  if p = 40 then openS d l i
  else if p = 41 then .ok ({ kind := 8 }, i)
  else if p = 124 then .ok ({ kind := 9 }, i)
  else if p = 123 then timesT d l i
  else .ok (pointT p, i)

def bDigit : ByteArray := ⟨#[100, 105, 103, 105, 116]⟩
def bWord : ByteArray := ⟨#[119, 111, 114, 100]⟩
def bSpace : ByteArray := ⟨#[115, 112, 97, 99, 101]⟩
def bXdigit : ByteArray := ⟨#[120, 100, 105, 103, 105, 116]⟩
/-- classes by letters. -/
def clsT (p : Int) : Option (ByteArray × Bool) :=
  if p = 100 then some (bDigit, false) else if p = 68 then some (bDigit, true)
  else if p = 119 then some (bWord, false) else if p = 87 then some (bWord, true)
  else if p = 115 then some (bSpace, false) else if p = 83 then some (bSpace, true)
  else if p = 104 then some (bXdigit, false) else if p = 72 then some (bXdigit, true)
  else none
def classT (c : ByteArray × Bool) : Tok := { kind := 4, text := c.1, neg := c.2 }
def ctlT (p : Int) : Except Int Int :=
  if p = 110 then .ok 10 else if p = 116 then .ok 9 else if p = 114 then .ok 13 else if p = 102 then .ok 12
  else if p = 118 then .ok 11 else if p = 97 then .ok 7 else if p = 101 then .ok 27
  else if letB p = true ∨ p = 48 then .error 1 else .ok p
def hexT (l : List Int) (i : Nat) : RT :=
  if says l i [123] = false then
    let a := digs 16 2 l i
    if a.2 < 1 then .error 1 else .ok (pointT a.1, i + a.2)
  else
    let a := digs 16 6 l (i + 1)
    if a.2 < 1 then .error 1
    else if says l (i + 1 + a.2) [125] = false then .error 1
    else if a.1 > 1114111 then .error 3 else .ok (pointT a.1, i + 1 + a.2 + 1)
def uniT (l : List Int) (i : Nat) : RT :=
  let a := digs 16 4 l i
  if a.2 < 4 then .error 1 else .ok (pointT a.1, i + a.2)
def agdT (l : List Int) (i : Nat) (n : Int) : Tok × Nat :=
  let a := digs 10 1 l i
  if a.2 = 1 then (againT (n * 10 + a.1), i + 1) else (againT n, i)
def agbT (l : List Int) (i : Nat) : RT :=
  if says l i [60] = false then .error 1
  else
    let back := says l (i + 1) [45]
    let j := if back then i + 2 else i + 1
    let a := digs 10 3 l j
    if 0 < a.2 then
      (if says l (j + a.2) [62] = false then .error 1
       else if a.1 = 0 then .error 3
       else .ok (againT (if back then -a.1 else a.1), j + a.2 + 1))
    else if back then .error 1
    else if nameL l j = [] then .error 1
    else if says l (j + (nameL l j).length) [62] = false then .error 1
    else .ok ({ kind := 10, text := byteA (nameL l j) }, j + (nameL l j).length + 1)
def rubyT (l : List Int) (i : Nat) (p : Int) : RT :=
  match clsT p with
  | some c => .ok (classT c, i)
  | none =>
    if p = 65 then .ok (lookT 5, i)
    else if p = 122 then .ok (lookT 6, i)
    else if p = 98 then .ok (lookT 7, i)
    else if p = 66 then .ok (lookT 8, i)
    else if p = 120 then hexT l i
    else if p = 117 then uniT l i
    else if p = 107 then agbT l i
    else if 49 ≤ p ∧ p ≤ 57 then .ok (agdT l i (p - 48))
    else match ctlT p with
      | .ok q => .ok (pointT q, i)
      | .error e => .error e
def emacsT (l : List Int) (i : Nat) (p : Int) : RT :=
  if p = 40 ∨ p = 41 ∨ p = 124 ∨ p = 123 then partT 3 l p i
  else if p = 119 then .ok (classT (bWord, false), i)
  else if p = 87 then .ok (classT (bWord, true), i)
  else if p = 98 then .ok (lookT 7, i)
  else if p = 66 then .ok (lookT 8, i)
  else if p = 96 then .ok (lookT 5, i)
  else if p = 39 then .ok (lookT 6, i)
  else if 49 ≤ p ∧ p ≤ 57 then .ok (againT (p - 48), i)
  else .ok (pointT p, i)
def escT (d : Int) (l : List Int) (i : Nat) : RT :=
  match l[i]? with
  | none => .error 1
  | some p => if d = 1 then rubyT l (i + 1) p else if d = 3 then emacsT l (i + 1) p else .ok (pointT p, i + 1)
/-- the token that begins at a point. -/
def tokT (d : Int) (l : List Int) (i : Nat) (p : Int) : RT :=
  if p = 92 then escT d l (i + 1)
  else if p = 46 then .ok ({ kind := 2 }, i + 1)
  else if p = 94 then .ok (lookT 3, i + 1)
  else if p = 36 then .ok (lookT 4, i + 1)
  else if p = 91 then .ok ({ kind := 5 }, i + 1)
  else if p = 42 then .ok (repT d l (i + 1) 0 (-1))
  else if p = 43 then .ok (repT d l (i + 1) 1 (-1))
  else if p = 63 then .ok (repT d l (i + 1) 0 1)
  else if d = 3 then .ok (pointT p, i + 1)
  else partT d l p (i + 1)
def nextT (d : Int) (l : List Int) (i : Nat) : RT := match l[i]? with
  | none => .error 1
  | some p => tokT d l i p

/-- what is wrong with a pattern. -/
def pointB (p : Int) : Bool := decide (0 ≤ p) && decide (p ≤ 1114111)
def patE (d : Int) (l : List Int) : Int := if d < 1 ∨ 3 < d then 7 else if 300 < l.length then 2 else if l.all pointB then 0 else 3

/-! ### Bounds -/
theorem says_len {l : List Int} {i : Nat} {s : List Int} (h : says l i s = true) (hs : s ≠ []) : i + s.length ≤ l.length := by
  unfold says at h
  have h1 := (List.isPrefixOf_iff_prefix.1 h).length_le
  rw [List.length_drop] at h1
  have : 0 < s.length := List.length_pos_iff.2 hs
  omega
theorem says_one (l : List Int) (i : Nat) (p : Int) : says l i [p] = (l[i]? == some p) := by
  unfold says
  rw [← List.head?_drop]
  cases l.drop i with
  | nil => rfl
  | cons q t =>
    simp only [List.isPrefixOf, List.head?_cons, Bool.and_true]
    rw [Bool.eq_iff_iff]
    simp only [beq_iff_eq, Option.some.injEq]
    exact eq_comm

end Go.Proofs.Ytlapnhjkhpgklaa
