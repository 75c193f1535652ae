import Derived.Test.YtaccofiegkdlgaaGreatDoorLC
import Derived.Test.YtaccofiegkdlgaaGreatDoorMC
import Derived.Test.YtaccofiegkdlgaaGreatDoorMA
namespace Go.Proofs.YtaccofiegkdlgaaGreatDoor.Pa
open TR (Tr)
open Br (BE PS)
set_option linter.unusedVariables false
noncomputable def listOf (f : PS) : RL := @dite _ (∃ S, IsSet f S) (Classical.propDecidable _) (fun h => Classical.choose h) (fun _ => [])
theorem listOf_is {f : PS} {S : RL} (h : IsSet f S) : listOf f = S := by
 unfold listOf
 have hx : ∃ S, IsSet f S := ⟨S, h⟩
 rw [dif_pos hx]
 exact isSet_one (Classical.choose_spec hx) h
noncomputable def foldP (fo : Bool) (f : PS) : PS := if fo then Br.fldB f else f
noncomputable def setM (d : Int) (l : List Int) (s : St) : Except BE (PS × Nat) :=
 if s.tok.kind = 1 then .ok (foldP s.folded (fun x => decide (s.tok.num ≤ x) && decide (x ≤ s.tok.num)), s.next)
 else if s.tok.kind = 4 then .ok ((if s.tok.neg then (fun x => !foldP s.folded (ins (Br.rngOf s.tok.text)) x) else foldP s.folded (ins (Br.rngOf s.tok.text))), s.next)
 else if s.tok.kind = 5 then (match Br.parseM d s.folded l (s.next : Int) with
  | .error (z, a) => .error (z, max a (s.pos : Int))
  | .ok (f, k) => .ok (f, k))
 else .ok (fun x => !(decide (10 ≤ x) && decide (x ≤ 10)), s.next)
noncomputable def singleM (d : Int) (l : List Int) (s : St) : Except BE (Tr × St) :=
 if s.tok.kind = 3 then .ok (kindT s.tok.num, s)
 else if s.tok.kind = 10 then againM s
 else if s.tok.kind = 11 then .ok (emptyT, { s with folded := foldedBy s s.tok.fold })
 else match setM d l s with
  | .error e => .error e
  | .ok (f, k) => .ok (setT (listOf f), { s with next := k })
abbrev Rd : Type := Bool → St → Except BE (Tr × St)
def openM (d : Int) (l : List Int) (rec : Rd) (s : St) : Except BE (Tr × St) :=
 if s.deep = 20 then .error (2, (s.pos : Int))
 else match (if s.tok.num = 11 then beginM s s.tok.text else .ok s) with
  | .error e => .error e
  | .ok s1 => match advM d l s1 with
   | .error e => .error e
   | .ok s2 => match rec (foldedBy s2 s.tok.fold) { s2 with deep := s2.deep + 1 } with
    | .error e => .error e
    | .ok (t, s3) =>
     if s3.tok.kind ≠ 8 then .error (1, (s3.pos : Int))
     else match advM d l { s3 with deep := s3.deep - 1 } with
      | .error e => .error e
      | .ok s4 => if s.tok.num = 1 then .ok (t, s4) else .ok (.mk s.tok.num (if s.tok.num = 11 then (s1.groups : Int) else 0) 0 0 0 false [] [t], s4)
noncomputable def atomM (d : Int) (l : List Int) (rec : Rd) (s : St) : Except BE (Tr × St) :=
 if s.tok.kind = 6 then .error (1, (s.pos : Int))
 else if s.tok.kind = 7 then openM d l rec s
 else match singleM d l s with
  | .error e => .error e
  | .ok (t, s1) => match advM d l s1 with
   | .error e => .error e
   | .ok s2 => .ok (t, s2)
def repsM (d : Int) (l : List Int) (may : Bool) : Nat → Nat → Tr → St → Except BE (Tr × St)
 | 0, _, t, s => .ok (t, s)
 | n + 1, ahead, t, s =>
  if s.tok.kind = 6 then
   (if may = false then .error (1, (s.pos : Int))
   else if 3 < ahead then .error (2, (s.pos : Int))
   else match advM d l s with
    | .error e => .error e
    | .ok s1 => repsM d l may n (ahead + 1) (repT t s.tok) s1)
  else .ok (t, s)
noncomputable def pieceM (d : Int) (l : List Int) (rec : Rd) (s : St) : Except BE (Tr × St) :=
 match atomM d l rec s with
 | .error e => .error e
 | .ok (t, s1) => repsM d l (decide (s.tok.kind ≠ 11)) 6 0 t s1
def endM (l : List Int) (s : St) : Bool := decide (s.pos = l.length) || decide (s.tok.kind = 9) || decide (s.tok.kind = 8)
noncomputable def piecesM (d : Int) (l : List Int) (rec : Rd) : Nat → List Tr → St → Except BE (List Tr × St)
 | 0, ps, s => .ok (ps, s)
 | n + 1, ps, s =>
  if endM l s then .ok (ps, s)
  else match pieceM d l rec s with
   | .error e => .error e
   | .ok (t, s1) => piecesM d l rec n (ps ++ [t]) s1
noncomputable def branchM (d : Int) (l : List Int) (rec : Rd) (s : St) : Except BE (Tr × St) :=
 match piecesM d l rec (l.length + 1) [] s with
 | .error e => .error e
 | .ok (ps, s1) => .ok (rowT ps, s1)
noncomputable def barsM (d : Int) (l : List Int) (rec : Rd) : Nat → List Tr → St → Except BE (List Tr × St)
 | 0, bs, s => .ok (bs, s)
 | n + 1, bs, s =>
  if s.tok.kind = 9 then
   (match advM d l s with
   | .error e => .error e
   | .ok s1 => match branchM d l rec s1 with
    | .error e => .error e
    | .ok (t, s2) => barsM d l rec n (bs ++ [t]) s2)
  else .ok (bs, s)
noncomputable def branchesG (d : Int) (l : List Int) (rec : Rd) : Rd := fun fo s =>
 match branchM d l rec { s with folded := fo } with
 | .error e => .error e
 | .ok (t, s1) => match barsM d l rec (l.length + 1) [t] s1 with
  | .error e => .error e
  | .ok (bs, s2) => .ok (eitherT bs, { s2 with folded := s.folded })
noncomputable def branchesF (d : Int) (l : List Int) : Nat → Rd
 | 0 => fun _ _ => .error (2, 0)
 | n + 1 => branchesG d l (branchesF d l n)
def numsM (names : List Nm) (groups : Nat) : List Ag → Except BE (List Int)
 | [] => .ok []
 | a :: rs =>
  let n := if a.name.toList = [] then a.num else (match names.find? (fun m => m.1.toList == a.name.toList) with | some m => m.2 | none => 0)
  if n < 1 ∨ (groups : Int) < n then .error (5, (a.pos : Int))
  else match numsM names groups rs with
   | .error e => .error e
   | .ok ns => .ok (n :: ns)
def settleT (ns : List Int) : Tr → Tr
 | .mk k n a b c f S ks => .mk k (if k = 18 then ns.getD n.toNat 0 else n) a b c f S (settleL ns ks)
where settleL (ns : List Int) : List Tr → List Tr
 | [] => []
 | t :: ts => settleT ns t :: settleL ns ts
structure Pt where
 tree : Tr
 groups : Nat
 names : List Nm
noncomputable def wholeM (big : Tr → Bool) (d : Int) (fo : Bool) (l : List Int) : Except BE Pt :=
 match advM d l {} with
 | .error e => .error e
 | .ok s0 => match branchesF d l 21 fo s0 with
  | .error e => .error e
  | .ok (t, s) =>
   if s.tok.kind = 8 then .error (1, (s.pos : Int))
   else match numsM s.names s.groups s.agains with
    | .error e => .error e
    | .ok ns => if big (settleT ns t) then .error (2, 0) else .ok ⟨settleT ns t, s.groups, s.names⟩
noncomputable def patM (big : Tr → Bool) (d : Int) (fo : Bool) (l : List Int) : Except BE Pt :=
 if TK.patE d l ≠ 0 then .error (TK.patE d l, 0) else wholeM big d fo l
end Go.Proofs.YtaccofiegkdlgaaGreatDoor.Pa
namespace Go.Proofs.YtaccofiegkdlgaaGreatDoor.Pa
open Br (BE PS manyB fldB rngOf It US fP count_all rngJ)
set_option linter.unusedVariables false
set_option maxRecDepth 100000
def oneF (p : Int) : PS := fun x => decide (p ≤ x) && decide (x ≤ p)
theorem one_set {p : Int} (h : 0 ≤ p ∧ p ≤ 1114111) : IsSet (oneF p) [(p, p)] := by
 refine ⟨⟨fun r hr => ?_, List.pairwise_singleton _ _⟩, fun q => ?_⟩
 ·rw [List.mem_singleton] at hr; subst hr; exact ⟨h.1, Int.le_refl _, h.2⟩
 ·simp only [ins, oneF, List.any_cons, List.any_nil, Bool.or_false]
  by_cases h1 : p ≤ q
  ·by_cases h2 : q ≤ p
   ·have : 0 ≤ q ∧ q ≤ 1114111 := by omega
    simp [h1, h2, this.1, this.2]
   ·simp [h2]
  ·simp [h1]
theorem us_one (t : It) (b : Bool) : US [(t, b)] = fP b t.set := by
 funext q
 simp [US]
theorem few_one {p : Int} (h : 0 ≤ p ∧ p ≤ 1114111) (b : Bool) : manyB (foldP b (oneF p)) = false := by
 have := count_all (D := [(.rng p p, b)]) (fun t ht => by rw [List.mem_singleton] at ht; subst ht; exact ⟨h.1, Int.le_refl _, h.2⟩) (by simp [Br.costs, It.cost])
 rw [us_one] at this
 exact this
def fourJ (s : ByteArray) : Nat := if s = TK.bDigit then 3 else if s = TK.bXdigit then 4 else if s = TK.bSpace then 6 else 12
theorem four_rng {s : ByteArray} (h : s = TK.bDigit ∨ s = TK.bWord ∨ s = TK.bSpace ∨ s = TK.bXdigit) : rngOf s = rngJ (fourJ s) ∧ s ∈ Br.names ∧ fourJ s < 14 := by
 rcases h with rfl | rfl | rfl | rfl
 ·exact ⟨by decide +kernel, by simp [Br.names, TK.bDigit, Fo.nm_digit], by decide +kernel⟩
 ·exact ⟨by decide +kernel, by simp [Br.names, TK.bWord, Fo.nm_word], by decide +kernel⟩
 ·exact ⟨by decide +kernel, by simp [Br.names, TK.bSpace, Fo.nm_space], by decide +kernel⟩
 ·exact ⟨by decide +kernel, by simp [Br.names, TK.bXdigit, Fo.nm_xdigit], by decide +kernel⟩
theorem few_class {s : ByteArray} (h : s = TK.bDigit ∨ s = TK.bWord ∨ s = TK.bSpace ∨ s = TK.bXdigit) (neg b : Bool) : manyB (fP b (It.set (.cls (fourJ s) neg 100))) = false := by
 have := count_all (D := [(.cls (fourJ s) neg 100, b)]) (fun t ht => by
  rw [List.mem_singleton] at ht; subst ht
  refine ⟨(four_rng h).2.2, ?_⟩
  rcases h with rfl | rfl | rfl | rfl <;> decide +kernel) (by simp [Br.costs, It.cost])
 rw [us_one] at this
 exact this
theorem closed_all : ([TK.bDigit, TK.bWord, TK.bSpace, TK.bXdigit].all fun s => Fo.rels.all fun p => !ins (rngOf s) p || (Fo.orb p).all fun q => ins (rngOf s) q) = true := by decide +kernel
theorem closed {s : ByteArray} (h : s = TK.bDigit ∨ s = TK.bWord ∨ s = TK.bSpace ∨ s = TK.bXdigit) {p q : Int} (hp : ins (rngOf s) p = true) (hq : q ∈ Fo.orb p) : ins (rngOf s) q = true := by
 by_cases hr : Fo.relB p = true
 ·have h1 := List.all_eq_true.1 closed_all s (by rcases h with rfl | rfl | rfl | rfl <;> simp)
  have h2 := List.all_eq_true.1 h1 p (Fo.mem_rels hr)
  simp only [hp, Bool.not_true, Bool.false_or] at h2
  exact List.all_eq_true.1 h2 q hq
 ·rw [Fo.orb_none (by simpa using hr)] at hq
  rw [List.mem_singleton] at hq
  rw [hq]; exact hp
theorem fold_class {s : ByteArray} (h : s = TK.bDigit ∨ s = TK.bWord ∨ s = TK.bSpace ∨ s = TK.bXdigit) (b : Bool) {q : Int} (h0 : 0 ≤ q) (h1 : q ≤ 1114111) : foldP b (ins (rngOf s)) q = ins (rngOf s) q := by
 cases b with
 | false => rfl
 | true =>
  show fldB (ins (rngOf s)) q = _
  cases hh : ins (rngOf s) q with
  | true => exact (Br.fld_iff _ h0 h1).2 (.inl hh)
  | false =>
   rw [← Bool.not_eq_true]
   intro hf
   rcases (Br.fld_iff _ h0 h1).1 hf with h2 | ⟨p, _, _, h5, _, h7⟩
   ·rw [hh] at h2; cases h2
   ·have := closed h h5 h7
    rw [hh] at this; cases this
theorem few_cls {s : ByteArray} (h : s = TK.bDigit ∨ s = TK.bWord ∨ s = TK.bSpace ∨ s = TK.bXdigit) (b : Bool) : manyB (foldP b (ins (rngOf s))) = false := by
 have := few_class h false b
 have e : It.set (.cls (fourJ s) false 100) = ins (rngOf s) := by funext x; rw [(four_rng h).1]; rfl
 rw [e] at this
 exact this
theorem few_ncls {s : ByteArray} (h : s = TK.bDigit ∨ s = TK.bWord ∨ s = TK.bSpace ∨ s = TK.bXdigit) (b : Bool) : manyB (fun x => !foldP b (ins (rngOf s)) x) = false := by
 have := few_class h true false
 rw [Br.many_congr (g := It.set (.cls (fourJ s) true 100)) fun q h0 h1 => by rw [fold_class h b h0 h1, (four_rng h).1]; rfl]
 exact this
theorem few_raw {p : Int} (h : 0 ≤ p ∧ p ≤ 1114111) : manyB (oneF p) = false := few_one h false
theorem dot_set : IsSet (fun x => !oneF 10 x) [(0, 9), (11, 1114111)] := by
 refine ⟨⟨fun r hr => ?_, ?_⟩, fun q => ?_⟩
 ·simp only [List.mem_cons, List.not_mem_nil, or_false] at hr
  rcases hr with rfl | rfl <;> simp [okR]
 ·simp
 ·simp only [ins, oneF, List.any_cons, List.any_nil, Bool.or_false]
  by_cases h1 : 0 ≤ q <;> by_cases h2 : q ≤ 9 <;> by_cases h3 : 11 ≤ q <;> by_cases h4 : q ≤ 1114111 <;> by_cases h5 : 10 ≤ q <;> by_cases h6 : q ≤ 10 <;> simp [h1, h2, h3, h4, h5, h6] <;> omega
theorem few_dot : manyB (fun x => !oneF 10 x) = false := by
 rw [Br.many_of dot_set]; rfl
end Go.Proofs.YtaccofiegkdlgaaGreatDoor.Pa
