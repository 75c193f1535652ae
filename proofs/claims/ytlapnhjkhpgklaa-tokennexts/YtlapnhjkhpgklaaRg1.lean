/- A region of the reference's Escaped that draws its order: over whatever frame. -/
import Derived.Test.YtlapnhjkhpgklaaRc4
import Derived.Deep.RegionWith
namespace Go.Proofs.Ytlapnhjkhpgklaa
open Go.RowKit
set_option linter.unusedVariables false

abbrev R14 : Code :=
    (Code.region 14 #[{ dst := some 82, op := Op.move (Operand.tmp 12), type := 56, pos := "tree.go:192", after := #[], guard := none },
      { dst := some 83, op := Op.move (Operand.tmp 13), type := 3, pos := "tree.go:192", after := #[], guard := none },
      { dst := some 84, op := Op.binOp BinOp.add 3 (Operand.tmp 83) (Operand.const (Value.int IntKind.i64 1)) 3, type := 3, pos := "tree.go:192", after := #[{ on := 1, ground := Ground.data }], guard := none },
      { dst := some 85, op := Op.indexAddr 56 (Operand.tmp 82) (Operand.tmp 84), type := 0, pos := "tree.go:192", after := #[{ on := 0, ground := Ground.data }, { on := 2, ground := Ground.data }], guard := none },
      { dst := some 86, op := Op.load 9 (Operand.tmp 85), type := 9, pos := "tree.go:192", after := #[{ on := 3, ground := Ground.data }], guard := none },
      { dst := some 87, op := Op.move (Operand.tmp 11), type := 42, pos := "tree.go:192", after := #[], guard := none },
      { dst := some 88, op := Op.move (Operand.tmp 14), type := 9, pos := "tree.go:192", after := #[], guard := none },
      { dst := some 89, op := Op.call { callee := Callee.value (Operand.tmp 87), args := #[Operand.tmp 88], argTypes := #[9] }, type := 4, pos := "tree.go:192", after := #[{ on := 5, ground := Ground.data }, { on := 6, ground := Ground.data }], guard := none },
      { dst := some 90, op := Op.build 24 #[(0, Operand.const (Value.int IntKind.i64 4)), (2, Operand.tmp 86), (3, Operand.tmp 89)], type := 24, pos := "tree.go:192", after := #[{ on := 4, ground := Ground.data }, { on := 7, ground := Ground.data }], guard := none },
      { dst := some 91, op := Op.load 3 (Operand.tmp 10), type := 3, pos := "tree.go:192", after := #[{ on := 10, ground := Ground.gcOnly Departure.lateStores }], guard := none },
      { dst := none, op := Op.store 24 (Operand.tmp 6) (Operand.tmp 90), type := 0, pos := "tree.go:192", after := #[{ on := 8, ground := Ground.data }, { on := 7, ground := Ground.chain }, { on := 0, ground := Ground.phase }, { on := 1, ground := Ground.phase }, { on := 2, ground := Ground.phase }, { on := 3, ground := Ground.phase }, { on := 4, ground := Ground.phase }, { on := 5, ground := Ground.phase }, { on := 6, ground := Ground.phase }, { on := 7, ground := Ground.phase }, { on := 8, ground := Ground.phase }, { on := 9, ground := Ground.textOnly Departure.lateStores }], guard := none },
      { dst := some 7, op := Op.assign (Operand.tmp 91), type := 3, pos := "tree.go:192", after := #[{ on := 9, ground := Ground.data }, { on := 10, ground := Ground.chain }, { on := 0, ground := Ground.phase }, { on := 1, ground := Ground.phase }, { on := 2, ground := Ground.phase }, { on := 3, ground := Ground.phase }, { on := 4, ground := Ground.phase }, { on := 5, ground := Ground.phase }, { on := 6, ground := Ground.phase }, { on := 7, ground := Ground.phase }, { on := 8, ground := Ground.phase }, { on := 9, ground := Ground.phase }, { on := 10, ground := Ground.phase }], guard := none },
      { dst := some 8, op := Op.assign (Operand.const (Value.int IntKind.i64 0)), type := 25, pos := "tree.go:192", after := #[{ on := 11, ground := Ground.chain }, { on := 0, ground := Ground.phase }, { on := 1, ground := Ground.phase }, { on := 2, ground := Ground.phase }, { on := 3, ground := Ground.phase }, { on := 4, ground := Ground.phase }, { on := 5, ground := Ground.phase }, { on := 6, ground := Ground.phase }, { on := 7, ground := Ground.phase }, { on := 8, ground := Ground.phase }, { on := 9, ground := Ground.phase }, { on := 10, ground := Ground.phase }, { on := 11, ground := Ground.phase }], guard := none }] true)

theorem get_ne (B : Array Value) (i j : Nat) (v : Value) (h : i ≠ j) : (B.setIfInBounds i v).getD j undef = B.getD j undef := by simp [Array.getD_eq_getD_getElem?, Array.getElem?_setIfInBounds_ne h]
theorem get_eq (B : Array Value) (i : Nat) (v : Value) (h : i < B.size) : (B.setIfInBounds i v).getD i undef = v := by simp [Array.getD_eq_getD_getElem?, h]

/-- behind a statement that comes to its end. -/
def PostN (F : Act → World → Prop) : Exit → Act → World → Prop
  | .normal, a, w => F a w
  | _, _, _ => False
theorem wp_after {P : Program} {c : Code} {Q : Exit → Act → World → Prop} {F : Act → World → Prop} {a : Act} {w : World} (h : c.wp P (PostN F) a w) (hK : ∀ a' w', F a' w' → Q .normal a' w') : c.wp P Q a w := by
  refine wp_mono h ?_
  intro e a' w' hq
  cases e with
  | normal => exact hK _ _ hq
  | _ => exact hq.elim
/-- what a leaf leaves: the result in its cell, the other two in their slots. -/
def LeafE (A : Array Value) (w : World) (x : Addr) (n c : Nat) (i k k' : Int) (t : Tok) (a' : Act) (w' : World) : Prop :=
  ∃ (A' : Array Value) (w9 : World), a' = ⟨A', []⟩ ∧ A'[6]? = A[6]? ∧ A'[7]? = some (.int .i64 k') ∧ A'[8]? = some (.int .i64 0) ∧ EscC w x n c i k w9 ∧ w' = tset w9 (w.heap.size + 2) t

set_option maxRecDepth 100000 in
set_option maxHeartbeats 4000000 in
theorem reg14 {A : Array Value} {W w : World} {x : Addr} {n c : Nat} {i k : Int} {r : Int} {m : Nat} {C : UInt8} {b : Bool} {s : ByteArray} (hsz : A.size = 354)
    (d6 : A.getD 6 undef = .pointer (some ⟨w.heap.size + 2, 0, none⟩)) (d10 : A.getD 10 undef = .pointer (some ⟨w.heap.size + 3, 0, none⟩))
    (d11 : A.getD 11 undef = .func (.func 30) #[] #[.pointer (some ⟨w.heap.size, 0, none⟩), .pointer (some ⟨w.heap.size + 1, 0, none⟩)])
    (d12 : A.getD 12 undef = .slice (some ⟨w.heap.size + 4, 0, none⟩) 8 8) (d13 : A.getD 13 undef = .int .i64 r) (d14 : A.getD 14 undef = .string ⟨#[C]⟩)
    (h1 : IntKind.i64.wrap (r + 1) = r + 1) (h2 : 0 ≤ r + 1) (h3 : r + 1 < 8) (h4 : (r + 1).toNat = m) (hA : EscC w x n c i k W)
    (hc : ∀ W, EscC w x n c i k W → W.cell? ⟨w.heap.size + 4, m, none⟩ = some (.string s))
    (HG : Hid (Calls Try.prog 30 #[.string ⟨#[C]⟩, .pointer (some ⟨w.heap.size, 0, none⟩), .pointer (some ⟨w.heap.size + 1, 0, none⟩)] W.drew fun e w' => e = .returned (.bool b) ∧ EscC w x n c i k w')) :
    R14.wp Try.prog (PostN (LeafE A w x n c i k k { kind := 4, text := s, neg := b })) ⟨A, []⟩ W := by
  have mn := hA.a.next
  have mk := hc W hA
  have HC := hide hc
  have HA := hide hA
  have rne := get_ne
  have req := get_eq
  clear hA hc
  unfold R14
  go_region_with (go_at_call 30; refine HG.out.mono ?_; rintro e w99 ⟨rfl, hA99⟩; have HA99 := hide hA99; have qk := HC.out w99 hA99; clear hA99; have qn := HA99.out.a.next; obtain ⟨q0, q1, q2, q3, q4, q5, q6, q7⟩ := tok_cells HA99.out.a.tok; have qf := tok_free HA99.out.a.tok)
  all_goals (refine ⟨_, w99, rfl, ?_, ?_, ?_, HA99.out, rfl⟩ <;> simp [Act.put, hsz])

end Go.Proofs.Ytlapnhjkhpgklaa
