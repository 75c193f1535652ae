/- Regions of the reference's Escaped that draw their order: over whatever frame. -/
import Derived.Test.YtlapnhjkhpgklaaRg1
namespace Go.Proofs.Ytlapnhjkhpgklaa
open Go.RowKit
set_option linter.unusedVariables false

abbrev R48 : Code :=
    (Code.region 48 #[{ dst := some 210, op := Op.move (Operand.tmp 20), type := 22, pos := "tree.go:231", after := #[], guard := none },
      { dst := some 211, op := Op.move (Operand.tmp 21), type := 3, pos := "tree.go:231", after := #[], guard := none },
      { dst := some 212, op := Op.binOp BinOp.add 3 (Operand.tmp 211) (Operand.const (Value.int IntKind.i64 1)) 3, type := 3, pos := "tree.go:231", after := #[{ on := 1, ground := Ground.data }], guard := none },
      { dst := some 213, op := Op.indexAddr 22 (Operand.tmp 210) (Operand.tmp 212), type := 0, pos := "tree.go:231", after := #[{ on := 0, ground := Ground.data }, { on := 2, ground := Ground.data }], guard := none },
      { dst := some 214, op := Op.load 3 (Operand.tmp 213), type := 3, pos := "tree.go:231", after := #[{ on := 3, ground := Ground.data }], guard := none },
      { dst := some 215, op := Op.call { callee := Callee.value (Operand.func 23), args := #[Operand.tmp 214], argTypes := #[3] }, type := 24, pos := "tree.go:231", after := #[{ on := 4, ground := Ground.data }], guard := none },
      { dst := some 216, op := Op.load 3 (Operand.tmp 10), type := 3, pos := "tree.go:231", after := #[{ on := 7, ground := Ground.gcOnly Departure.lateStores }], guard := none },
      { dst := none, op := Op.store 24 (Operand.tmp 6) (Operand.tmp 215), type := 0, pos := "tree.go:231", after := #[{ on := 5, ground := Ground.data }, { on := 5, ground := Ground.chain }, { on := 0, ground := Ground.phase }, { on := 1, ground := Ground.phase }, { on := 2, ground := Ground.phase }, { on := 3, ground := Ground.phase }, { on := 4, ground := Ground.phase }, { on := 5, ground := Ground.phase }, { on := 6, ground := Ground.textOnly Departure.lateStores }], guard := none },
      { dst := some 7, op := Op.assign (Operand.tmp 216), type := 3, pos := "tree.go:231", after := #[{ on := 6, ground := Ground.data }, { on := 7, ground := Ground.chain }, { on := 0, ground := Ground.phase }, { on := 1, ground := Ground.phase }, { on := 2, ground := Ground.phase }, { on := 3, ground := Ground.phase }, { on := 4, ground := Ground.phase }, { on := 5, ground := Ground.phase }, { on := 6, ground := Ground.phase }, { on := 7, ground := Ground.phase }], guard := none },
      { dst := some 8, op := Op.assign (Operand.const (Value.int IntKind.i64 0)), type := 25, pos := "tree.go:231", after := #[{ on := 8, ground := Ground.chain }, { on := 0, ground := Ground.phase }, { on := 1, ground := Ground.phase }, { on := 2, ground := Ground.phase }, { on := 3, ground := Ground.phase }, { on := 4, ground := Ground.phase }, { on := 5, ground := Ground.phase }, { on := 6, ground := Ground.phase }, { on := 7, ground := Ground.phase }, { on := 8, ground := Ground.phase }], guard := none }] true)

set_option maxRecDepth 100000 in
set_option maxHeartbeats 4000000 in
theorem reg48 {A : Array Value} {W w : World} {x : Addr} {n c : Nat} {i k v r : Int} {m M : Nat} (hsz : A.size = 354)
    (d6 : A.getD 6 undef = .pointer (some ⟨w.heap.size + 2, 0, none⟩)) (d10 : A.getD 10 undef = .pointer (some ⟨w.heap.size + 3, 0, none⟩))
    (d20 : A.getD 20 undef = .slice (some ⟨M, 0, none⟩) 14 14) (d21 : A.getD 21 undef = .int .i64 r)
    (h1 : IntKind.i64.wrap (r + 1) = r + 1) (h2 : 0 ≤ r + 1) (h3 : r + 1 < 14) (h4 : (r + 1).toNat = m) (hA : EscC w x n c i k W)
    (hc : W.cell? ⟨M, m, none⟩ = some (.int .i64 v))
    (HG : Hid (Calls Try.prog 23 #[.int .i64 v] W.drew fun e w' => e = .returned (tokV (pointT v)) ∧ EscC w x n c i k w')) :
    R48.wp Try.prog (PostN (LeafE A w x n c i k k (pointT v))) ⟨A, []⟩ W := by
  have mn := hA.a.next
  have rne := get_ne
  have req := get_eq
  clear hA
  unfold R48
  go_region_with (go_at_call 23; refine HG.out.mono ?_; rintro e w99 ⟨rfl, hA99⟩; have HA99 := hide hA99; clear hA99; have qn := HA99.out.a.next; obtain ⟨q0, q1, q2, q3, q4, q5, q6, q7⟩ := tok_cells HA99.out.a.tok; have qf := tok_free HA99.out.a.tok; simp only [tokV, pointT])
  all_goals (refine ⟨_, w99, rfl, ?_, ?_, ?_, HA99.out, rfl⟩ <;> simp [Act.put, hsz])

abbrev R42 : Code :=
    (Code.region 42 #[{ dst := some 194, op := Op.move (Operand.tmp 9), type := 3, pos := "tree.go:226", after := #[], guard := none },
      { dst := some 195, op := Op.call { callee := Callee.value (Operand.func 23), args := #[Operand.tmp 194], argTypes := #[3] }, type := 24, pos := "tree.go:226", after := #[{ on := 0, ground := Ground.data }], guard := none },
      { dst := some 196, op := Op.load 3 (Operand.tmp 10), type := 3, pos := "tree.go:226", after := #[{ on := 3, ground := Ground.gcOnly Departure.lateStores }], guard := none },
      { dst := none, op := Op.store 24 (Operand.tmp 6) (Operand.tmp 195), type := 0, pos := "tree.go:226", after := #[{ on := 1, ground := Ground.data }, { on := 1, ground := Ground.chain }, { on := 0, ground := Ground.phase }, { on := 1, ground := Ground.phase }, { on := 2, ground := Ground.textOnly Departure.lateStores }], guard := none },
      { dst := some 7, op := Op.assign (Operand.tmp 196), type := 3, pos := "tree.go:226", after := #[{ on := 2, ground := Ground.data }, { on := 3, ground := Ground.chain }, { on := 0, ground := Ground.phase }, { on := 1, ground := Ground.phase }, { on := 2, ground := Ground.phase }, { on := 3, ground := Ground.phase }], guard := none },
      { dst := some 8, op := Op.assign (Operand.const (Value.int IntKind.i64 0)), type := 25, pos := "tree.go:226", after := #[{ on := 4, ground := Ground.chain }, { on := 0, ground := Ground.phase }, { on := 1, ground := Ground.phase }, { on := 2, ground := Ground.phase }, { on := 3, ground := Ground.phase }, { on := 4, ground := Ground.phase }], guard := none }] true)

set_option maxRecDepth 100000 in
set_option maxHeartbeats 4000000 in
theorem reg42 {A : Array Value} {W w : World} {x : Addr} {n c : Nat} {i k v : Int} (hsz : A.size = 354)
    (d6 : A.getD 6 undef = .pointer (some ⟨w.heap.size + 2, 0, none⟩)) (d10 : A.getD 10 undef = .pointer (some ⟨w.heap.size + 3, 0, none⟩))
    (dv : A.getD 9 undef = .int .i64 v) (hA : EscC w x n c i k W)
    (HG : Hid (Calls Try.prog 23 #[.int .i64 v] W.drew fun e w' => e = .returned (tokV (pointT v)) ∧ EscC w x n c i k w')) :
    R42.wp Try.prog (PostN (LeafE A w x n c i k k (pointT v))) ⟨A, []⟩ W := by
  have mn := hA.a.next
  have rne := get_ne
  have req := get_eq
  clear hA
  unfold R42
  go_region_with (go_at_call 23; refine HG.out.mono ?_; rintro e w99 ⟨rfl, hA99⟩; have HA99 := hide hA99; clear hA99; have qn := HA99.out.a.next; obtain ⟨q0, q1, q2, q3, q4, q5, q6, q7⟩ := tok_cells HA99.out.a.tok; have qf := tok_free HA99.out.a.tok; simp only [tokV, pointT])
  all_goals (refine ⟨_, w99, rfl, ?_, ?_, ?_, HA99.out, rfl⟩ <;> simp [Act.put, hsz])

abbrev R71 : Code :=
    (Code.region 71 #[{ dst := some 282, op := Op.move (Operand.tmp 27), type := 3, pos := "tree.go:263", after := #[], guard := none },
      { dst := some 283, op := Op.call { callee := Callee.value (Operand.func 23), args := #[Operand.tmp 282], argTypes := #[3] }, type := 24, pos := "tree.go:263", after := #[{ on := 0, ground := Ground.data }], guard := none },
      { dst := some 284, op := Op.load 3 (Operand.tmp 10), type := 3, pos := "tree.go:263", after := #[{ on := 3, ground := Ground.gcOnly Departure.lateStores }], guard := none },
      { dst := none, op := Op.store 24 (Operand.tmp 6) (Operand.tmp 283), type := 0, pos := "tree.go:263", after := #[{ on := 1, ground := Ground.data }, { on := 1, ground := Ground.chain }, { on := 0, ground := Ground.phase }, { on := 1, ground := Ground.phase }, { on := 2, ground := Ground.textOnly Departure.lateStores }], guard := none },
      { dst := some 7, op := Op.assign (Operand.tmp 284), type := 3, pos := "tree.go:263", after := #[{ on := 2, ground := Ground.data }, { on := 3, ground := Ground.chain }, { on := 0, ground := Ground.phase }, { on := 1, ground := Ground.phase }, { on := 2, ground := Ground.phase }, { on := 3, ground := Ground.phase }], guard := none },
      { dst := some 8, op := Op.assign (Operand.const (Value.int IntKind.i64 0)), type := 25, pos := "tree.go:263", after := #[{ on := 4, ground := Ground.chain }, { on := 0, ground := Ground.phase }, { on := 1, ground := Ground.phase }, { on := 2, ground := Ground.phase }, { on := 3, ground := Ground.phase }, { on := 4, ground := Ground.phase }], guard := none }] true)

set_option maxRecDepth 100000 in
set_option maxHeartbeats 4000000 in
theorem reg71 {A : Array Value} {W w : World} {x : Addr} {n c : Nat} {i k v : Int} (hsz : A.size = 354)
    (d6 : A.getD 6 undef = .pointer (some ⟨w.heap.size + 2, 0, none⟩)) (d10 : A.getD 10 undef = .pointer (some ⟨w.heap.size + 3, 0, none⟩))
    (dv : A.getD 27 undef = .int .i64 v) (hA : EscC w x n c i k W)
    (HG : Hid (Calls Try.prog 23 #[.int .i64 v] W.drew fun e w' => e = .returned (tokV (pointT v)) ∧ EscC w x n c i k w')) :
    R71.wp Try.prog (PostN (LeafE A w x n c i k k (pointT v))) ⟨A, []⟩ W := by
  have mn := hA.a.next
  have rne := get_ne
  have req := get_eq
  clear hA
  unfold R71
  go_region_with (go_at_call 23; refine HG.out.mono ?_; rintro e w99 ⟨rfl, hA99⟩; have HA99 := hide hA99; clear hA99; have qn := HA99.out.a.next; obtain ⟨q0, q1, q2, q3, q4, q5, q6, q7⟩ := tok_cells HA99.out.a.tok; have qf := tok_free HA99.out.a.tok; simp only [tokV, pointT])
  all_goals (refine ⟨_, w99, rfl, ?_, ?_, ?_, HA99.out, rfl⟩ <;> simp [Act.put, hsz])

abbrev R95 : Code :=
    (Code.region 95 #[{ dst := some 351, op := Op.move (Operand.tmp 9), type := 3, pos := "tree.go:297", after := #[], guard := none },
      { dst := some 352, op := Op.call { callee := Callee.value (Operand.func 23), args := #[Operand.tmp 351], argTypes := #[3] }, type := 24, pos := "tree.go:297", after := #[{ on := 0, ground := Ground.data }], guard := none },
      { dst := some 353, op := Op.load 3 (Operand.tmp 10), type := 3, pos := "tree.go:297", after := #[{ on := 3, ground := Ground.gcOnly Departure.lateStores }], guard := none },
      { dst := none, op := Op.store 24 (Operand.tmp 6) (Operand.tmp 352), type := 0, pos := "tree.go:297", after := #[{ on := 1, ground := Ground.data }, { on := 1, ground := Ground.chain }, { on := 0, ground := Ground.phase }, { on := 1, ground := Ground.phase }, { on := 2, ground := Ground.textOnly Departure.lateStores }], guard := none },
      { dst := some 7, op := Op.assign (Operand.tmp 353), type := 3, pos := "tree.go:297", after := #[{ on := 2, ground := Ground.data }, { on := 3, ground := Ground.chain }, { on := 0, ground := Ground.phase }, { on := 1, ground := Ground.phase }, { on := 2, ground := Ground.phase }, { on := 3, ground := Ground.phase }], guard := none },
      { dst := some 8, op := Op.assign (Operand.const (Value.int IntKind.i64 0)), type := 25, pos := "tree.go:297", after := #[{ on := 4, ground := Ground.chain }, { on := 0, ground := Ground.phase }, { on := 1, ground := Ground.phase }, { on := 2, ground := Ground.phase }, { on := 3, ground := Ground.phase }, { on := 4, ground := Ground.phase }], guard := none }] true)

set_option maxRecDepth 100000 in
set_option maxHeartbeats 4000000 in
theorem reg95 {A : Array Value} {W w : World} {x : Addr} {n c : Nat} {i k v : Int} (hsz : A.size = 354)
    (d6 : A.getD 6 undef = .pointer (some ⟨w.heap.size + 2, 0, none⟩)) (d10 : A.getD 10 undef = .pointer (some ⟨w.heap.size + 3, 0, none⟩))
    (dv : A.getD 9 undef = .int .i64 v) (hA : EscC w x n c i k W)
    (HG : Hid (Calls Try.prog 23 #[.int .i64 v] W.drew fun e w' => e = .returned (tokV (pointT v)) ∧ EscC w x n c i k w')) :
    R95.wp Try.prog (PostN (LeafE A w x n c i k k (pointT v))) ⟨A, []⟩ W := by
  have mn := hA.a.next
  have rne := get_ne
  have req := get_eq
  clear hA
  unfold R95
  go_region_with (go_at_call 23; refine HG.out.mono ?_; rintro e w99 ⟨rfl, hA99⟩; have HA99 := hide hA99; clear hA99; have qn := HA99.out.a.next; obtain ⟨q0, q1, q2, q3, q4, q5, q6, q7⟩ := tok_cells HA99.out.a.tok; have qf := tok_free HA99.out.a.tok; simp only [tokV, pointT])
  all_goals (refine ⟨_, w99, rfl, ?_, ?_, ?_, HA99.out, rfl⟩ <;> simp [Act.put, hsz])

end Go.Proofs.Ytlapnhjkhpgklaa
