/- Trees of patterns: as they lie in memory, and what is read of them. -/
import Derived.Test.YtpcohmbipbiglaaDoorSbase
namespace Go.Proofs.YtpcohmbipbiglaaDoor
open Go.RowKit
set_option linter.unusedVariables false

theorem at_new' (w : World) (o : Obj) {k : Nat} (h : k = w.heap.size) : (w.alloc o).heap[k]? = some o := by rw [h]; exact heap_alloc_new w o
theorem at_new (w : World) (o : Obj) : (w.alloc o).heap[w.heap.size]? = some o := heap_alloc_new w o
theorem lt_of_block {w : World} {g : Nat} {o : Obj} (h : w.heap[g]? = some o) : g < w.heap.size := (Array.getElem?_eq_some_iff.1 h).1
theorem at_old {w : World} {o o' : Obj} {k : Nat} (h : w.heap[k]? = some o) : (w.alloc o').heap[k]? = some o := by rw [Below.heap_alloc _ _ _ (lt_of_block h)]; exact h

/-- a tree. -/
inductive Tr where
  | mk (kind num least most way : Int) (fold : Bool) (set : RL) (kids : List Tr)
def Tr.kind : Tr → Int | .mk k _ _ _ _ _ _ _ => k
def Tr.num : Tr → Int | .mk _ k _ _ _ _ _ _ => k
def Tr.least : Tr → Int | .mk _ _ k _ _ _ _ _ => k
def Tr.most : Tr → Int | .mk _ _ _ k _ _ _ _ => k
def Tr.way : Tr → Int | .mk _ _ _ _ k _ _ _ => k
def Tr.fold : Tr → Bool | .mk _ _ _ _ _ k _ _ => k
def Tr.set : Tr → RL | .mk _ _ _ _ _ _ k _ => k
def Tr.kids : Tr → List Tr | .mk _ _ _ _ _ _ _ k => k

/-- a node as it is handed on: its fields. -/
structure NV where
  kind : Int
  sa : Option Addr
  sl : Nat
  sc : Nat
  ka : Option Addr
  kl : Nat
  kc : Nat
  num : Int
  least : Int
  most : Int
  way : Int
  fold : Bool
abbrev nvV (n : NV) : Value := .agg #[.int .i64 n.kind, .slice n.sa n.sl n.sc, .slice n.ka n.kl n.kc, .int .i64 n.num, .int .i64 n.least, .int .i64 n.most, .int .i64 n.way, .bool n.fold]
abbrev nvO (n : NV) : Obj := .cells #[.int .i64 n.kind, .slice n.sa n.sl n.sc, .slice n.ka n.kl n.kc, .int .i64 n.num, .int .i64 n.least, .int .i64 n.most, .int .i64 n.way, .bool n.fold] 25
/-- the eight cells of a node. -/
structure NCells (w : World) (a : Addr) (n : NV) : Prop where
  c0 : w.cell? a = some (.int .i64 n.kind)
  c1 : w.cell? ⟨a.block, a.off + 1, none⟩ = some (.slice n.sa n.sl n.sc)
  c2 : w.cell? ⟨a.block, a.off + 2, none⟩ = some (.slice n.ka n.kl n.kc)
  c3 : w.cell? ⟨a.block, a.off + 3, none⟩ = some (.int .i64 n.num)
  c4 : w.cell? ⟨a.block, a.off + 4, none⟩ = some (.int .i64 n.least)
  c5 : w.cell? ⟨a.block, a.off + 5, none⟩ = some (.int .i64 n.most)
  c6 : w.cell? ⟨a.block, a.off + 6, none⟩ = some (.int .i64 n.way)
  c7 : w.cell? ⟨a.block, a.off + 7, none⟩ = some (.bool n.fold)
/-- a slice of nodes: nil, or a place with their cells. -/
def KidsC (w : World) (ka : Option Addr) (kl kc : Nat) (len : Nat) (vs : Nat → NV) : Prop :=
  (ka = none ∧ kl = 0 ∧ kc = 0 ∧ len = 0) ∨ ∃ x, ka = some x ∧ kl = len ∧ (len ≤ kc ∧ kc ≤ 9223372036854775807) ∧ ∀ j, j < len → NCells w (x.add (j * 8)) (vs j)
/-- a tree in memory. -/
inductive NodeC (w : World) : NV → Tr → Prop
  | mk (n : NV) (set : RL) (kids : List Tr) (vs : Nat → NV) (hs : Reads w (.slice n.sa n.sl n.sc) set) (hk : KidsC w n.ka n.kl n.kc kids.length vs) (h : ∀ j (hj : j < kids.length), NodeC w (vs j) kids[j]) : NodeC w n (.mk n.kind n.num n.least n.most n.way n.fold set kids)

theorem NCells.below {w w' : World} {a : Addr} {n : NV} (h : NCells w a n) (hb : Below w.heap.size w w') : NCells w' a n :=
  ⟨below_cell hb (lt_of_cell h.c0) h.c0, below_cell hb (lt_of_cell h.c1) h.c1, below_cell hb (lt_of_cell h.c2) h.c2, below_cell hb (lt_of_cell h.c3) h.c3, below_cell hb (lt_of_cell h.c4) h.c4, below_cell hb (lt_of_cell h.c5) h.c5, below_cell hb (lt_of_cell h.c6) h.c6, below_cell hb (lt_of_cell h.c7) h.c7⟩
theorem KidsC.below {w w' : World} {ka : Option Addr} {kl kc len : Nat} {vs : Nat → NV} (h : KidsC w ka kl kc len vs) (hb : Below w.heap.size w w') : KidsC w' ka kl kc len vs := by
  rcases h with h | ⟨x, h1, h2, hm, h3⟩
  · exact .inl h
  · exact .inr ⟨x, h1, h2, hm, fun j hj => (h3 j hj).below hb⟩
theorem NodeC.keep {w w' : World} {n : NV} {t : Tr} (h : NodeC w n t) (hb : Below w.heap.size w w') : NodeC w' n t := by
  induction h with
  | mk n set kids vs hs hk h ih => exact .mk n set kids vs (hs.below hb) (hk.below hb) ih
theorem KidsC.len {w : World} {ka : Option Addr} {kl kc len : Nat} {vs : Nat → NV} (h : KidsC w ka kl kc len vs) : kl = len := by
  rcases h with ⟨_, h1, _, h2⟩ | ⟨x, h1, h2, _, h3⟩
  · omega
  · exact h2
/-- what is known of a node. -/
theorem NodeC.open {w : World} {n : NV} {t : Tr} (h : NodeC w n t) : t.kind = n.kind ∧ t.num = n.num ∧ t.least = n.least ∧ t.most = n.most ∧ t.way = n.way ∧ t.fold = n.fold ∧ Reads w (.slice n.sa n.sl n.sc) t.set ∧ ∃ vs, KidsC w n.ka n.kl n.kc t.kids.length vs ∧ ∀ j (hj : j < t.kids.length), NodeC w (vs j) t.kids[j] := by
  cases h with
  | mk _ set kids vs hs hk h => exact ⟨rfl, rfl, rfl, rfl, rfl, rfl, hs, vs, hk, h⟩
/-- the box of a node. -/
theorem nv_cells {w : World} {k : Nat} {n : NV} (h : w.heap[k]? = some (nvO n)) : NCells w ⟨k, 0, none⟩ n := by
  refine ⟨?_, ?_, ?_, ?_, ?_, ?_, ?_, ?_⟩ <;> simp [World.cell?, h]

end Go.Proofs.YtpcohmbipbiglaaDoor
