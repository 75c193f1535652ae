/- What node answers: lemmas on rows that grow. -/
import Derived.Test.YtpcohmbipbiglaaDoorNnod3
import Derived.Deep.QuietTactic
import Derived.BigQuiet
import Derived.Deep.Cut
namespace Go.Proofs.YtpcohmbipbiglaaDoor
open Go.RowKit
set_option linter.unusedVariables false

theorem own_shape {B e : Nat} {w : World} {v : Value} {n k : Nat} {xs : List Value} (h : w.ownsRow B e k v n xs) : ∃ ao cap, v = .slice ao n cap := by
  rcases h.2 with ⟨rfl, rfl⟩ | ⟨g, cap, cur, rfl, _⟩
  · exact ⟨_, _, rfl⟩
  · exact ⟨_, _, rfl⟩
theorem info_parts {o : Option TypeInfo} {z : Option Value} {s b : Nat} (h : o.map (fun i => (i.zero, i.size, i.bytes)) = some (z, s, b)) : ∃ i, o = some i ∧ i.zero = z ∧ i.size = s ∧ i.bytes = b := by
  cases o with
  | none => simp at h
  | some i => simp at h; exact ⟨i, rfl, h.1, h.2.1, h.2.2⟩
theorem info3 : (Tryd.prog.info? 3).map (fun i => (i.zero, i.size, i.bytes)) = some (some (.int .i64 0), 1, 8) := by kernel_rfl
theorem below_drew {B : Nat} {w w' : World} (h : Below B w w') : Below B w w'.drew := ⟨h.1, h.2, h.3, h.4, h.5⟩
/-- a row that has grown: what else there is stays. -/
theorem grown_below {B : Nat} {w wr w1 : World} {v : Value} {n : Nat} {xs : List Value} (ho : wr.ownsRow B 3 1 v n xs) (hb : Below B w wr) (hB : B ≤ wr.heap.size) {o : Obj} (hg : (wr.alloc o).drew.grownBy w1 v.ownBlock) : Below B w w1 :=
  hb.trans (((below_drew ((Below.refl B wr).alloc hB o))).grown hg (by show B ≤ (wr.alloc o).heap.size; simp; omega) (fun k hk => (ho.lt k hk).1))
theorem grown_at {wr w1 : World} {v : Value} {o : Obj} (hg : (wr.alloc o).drew.grownBy w1 v.ownBlock) {k : Nat} (hk : k < wr.heap.size) (hne : v.ownBlock ≠ some k) : w1.heap[k]? = wr.heap[k]? := by
  rw [hg.block k (by show k < (wr.alloc o).heap.size; simp; omega) (fun e => hne e.symm)]
  show (wr.alloc o).heap[k]? = _
  rw [Below.heap_alloc _ _ _ hk]
/-- one more is spoken of. -/
theorem CK.again {B : Nat} {wr w1 : World} {cb : Nat} {s : St} {o : Obj} {ro : Option Addr} {rc gg cap : Nat} {num : Int} (hB : B ≤ cb) (hc : wr.heap[cb]? = some (.cells #[.int .i64 s.1, .slice ro s.2.length rc] 64 (0, 0))) (hne : (Value.slice ro s.2.length rc).ownBlock ≠ some cb) (hg : (wr.alloc o).drew.grownBy w1 (Value.slice ro s.2.length rc).ownBlock) (hown : w1.ownsRow B 3 1 (.slice (some ⟨gg, 0, none⟩) (s.2.length + 1) cap) (s.2.length + 1) (i64s s.2 ++ [.int .i64 num])) (hat : (Value.slice ro s.2.length rc).ownBlock = some gg ∨ gg = wr.heap.size + 1) : CK B (w1.setCell ⟨cb, 1, none⟩ (.slice (some ⟨gg, 0, none⟩) (s.2.length + 1) cap)) cb (s.1, s.2 ++ [num]) := by
  have hlt := lt_of_block hc
  have h1 : w1.heap[cb]? = some (.cells #[.int .i64 s.1, .slice ro s.2.length rc] 64 (0, 0)) := by rw [grown_at hg hlt hne]; exact hc
  have hn2 : (Value.slice (some ⟨gg, 0, none⟩) (s.2.length + 1) cap).ownBlock ≠ some cb := by
    rcases hat with e | e
    · show some gg ≠ some cb
      rw [← e]; exact hne
    · show some gg ≠ some cb
      intro e2
      have := Option.some.inj e2
      omega
  refine ⟨hB, _, by rw [set_one h1]; rfl, ?_, hn2⟩
  have := own_set (cb := cb) (o := 1) (u := .slice (some ⟨gg, 0, none⟩) (s.2.length + 1) cap) hown hn2
  simpa [i64s] using this

theorem own_row_elem {B e k n : Nat} {w : World} {v : Value} {xs : List Value} (h : w.ownsRow B e k v n xs) {g : Nat} (hg : v.ownBlock = some g) : ∃ cur, w.heap[g]? = some (.cells cur e (0, 0)) := by
  rcases h.2 with ⟨rfl, _⟩ | ⟨g', cap, cur, rfl, _, hh, _⟩
  · cases hg
  · have : g' = g := Option.some.inj hg
    subst this
    exact ⟨_, hh⟩

end Go.Proofs.YtpcohmbipbiglaaDoor
