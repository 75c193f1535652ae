/- Trees as lists of nodes; how deep; as the reference goes about it. -/
import Derived.Test.YtpcohmbipbiglaaDoorNa1
import Derived.Test.YtpcohmbipbiglaaDoorNopen
import Derived.Deep.AppendLies
import Derived.Deep.Onto
namespace Go.Proofs.YtpcohmbipbiglaaDoor
open Go.RowKit
set_option linter.unusedVariables false

mutual
/-- all nodes, each ahead of its kids. -/
def flatT : Tr → List Tr
  | .mk k a b c d e f kids => .mk k a b c d e f kids :: flatL kids
def flatL : List Tr → List Tr
  | [] => []
  | t :: ts => flatT t ++ flatL ts
end
theorem flatT_kids (t : Tr) : flatT t = t :: flatL t.kids := by cases t; rfl
theorem flatL_append : ∀ a b : List Tr, flatL (a ++ b) = flatL a ++ flatL b
  | [], b => rfl
  | t :: ts, b => by rw [List.cons_append, flatL, flatL, flatL_append ts b, List.append_assoc]
theorem flatL_take {ts : List Tr} {j : Nat} (hj : j < ts.length) : flatL (ts.take (j + 1)) = flatL (ts.take j) ++ flatT ts[j] := by
  rw [List.take_add_one, List.getElem?_eq_getElem hj, flatL_append]
  simp [flatL]
mutual
theorem flat_len : ∀ t : Tr, (flatT t).length = szT t
  | .mk k a b c d e f kids => by rw [flatT, szT, List.length_cons, flat_lenL kids]; omega
theorem flat_lenL : ∀ ts : List Tr, (flatL ts).length = szL ts
  | [] => rfl
  | t :: ts => by rw [flatL, szL, List.length_append, flat_len t, flat_lenL ts]
end
theorem szL_append : ∀ a b : List Tr, szL (a ++ b) = szL a + szL b
  | [], b => by simp [szL]
  | t :: ts, b => by rw [List.cons_append, szL, szL, szL_append ts b]; omega
theorem szL_take (ts : List Tr) (j : Nat) : szL (ts.take j) ≤ szL ts := by
  have := szL_append (ts.take j) (ts.drop j)
  rw [List.take_append_drop] at this
  omega
theorem szL_get {ts : List Tr} {j : Nat} (hj : j < ts.length) : szL (ts.take j) + szT ts[j] ≤ szL ts := by
  have h := szL_take ts (j + 1)
  rw [List.take_add_one, List.getElem?_eq_getElem hj, szL_append] at h
  simp [szL] at h
  omega
theorem szT_pos (t : Tr) : 1 ≤ szT t := by rw [szT_kids]; omega
/-- the cells of nodes in a row. -/
def rowN (F : List (NV × Tr)) : List Value := F.flatMap (fun x => nvL x.1)
theorem rowN_append (a b : List (NV × Tr)) : rowN (a ++ b) = rowN a ++ rowN b := by simp [rowN]
theorem rowN_len : ∀ F : List (NV × Tr), (rowN F).length = F.length * 8
  | [] => rfl
  | x :: F => by rw [rowN, List.flatMap_cons, List.length_append]; have := rowN_len F; rw [rowN] at this; rw [this]; simp; omega
theorem rowN_one (F : List (NV × Tr)) : ∀ u ∈ rowN F, u.oneCell' = true := by
  intro u hu
  simp only [rowN, List.mem_flatMap] at hu
  obtain ⟨x, _, hu⟩ := hu
  simp at hu
  rcases hu with rfl | rfl | rfl | rfl | rfl | rfl | rfl | rfl <;> rfl
theorem rowN_at : ∀ (F : List (NV × Tr)) (j : Nat) (hj : j < F.length) (k : Nat) (hk : k < 8), (rowN F)[j * 8 + k]? = (nvL F[j].1)[k]?
  | x :: F, 0, _, k, hk => by rw [rowN, List.flatMap_cons, List.getElem?_append_left (by simp; omega)]; simp
  | x :: F, j + 1, hj, k, hk => by
    have h := rowN_at F j (by simpa using hj) k hk
    rw [rowN, List.flatMap_cons, List.getElem?_append_right (by simp; omega)]
    rw [rowN] at h
    rw [show (j + 1) * 8 + k - (nvL x.1).length = j * 8 + k by simp; omega, h]
    rfl
/-- the cells of one of the nodes in a row. -/
theorem rowN_cells {B n cap g : Nat} {w : World} {F : List (NV × Tr)} (h : w.ownsRow B 25 8 (.slice (some ⟨g, 0, none⟩) n cap) n (rowN F)) {j : Nat} (hj : j < F.length) : NCells w ⟨g, j * 8, none⟩ F[j].1 := by
  have hl : (rowN F).length = n * 8 := h.1
  rw [rowN_len] at hl
  have c : ∀ k, k < 8 → w.cell? ⟨g, j * 8 + k, none⟩ = (nvL F[j].1)[k]? := fun k hk => by rw [h.cellAt (j * 8 + k) (by omega), rowN_at F j hj k hk]
  exact ⟨c 0 (by omega), c 1 (by omega), c 2 (by omega), c 3 (by omega), c 4 (by omega), c 5 (by omega), c 6 (by omega), c 7 (by omega)⟩
theorem infoN : (Tryd.prog.info? 25).map (fun i => (i.zero, i.size, i.bytes)) = some (some (.agg #[.int .i64 0, .slice none 0 0, .slice none 0 0, .int .i64 0, .int .i64 0, .int .i64 0, .int .i64 0, .bool false]), 8, 96) := by kernel_rfl
/-- what Flat answers. -/
def FlatE (w0 w : World) (t : Tr) (e : Ending) (w' : World) : Prop :=
  ∃ (v : Value) (F : List (NV × Tr)), e = .returned v ∧ F.map (·.2) = flatT t ∧ (∀ x ∈ F, NodeC w0 x.1 x.2) ∧ w'.ownsRow w.heap.size 25 8 v F.length (rowN F) ∧ Below w.heap.size w w'

end Go.Proofs.YtpcohmbipbiglaaDoor
