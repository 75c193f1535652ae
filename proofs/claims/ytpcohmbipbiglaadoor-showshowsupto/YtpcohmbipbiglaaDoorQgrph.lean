/- What GroupsOf and IsPlain answer. -/
import Derived.Test.YtpcohmbipbiglaaDoorQckh
import Derived.Test.YtpcohmbipbiglaaDoorQflat
namespace Go.Proofs.YtpcohmbipbiglaaDoor
open Go.RowKit
set_option linter.unusedVariables false

theorem cnt_take {l : List Tr} {j : Nat} (hj : j < l.length) : ((l.take (j + 1)).filter (fun u => decide (u.kind = 11))).length = ((l.take j).filter (fun u => decide (u.kind = 11))).length + (if l[j].kind = 11 then 1 else 0) := by
  rw [List.take_add_one, List.getElem?_eq_getElem hj, List.filter_append, List.length_append]
  by_cases h : l[j].kind = 11 <;> simp [h]
/-- the row that Flat made, as it is gone through. -/
structure FlatR (w0 : World) (B : Nat) (w : World) (v : Value) (F : List (NV × Tr)) (t : Tr) : Prop where
  fl : F.map (·.2) = flatT t
  nd : ∀ x ∈ F, NodeC w0 x.1 x.2
  own : w.ownsRow B 25 8 v F.length (rowN F)
theorem FlatR.len {w0 : World} {B : Nat} {w : World} {v : Value} {F : List (NV × Tr)} {t : Tr} (h : FlatR w0 B w v F t) : F.length = szT t := by
  have := congrArg List.length h.fl
  rw [List.length_map, flat_len] at this
  exact this
theorem FlatR.get {w0 : World} {B : Nat} {w : World} {v : Value} {F : List (NV × Tr)} {t : Tr} (h : FlatR w0 B w v F t) {j : Nat} (hj : j < F.length) : ∃ (h2 : j < (flatT t).length), (flatT t)[j] = F[j].2 ∧ F[j].2.kind = F[j].1.kind ∧ F[j].2.num = F[j].1.num := by
  have h2 : j < (flatT t).length := by rw [flat_len, ← h.len]; exact hj
  refine ⟨h2, ?_, ?_, ?_⟩
  · have e : (F.map (·.2))[j]'(by simpa using hj) = (flatT t)[j] := by simp only [h.fl]
    rw [← e]; simp
  · exact (h.nd F[j] (List.getElem_mem _)).open.1
  · exact (h.nd F[j] (List.getElem_mem _)).open.2.1
theorem FlatR.form {w0 : World} {B : Nat} {w : World} {v : Value} {F : List (NV × Tr)} {t : Tr} (h : FlatR w0 B w v F t) : ∃ g cap, v = .slice (some ⟨g, 0, none⟩) F.length cap ∧ ∀ j (hj : j < F.length), NCells w ⟨g, j * 8, none⟩ F[j].1 := by
  obtain ⟨g, cap, rfl, _, _⟩ := h.own.form (by rw [h.len]; exact szT_pos t)
  exact ⟨g, cap, rfl, fun j hj => rowN_cells h.own hj⟩
theorem FlatR.keep {w0 : World} {B : Nat} {w w' : World} {v : Value} {F : List (NV × Tr)} {t : Tr} (h : FlatR w0 B w v F t) (hb : Below w.heap.size w w') : FlatR w0 B w' v F t := ⟨h.fl, h.nd, own_keep h.own hb⟩
theorem flat_any' {w0 : World} {n : NV} {t : Tr} (h : NodeC w0 n t) (hsz : szT t ≤ 1000) (w : World) (hw0 : Below w0.heap.size w0 w) : Calls Tryd.prog 16 #[nvV n] w fun e w' => ∃ v F, e = .returned v ∧ FlatR w0 w.heap.size w' v F t ∧ Below w.heap.size w w' :=
  (flat_any h hsz w hw0).mono fun e w' ⟨v, F, h1, h2, h3, h4, h5⟩ => ⟨v, F, h1, ⟨h2, h3, h4⟩, h5⟩

end Go.Proofs.YtpcohmbipbiglaaDoor
