/- What rowFacts and eitherFacts answer, the kids being known. -/
import Derived.Test.YtdipfaahlofmgaaNfact
namespace Go.Proofs.Ytdipfaahlofmgaa
open Go.RowKit
set_option linter.unusedVariables false

theorem ft_cells {w : World} {k : Nat} {f : FT} (h : w.heap[k]? = some (ftO f)) : w.cell? ⟨k, 0, none⟩ = some (.int .i64 f.least) ∧ w.cell? ⟨k, 1, none⟩ = some (.int .i64 f.most) ∧ w.cell? ⟨k, 2, none⟩ = some (.bool f.plain) ∧ ∀ o, w.frozen? ⟨k, o, none⟩ = false := by
  refine ⟨?_, ?_, ?_, fun o => ?_⟩ <;> simp [World.cell?, World.frozen?, h]
abbrev fset (W : World) (N : Nat) (f : FT) : World := ((W.setCell ⟨N, 0, none⟩ (.int .i64 f.least)).setCell ⟨N, 1, none⟩ (.int .i64 f.most)).setCell ⟨N, 2, none⟩ (.bool f.plain)
theorem set_one' {w : World} {N : Nat} {cs : Array Value} {e : TypeId} {fr : Nat × Nat} (h : w.heap[N]? = some (.cells cs e fr)) (o : Nat) (v : Value) : (w.setCell ⟨N, o, none⟩ v).heap[N]? = some (.cells (cs.setIfInBounds o v) e fr) := by
  have hlt := lt_of_block h
  have h' : w.heap[N] = .cells cs e fr := by simpa [Array.getElem?_eq_getElem hlt] using h
  show (w.heap.modify N _)[N]? = _
  rw [Array.getElem?_eq_getElem (by simpa using hlt), Array.getElem_modify_self, h']
  rfl
theorem fset_at {W : World} {N : Nat} {f0 : FT} (h : W.heap[N]? = some (ftO f0)) (f : FT) : (fset W N f).heap[N]? = some (ftO f) := by
  rw [set_one' (set_one' (set_one' h _ _) _ _) _ _]; rfl
theorem fset_other {W : World} {N b : Nat} {o : Obj} {f : FT} (h : W.heap[b]? = some o) (hb : b ≠ N) : (fset W N f).heap[b]? = some o := by
  simp only [fset]
  rw [Below.heap_setCell _ _ _ _ (fun e => hb e), Below.heap_setCell _ _ _ _ (fun e => hb e), Below.heap_setCell _ _ _ _ (fun e => hb e)]
  exact h
theorem fset_below {B : Nat} {w W : World} (h : Below B w W) {k : Nat} (hk : B ≤ k) (f : FT) : Below B w (fset W k f) := ((h.setCell (p := ⟨k, 0, none⟩) hk _).setCell (p := ⟨k, 1, none⟩) hk _).setCell (p := ⟨k, 2, none⟩) hk _
theorem ret_f {f : Func} {tmps : Array Value} {W : World} {N s : Nat} {F : FT} {R : Ending → World → Prop} (hres : f.results = #[ResultVar.cell s 27]) (h2 : tmps[s]? = some (.pointer (some ⟨N, 0, none⟩))) (q : W.heap[N]? = some (ftO F)) (hF : R (.returned (ftV F)) W) : bodyPost Try.prog f R Exit.ret { tmps := tmps, defers := [] } W := by
  obtain ⟨m0, m1, m2, mf⟩ := ft_cells q
  refine bodyPost_ret (v := ftV F) ?_ rfl hF
  simp [results, hres, go_sem, h2, m0, m1, m2]

end Go.Proofs.Ytdipfaahlofmgaa
