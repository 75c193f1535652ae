/- A function whose result is a token in a block of its own. -/
import Derived.Test.YtlapnhjkhpgklaaTtok
namespace Go.Proofs.Ytlapnhjkhpgklaa
open Go.RowKit
set_option linter.unusedVariables false

theorem set_one {w : World} {N : Nat} {cs : Array Value} {e : TypeId} {fr : Nat × Nat} (h : w.heap[N]? = some (.cells cs e fr)) (o : Nat) (v : Value) : (w.setCell ⟨N, o, none⟩ v).heap[N]? = some (.cells (cs.setIfInBounds o v) e fr) := by
  have hlt := lt_of_block h
  have h' : w.heap[N] = .cells cs e fr := by simpa [Array.getElem?_eq_getElem hlt] using h
  show (w.heap.modify N _)[N]? = _
  rw [Array.getElem?_eq_getElem (by simpa using hlt), Array.getElem_modify_self, h']
  rfl
theorem tok_set {w : World} {N : Nat} {t0 : Tok} (h : w.heap[N]? = some (tokO t0)) (t : Tok) :
    ((((((((w.setCell ⟨N, 0, none⟩ (.int .i64 t.kind)).setCell ⟨N, 1, none⟩ (.int .i64 t.num)).setCell ⟨N, 2, none⟩ (.string t.text)).setCell ⟨N, 3, none⟩ (.bool t.neg)).setCell ⟨N, 4, none⟩ (.int .i64 t.least)).setCell ⟨N, 5, none⟩ (.int .i64 t.most)).setCell ⟨N, 6, none⟩ (.int .i64 t.way)).setCell ⟨N, 7, none⟩ (.int .i64 t.fold)).heap[N]? = some (tokO t) := by
  unfold tokO at h
  rw [set_one (set_one (set_one (set_one (set_one (set_one (set_one (set_one h _ _) _ _) _ _) _ _) _ _) _ _) _ _) _ _]
  simp [tokO]

theorem ret_tok {f : Func} {s : Nat} {R : Ending → World → Prop} {tmps : Array Value} {W : World} {t : Tok} {N : Nat} (hres : f.results = #[ResultVar.cell s 24]) (hs : tmps[s]? = some (.pointer (some ⟨N, 0, none⟩))) (hW : W.heap[N]? = some (tokO t)) (h : R (.returned (tokV t)) W) :
    bodyPost Try.prog f R Exit.ret { tmps := tmps, defers := [] } W := by
  obtain ⟨r0, r1, r2, r3, r4, r5, r6, r7⟩ := tok_cells hW
  refine bodyPost_ret (v := tokV t) ?_ rfl h
  simp [results, hres, go_sem, hs, r0, r1, r2, r3, r4, r5, r6, r7, tokV]

end Go.Proofs.Ytlapnhjkhpgklaa
