/- What the function literal of Decode does: one point more in its list. -/
import Derived.Test.YtihnaihmpokiiaaDecode
import Derived.OneCell
namespace Go.Proofs.Ytihnaihmpokiiaa
open Go.RowKit Go.PlainAid
set_option linter.unusedVariables false

theorem cells_one3 (X : World) (g : Nat) (hg : g = X.heap.size) (z : Int) : ∀ j v, [Value.int .i64 z][j]? = some v → (X.alloc (.cells #[.int .i64 z] 3)).cell? ((⟨g, 0, none⟩ : Addr).add j) = some v := by
  subst hg
  intro j v hj
  match j, hj with
  | 0, hj => simp at hj; subst hj; exact World.cell?_alloc_at _ _ _ _ rfl
  | (j + 1), hj => simp at hj
theorem one3 (z : Int) : ∀ v ∈ [Value.int .i64 z], v.oneCell' = true := by
  intro v hv; simp at hv; subst hv; rfl

/-- what is in blocks that are neither b nor rows of numbers stays. -/
def Keeps (b : Nat) (w w' : World) : Prop := ∀ k o, k ≠ b → w.heap[k]? = some o → (∀ cs fr, o ≠ .cells cs 3 fr) → w'.heap[k]? = some o

theorem own_block3 {B : Nat} {w : World} {v : Value} {n : Nat} {xs : List Value} (h : w.ownsRow B 3 1 v n xs) {k : Nat} {o : Obj} (hk : w.heap[k]? = some o) (ho : ∀ cs fr, o ≠ .cells cs 3 fr) : some k ≠ v.ownBlock := by
  intro e
  rcases h.2 with ⟨rfl, _⟩ | ⟨g, cap, cur, rfl, _, hg, _⟩
  · simp [Value.ownBlock] at e
  · simp [Value.ownBlock] at e
    subst e
    rw [hk] at hg
    simp at hg
    exact ho _ _ hg

theorem below_app3 {B : Nat} {w w' : World} {v : Value} {n : Nat} {xs : List Value} (hown : w.ownsRow B 3 1 v n xs) (hB : B ≤ w.heap.size) {o : Obj} (hg : (w.alloc o).grownBy w' v.ownBlock) : Below B w w' :=
  ((Below.refl B w).alloc hB o).grown hg (by simp; omega) (fun k hk => (hown.lt k hk).1)

set_option maxHeartbeats 1000000 in
theorem points_any (B b : Nat) (hBb : B ≤ b) (v : Value) (n : Nat) (xs : List Value) (p q : Int) (w : World) (hbox : w.heap[b]? = some (.cells #[v] 22 (0, 0))) (hown : w.ownsRow B 3 1 v n xs) (hn : n ≤ 4000) (hB : B ≤ w.heap.size) :
    Calls Try.prog 16 #[.int .i64 p, .int .i64 q, .pointer (some ⟨b, 0, none⟩)] w fun e w' => e = .returned (.tuple #[]) ∧ (∃ v', w'.heap[b]? = some (.cells #[v'] 22 (0, 0)) ∧ w'.ownsRow B 3 1 v' (n + 1) (xs ++ [.int .i64 p])) ∧ Below B w w' ∧ Keeps b w w' := by
  obtain ⟨i0, hi, hz0, hz1, hz2⟩ := info_parts Try.info3
  have hlt : b < w.heap.size := (Array.getElem?_eq_some_iff.1 hbox).1
  have hcb := cell_of_one hbox
  have hfb := free_of_one hbox
  have HB := hide hbox
  have HO := hide hown
  clear hbox
  obtain ⟨ao, c, rfl⟩ := own_shape hown
  clear hown
  go_enter Try.func16, Try.ntmps16
  go_wp2_with (at_builtin; refine wpList_append_own _ rfl _ _ 22 rfl B 3 i0 (.int .i64 0) 1 8 Try.underlying22 hi hz0 hz1 hz2 rfl (by decide) _ _ _ rfl (HO.out.alloc _) ⟨w.heap.size, 0, none⟩ 1 1 [.int .i64 p] rfl rfl (cells_one3 _ _ (by simp) p) (one3 p) (by unfold maxLen; omega) (by omega) (by simp; omega) ?_)
  intro v' w2 hown' hgrow _
  have hob := own_block3 HO.out HB.out (by simp)
  have hb2 : w2.heap[b]? = some (.cells #[.slice ao n c] 22 (0, 0)) := by
    rw [hgrow.block b (by simp; omega) hob, Below.heap_alloc _ _ _ hlt]; exact HB.out
  have hc2 := cell_of_one hb2
  have hf2 := free_of_one hb2
  obtain ⟨ao', c', hv'⟩ := own_shape hown'
  have HG := hide hgrow
  have HO2 := hide hown'
  have HB2 := hide hb2
  clear hgrow hown' hb2 hcb hfb
  rw [hv'] at HO2
  rw [hv']
  clear hv'
  go_wp2
  go_end0
  have hb3 := one_setCell (u := .slice ao' (n + 1) c') HB2.out
  have hne : (Value.slice ao' (n + 1) c').ownBlock ≠ some b := fun e => own_block3 HO2.out HB2.out (by simp) e.symm
  refine ⟨rfl, ⟨_, hb3, ownsRow_setCell_other HO2.out hne _⟩, (below_app3 HO.out hB HG.out).setCell hBb _, ?_⟩
  intro k o hkb hk ho
  rw [Below.heap_setCell _ _ _ _ hkb, HG.out.block k (by have := (Array.getElem?_eq_some_iff.1 hk).1; simp; omega) (own_block3 HO.out hk ho), Below.heap_alloc _ _ _ (Array.getElem?_eq_some_iff.1 hk).1]
  exact hk

end Go.Proofs.Ytihnaihmpokiiaa
