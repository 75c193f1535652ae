/- What read answers. -/
import Derived.Test.YtlapnhjkhpgklaaTread
namespace Go.Proofs.Ytlapnhjkhpgklaa
open Go.RowKit
set_option linter.unusedVariables false

/-- a pattern that is right, in memory. -/
structure Pat (w : World) (x : Addr) (c : Nat) (l : List Int) : Prop where
  reads : ReadsI w x l
  cap : l.length ≤ c
  small : l.length ≤ 300
  pts : ∀ p ∈ l, 0 ≤ p ∧ p ≤ 1114111
theorem Pat.below {w w' : World} {x : Addr} {c : Nat} {l : List Int} (h : Pat w x c l) (hb : Below w.heap.size w w') : Pat w' x c l :=
  ⟨fun j hj => by rw [hb.cell (World.block_lt_of_cell? _ _ (h.reads j hj))]; exact h.reads j hj, h.cap, h.small, h.pts⟩
def ReadE (d : Int) (l : List Int) (i : Nat) (w : World) (e : Ending) (w' : World) : Prop :=
  (∃ t k, nextT d l i = .ok (t, k) ∧ e = .returned (.tuple #[tokV t, .int .i64 (k : Nat), .int .i64 0]) ∧ k ≤ l.length ∧ Below w.heap.size w w') ∨
  (∃ z, nextT d l i = .error z ∧ e = .returned (.tuple #[tokV {}, .int .i64 0, .int .i64 z]) ∧ Below w.heap.size w w')

theorem drew_heap (X : World) : X.drew.heap = X.heap := rfl
theorem leave_ok {tmps : Array Value} {W : World} {N : Nat} {t : Tok} {k : Int} {R : Ending → World → Prop} (h6 : tmps[6]? = some (.pointer (some ⟨N, 0, none⟩))) (h7 : tmps[7]? = some (.pointer (some ⟨N + 1, 0, none⟩))) (h8 : tmps[8]? = some (.pointer (some ⟨N + 1 + 1, 0, none⟩)))
    (q0 : W.heap[N]? = some (tokO t)) (q1 : W.heap[N + 1]? = some (.cells #[.int .i64 k] 3 (0, 0))) (q2 : W.heap[N + 1 + 1]? = some (.cells #[.int .i64 0] 25 (0, 0))) (hF : R (.returned (.tuple #[tokV t, .int .i64 k, .int .i64 0])) W) :
    bodyPostD Try.prog Try.f15 R Exit.ret { tmps := tmps, defers := [{ target := Target.fn (Fn.func 27) #[.pointer (some ⟨N, 0, none⟩), .pointer (some ⟨N + 1, 0, none⟩), .pointer (some ⟨N + 1 + 1, 0, none⟩)], args := #[] }] } W := by
  obtain ⟨m0, m1, m2, m3, m4, m5, m6, m7⟩ := tok_cells q0
  have c1 := cell_of_one q1
  have c2 := cell_of_one q2
  refine leaves_cons (f := 27) (args := #[.pointer (some ⟨N, 0, none⟩), .pointer (some ⟨N + 1, 0, none⟩), .pointer (some ⟨N + 1 + 1, 0, none⟩)]) (by simp) (by simp [go_sem]) ?_
  refine (catch_idle _ _ _ _).mono ?_
  rintro e u' w2 ⟨rfl, rfl, rfl⟩
  simp only [tokV] at hF
  simp [Leaves, settle, results, Try.results15, go_sem, h6, h7, h8, m0, m1, m2, m3, m4, m5, m6, m7, c1, c2]
  exact hF

set_option maxHeartbeats 4000000 in
theorem read_any (d : Int) (x : Addr) (c : Nat) (l : List Int) (i : Nat) (w : World) (h : Pat w x c l) (hi : i < l.length) :
    Calls Try.prog 15 #[.int .i64 d, .slice (some x) l.length c, .int .i64 i] w fun e w' => ReadE d l i w e w' := by
  have hmf : ∀ (fn : Fn) (first cap : Array Value) (w : World), (Instr.makeFunc fn first cap).run Try.prog w = .ok (.func fn first cap) w := fun _ _ _ _ => rfl
  have hxb : x.block < w.heap.size := by
    have := World.block_lt_of_cell? _ _ (h.reads i hi)
    rw [add_block] at this
    exact this
  have hb0 : Below w.heap.size w ((((w.alloc (tokO {})).alloc (.cells #[.int .i64 0] 3)).alloc (.cells #[.int .i64 0] 25)).alloc (.cells #[.slice (some x) l.length c, .int .i64 i, .int .i64 d] 53)) := ((((Below.refl _ w).alloc (Nat.le_refl _) _).alloc (by simp) _).alloc (by simp; omega) _).alloc (by simp; omega) _
  have hRB : RB ((((w.alloc (tokO {})).alloc (.cells #[.int .i64 0] 3)).alloc (.cells #[.int .i64 0] 25)).alloc (.cells #[.slice (some x) l.length c, .int .i64 i, .int .i64 d] 53)) (w.heap.size + 3) x c l i d :=
    ⟨at_new' _ _ (by simp), (h.below hb0).reads, by omega, h.cap, h.small, Nat.le_of_lt hi, h.pts, by have := hb0.size; omega⟩
  have HT := hide (token_any _ hRB hi)
  simp only [tokO] at HT
  have HB0 := hide hb0
  clear h hb0 hRB
  obtain ⟨n, hn⟩ : ∃ n, n = l.length := ⟨_, rfl⟩
  have HN := hide hn
  rw [← hn] at HT HB0 ⊢
  clear hn
  go_enter_defers Try.func15, Try.ntmps15
  go_wp2_with fail
  refine HT.out.mono ?_
  rintro e w1 (⟨t, k, hR, rfl, hr, hm⟩ | ⟨z, hR, rfl, hm⟩)
  · have g0 : w1.heap[w.heap.size]? = some (tokO {}) := hm.blockAt (at_old (at_old (at_old (at_new _ _)))) (by omega)
    have g1 : w1.heap[w.heap.size + 1]? = some (.cells #[.int .i64 0] 3 (0, 0)) := hm.blockAt (at_old (at_old (at_new' _ _ (by simp)))) (by omega)
    have g2 : w1.heap[w.heap.size + 2]? = some (.cells #[.int .i64 0] 25 (0, 0)) := hm.blockAt (at_old (at_new' _ _ (by simp))) (by omega)
    have hbw : Below w.heap.size w w1 := HB0.out.trans ((hm.below (by simp)).mono (by omega))
    have hkl := hr.at'
    obtain ⟨d0, d1, d2, e1⟩ := hr.cells
    obtain ⟨m0, m1, m2, m3, m4, m5, m6, m7⟩ := tok_cells g0
    have fr0 := tok_free g0
    have cc1 := cell_of_one g1
    have cc2 := cell_of_one g2
    have ff1 := free_of_one g1
    have ff2 := free_of_one g2
    have HBW := hide hbw
    have HR := hide hR
    have HG1 := hide g1
    have HG2 := hide g2
    clear hm HT hr hbw hR
    simp only [tokV]
    go_wp2
    go_region
    go_wp2
    refine leave_ok (N := w.heap.size) (t := t) (k := (k : Int)) rfl rfl rfl ?_ ?_ ?_ ?_
    · rw [drew_heap]; exact peel (peel (tok_set (tok_set g0 t) t) (by show w.heap.size ≠ w.heap.size + 1; omega)) (by show w.heap.size ≠ w.heap.size + 1 + 1; omega)
    · rw [drew_heap]; exact peel (one_setCell (peelTok (peelTok HG1.out (by omega) _ _ _ _ _ _ _ _) (by omega) _ _ _ _ _ _ _ _)) (by show w.heap.size + 1 ≠ w.heap.size + 1 + 1; omega)
    · rw [drew_heap]; exact one_setCell (peel (peelTok (peelTok HG2.out (by omega) _ _ _ _ _ _ _ _) (by omega) _ _ _ _ _ _ _ _) (by show w.heap.size + 1 + 1 ≠ w.heap.size + 1; omega))
    · refine .inl ⟨t, k, HR.out, rfl, hkl, ?_⟩
      refine Below.drew ?_
      repeat refine Below.setCell ?_ (by first | exact Nat.le_refl _ | exact Nat.le_succ _ | exact Nat.le_add_right _ 2) _
      exact HBW.out
  · have g0 : w1.heap[w.heap.size]? = some (tokO {}) := hm.blockAt (at_old (at_old (at_old (at_new _ _)))) (by omega)
    have g1 : w1.heap[w.heap.size + 1]? = some (.cells #[.int .i64 0] 3 (0, 0)) := hm.blockAt (at_old (at_old (at_new' _ _ (by simp)))) (by omega)
    have g2 : w1.heap[w.heap.size + 2]? = some (.cells #[.int .i64 0] 25 (0, 0)) := hm.blockAt (at_old (at_new' _ _ (by simp))) (by omega)
    have hbw : Below w.heap.size w w1 := HB0.out.trans ((hm.below (by simp)).mono (by omega))
    simp only [gives]
    clear hm HT
    go_wp2
    refine leaves_cons (f := 27) (args := #[.pointer (some ⟨w.heap.size, 0, none⟩), .pointer (some ⟨w.heap.size + 1, 0, none⟩), .pointer (some ⟨w.heap.size + 1 + 1, 0, none⟩)]) (by simp) (by simp [go_sem]) ?_
    refine (catch_some w.heap.size (w.heap.size + 1) (w.heap.size + 1 + 1) z w1 (by omega) (by omega) g0 g1 g2).mono ?_
    rintro e u' w2 ⟨rfl, rfl, k0, k1, k2, hb⟩
    obtain ⟨m0, m1, m2, m3, m4, m5, m6, m7⟩ := tok_cells k0
    have c1 := cell_of_one k1
    have c2 := cell_of_one k2
    have hF : ReadE d l i w (.returned (.tuple #[tokV {}, .int .i64 0, .int .i64 z])) w2 := .inr ⟨z, hR, rfl, hbw.trans hb⟩
    simp only [tokV] at hF
    simp [Leaves, settle, results, Try.results15, go_sem, m0, m1, m2, m3, m4, m5, m6, m7, c1, c2]
    exact hF

end Go.Proofs.Ytlapnhjkhpgklaa
