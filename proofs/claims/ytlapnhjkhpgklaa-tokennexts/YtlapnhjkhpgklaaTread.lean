/- What read answers: a panic is caught. -/
import Derived.Test.YtlapnhjkhpgklaaTtoken
import Derived.Defers
import Derived.Recover
import Derived.RegionTactic
namespace Go.Proofs.Ytlapnhjkhpgklaa
open Go.RowKit
set_option linter.unusedVariables false

theorem heap_hit (X : World) (N o : Nat) (v : Value) : (X.setCell ⟨N, o, none⟩ v).heap[N]? = (X.heap[N]?).map fun | .cells c e f => .cells (c.setIfInBounds o v) e f | o => o := by
  simp only [World.setCell, Array.getElem?_modify, if_true]
  cases X.heap[N]? with
  | none => rfl
  | some o => cases o <;> rfl
theorem peel {X : World} {a : Addr} {u : Value} {j : Nat} {o : Obj} (h : X.heap[j]? = some o) (hne : j ≠ a.block) : (X.setCell a u).heap[j]? = some o := by rw [Below.heap_setCell _ _ _ _ hne]; exact h
theorem peelTok {X : World} {n j : Nat} {o : Obj} (h : X.heap[j]? = some o) (hne : j ≠ n) (v0 v1 v2 v3 v4 v5 v6 v7 : Value) :
    ((((((((X.setCell ⟨n, 0, none⟩ v0).setCell ⟨n, 1, none⟩ v1).setCell ⟨n, 2, none⟩ v2).setCell ⟨n, 3, none⟩ v3).setCell ⟨n, 4, none⟩ v4).setCell ⟨n, 5, none⟩ v5).setCell ⟨n, 6, none⟩ v6).setCell ⟨n, 7, none⟩ v7).heap[j]? = some o :=
  peel (peel (peel (peel (peel (peel (peel (peel h hne) hne) hne) hne) hne) hne) hne) hne

set_option maxHeartbeats 1000000 in
theorem catch_idle (p q r : Addr) (w : World) :
    CallsD Try.prog 27 #[.pointer (some p), .pointer (some q), .pointer (some r)] .returning w fun e u' w' => e = .returned (.tuple #[]) ∧ u' = .returning ∧ w' = w := by
  have hnn : ∀ w, (binOp .neq 20 .nilIface .nilIface).run Try.prog w = .ok (.bool false) w := fun w => by kernel_rfl
  refine callsD_of_wpS Try.func27 rfl fun c₀ cs hu => ?_
  apply wpS_seq
  apply wpS_region
  simp [wpOpsS, go_sem, recoverD, hu, Try.ntmps27, Exit.thenS]
  apply wpS_seq
  apply wpS_region
  simp [wpOpsS, go_sem, hnn, Exit.thenS]
  refine wpS_cond (t := false) (by simp [Act.eval, Array.replicate]) ?_
  simp only [Bool.false_eq_true, if_false]
  refine wpS_of_wp (wp_skip ?_)
  cases c₀
  simp_all [bodyPostS, results, Try.results27]

set_option maxHeartbeats 1000000 in
theorem catch_some (n m k : Nat) (z : Int) (w : World) (h1 : n < m) (h2 : m < k) {t : Tok} {a e : Int} (ht : w.heap[n]? = some (tokO t)) (hm : w.heap[m]? = some (.cells #[.int .i64 a] 3 (0, 0))) (hk : w.heap[k]? = some (.cells #[.int .i64 e] 25 (0, 0))) :
    CallsD Try.prog 27 #[.pointer (some ⟨n, 0, none⟩), .pointer (some ⟨m, 0, none⟩), .pointer (some ⟨k, 0, none⟩)] (.panicking [{ v := .iface 25 (.int .i64 z), recovered := false }]) w fun e u' w' => e = .returned (.tuple #[]) ∧ u' = .panicking [{ v := .iface 25 (.int .i64 z), recovered := true }] ∧ w'.heap[n]? = some (tokO {}) ∧ w'.heap[m]? = some (.cells #[.int .i64 0] 3 (0, 0)) ∧ w'.heap[k]? = some (.cells #[.int .i64 z] 25 (0, 0)) ∧ Below n w w' := by
  have hta : ∀ w, (Instr.typeAssert (.iface 25 (.int .i64 z)) 20 25 false).run Try.prog w = .ok (.int .i64 z) w := fun w => by kernel_rfl
  have hnn : ∀ x w, (binOp .neq 20 (.iface 25 x) .nilIface).run Try.prog w = .ok (.bool true) w := fun x w => by rfl
  refine callsD_of_wpS Try.func27 rfl fun c₀ cs hu => ?_
  apply wpS_seq
  apply wpS_region
  simp [wpOpsS, go_sem, recoverD, hu, Try.ntmps27, Exit.thenS]
  apply wpS_seq
  apply wpS_region
  simp [wpOpsS, go_sem, hnn, Exit.thenS]
  refine wpS_cond (t := true) (by simp [Act.eval, Array.replicate]) ?_
  simp only [if_true]
  refine wpS_of_wp ?_
  obtain ⟨m0, m1, m2, m3, m4, m5, m6, m7⟩ := tok_cells ht
  have fr0 := tok_free ht
  have cm := cell_of_one hm
  have fm := free_of_one hm
  have ck := cell_of_one hk
  have fk := free_of_one hk
  have q1 : ¬ n = m := by omega
  have q2 : ¬ m = n := by omega
  have q3 : ¬ n = k := by omega
  have q4 : ¬ k = n := by omega
  have q5 : ¬ m = k := by omega
  have q6 : ¬ k = m := by omega
  have ne_nm : ∀ (X : World) u, (X.setCell ⟨m, 0, none⟩ u).heap[n]? = X.heap[n]? := fun X u => Below.heap_setCell _ _ _ _ q1
  have ne_nk : ∀ (X : World) u, (X.setCell ⟨k, 0, none⟩ u).heap[n]? = X.heap[n]? := fun X u => Below.heap_setCell _ _ _ _ q3
  have ne_mn : ∀ (X : World) o u, (X.setCell ⟨n, o, none⟩ u).heap[m]? = X.heap[m]? := fun X o u => Below.heap_setCell _ _ _ _ q2
  have ne_mk : ∀ (X : World) u, (X.setCell ⟨k, 0, none⟩ u).heap[m]? = X.heap[m]? := fun X u => Below.heap_setCell _ _ _ _ q5
  have ne_kn : ∀ (X : World) o u, (X.setCell ⟨n, o, none⟩ u).heap[k]? = X.heap[k]? := fun X o u => Below.heap_setCell _ _ _ _ q4
  have ne_km : ∀ (X : World) u, (X.setCell ⟨m, 0, none⟩ u).heap[k]? = X.heap[k]? := fun X u => Below.heap_setCell _ _ _ _ q6
  have dr : ∀ (X : World), X.drew.heap = X.heap := fun X => rfl
  unfold tokO at ht
  go_region
  all_goals
    refine ⟨rfl, _, rfl, .tuple #[], by simp [results, Try.results27], rfl, rfl, ?_, ?_, ?_, ?_⟩
    · simp only [dr, ne_nm, ne_nk, heap_hit, ht, Option.map_some, tokO]
      simp
    · simp only [dr, ne_mn, ne_mk, heap_hit, hm, Option.map_some]
      simp
    · simp only [dr, ne_kn, ne_km, heap_hit, hk, Option.map_some]
      simp
    · refine Below.drew ?_
      repeat refine Below.setCell ?_ (by first | exact Nat.le_refl _ | exact Nat.le_of_lt h1 | exact Nat.le_of_lt (Nat.lt_trans h1 h2)) _
      exact Below.refl _ _

end Go.Proofs.Ytlapnhjkhpgklaa
