import Derived.Test.YtklbbbldalmnbaaGreatDoorMT
import Derived.StillTailTactics
import Derived.Defers
import Derived.Recover
import Derived.RegionTactic
import Derived.Deep.RegionWith
namespace Go.Proofs.YtklbbbldalmnbaaGreatDoor.TR
set_option maxHeartbeats 2000000
set_option maxRecDepth 100000
open Go.RowKit
set_option linter.unusedVariables false
theorem own_some {B e : Nat} {w : World} {v : Value} {n k : Nat} {xs : List Value} (h : w.ownsRow B e k v n xs) (hn : 1 ≤ n) : ∃ g cap, v = .slice (some ⟨g, 0, none⟩) n cap := by
 rcases h.2 with ⟨rfl, rfl⟩ | ⟨g, cap, cur, rfl, _⟩
 ·omega
 ·exact ⟨_, _, rfl⟩
def panE (z : Int) : Ending := if z = 0 then .returned (.tuple #[]) else .panicked [{ v := .iface 29 (.int .i64 z), recovered := false }]
theorem panE_yes : panE 0 = .returned (.tuple #[]) := rfl
theorem panE_no {z : Int} (h : z ≠ 0) : panE z = .panicked [{ v := .iface 29 (.int .i64 z), recovered := false }] := if_neg h
def countsE (s : St) (g : Int) : Int := if 20 < s.1 then 2 else if s.1 = g then 0 else 4
theorem HMust (k : Int) (W : World) : Calls Tryz.prog 53 #[.bool false, .int .i64 k] W fun e w' => e = .panicked [{ v := .iface 29 (.int .i64 k), recovered := false }] ∧ W = w' := must_no k W
theorem counts_any (B : Nat) (cb : Nat) (s : St) (g : Int) (w : World) (h : CK B w cb s) : Calls Tryz.prog 35 #[.pointer (some ⟨cb, 0, none⟩), .int .i64 g] w fun e w' => e = panE (countsE s g) ∧ w = w' := by
 obtain ⟨v, c0, c1, -, -, cf, clt⟩ := h.cells
 clear h
 by_cases h1 : 20 < s.1
 ·have hE : countsE s g = 2 := by unfold countsE; rw [if_pos h1]
  rw [hE, panE_no (by decide)]
  have h2 : decide (s.1 ≤ 20) = false := decide_eq_false (by omega)
  clear hE
  go_enter Tryz.func35, Tryz.ntmps35
  go_wp2_with fail
  refine (HMust 2 w).mono ?_
  rintro e w' ⟨rfl, rfl⟩
  go_wp2
  exact ⟨rfl, rfl, rfl⟩
 ·have h2 : s.1 ≤ 20 := by omega
  by_cases h3 : s.1 = g
  ·have hE : countsE s g = 0 := by unfold countsE; rw [if_neg h1, if_pos h3]
   rw [hE, panE_yes]
   have h4 : (s.1 == g) = true := by simpa using h3
   clear hE h1 h3
   go_enter Tryz.func35, Tryz.ntmps35
   go_wp2_with fail
   refine (must_yes 2 w).mono ?_
   rintro e w' ⟨rfl, rfl⟩
   go_wp2_with fail
   refine (must_yes 4 w).mono ?_
   rintro e w' ⟨rfl, rfl⟩
   go_wp2
   go_end0
   exact ⟨rfl, rfl⟩
  ·have hE : countsE s g = 4 := by unfold countsE; rw [if_neg h1, if_neg h3]
   rw [hE, panE_no (by decide)]
   have h4 : (s.1 == g) = false := by simpa using h3
   clear hE h1 h3
   go_enter Tryz.func35, Tryz.ntmps35
   go_wp2_with fail
   refine (must_yes 2 w).mono ?_
   rintro e w' ⟨rfl, rfl⟩
   go_wp2_with fail
   refine (HMust 4 w).mono ?_
   rintro e w' ⟨rfl, rfl⟩
   go_wp2
   exact ⟨rfl, rfl, rfl⟩
def numE (g a : Int) : Int := if 1 ≤ a ∧ a ≤ g then 0 else 5
theorem number_any (B : Nat) (cb : Nat) (s : St) (a : Int) (w : World) (h : CK B w cb s) : Calls Tryz.prog 58 #[.pointer (some ⟨cb, 0, none⟩), .int .i64 a] w fun e w' => e = panE (numE s.1 a) ∧ w = w' := by
 obtain ⟨v, c0, c1, -, -, cf, clt⟩ := h.cells
 clear h
 by_cases h1 : 1 ≤ a
 ·by_cases h2 : a ≤ s.1
  ·have hE : numE s.1 a = 0 := by unfold numE; rw [if_pos ⟨h1, h2⟩]
   rw [hE, panE_yes]
   clear hE
   go_enter Tryz.func58, Tryz.ntmps58
   go_wp2_with fail
   refine (must_yes 5 w).mono ?_
   rintro e w' ⟨rfl, rfl⟩
   go_wp2
   go_end0
   exact ⟨rfl, rfl⟩
  ·have hE : numE s.1 a = 5 := by unfold numE; rw [if_neg (by omega)]
   rw [hE, panE_no (by decide)]
   have h4 : decide (a ≤ s.1) = false := decide_eq_false (by omega)
   clear hE h2
   go_enter Tryz.func58, Tryz.ntmps58
   go_wp2_with fail
   refine (HMust 5 w).mono ?_
   rintro e w' ⟨rfl, rfl⟩
   go_wp2
   exact ⟨rfl, rfl, rfl⟩
 ·have hE : numE s.1 a = 5 := by unfold numE; rw [if_neg (by omega)]
  rw [hE, panE_no (by decide)]
  clear hE
  go_enter Tryz.func58, Tryz.ntmps58
  go_wp2_with fail
  refine (HMust 5 w).mono ?_
  rintro e w' ⟨rfl, rfl⟩
  go_wp2
  exact ⟨rfl, rfl, rfl⟩
def numsE (g : Int) : List Int → Int
 | [] => 0
 | a :: l => if numE g a = 0 then numsE g l else 5
theorem numsE_drop {g : Int} {l : List Int} {j : Nat} (hj : j < l.length) : numsE g (l.drop j) = if numE g l[j] = 0 then numsE g (l.drop (j + 1)) else 5 := by
 rw [List.drop_eq_getElem_cons hj, numsE]
theorem own_cell {B n c g : Nat} {w : World} {L : List Int} (h : w.ownsRow B 3 1 (.slice (some ⟨g, 0, none⟩) n c) n (i64s L)) {j : Nat} (hj : j < L.length) : w.cell? ⟨g, j, none⟩ = some (.int .i64 L[j]) := by
 have := h.cellAt j (by rw [← h.1]; simp [i64s]; omega)
 rw [this]
 unfold i64s
 rw [List.getElem?_map, List.getElem?_eq_getElem hj]
 rfl
theorem checkNames_nil (w : World) : Calls Tryz.prog 37 #[.slice none 0 0] w fun e w' => e = .returned (.tuple #[]) ∧ w = w' := by
 go_enter Tryz.func37, Tryz.ntmps37
 go_wp2
 go_loop [11] (fun i => i = .int .i64 0) (fun _ => 0)
 case atStart => rfl
 case round =>
  obtain rfl := hrel
  go_wp2
  go_loop [22] (fun i => i = .int .i64 0) (fun _ => 0)
  case atStart => rfl
  case round =>
   obtain rfl := hrel
   go_wp2
   go_loop [8] (fun i => i = .int .i64 1) (fun _ => 0)
   case atStart => rfl
   case round =>
    obtain rfl := hrel
    go_wp2
    go_end0
    exact ⟨rfl, rfl⟩
end Go.Proofs.YtklbbbldalmnbaaGreatDoor.TR
namespace Go.Proofs.YtklbbbldalmnbaaGreatDoor.TR
set_option maxHeartbeats 1000000
set_option maxRecDepth 100000
open Go.RowKit
set_option linter.unusedVariables false
theorem cell_of_one {w : World} {m : Nat} {v : Value} {e : TypeId} {fr : Nat × Nat} (h : w.heap[m]? = some (.cells #[v] e fr)) : w.cell? ⟨m, 0, none⟩ = some v := by simp [World.cell?, h]
theorem free_of_one {w : World} {m : Nat} {v : Value} {e : TypeId} (h : w.heap[m]? = some (.cells #[v] e (0, 0))) (o : Nat) : w.frozen? ⟨m, o, none⟩ = false := by simp [World.frozen?, h]
theorem catch_idle (p : Addr) (w : World) :
  CallsD Tryz.prog 33 #[.pointer (some p)] .returning w fun e u' w' => e = .returned (.tuple #[]) ∧ u' = .returning ∧ w' = w := by
 have hnn : ∀ w, (binOp .neq 20 .nilIface .nilIface).run Tryz.prog w = .ok (.bool false) w := fun w => by kernel_rfl
 refine callsD_of_wpS Tryz.func33 rfl fun c₀ cs hu => ?_
 apply wpS_seq
 apply wpS_region
 simp [wpOpsS, go_sem, recoverD, hu, Tryz.ntmps33, Exit.thenS]
 apply wpS_seq
 apply wpS_region
 simp [wpOpsS, go_sem, hnn, Exit.thenS]
 refine wpS_cond (t := false) (by simp [Act.eval, Array.replicate]) ?_
 simp only [Bool.false_eq_true, if_false]
 refine wpS_of_wp (wp_skip ?_)
 cases c₀
 simp_all [bodyPostS, results, Tryz.results33]
theorem catch_some (m : Nat) (z a : Int) (w : World) (hm : w.heap[m]? = some (.cells #[.int .i64 a] 29 (0, 0))) :
  CallsD Tryz.prog 33 #[.pointer (some ⟨m, 0, none⟩)] (.panicking [{ v := .iface 29 (.int .i64 z), recovered := false }]) w fun e u' w' => e = .returned (.tuple #[]) ∧ u' = .panicking [{ v := .iface 29 (.int .i64 z), recovered := true }] ∧ w' = w.setCell ⟨m, 0, none⟩ (.int .i64 z) := by
 have hta : ∀ w, (Instr.typeAssert (.iface 29 (.int .i64 z)) 20 29 false).run Tryz.prog w = .ok (.int .i64 z) w := fun w => by kernel_rfl
 have hnn : ∀ x w, (binOp .neq 20 (.iface 29 x) .nilIface).run Tryz.prog w = .ok (.bool true) w := fun x w => by rfl
 refine callsD_of_wpS Tryz.func33 rfl fun c₀ cs hu => ?_
 apply wpS_seq
 apply wpS_region
 simp [wpOpsS, go_sem, recoverD, hu, Tryz.ntmps33, Exit.thenS]
 apply wpS_seq
 apply wpS_region
 simp [wpOpsS, go_sem, hnn, Exit.thenS]
 refine wpS_cond (t := true) (by simp [Act.eval, Array.replicate]) ?_
 simp only [if_true]
 refine wpS_of_wp ?_
 have cm := cell_of_one hm
 have fm := free_of_one hm
 go_wp2
 exact ⟨rfl, _, rfl, .tuple #[], by simp [results, Tryz.results33], rfl, rfl, rfl⟩
def treeE (t : Tr) (g : Int) : Int := match chkT t (0, []) with
 | .error z => z
 | .ok s => if countsE s g ≠ 0 then countsE s g else numsE s.1 s.2
abbrev errO (z : Int) : Obj := .cells #[.int .i64 z] 29
theorem one_setCell {w : World} {m : Nat} {v u : Value} {e : TypeId} {fr : Nat × Nat} (h : w.heap[m]? = some (.cells #[v] e fr)) : (w.setCell ⟨m, 0, none⟩ u).heap[m]? = some (.cells #[u] e fr) := by rw [set_one h]; rfl
theorem leave_ok {tmps : Array Value} {W : World} {N : Nat} {z : Int} {R : Ending → World → Prop} (h2 : tmps[2]? = some (.pointer (some ⟨N, 0, none⟩))) (q1 : W.heap[N]? = some (errO z)) (hF : R (.returned (.int .i64 z)) W) :
  bodyPostD Tryz.prog Tryz.f24 R Exit.ret { tmps := tmps, defers := [{ target := Target.fn (Fn.func 33) #[.pointer (some ⟨N, 0, none⟩)], args := #[] }] } W := by
 have c1 := cell_of_one q1
 refine leaves_cons (f := 33) (args := #[.pointer (some ⟨N, 0, none⟩)]) (by simp) (by simp [go_sem]) ?_
 refine (catch_idle _ _).mono ?_
 rintro e u' w2 ⟨rfl, rfl, rfl⟩
 simp [Leaves, settle, results, Tryz.results24, go_sem, h2, c1]
 exact hF
theorem leave_pan {tmps : Array Value} {W : World} {N : Nat} {a z : Int} {R : Ending → World → Prop} (h2 : tmps[2]? = some (.pointer (some ⟨N, 0, none⟩))) (q1 : W.heap[N]? = some (errO a)) (hF : R (.returned (.int .i64 z)) (W.setCell ⟨N, 0, none⟩ (.int .i64 z))) :
  bodyPostD Tryz.prog Tryz.f24 R (Exit.panic [{ v := .iface 29 (.int .i64 z), recovered := false }]) { tmps := tmps, defers := [{ target := Target.fn (Fn.func 33) #[.pointer (some ⟨N, 0, none⟩)], args := #[] }] } W := by
 refine leaves_cons (f := 33) (args := #[.pointer (some ⟨N, 0, none⟩)]) (by simp) (by simp [go_sem]) ?_
 refine (catch_some N z a W q1).mono ?_
 rintro e u' w2 ⟨rfl, rfl, rfl⟩
 have c1 := cell_of_one (one_setCell (u := .int .i64 z) q1)
 simp [Leaves, settle, results, Tryz.results24, go_sem, h2, c1]
 exact hF
end Go.Proofs.YtklbbbldalmnbaaGreatDoor.TR
namespace Go.Proofs.YtklbbbldalmnbaaGreatDoor.TR
set_option maxHeartbeats 1000000
set_option maxRecDepth 100000
open Go.RowKit
set_option linter.unusedVariables false
theorem NodeC.box {w : World} {n : NV} {t : Tr} (h : NodeC w n t) (o : Obj) : NodeC (w.alloc o) n t := h.keep ((Below.refl _ _).alloc (Nat.le_refl _) _)
theorem nodes_any (n : NV) (t : Tr) (w : World) (h : NodeC w n t) : Calls Tryz.prog 23 #[nvV n] w fun e w' => e = .returned (.tuple #[.int .i64 (if cntA t < 1001 then (cntA t : Int) else 0), .int .i64 (if cntA t < 1001 then 0 else 2)]) ∧ Below w.heap.size w w' := by
 have hb : Below w.heap.size w (w.alloc (nvO n)) := (Below.refl _ _).alloc (Nat.le_refl _) _
 have HC := hide (count_any n t _ (h.box (nvO n)))
 obtain ⟨w1, hw1⟩ : ∃ w1, w1 = w.alloc (nvO n) := ⟨_, rfl⟩
 have hbox : w1.heap[w.heap.size]? = some (nvO n) := by rw [hw1]; exact at_new _ _
 rw [← hw1] at hb HC
 have HB := hide hb
 obtain ⟨d0, d1, d2, d3, d4, d5, d6, d7⟩ := nv_cells hbox
 simp only [nvO] at hw1
 obtain ⟨a, ha⟩ : ∃ a : Int, a = (if cntA t < 1001 then (cntA t : Int) else 0) := ⟨_, rfl⟩
 obtain ⟨b, hb'⟩ : ∃ b : Int, b = (if cntA t < 1001 then 0 else 2) := ⟨_, rfl⟩
 rw [← ha, ← hb'] at HC ⊢
 clear h hb hbox ha hb'
 go_enter Tryz.func23, Tryz.ntmps23
 go_wp2_with fail
 rw [← hw1]
 clear hw1
 refine HC.out.mono ?_
 rintro e w2 ⟨rfl, hb2⟩
 have HB2 := hide (HB.out.trans (hb2.mono HB.out.size))
 clear hb2 HC
 go_wp2
 go_ret2
 exact ⟨rfl, HB2.out⟩
end Go.Proofs.YtklbbbldalmnbaaGreatDoor.TR
