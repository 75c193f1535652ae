/- What check answers, where there are no names: a panic is caught. -/
import Derived.Test.YtpcohmbipbiglaaDoorNcks
import Derived.Defers
import Derived.Recover
import Derived.RegionTactic
namespace Go.Proofs.YtpcohmbipbiglaaDoor
open Go.RowKit
set_option linter.unusedVariables false

theorem cell_of_one {w : World} {m : Nat} {v : Value} {e : TypeId} {fr : Nat × Nat} (h : w.heap[m]? = some (.cells #[v] e fr)) : w.cell? ⟨m, 0, none⟩ = some v := by simp [World.cell?, h]
theorem free_of_one {w : World} {m : Nat} {v : Value} {e : TypeId} (h : w.heap[m]? = some (.cells #[v] e (0, 0))) (o : Nat) : w.frozen? ⟨m, o, none⟩ = false := by simp [World.frozen?, h]
set_option maxRecDepth 100000 in
set_option maxHeartbeats 1000000 in
theorem catch_idle (p : Addr) (w : World) :
    CallsD Tryd.prog 26 #[.pointer (some p)] .returning w fun e u' w' => e = .returned (.tuple #[]) ∧ u' = .returning ∧ w' = w := by
  have hnn : ∀ w, (binOp .neq 20 .nilIface .nilIface).run Tryd.prog w = .ok (.bool false) w := fun w => by kernel_rfl
  refine callsD_of_wpS Tryd.func26 rfl fun c₀ cs hu => ?_
  apply wpS_seq
  apply wpS_region
  simp [wpOpsS, go_sem, recoverD, hu, Tryd.ntmps26, Exit.thenS]
  apply wpS_seq
  apply wpS_region
  simp [wpOpsS, go_sem, hnn, Exit.thenS]
  refine wpS_cond (t := false) (by simp [Act.eval, Array.replicate]) ?_
  simp only [Bool.false_eq_true, if_false]
  refine wpS_of_wp (wp_skip ?_)
  cases c₀
  simp_all [bodyPostS, results, Tryd.results26]
set_option maxRecDepth 100000 in
set_option maxHeartbeats 1000000 in
theorem catch_some (m : Nat) (z a : Int) (w : World) (hm : w.heap[m]? = some (.cells #[.int .i64 a] 26 (0, 0))) :
    CallsD Tryd.prog 26 #[.pointer (some ⟨m, 0, none⟩)] (.panicking [{ v := .iface 26 (.int .i64 z), recovered := false }]) w fun e u' w' => e = .returned (.tuple #[]) ∧ u' = .panicking [{ v := .iface 26 (.int .i64 z), recovered := true }] ∧ w' = w.setCell ⟨m, 0, none⟩ (.int .i64 z) := by
  have hta : ∀ w, (Instr.typeAssert (.iface 26 (.int .i64 z)) 20 26 false).run Tryd.prog w = .ok (.int .i64 z) w := fun w => by kernel_rfl
  have hnn : ∀ x w, (binOp .neq 20 (.iface 26 x) .nilIface).run Tryd.prog w = .ok (.bool true) w := fun x w => by rfl
  refine callsD_of_wpS Tryd.func26 rfl fun c₀ cs hu => ?_
  apply wpS_seq
  apply wpS_region
  simp [wpOpsS, go_sem, recoverD, hu, Tryd.ntmps26, Exit.thenS]
  apply wpS_seq
  apply wpS_region
  simp [wpOpsS, go_sem, hnn, Exit.thenS]
  refine wpS_cond (t := true) (by simp [Act.eval, Array.replicate]) ?_
  simp only [if_true]
  refine wpS_of_wp ?_
  have cm := cell_of_one hm
  have fm := free_of_one hm
  go_wp2
  exact ⟨rfl, _, rfl, .tuple #[], by simp [results, Tryd.results26], rfl, rfl, rfl⟩

/-- what is wrong with a tree and its groups, where there are no names. -/
def treeE (t : Tr) (g : Int) : Int := match chkT t (0, []) with
  | .error z => z
  | .ok s => if countsE s g ≠ 0 then countsE s g else numsE s.1 s.2
abbrev patV (n : NV) (g : Int) : Value := .agg #[.int .i64 n.kind, .slice n.sa n.sl n.sc, .slice n.ka n.kl n.kc, .int .i64 n.num, .int .i64 n.least, .int .i64 n.most, .int .i64 n.way, .bool n.fold, .int .i64 g, .slice none 0 0]
abbrev patO (n : NV) (g : Int) : Obj := .cells #[.int .i64 n.kind, .slice n.sa n.sl n.sc, .slice n.ka n.kl n.kc, .int .i64 n.num, .int .i64 n.least, .int .i64 n.most, .int .i64 n.way, .bool n.fold, .int .i64 g, .slice none 0 0] 34
abbrev errO (z : Int) : Obj := .cells #[.int .i64 z] 26
theorem pat_cells {w : World} {k : Nat} {n : NV} {g : Int} (h : w.heap[k]? = some (patO n g)) : NCells w ⟨k, 0, none⟩ n ∧ w.cell? ⟨k, 8, none⟩ = some (.int .i64 g) ∧ w.cell? ⟨k, 9, none⟩ = some (.slice none 0 0) := by
  refine ⟨⟨?_, ?_, ?_, ?_, ?_, ?_, ?_, ?_⟩, ?_, ?_⟩ <;> simp [World.cell?, h]
theorem one_setCell {w : World} {m : Nat} {v u : Value} {e : TypeId} {fr : Nat × Nat} (h : w.heap[m]? = some (.cells #[v] e fr)) : (w.setCell ⟨m, 0, none⟩ u).heap[m]? = some (.cells #[u] e fr) := by rw [set_one h]; rfl
theorem leave_ok {tmps : Array Value} {W : World} {N : Nat} {z : Int} {R : Ending → World → Prop} (h2 : tmps[2]? = some (.pointer (some ⟨N, 0, none⟩))) (q1 : W.heap[N]? = some (errO z)) (hF : R (.returned (.int .i64 z)) W) :
    bodyPostD Tryd.prog Tryd.f15 R Exit.ret { tmps := tmps, defers := [{ target := Target.fn (Fn.func 26) #[.pointer (some ⟨N, 0, none⟩)], args := #[] }] } W := by
  have c1 := cell_of_one q1
  refine leaves_cons (f := 26) (args := #[.pointer (some ⟨N, 0, none⟩)]) (by simp) (by simp [go_sem]) ?_
  refine (catch_idle _ _).mono ?_
  rintro e u' w2 ⟨rfl, rfl, rfl⟩
  simp [Leaves, settle, results, Tryd.results15, go_sem, h2, c1]
  exact hF
theorem leave_pan {tmps : Array Value} {W : World} {N : Nat} {a z : Int} {R : Ending → World → Prop} (h2 : tmps[2]? = some (.pointer (some ⟨N, 0, none⟩))) (q1 : W.heap[N]? = some (errO a)) (hF : R (.returned (.int .i64 z)) (W.setCell ⟨N, 0, none⟩ (.int .i64 z))) :
    bodyPostD Tryd.prog Tryd.f15 R (Exit.panic [{ v := .iface 26 (.int .i64 z), recovered := false }]) { tmps := tmps, defers := [{ target := Target.fn (Fn.func 26) #[.pointer (some ⟨N, 0, none⟩)], args := #[] }] } W := by
  refine leaves_cons (f := 26) (args := #[.pointer (some ⟨N, 0, none⟩)]) (by simp) (by simp [go_sem]) ?_
  refine (catch_some N z a W q1).mono ?_
  rintro e u' w2 ⟨rfl, rfl, rfl⟩
  have c1 := cell_of_one (one_setCell (u := .int .i64 z) q1)
  simp [Leaves, settle, results, Tryd.results15, go_sem, h2, c1]
  exact hF

set_option maxRecDepth 100000 in
set_option maxHeartbeats 4000000 in
theorem check_nil (n : NV) (t : Tr) (g : Int) (w : World) (h : NodeC w n t) (hsz : szT t ≤ 1000) : Calls Tryd.prog 15 #[patV n g] w fun e w' => e = .returned (.int .i64 (treeE t g)) ∧ Below w.heap.size w w' := by
  have hmf : ∀ (fn : Fn) (first cap : Array Value) (w : World), (Instr.makeFunc fn first cap).run Tryd.prog w = .ok (.func fn first cap) w := fun _ _ _ _ => rfl
  have hb2 : Below w.heap.size w ((w.alloc (patO n g)).alloc (errO 0)) := ((Below.refl _ w).alloc (Nat.le_refl _) _).alloc (by simp) _
  obtain ⟨w2, hw2⟩ : ∃ w2, w2 = (w.alloc (patO n g)).alloc (errO 0) := ⟨_, rfl⟩
  have hs2 : w2.heap.size = w.heap.size + 2 := by rw [hw2]; simp
  have hN2 : NodeC w2 n t := by rw [hw2]; exact h.keep hb2
  have hp2 : w2.heap[w.heap.size]? = some (patO n g) := by rw [hw2]; exact at_old (at_new _ _)
  have he2 : w2.heap[w.heap.size + 1]? = some (errO 0) := by rw [hw2]; exact at_new' _ _ (by simp)
  have hb3 : Below w2.heap.size w2 (w2.alloc (.cells #[.int .i64 0, .slice none 0 0] 64)) := (Below.refl _ _).alloc (Nat.le_refl _) _
  have hck : CK w2.heap.size (w2.alloc (.cells #[.int .i64 0, .slice none 0 0] 64)) (w.heap.size + 2) (0, []) :=
    ⟨by omega, _, at_new' _ _ (by omega), ⟨rfl, .inl ⟨rfl, rfl⟩⟩, by intro e; cases e⟩
  obtain ⟨w3, hw3⟩ : ∃ w3, w3 = w2.alloc (.cells #[.int .i64 0, .slice none 0 0] 64) := ⟨_, rfl⟩
  rw [← hw3] at hb3 hck
  have HT := hide (node_any hN2 (w.heap.size + 2) w3 (0, []) hb3 hck ⟨by simp, by simp; omega, by simp; omega⟩)
  have HB2 : Hid (Below w.heap.size w w2) := by show Below _ _ _; rw [hw2]; exact hb2
  have HB3 := hide hb3
  have HP2 := hide hp2
  have HE2 := hide he2
  have HS2 := hide hs2
  have hGr : ∀ s, chkT t (0, []) = .ok s → s.2.length ≤ 1000000 := fun s hs => by have := chkT_grow _ _ _ hs; simp at this; omega
  have HGr := hide hGr
  obtain ⟨P3c, P3g, P3n⟩ := pat_cells (show w3.heap[w.heap.size]? = some (patO n g) by rw [hb3.block _ (by omega)]; exact hp2)
  obtain ⟨d0, d1, d2, d3, d4, d5, d6, d7⟩ := P3c
  simp only [patO, errO] at hw2
  subst hw2
  clear h hb2 hs2 hN2 hp2 he2 hb3 hck hsz hGr
  simp only [patV]
  go_enter_defers Tryd.func15, Tryd.ntmps15
  go_wp2_with fail
  rw [← hw3]
  clear hw3 d0 d1 d2 d3 d4 d5 d6 d7 P3g P3n
  refine HT.out.mono ?_
  rintro e w4 ⟨hb4, ⟨s, hR, rfl, hck4⟩ | ⟨z, hR, rfl⟩⟩
  · have hb4w := HB3.out.trans hb4
    have HP4 : Hid (w4.heap[w.heap.size]? = some (patO n g)) := by show _ = _; rw [hb4w.block _ (by have := HS2.out; omega)]; exact HP2.out
    have HE4 : Hid (w4.heap[w.heap.size + 1]? = some (errO 0)) := by show _ = _; rw [hb4w.block _ (by have := HS2.out; omega)]; exact HE2.out
    have HBw : Hid (Below w.heap.size w w4) := HB2.out.trans (hb4w.mono HB2.out.size)
    have HCK := hide hck4
    have HR := hide hR
    have hln := HGr.out s hR
    obtain ⟨P4c, P4g, P4n⟩ := pat_cells HP4.out
    have HCo := hide (counts_any _ _ s g w4 hck4)
    have HNu := hide (numbers_nil _ _ s w4 hck4 hln)
    have ce := cell_of_one HE4.out
    have cf := free_of_one HE4.out
    clear hb4 hck4 hR hln hb4w P4c HT HGr HB2 HB3 HP2 HE2 HS2
    by_cases hc : countsE s g = 0
    · rw [hc, panE_yes] at HCo
      by_cases hn : numsE s.1 s.2 = 0
      · have hF : Hid (treeE t g = 0) := by show _ = _; unfold treeE; rw [HR.out]; simp only; rw [if_neg (by omega), hn]
        rw [hn, panE_yes] at HNu
        clear hc hn
        go_wp2_with fail
        refine HCo.out.mono ?_
        rintro e w' ⟨rfl, rfl⟩
        go_wp2_with fail
        refine HNu.out.mono ?_
        rintro e w' ⟨rfl, rfl⟩
        go_wp2_with fail
        refine (checkNames_nil w4).mono ?_
        rintro e w' ⟨rfl, rfl⟩
        go_wp2
        refine leave_ok (N := w.heap.size + 1) (z := 0) rfl (one_setCell HE4.out) ⟨by rw [hF.out], HBw.out.setCell (by show w.heap.size ≤ w.heap.size + 1; omega) _⟩
      · have hF : Hid (treeE t g = numsE s.1 s.2) := by show _ = _; unfold treeE; rw [HR.out]; simp only; rw [if_neg (by omega)]
        rw [panE_no hn] at HNu
        obtain ⟨z, hz⟩ : ∃ z, z = numsE s.1 s.2 := ⟨_, rfl⟩
        rw [← hz] at HNu hF
        clear hc hn hz
        go_wp2_with fail
        refine HCo.out.mono ?_
        rintro e w' ⟨rfl, rfl⟩
        go_wp2_with fail
        refine HNu.out.mono ?_
        rintro e w' ⟨rfl, rfl⟩
        go_wp2
        exact leave_pan (N := w.heap.size + 1) (a := 0) (z := z) rfl HE4.out ⟨by rw [hF.out], HBw.out.setCell (by show w.heap.size ≤ w.heap.size + 1; omega) _⟩
    · have hF : Hid (treeE t g = countsE s g) := by show _ = _; unfold treeE; rw [HR.out]; simp only; rw [if_pos hc]
      rw [panE_no hc] at HCo
      obtain ⟨z, hz⟩ : ∃ z, z = countsE s g := ⟨_, rfl⟩
      rw [← hz] at HCo hF
      clear hc hz
      go_wp2_with fail
      refine HCo.out.mono ?_
      rintro e w' ⟨rfl, rfl⟩
      go_wp2
      exact leave_pan (N := w.heap.size + 1) (a := 0) (z := z) rfl HE4.out ⟨by rw [hF.out], HBw.out.setCell (by show w.heap.size ≤ w.heap.size + 1; omega) _⟩
  · have hb4w := HB3.out.trans hb4
    have HE4 : Hid (w4.heap[w.heap.size + 1]? = some (errO 0)) := by show _ = _; rw [hb4w.block _ (by have := HS2.out; omega)]; exact HE2.out
    have HBw : Hid (Below w.heap.size w w4) := HB2.out.trans (hb4w.mono HB2.out.size)
    have hF : Hid (treeE t g = z) := by show _ = _; unfold treeE; rw [hR]
    clear hb4 hR hb4w HT HGr HB2 HB3 HP2 HE2 HS2
    go_wp2
    exact leave_pan (N := w.heap.size + 1) (a := 0) (z := z) rfl HE4.out ⟨by rw [hF.out], HBw.out.setCell (by show w.heap.size ≤ w.heap.size + 1; omega) _⟩

end Go.Proofs.YtpcohmbipbiglaaDoor
