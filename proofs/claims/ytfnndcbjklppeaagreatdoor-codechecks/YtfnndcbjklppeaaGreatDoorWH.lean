import Derived.Test.YtfnndcbjklppeaaGreatDoorVY
import Derived.Test.YtfnndcbjklppeaaGreatDoorWG
import Derived.Test.YtfnndcbjklppeaaGreatDoorVL
import Derived.Test.YtfnndcbjklppeaaGreatDoorUQ
set_option maxHeartbeats 8000000
set_option linter.unusedVariables false
set_option maxRecDepth 100000
namespace Go.Proofs.YtfnndcbjklppeaaGreatDoor
open Go.RowKit
theorem codeChecks_walk (oa : Option Addr) (ol oc : Nat) (g c : Int) (L : OpL) (w : World) (h : OpsC w oa ol oc L) : Calls Tryz.prog 3 #[prV oa ol oc g c] w fun e w' => e = .returned (.bool true) ∧ Below w.heap.size w w' := by
 obtain ⟨W, hW⟩ : ∃ W, W = w.alloc (prO oa ol oc g c) := ⟨_, rfl⟩
 have hbW : Below w.heap.size w W := by rw [hW]; exact (Below.refl _ _).alloc (Nat.le_refl _) _
 obtain ⟨N, hN⟩ : ∃ N, N = w.heap.size := ⟨_, rfl⟩
 have hx : W.heap[N]? = some (prO oa ol oc g c) := by rw [hW, hN]; exact at_new _ _
 obtain ⟨z, hz⟩ : ∃ z, z = progE ol g c L := ⟨_, rfl⟩
 have HA : Hid (∀ w' : World, Below W.heap.size W w' → Calls Tryz.prog 6 #[.agg #[.slice oa ol oc, .int .i64 g, .int .i64 c]] w' fun e w2 => e = .returned (.int .i64 z) ∧ Below w'.heap.size w' w2) := fun w' hw' => by rw [hz]; exact codeCheck_any oa ol oc g c L w' ((h.below hbW).below hw')
 have HP : Hid (∀ w' : World, Below W.heap.size W w' → Calls Tryz.prog 7 #[.agg #[.slice oa ol oc, .int .i64 g, .int .i64 c]] w' fun e w2 => e = .returned (.int .i64 z) ∧ Below w'.heap.size w' w2) := fun w' hw' => by rw [hz]; exact checkProgram_any oa ol oc g c L w' ((h.below hbW).below hw')
 have HBg := hide (fun X => Vm.begun_ab X)
 have HBW := hide hbW
 have HCl : Hid (∀ w' : World, Below W.heap.size W w' → w'.cell? ⟨N, 0, none⟩ = some (.slice oa ol oc) ∧ w'.cell? ⟨N, 1, none⟩ = some (.int .i64 g) ∧ w'.cell? ⟨N, 2, none⟩ = some (.int .i64 c)) := fun w' h => pr_cells (below_at h hx)
 have HS : Hid (Below W.heap.size W W.drew) := Vm.drew1 W
 simp only [prO] at hW
 simp only [prV]
 clear h hbW hx hz
 go_enter Tryz.func3, Tryz.ntmps3
 go_upto_region 1 with fail
 rw [← hW, ← hN]
 clear hW hN
 refine wp_region_held (S := fun w' => Below W.heap.size W w') (by kernel_rfl) ?_
 change wpAnyH _ _ _ _ _ _ _ _ (World.drew _)
 refine wpAnyH_ready (rs := [0]) (by kernel_rfl) (by simp) ?_
 refine AllReadyH.cons rfl (fun K hK => ?_) AllReadyH.nil
 go_simp
 refine (HBg.out _).mono ?_
 rintro e w2 ⟨rfl, hb⟩
 have HS2 := hide (HS.out.trans (hb.mono HS.out.size))
 clear hb
 refine hK.out _ _ HS2.out (fun _ => ?_)
 clear hK K HBg HS
 refine wpAnyH_take (i := 1) (v := .bool true) rfl (by kernel_rfl) (by kernel_rfl) (by kernel_rfl) (fun _ _ _ h => h) (Or.inl ⟨by kernel_rfl, fun w' hS => ?_⟩) HS2.out ?_
 ·go_simp
 refine wpAnyH_take (i := 2) (v := .agg #[.slice oa ol oc, .int .i64 g, .int .i64 c]) rfl (by kernel_rfl) (by kernel_rfl) (by kernel_rfl) (fun _ _ _ h => h) (Or.inl ⟨by kernel_rfl, fun w' hS => ?_⟩) HS2.out ?_
 ·(obtain ⟨y0, y1, y2⟩ := HCl.out w' hS; go_simp)
 refine wpAnyH_take (i := 4) (v := .agg #[.slice oa ol oc, .int .i64 g, .int .i64 c]) rfl (by kernel_rfl) (by kernel_rfl) (by kernel_rfl) (fun _ _ _ h => h) (Or.inl ⟨by kernel_rfl, fun w' hS => ?_⟩) HS2.out ?_
 ·(obtain ⟨y0, y1, y2⟩ := HCl.out w' hS; go_simp)
 refine wpAnyH_ready (rs := [3]) (by kernel_rfl) (by simp) ?_
 refine AllReadyH.cons rfl (fun K hK => ?_) AllReadyH.nil
 go_simp
 refine (HA.out _ HS2.out).mono ?_
 rintro e w3 ⟨rfl, hb⟩
 have HS3 := hide (HS2.out.trans (hb.mono HS2.out.size))
 clear hb
 refine hK.out _ _ HS3.out (fun _ => ?_)
 clear hK K
 refine wpAnyH_ready (rs := [5]) (by kernel_rfl) (by simp) ?_
 refine AllReadyH.cons rfl (fun K hK => ?_) AllReadyH.nil
 go_simp
 refine (HP.out _ HS3.out).mono ?_
 rintro e w4 ⟨rfl, hb⟩
 have HS4 := hide (HS3.out.trans (hb.mono HS3.out.size))
 clear hb
 refine hK.out _ _ HS4.out (fun _ => ?_)
 clear hK K
 refine wpAnyH_take (i := 6) (v := .bool true) rfl (by kernel_rfl) (by kernel_rfl) (by kernel_rfl) (fun _ _ _ h => h) (Or.inl ⟨by kernel_rfl, fun w' hS => ?_⟩) HS4.out ?_
 ·go_simp
 refine wpAnyH_take (i := 7) (v := .bool true) rfl (by kernel_rfl) (by kernel_rfl) (by kernel_rfl) (fun _ _ _ h => h) (Or.inl ⟨by kernel_rfl, fun w' hS => ?_⟩) HS4.out ?_
 ·go_simp
 refine wpAnyH_take (i := 8) (v := .bool true) rfl (by kernel_rfl) (by kernel_rfl) (by kernel_rfl) (fun _ _ _ h => h) (Or.inl ⟨by kernel_rfl, fun w' hS => ?_⟩) HS4.out ?_
 ·go_simp
 refine wpAnyH_done (by kernel_rfl) ?_ _
 go_wp2
 go_ret
 exact ⟨rfl, HBW.out.trans (HS4.out.mono HBW.out.size)⟩
end Go.Proofs.YtfnndcbjklppeaaGreatDoor
namespace Go.Proofs.YtfnndcbjklppeaaGreatDoor
open Go.ChangeShapes Go.WideShapes Go.ChangeAt Go.RowKit
theorem cellsOp : Tryz.prog.cellsOf 52 = 8 := by kernel_rfl
theorem cellsOps : Tryz.prog.cellsOf 22 = 1 := by kernel_rfl
theorem cellsPr : Tryz.prog.cellsOf 24 = 3 := by kernel_rfl
abbrev ovL (o : OpV) : List Value := [.int .i64 o.dn, .slice o.sa o.sl o.sc, .int .i64 o.to, .int .i64 o.other, .int .i64 o.kind, .int .i64 o.least, .bool o.fold, .bool o.back]
theorem ocells_of {w : World} {base : Nat} {a : Addr} {o : OpV} (h : w.cells? base a 8 = some (ovL o)) : OCells w a o := by
 obtain ⟨_, h⟩ := cells_at h
 have e0 := h 0 (by omega)
 rw [addz] at e0
 have g : ∀ k, k < 8 → k ≠ 0 → w.cell? ⟨a.block, a.off + k, none⟩ = (ovL o)[k]? := fun k hk h0 => by rw [← adde a h0]; exact h k hk
 exact ⟨e0, g 1 (by omega) (by omega), g 2 (by omega) (by omega), g 3 (by omega) (by omega), g 4 (by omega) (by omega), g 5 (by omega) (by omega), g 6 (by omega) (by omega), g 7 (by omega) (by omega)⟩
theorem open_op {H : Type} {enc : TypeId × Value → H} {w : World} {base : Nat} {sp : Nat → Bool} {held : Bool} {fuel : Nat} {cs : List Value} {x : DataW H × List MemPlace}
  (h : DataW.trod enc Tryz.prog w base sp held fuel 52 cs = some x) : ∃ (o : OpV) (S : RL), cs = ovL o ∧ Reads w (.slice o.sa o.sl o.sc) S := by
 obtain ⟨xs, m, rfl, hx, hl, hxl, hall⟩ := DataW.trod_struct Tryz.underlying52 h
 rw [cellsOp] at hl
 obtain ⟨v0, v1, v2, v3, v4, v5, v6, v7, rfl⟩ := eight hl
 obtain ⟨x0, x1, x2, x3, x4, x5, x6, x7, rfl⟩ := eight (show xs.length = 8 from hxl)
 obtain ⟨a0, e0⟩ := one_cell (hall 0 _ rfl)
 obtain ⟨a2, e2⟩ := one_cell (hall 2 _ rfl)
 obtain ⟨a3, e3⟩ := one_cell (hall 3 _ rfl)
 obtain ⟨a4, e4⟩ := one_cell (hall 4 _ rfl)
 obtain ⟨a5, e5⟩ := one_cell (hall 5 _ rfl)
 obtain ⟨a6, e6⟩ := bool_cell (hall 6 _ rfl)
 obtain ⟨a7, e7⟩ := bool_cell (hall 7 _ rfl)
 simp at e0 e2 e3 e4 e5 e6 e7
 subst e0 e2 e3 e4 e5 e6 e7
 have h1 : DataW.trod enc Tryz.prog w base sp held m 29 [v1] = some x1 := by
  have := hall 1 _ rfl
  simpa [cellsSet] using this
 obtain ⟨sa, sl, sc, rfl⟩ : ∃ a l c, v1 = .slice a l c := by
  rcases DataW.trod_slice Tryz.underlying29 h1 with ⟨hcs, _⟩ | ⟨a, len, cap, elems, rest, n, _, hcs, _⟩
  ·cases hcs; exact ⟨_, _, _, rfl⟩
  ·cases hcs; exact ⟨_, _, _, rfl⟩
 obtain ⟨L, hL⟩ := open_ranges h1
 exact ⟨⟨a0, sa, sl, sc, a2, a3, a4, a5, a6, a7⟩, L, rfl, hL⟩
theorem open_program {H : Type} {enc : TypeId × Value → H} {w : World} {base : Nat} {sp : Nat → Bool} {held : Bool} {fuel : Nat} {cs : List Value} {x : DataW H × List MemPlace}
  (h : DataW.trod enc Tryz.prog w base sp held fuel 24 cs = some x) : ∃ (oa : Option Addr) (ol oc : Nat) (g c : Int) (L : OpL), cs = [.slice oa ol oc, .int .i64 g, .int .i64 c] ∧ OpsC w oa ol oc L := by
 obtain ⟨xs, m, rfl, hx, hl, hxl, hall⟩ := DataW.trod_struct Tryz.underlying24 h
 rw [cellsPr] at hl
 obtain ⟨v0, v1, v2, rfl⟩ : ∃ a b c, cs = [a, b, c] := by
  match cs, hl with
  | [a, b, c], _ => exact ⟨a, b, c, rfl⟩
 obtain ⟨x0, x1, x2, rfl⟩ : ∃ a b c, xs = [a, b, c] := by
  match xs, (show xs.length = 3 from hxl) with
  | [a, b, c], _ => exact ⟨a, b, c, rfl⟩
 obtain ⟨a1, e1⟩ := one_cell (hall 1 _ rfl)
 obtain ⟨a2, e2⟩ := one_cell (hall 2 _ rfl)
 simp at e1 e2
 subst e1 e2
 have h0 : DataW.trod enc Tryz.prog w base sp held m 22 [v0] = some x0 := by
  have := hall 0 _ rfl
  simpa [cellsOps] using this
 rcases DataW.trod_slice Tryz.underlying22 h0 with ⟨hcs, _⟩ | ⟨a, len, cap, elems, rest, k, hk, hcs, hx, _, hlc, hm, hlen, hel, _⟩
 ·cases hcs
  exact ⟨none, 0, 0, a1, a2, [], rfl, .inl ⟨rfl, rfl, rfl, rfl⟩⟩
 ·cases hcs
  obtain ⟨K, h3, h4⟩ := list_of' (α := OpV × RL) (n := len) (P := fun i r => OCells w (a.add (i * 8)) r.1 ∧ Reads w (.slice r.1.sa r.1.sl r.1.sc) r.2) (fun i hi => by
   have hE := hel i hi
   rw [cellsOp, List.getElem?_eq_getElem (by omega)] at hE
   simp only [Option.bind_eq_some_iff] at hE
   obtain ⟨cs, hcs, ht⟩ := hE
   obtain ⟨o, S, rfl, hn⟩ := open_op ht
   exact ⟨(o, S), ocells_of hcs, hn⟩)
  exact ⟨some a, len, cap, a1, a2, K, rfl, .inr ⟨a, rfl, h3.symm, ⟨by omega, by have := hm; unfold maxLen at this; omega⟩, h4⟩⟩
end Go.Proofs.YtfnndcbjklppeaaGreatDoor
