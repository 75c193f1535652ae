import Derived.Shelf.SlSorted.Search
import Derived.Test.YtfnndcbjklppeaaGreatDoorProg
import Derived.Test.YtfnndcbjklppeaaGreatDoorUA
import Derived.Test.YtfnndcbjklppeaaGreatDoorUE
import Derived.Test.YtfnndcbjklppeaaGreatDoorUT
import Derived.Deep.RegionHeld
set_option maxHeartbeats 8000000
set_option linter.unusedVariables false
set_option maxRecDepth 100000
namespace Go.Proofs
open Go.Shelf
def Tryz.search_ren : Go.Shelf.Ren := ⟨fun | 16 => 178 | n => n, fun | 3 => 3 | 4 => 4 | 35 => 56 | 38 => 142 | n => n, fun | n => n⟩
theorem Tryz.search : Go.Proofs.SlLaysO.n16 Tryz.prog Tryz.search_ren := {
 mixed := by kernel_rfl
 f16 := Tryz.func178.trans (congrArg some (by kernel_rfl))
 t3 := Tryz.underlying3
 a3 := Tryz.isAgg3
 z3 := Tryz.sizeOf3
 v3 := Tryz.zeroValue3
 t4 := Tryz.underlying4
 a4 := Tryz.isAgg4
 z4 := Tryz.sizeOf4
 v4 := Tryz.zeroValue4
 t35 := Tryz.underlying56
 a35 := Tryz.isAgg56
 z35 := Tryz.sizeOf56
 v35 := Tryz.zeroValue56
 t38 := Tryz.underlying142
 a38 := Tryz.isAgg142
 z38 := Tryz.sizeOf142
 v38 := Tryz.zeroValue142 }
end Go.Proofs
namespace Go.Proofs.YtfnndcbjklppeaaGreatDoor
open Go.RowKit Go.Sort Go.Lib Go.Shelf
theorem stretch1_any (x b1 b2 : Addr) (c : Nat) (L : RL) (p : Int) (i : Nat) (W : World) (hi : i < L.length) (hl : L.length ≤ 2000) (h1 : W.cell? b1 = some (.slice (some x) L.length c)) (h2 : W.cell? b2 = some (.int .i64 p)) (hc : Cells2 W x L) :
  Calls Tryz.prog 179 #[.int .i64 i, .pointer (some b1), .pointer (some b2)] W fun e w' => e = .returned (.bool (decide (p ≤ L[i].2))) ∧ ∃ q, w' = W.drewN q := by
 obtain ⟨c1, c2⟩ := hc i hi
 obtain ⟨b, hb⟩ : ∃ b, b = L[i].2 := ⟨_, rfl⟩
 rw [← hb] at c2 ⊢
 obtain ⟨n, hn⟩ : ∃ n, n = L.length := ⟨_, rfl⟩
 rw [← hn] at hi hl h1
 have e1 : (i : Int) < (n : Int) := by omega
 have e0 : (0 : Int) ≤ (i : Int) := by omega
 clear hc hb hn c1
 go_enter Tryz.func179, Tryz.ntmps179
 go_wp2
 go_quiet (fail)
 go_wp2
 go_ret
 exact ⟨rfl, _, rfl⟩
theorem enters179 (args : Array Value) (w : World) : (callFunc 179 args).run Tryz.prog w = .ok (.enter 179 args) w := enters_of Tryz.func179 (by kernel_rfl) rfl args w
theorem count_range (L : RL) (p : Int) : (List.range L.length).countP (fun i => !decide (p ≤ (L.getD i (0, 0)).2)) = L.countP (fun r => decide (r.2 < p)) := by
 have h : L = (List.range L.length).map (fun i => L.getD i (0, 0)) := by
  apply List.ext_getElem
  ·simp
  ·intro i h1 h2
   simp [List.getD, h1]
 conv => rhs; rw [h, List.countP_map]
 apply List.countP_congr
 intro i _
 simp [Function.comp]
theorem reads_one {w : World} (v : Value) (t : Nat) : (w.alloc (.cells #[v] t)).cell? ⟨w.heap.size, 0, none⟩ = some v := World.cell?_alloc_at _ _ _ _ rfl
theorem below_grow (w : World) (q : Nat) (os : Array Obj) : Below w.heap.size w (grow (w.drewN q) os) := below_grown_sl _ w q os (Nat.le_refl _)
theorem below_two (w : World) (o o' : Obj) : Below w.heap.size w ((w.alloc o).alloc o') := ((Below.refl _ w).alloc (Nat.le_refl _) o).alloc (by simp) o'
theorem below_both (w w2 : World) (o o' : Obj) (h : Below ((w.alloc o).alloc o').heap.size ((w.alloc o).alloc o') w2) : Below w.heap.size w w2 := (below_two w o o').trans (h.mono (by simp; omega))
theorem stretch_any (v : Value) (L : RL) (p : Int) (w : World) (hv : Reads w v L) (hC : Canon L) (hl : L.length ≤ 2000) :
  Calls Tryz.prog 165 #[v, .int .i64 p] w fun e w' => e = .returned (.tuple #[.bool (stretchL L p).1, .int .i64 (stretchL L p).2]) ∧ Below w.heap.size w w' := by
 obtain ⟨k, hk⟩ : ∃ k, k = L.countP (fun r => decide (r.2 < p)) := ⟨_, rfl⟩
 obtain ⟨s1, s2⟩ := stretch_at L p k hk hC
 have hkl : k ≤ L.length := by rw [hk]; exact List.countP_le_length
 rcases hv with ⟨rfl, rfl⟩ | ⟨x, c, rfl, hc⟩
 ·have S := hide (Any.sort_Search Tryz.search 179 #[.pointer (some ⟨w.heap.size, 0, none⟩), .pointer (some ⟨w.heap.size + 1, 0, none⟩)] 0 (fun _ => false) ((w.alloc (.cells #[.slice none 0 0] 29)).alloc (.cells #[.int .i64 p] 3)) enters179 (by decide) (fun m os i hi => by omega) (fun a b _ h => by omega))
  change Hid (Calls Tryz.prog 178 _ _ _) at S
  clear s1 s2 hk hkl hC
  go_enter Tryz.func165, Tryz.ntmps165
  go_wp2_with fail
  refine S.out.mono ?_
  rintro e w2 ⟨rfl, q, os, hw2⟩
  have hb := below_grow ((w.alloc (.cells #[.slice none 0 0] 29)).alloc (.cells #[.int .i64 p] 3)) q os
  rw [← hw2] at hb
  have d1 : w2.cell? ⟨w.heap.size, 0, none⟩ = some (.slice none 0 0) := below_cell hb (by simp; omega) (cell_alloc_sl _ (reads_one _ _))
  clear hw2 S
  go_wp2
  go_ret2
  exact ⟨rfl, below_both _ _ _ _ hb⟩
 ·obtain ⟨n, hn⟩ : ∃ n, n = L.length := ⟨_, rfl⟩
  have S := hide (Any.sort_Search Tryz.search 179 #[.pointer (some ⟨w.heap.size, 0, none⟩), .pointer (some ⟨w.heap.size + 1, 0, none⟩)] L.length (fun i => decide (p ≤ (L.getD i (0, 0)).2)) ((w.alloc (.cells #[.slice (some x) L.length c] 29)).alloc (.cells #[.int .i64 p] 3)) enters179 (by omega) (fun m os i hi => by
   have hb := below_grow ((w.alloc (.cells #[.slice (some x) L.length c] 29)).alloc (.cells #[.int .i64 p] 3)) m os
   have h := stretch1_any x ⟨w.heap.size, 0, none⟩ ⟨w.heap.size + 1, 0, none⟩ c L p i (grow (((w.alloc (.cells #[.slice (some x) L.length c] 29)).alloc (.cells #[.int .i64 p] 3)).drewN m) os) hi hl (below_cell hb (by simp; omega) (cell_alloc_sl _ (reads_one _ _))) (below_cell hb (by simp) (by have := reads_one (w := w.alloc (.cells #[.slice (some x) L.length c] 29)) (.int .i64 p) 3; simp)) ((hc.below (below_two w _ _)).below hb)
   refine h.mono ?_
   rintro e w' ⟨rfl, q, rfl⟩
   refine ⟨by simp [List.getD, hi], q, #[], by rw [grow_empty]⟩) (fun a b hab hbn h => by
   simp only [decide_eq_true_eq] at h ⊢
   by_cases hab' : a = b
   ·subst hab'; exact h
   ·have hp := hC.2
    rw [List.pairwise_iff_getElem] at hp
    have h1 := hp a b (by omega) hbn (by omega)
    have h2 := hC.1 L[b] (List.getElem_mem _)
    unfold okR at h2
    simp only [List.getD, List.getElem?_eq_getElem hbn, List.getElem?_eq_getElem (show a < L.length by omega), Option.getD_some] at h ⊢
    omega))
  change Hid (Calls Tryz.prog 178 _ _ _) at S
  rw [count_range, ← hk, ← hn] at S
  rw [← hn] at hkl hl s1 ⊢
  have HC := hide hc
  have HN := hide hn
  by_cases hkn : k = n
  ·have E := hide (s1 hkn)
   rw [E.out]
   clear s1 s2 hk hc hn hC
   subst hkn
   go_enter Tryz.func165, Tryz.ntmps165
   go_wp2_with fail
   refine S.out.mono ?_
   rintro e w2 ⟨rfl, q, os, hw2⟩
   have hb := below_grow ((w.alloc (.cells #[.slice (some x) k c] 29)).alloc (.cells #[.int .i64 p] 3)) q os
   rw [← hw2] at hb
   have d1 : w2.cell? ⟨w.heap.size, 0, none⟩ = some (.slice (some x) k c) := below_cell hb (by simp; omega) (cell_alloc_sl _ (reads_one _ _))
   clear hw2 S
   go_wp2
   go_ret2
   exact ⟨rfl, below_both _ _ _ _ hb⟩
  ·have hkL : k < L.length := by omega
   have E := hide (s2 hkL)
   have hr := hC.1 L[k] (List.getElem_mem _)
   unfold okR at hr
   obtain ⟨r, hr'⟩ : ∃ r, r = L[k] := ⟨_, rfl⟩
   rw [← hr'] at hr E
   have HR := hide hr'
   obtain ⟨a, b⟩ := r
   simp only at hr E
   obtain ⟨r0, r1, r2⟩ := hr
   have e1 : (k : Int) < (n : Int) := by omega
   have e0 : (0 : Int) ≤ (k : Int) := by omega
   have e3 : ((k : Int) == (n : Int)) = false := by simp; omega
   have wa : IntKind.i64.wrap (a - 1) = a - 1 := by rw [IntKind.wrap_i64]; omega
   clear s1 s2 hk hn hC hc hr'
   have finish : ∀ (w2 : World), Below ((w.alloc (.cells #[.slice (some x) n c] 29)).alloc (.cells #[.int .i64 p] 3)).heap.size ((w.alloc (.cells #[.slice (some x) n c] 29)).alloc (.cells #[.int .i64 p] 3)) w2 → w2.cell? ⟨w.heap.size, 0, none⟩ = some (.slice (some x) n c) ∧ w2.cell? ⟨w.heap.size + 1, 0, none⟩ = some (.int .i64 p) ∧ w2.cell? (x.add (k * 2)) = some (.int .i64 a) ∧ w2.cell? ⟨(x.add (k * 2)).block, (x.add (k * 2)).off + 1, none⟩ = some (.int .i64 b) := by
    intro w2 hb
    obtain ⟨c1, c2⟩ := ((HC.out.below (below_two w _ _)).below hb) k hkL
    rw [← HR.out] at c1 c2
    exact ⟨below_cell hb (by simp; omega) (cell_alloc_sl _ (reads_one _ _)), below_cell hb (by simp) (by have := reads_one (w := w.alloc (.cells #[.slice (some x) n c] 29)) (.int .i64 p) 3; simp), c1, c2⟩
   have FI := hide finish
   clear finish
   by_cases hpa : p < a
   ·rw [if_pos hpa] at E
    rw [E.out]
    go_enter Tryz.func165, Tryz.ntmps165
    go_wp2_with fail
    refine S.out.mono ?_
    rintro e w2 ⟨rfl, q, os, hw2⟩
    have hb := below_grow ((w.alloc (.cells #[.slice (some x) n c] 29)).alloc (.cells #[.int .i64 p] 3)) q os
    rw [← hw2] at hb
    obtain ⟨d1, d2, d3, d4⟩ := FI.out w2 hb
    clear hw2 S
    go_wp2
    go_quiet (fail)
    go_wp2
    go_quiet (fail)
    go_wp2
    go_ret2
    exact ⟨rfl, below_drewN (below_drewN (below_both _ _ _ _ hb) _) _⟩
   ·rw [if_neg hpa] at E
    rw [E.out]
    have hd : decide (p < a) = false := by simpa using hpa
    go_enter Tryz.func165, Tryz.ntmps165
    go_wp2_with fail
    refine S.out.mono ?_
    rintro e w2 ⟨rfl, q, os, hw2⟩
    have hb := below_grow ((w.alloc (.cells #[.slice (some x) n c] 29)).alloc (.cells #[.int .i64 p] 3)) q os
    rw [← hw2] at hb
    obtain ⟨d1, d2, d3, d4⟩ := FI.out w2 hb
    clear hw2 S
    go_wp2
    go_quiet (fail)
    go_wp2
    go_quiet (fail)
    go_wp2
    go_ret2
    exact ⟨rfl, below_drewN (below_drewN (below_both _ _ _ _ hb) _) _⟩
end Go.Proofs.YtfnndcbjklppeaaGreatDoor
namespace Go.Proofs.YtfnndcbjklppeaaGreatDoor
open Go.RowKit
theorem has_in (v : Value) (L : RL) (p : Int) (w : World) (hv : Reads w v L) (h : checkE L = 0) (h0 : 0 ≤ p) (h1 : p ≤ 1114111) : Calls Tryz.prog 131 #[v, .int .i64 p] w fun e w' => e = .returned (.tuple #[.bool (ins L p), .int .i64 0]) ∧ Below w.heap.size w w' := by
 have HC := hide (check_any v L w hv)
 have HI := hide (fun w => is_any p w)
 rw [show decide (0 ≤ p ∧ p ≤ 1114111) = true from by simp [h0, h1]] at HI
 rw [h] at HC
 obtain ⟨hl, hcan⟩ := checkE_ok.1 h
 have HS := hide (fun w1 (hb : Below w.heap.size w w1) => stretch_any v L p w1 (hv.below hb) hcan (by omega))
 rw [stretch_ins hcan h0 h1] at HS
 obtain ⟨z, hz⟩ : ∃ z, z = ins L p := ⟨_, rfl⟩
 obtain ⟨y, hy⟩ : ∃ y, y = (stretchL L p).2 := ⟨_, rfl⟩
 rw [← hz] at HS ⊢
 rw [← hy] at HS
 clear hv hcan h hz hy
 go_enter Tryz.func131, Tryz.ntmps131
 go_wp2_with fail
 refine HC.out.mono ?_
 rintro e w1 ⟨rfl, hb1⟩
 go_wp2_with fail
 refine (HI.out w1).mono ?_
 rintro e w2 ⟨rfl, rfl⟩
 go_wp2_with fail
 refine (HS.out w1 hb1).mono ?_
 rintro e w3 ⟨rfl, hb3⟩
 go_wp2
 go_ret2
 exact ⟨rfl, hb1.trans (hb3.mono hb1.size)⟩
end Go.Proofs.YtfnndcbjklppeaaGreatDoor
namespace Go.Proofs.YtfnndcbjklppeaaGreatDoor.Vm
open Go.RowKit
variable {w w' : World} {E : ME} {s s' : XS} {cv bv : Value}
theorem FX.drew (h : FX E w w') : FX E w w'.drew := ⟨⟨h.low.1, h.low.2, h.low.3, h.low.4, h.low.5⟩, h.oth⟩
theorem take_any (h : MX w E s cv bv) (i : Nat) (hi : i < 3) (hpos : s.pos = (i : Int)) (p : Int) (hp : 0 ≤ p ∧ p ≤ 1114111) (hpt : ∀ W, Below E.B w W → W.cell? (E.px.add i) = some (.int .i64 p)) (sa : Option Addr) (sl sc : Nat) (S : RL) (hS : ∀ W, FX E w W → Reads W (.slice sa sl sc) S) (hc : checkE S = 0) : Calls Tryz.prog 87 #[.pointer (some ⟨E.M, 0, none⟩), .slice sa sl sc] w fun e w' => e = .returned (.bool (ins S p)) ∧ MX w' E (if ins S p then { s with pos := ((i + 1 : Nat) : Int) } else s) cv bv ∧ FX E w w' := by
 obtain ⟨c0, c1, c2, c3, c5, c8, c9, c10, c11, c12, c13⟩ := h.rd
 rw [hpos] at c1
 have HM2 := hide h.drew.drew
 have HF2 := hide ((FX.refl E w).drew.drew)
 have HC := hide (has_in (.slice sa sl sc) S p w.drew.drew (hS _ HF2.out) hc hp.1 hp.2)
 have hcp := hpt w.drew ⟨rfl, rfl, rfl, Nat.le_refl _, fun _ _ => rfl⟩
 have hcp' : w.cell? (E.px.add i) = some (.int .i64 p) := hpt w (Below.refl _ _)
 obtain ⟨z, hz⟩ : ∃ z, z = ins S p := ⟨_, rfl⟩
 rw [← hz] at HC ⊢
 have bi : ((i : Int) == 3) = false := by have : (i : Int) ≠ 3 := by omega
                                          simpa using this
 have e1 : (0 : Int) ≤ (i : Int) := by omega
 have e2 : (i : Int) < (3 : Int) := by omega
 have ew : IntKind.i64.wrap ((i : Int) + 1) = (i : Int) + 1 := by rw [IntKind.wrap_i64]; omega
 have HPos := hide hpos
 have HPt := hide hpt
 have HS : Hid (MX w.drew.drew E s cv bv ∧ FX E w w.drew.drew) := ⟨HM2.out, HF2.out⟩
 have HFB := hide (fun W (hW : Below w.drew.drew.heap.size w.drew.drew W) => HM2.out.keep hW)
 have HFF := hide (fun W (hW : Below w.drew.drew.heap.size w.drew.drew W) => HF2.out.trans (FX.of hW HM2.out.ltB))
 clear h hpt hS hc hp hz hpos
 go_enter Tryz.func87, Tryz.ntmps87
 go_upto_region 1 with fail
 go_region
 go_upto_region 3 with fail
 refine wp_region_held (S := fun w' => MX w' E s cv bv ∧ FX E w w') (by kernel_rfl) ?_
 change wpAnyH _ _ _ _ _ _ _ _ (World.drew _)
 refine wpAnyH_take (i := 0) (v := .slice sa sl sc) rfl (by kernel_rfl) (by kernel_rfl) (by kernel_rfl) (fun _ _ _ h => h) (Or.inl ⟨by kernel_rfl, fun w' hS => ?_⟩) HS.out ?_
 ·go_simp
 refine wpAnyH_take (i := 1) (v := .pointer (some ⟨E.M, 0, none⟩)) rfl (by kernel_rfl) (by kernel_rfl) (by kernel_rfl) (fun _ _ _ h => h) (Or.inl ⟨by kernel_rfl, fun w' hS => ?_⟩) HS.out ?_
 ·go_simp
 refine wpAnyH_take (i := 2) (v := .pointer (some ⟨E.M, 0, none⟩)) rfl (by kernel_rfl) (by kernel_rfl) (by kernel_rfl) (fun _ _ _ h => h) (Or.inl ⟨by kernel_rfl, fun w' hS => ?_⟩) HS.out ?_
 ·go_simp
 refine wpAnyH_take (i := 3) (v := .pointer (some ⟨E.M, 0, none⟩)) rfl (by kernel_rfl) (by kernel_rfl) (by kernel_rfl) (fun _ _ _ h => h) (Or.inl ⟨by kernel_rfl, fun w' hS => ?_⟩) HS.out ?_
 ·go_simp
 refine wpAnyH_take (i := 4) (v := .slice (some E.px) 3 E.pc) rfl (by kernel_rfl) (by kernel_rfl) (by kernel_rfl) (fun _ _ _ h => h) (Or.inl ⟨by kernel_rfl, fun w' hS => ?_⟩) HS.out ?_
 ·(obtain ⟨d0, d1, d2, d3, d5, d8, d9, d10, d11, d12, d13⟩ := hS.1.rd; rw [HPos.out] at d1; have dp := HPt.out w' hS.2.low; go_simp)
 refine wpAnyH_take (i := 5) (v := .pointer (some ⟨E.M, 0, none⟩)) rfl (by kernel_rfl) (by kernel_rfl) (by kernel_rfl) (fun _ _ _ h => h) (Or.inl ⟨by kernel_rfl, fun w' hS => ?_⟩) HS.out ?_
 ·go_simp
 refine wpAnyH_take (i := 6) (v := .pointer (some ⟨E.M, 0, none⟩)) rfl (by kernel_rfl) (by kernel_rfl) (by kernel_rfl) (fun _ _ _ h => h) (Or.inl ⟨by kernel_rfl, fun w' hS => ?_⟩) HS.out ?_
 ·go_simp
 refine wpAnyH_take (i := 7) (v := .pointer (some ⟨E.M, 1, none⟩)) rfl (by kernel_rfl) (by kernel_rfl) (by kernel_rfl) (fun _ _ _ h => h) (Or.inl ⟨by kernel_rfl, fun w' hS => ?_⟩) HS.out ?_
 ·go_simp
 refine wpAnyH_take (i := 8) (v := .int .i64 (i : Int)) rfl (by kernel_rfl) (by kernel_rfl) (by kernel_rfl) (fun _ _ _ h => h) (Or.inl ⟨by kernel_rfl, fun w' hS => ?_⟩) HS.out ?_
 ·(obtain ⟨d0, d1, d2, d3, d5, d8, d9, d10, d11, d12, d13⟩ := hS.1.rd; rw [HPos.out] at d1; have dp := HPt.out w' hS.2.low; go_simp)
 refine wpAnyH_take (i := 9) (v := .pointer (some (E.px.add i))) rfl (by kernel_rfl) (by kernel_rfl) (by kernel_rfl) (fun _ _ _ h => h) (Or.inl ⟨by kernel_rfl, fun w' hS => ?_⟩) HS.out ?_
 ·go_simp
 refine wpAnyH_take (i := 10) (v := .int .i64 p) rfl (by kernel_rfl) (by kernel_rfl) (by kernel_rfl) (fun _ _ _ h => h) (Or.inl ⟨by kernel_rfl, fun w' hS => ?_⟩) HS.out ?_
 ·(obtain ⟨d0, d1, d2, d3, d5, d8, d9, d10, d11, d12, d13⟩ := hS.1.rd; rw [HPos.out] at d1; have dp := HPt.out w' hS.2.low; go_simp)
 refine wpAnyH_ready (rs := [11]) (by kernel_rfl) (by simp) ?_
 refine AllReadyH.cons rfl (fun K hK => ?_) AllReadyH.nil
 go_simp
 refine HC.out.mono ?_
 rintro e w3 ⟨rfl, hb3⟩
 have HS3 : Hid (MX w3 E s cv bv ∧ FX E w w3) := ⟨HFB.out w3 hb3, HFF.out w3 hb3⟩
 refine hK.out _ _ HS3.out (fun _ => ?_)
 clear hK K
 refine wpAnyH_take (i := 12) (v := .tuple #[.bool z, .int .i64 0]) rfl (by kernel_rfl) (by kernel_rfl) (by kernel_rfl) (fun _ _ _ h => h) (Or.inl ⟨by kernel_rfl, fun w' hS => ?_⟩) HS3.out ?_
 ·go_simp
 refine wpAnyH_take (i := 13) (v := .bool z) rfl (by kernel_rfl) (by kernel_rfl) (by kernel_rfl) (fun _ _ _ h => h) (Or.inl ⟨by kernel_rfl, fun w' hS => ?_⟩) HS3.out ?_
 ·go_simp
 refine wpAnyH_take (i := 14) (v := .int .i64 0) rfl (by kernel_rfl) (by kernel_rfl) (by kernel_rfl) (fun _ _ _ h => h) (Or.inl ⟨by kernel_rfl, fun w' hS => ?_⟩) HS3.out ?_
 ·go_simp
 refine wpAnyH_take (i := 15) (v := .bool z) rfl (by kernel_rfl) (by kernel_rfl) (by kernel_rfl) (fun _ _ _ h => h) (Or.inl ⟨by kernel_rfl, fun w' hS => ?_⟩) HS3.out ?_
 ·go_simp
 refine wpAnyH_take (i := 16) (v := .int .i64 0) rfl (by kernel_rfl) (by kernel_rfl) (by kernel_rfl) (fun _ _ _ h => h) (Or.inl ⟨by kernel_rfl, fun w' hS => ?_⟩) HS3.out ?_
 ·go_simp
 refine wpAnyH_done (by kernel_rfl) ?_ _
 have h3 := HFB.out w3 hb3
 have HF3 := hide (HFF.out w3 hb3)
 obtain ⟨d0, d1, d2, d3, d5, d8, d9, d10, d11, d12, d13⟩ := h3.rd
 rw [HPos.out] at d1
 have fz := h3.fr
 have hlt3 := h3.lt
 have HM4 := hide (h3.put 1 (.int .i64 ((i : Int) + 1)) { s with pos := ((i + 1 : Nat) : Int) } (by simp) rfl rfl rfl)
 have HF4 := hide (HF3.out.trans (FX.set E w3 h3.lm 1 (.int .i64 ((i : Int) + 1))))
 have HM3 := hide h3
 clear HC hb3 h3 HFB HFF HM2 HF2 c0 c1 c2 c3 c5 c8 c9 c10 c11 c12 c13 hcp hcp'
 cases z with
 | true =>
  go_wp2
  go_ret
  exact ⟨rfl, HM4.out, HF4.out⟩
 | false =>
  go_wp2
  go_ret
  exact ⟨rfl, HM3.out, HF3.out⟩
variable {w w' : World} {E : ME} {s s' : XS} {cv bv : Value}
theorem MX.other (h : MX w E s cv bv) {xb : Nat} {cs : Array Value} {fr : Nat × Nat} (hx : w.heap[xb]? = some (.cells cs 149 fr)) (hc : xb ≠ E.cb) (i : Nat) (v : Value) : MX (w.setCell ⟨xb, i, none⟩ v) E s cv bv := by
 have key : ∀ {k : Nat} {o : Obj}, k ≠ xb → w.heap[k]? = some o → (w.setCell ⟨xb, i, none⟩ v).heap[k]? = some o := fun {k o} hk ho => by rw [Below.heap_setCell _ _ _ _ (by simpa using hk)]; exact ho
 have nm : ∀ {k : Nat} {cs : Array Value} {e : TypeId} {fr : Nat × Nat}, e ≠ 149 → w.heap[k]? = some (.cells cs e fr) → k ≠ xb := fun {k cs e fr} he hk ek => by
  rw [ek, hx] at hk
  cases hk
  exact he rfl
 exact ⟨key (nm (by decide) h.box) h.box, key (Ne.symm hc) h.cnt, own_oth h.ch fun b cs hb => key (nm (by decide) hb) hb, own_oth h.bk fun b cs hb => key (nm (by decide) hb) hb, h.lm, h.lc⟩
theorem FX.other {X : World} (h : FX E w X) {xb : Nat} (h1 : w.heap.size ≤ xb) (h2 : E.B ≤ xb) (i : Nat) (v : Value) : FX E w (X.setCell ⟨xb, i, none⟩ v) :=
 ⟨h.low.setCell (p := ⟨xb, i, none⟩) h2 v, fun k cs e fr hc a b c d => by rw [Below.heap_setCell _ _ _ _ (by show k ≠ xb; have := lt_of_block hc; omega)]; exact h.oth k cs e fr hc a b c d⟩
theorem count_any (h : MX w E s cv bv) (sa : Option Addr) (sl sc : Nat) (hl : s.ch.length ≤ 1000) : Calls Tryz.prog 92 #[.pointer (some ⟨E.M, 0, none⟩), opV ⟨9, sa, sl, sc, 0, 0, 0, 0, false, false⟩] w fun e w' => e = .returned (.tuple #[]) ∧ (∃ cv', MX w' E { s with ch := s.ch ++ [s.num], num := 0 } cv' bv) ∧ FX E w w' := by
 obtain ⟨W, hW⟩ : ∃ W, W = w.alloc (opO ⟨9, sa, sl, sc, 0, 0, 0, 0, false, false⟩) := ⟨_, rfl⟩
 have hbW : Below w.heap.size w W := by rw [hW]; exact (Below.refl _ _).alloc (Nat.le_refl _) _
 have hob : W.heap[w.heap.size]? = some (opO ⟨9, sa, sl, sc, 0, 0, 0, 0, false, false⟩) := by rw [hW]; exact at_new _ _
 obtain ⟨ob, hobe⟩ : ∃ ob, ob = w.heap.size := ⟨_, rfl⟩
 rw [← hobe] at hob
 have hoM : ob ≠ E.M := by have := h.lt; omega
 have hoC : ob ≠ E.cb := by have := lt_of_block h.cnt; omega
 have h1 := h.keep hbW
 have hF1 := FX.of hbW h.ltB
 have dM : ∀ (X : World) (t : XS) (a c : Value), MX X E t a c → MX X.drew E t a c := fun X t a c h => h.drew
 have dh : ∀ X : World, X.drew.heap = X.heap := fun _ => rfl
 have dF : ∀ (Y X : World), FX E Y X → FX E Y X.drew := fun Y X h => h.drew
 obtain ⟨W1, hW1⟩ : ∃ W1, W1 = (W.alloc (cnO s.num)).drew := ⟨_, rfl⟩
 have hba : Below W.heap.size W (W.alloc (cnO s.num)) := (Below.refl _ _).alloc (Nat.le_refl _) _
 have hx1 : W1.heap[W.heap.size]? = some (cnO s.num) := by rw [hW1, dh]; exact at_new _ _
 obtain ⟨xb, hxb⟩ : ∃ xb, xb = W.heap.size := ⟨_, rfl⟩
 rw [← hxb] at hx1
 have hxC : xb ≠ E.cb := by have := lt_of_block h1.cnt; omega
 have hxM : xb ≠ E.M := by have := h1.lt; omega
 have hxO : xb ≠ ob := by have := lt_of_block hob; omega
 have hxw : w.heap.size ≤ xb := by have := hbW.size; omega
 have hxB : E.B ≤ xb := by have := h.ltB; omega
 have h2 : MX W1 E s cv bv := by rw [hW1]; exact dM _ _ _ _ (h1.keep hba)
 have hob2 : W1.heap[ob]? = some (opO ⟨9, sa, sl, sc, 0, 0, 0, 0, false, false⟩) := by rw [hW1, dh]; exact below_at hba hob
 have hF2 : FX E w W1 := by rw [hW1]; exact dF _ _ (hF1.trans (FX.of hba h1.ltB))
 obtain ⟨W2, hW2⟩ : ∃ W2, W2 = W1.setCell ⟨xb, 0, none⟩ (.int .i64 (0)) := ⟨_, rfl⟩
 have h3 : MX W2 E s cv bv := by rw [hW2]; exact h2.other hx1 hxC 0 _
 have hx2 : W2.heap[xb]? = some (cnO (0)) := by rw [hW2, set_oneQ hx1]; rfl
 have hob3 : W2.heap[ob]? = some (opO ⟨9, sa, sl, sc, 0, 0, 0, 0, false, false⟩) := by rw [hW2, Below.heap_setCell _ _ _ _ (by show ob ≠ xb; exact Ne.symm hxO)]; exact hob2
 have hF3 : FX E w W2 := by rw [hW2]; exact hF2.other hxw hxB 0 _
 have HP := hide (put_any (h3.drew) (0) hl)
 have HFd := hide hF3.drew
 obtain ⟨b0, b1, b2, b3, b4, b5, b6, b7⟩ := op_cells hob
 simp only [Nat.zero_add] at b0 b1 b2 b3 b4 b5 b6 b7
 obtain ⟨c0, c1, c2, c3, c5, c8, c9, c10, c11, c12, c13⟩ := h1.rd
 obtain ⟨z0, z1, z2⟩ := h1.cr
 have hl1 := lt_of_block h1.cnt
 have hl2 := lt_of_block hob
 have hl3 := h1.lt
 obtain ⟨y0, y1, y2, y3, y4, y5, y6, y7⟩ := op_cells hob2
 simp only [Nat.zero_add] at y0 y1 y2 y3 y4 y5 y6 y7
 obtain ⟨v0, v1, v2, v3, v4, v5, v6, v7⟩ := op_cells hob3
 simp only [Nat.zero_add] at v0 v1 v2 v3 v4 v5 v6 v7
 have x0 : W1.cell? ⟨xb, 0, none⟩ = some (.int .i64 s.num) := by simp [World.cell?, hx1]
 have fx : ∀ o, W1.frozen? ⟨xb, o, none⟩ = false := fun o => by simp [World.frozen?, hx1]
 have u0 : W2.cell? ⟨xb, 0, none⟩ = some (.int .i64 (0)) := by simp [World.cell?, hx2]
 have u1 : W2.cell? ⟨xb, 1, none⟩ = some (.int .i64 0) := by simp [World.cell?, hx2]
 have u2 : W2.cell? ⟨xb, 2, none⟩ = some (.int .i64 0) := by simp [World.cell?, hx2]
 have HX2 := hide hx2
 have HO3 := hide hob3
 have HF3 := hide hF3
 have HW1 := hide hW1
 have HW2 := hide hW2
 simp only [opO] at hW
 clear h h1 h2 h3 hbW hF1 hF2 hF3 dM dh dF hW1 hW2 hba hx1 hx2 hob hob2 hob3
 go_enter Tryz.func92, Tryz.ntmps92
 go_upto_region 1 with fail
 rw [← hW, ← hobe]
 clear hW hobe
 go_region
 rw [← HW1.out, ← hxb]
 clear hxb b0 b1 b2 b3 b4 b5 b6 b7 c0 c1 c2 c3 c5 c8 c9 c10 c11 c12 c13 z0 z1 z2 hl1 hl2 hl3
 go_upto_region 10 with fail
 rw [← HW2.out]
 clear y0 y1 y2 y3 y4 y5 y6 y7 x0 fx
 go_still_tail 6, (by kernel_rfl)
 go_wp2_with fail
 refine HP.out.mono ?_
 rintro e w9 ⟨rfl, ⟨cv', hm9⟩, hf9⟩
 have HM9 := hide hm9
 have HF9 := hide (HFd.out.trans hf9)
 clear hm9 hf9 HP v0 v1 v2 v3 v4 v5 v6 v7 u0 u1 u2
 go_wp2
 go_end0
 exact ⟨rfl, ⟨_, HM9.out⟩, HF9.out⟩
theorem more_any (h : MX w E s cv bv) (sa : Option Addr) (sl sc : Nat) (hl : s.ch.length ≤ 1000) (ot : Int) (hn : 0 ≤ s.num ∧ s.num < 1000) : Calls Tryz.prog 92 #[.pointer (some ⟨E.M, 0, none⟩), opV ⟨10, sa, sl, sc, 0, ot, 0, 0, false, false⟩] w fun e w' => e = .returned (.tuple #[]) ∧ (∃ cv', MX w' E { s with ch := s.ch ++ [s.num], num := s.num + 1 } cv' bv) ∧ FX E w w' := by
 obtain ⟨W, hW⟩ : ∃ W, W = w.alloc (opO ⟨10, sa, sl, sc, 0, ot, 0, 0, false, false⟩) := ⟨_, rfl⟩
 have hbW : Below w.heap.size w W := by rw [hW]; exact (Below.refl _ _).alloc (Nat.le_refl _) _
 have hob : W.heap[w.heap.size]? = some (opO ⟨10, sa, sl, sc, 0, ot, 0, 0, false, false⟩) := by rw [hW]; exact at_new _ _
 obtain ⟨ob, hobe⟩ : ∃ ob, ob = w.heap.size := ⟨_, rfl⟩
 rw [← hobe] at hob
 have hoM : ob ≠ E.M := by have := h.lt; omega
 have hoC : ob ≠ E.cb := by have := lt_of_block h.cnt; omega
 have h1 := h.keep hbW
 have hF1 := FX.of hbW h.ltB
 have dM : ∀ (X : World) (t : XS) (a c : Value), MX X E t a c → MX X.drew E t a c := fun X t a c h => h.drew
 have dh : ∀ X : World, X.drew.heap = X.heap := fun _ => rfl
 have dF : ∀ (Y X : World), FX E Y X → FX E Y X.drew := fun Y X h => h.drew
 obtain ⟨W1, hW1⟩ : ∃ W1, W1 = (W.alloc (cnO s.num)).drew := ⟨_, rfl⟩
 have hba : Below W.heap.size W (W.alloc (cnO s.num)) := (Below.refl _ _).alloc (Nat.le_refl _) _
 have hx1 : W1.heap[W.heap.size]? = some (cnO s.num) := by rw [hW1, dh]; exact at_new _ _
 obtain ⟨xb, hxb⟩ : ∃ xb, xb = W.heap.size := ⟨_, rfl⟩
 rw [← hxb] at hx1
 have hxC : xb ≠ E.cb := by have := lt_of_block h1.cnt; omega
 have hxM : xb ≠ E.M := by have := h1.lt; omega
 have hxO : xb ≠ ob := by have := lt_of_block hob; omega
 have hxw : w.heap.size ≤ xb := by have := hbW.size; omega
 have hxB : E.B ≤ xb := by have := h.ltB; omega
 have h2 : MX W1 E s cv bv := by rw [hW1]; exact dM _ _ _ _ (h1.keep hba)
 have hob2 : W1.heap[ob]? = some (opO ⟨10, sa, sl, sc, 0, ot, 0, 0, false, false⟩) := by rw [hW1, dh]; exact below_at hba hob
 have hF2 : FX E w W1 := by rw [hW1]; exact dF _ _ (hF1.trans (FX.of hba h1.ltB))
 obtain ⟨W2, hW2⟩ : ∃ W2, W2 = W1.setCell ⟨xb, 0, none⟩ (.int .i64 (s.num + 1)) := ⟨_, rfl⟩
 have h3 : MX W2 E s cv bv := by rw [hW2]; exact h2.other hx1 hxC 0 _
 have hx2 : W2.heap[xb]? = some (cnO (s.num + 1)) := by rw [hW2, set_oneQ hx1]; rfl
 have hob3 : W2.heap[ob]? = some (opO ⟨10, sa, sl, sc, 0, ot, 0, 0, false, false⟩) := by rw [hW2, Below.heap_setCell _ _ _ _ (by show ob ≠ xb; exact Ne.symm hxO)]; exact hob2
 have hF3 : FX E w W2 := by rw [hW2]; exact hF2.other hxw hxB 0 _
 have HJ := hide (jumpIf_any h3 false ot)
 obtain ⟨b0, b1, b2, b3, b4, b5, b6, b7⟩ := op_cells hob
 simp only [Nat.zero_add] at b0 b1 b2 b3 b4 b5 b6 b7
 obtain ⟨c0, c1, c2, c3, c5, c8, c9, c10, c11, c12, c13⟩ := h1.rd
 obtain ⟨z0, z1, z2⟩ := h1.cr
 have hl1 := lt_of_block h1.cnt
 have hl2 := lt_of_block hob
 have hl3 := h1.lt
 obtain ⟨y0, y1, y2, y3, y4, y5, y6, y7⟩ := op_cells hob2
 simp only [Nat.zero_add] at y0 y1 y2 y3 y4 y5 y6 y7
 obtain ⟨v0, v1, v2, v3, v4, v5, v6, v7⟩ := op_cells hob3
 simp only [Nat.zero_add] at v0 v1 v2 v3 v4 v5 v6 v7
 have x0 : W1.cell? ⟨xb, 0, none⟩ = some (.int .i64 s.num) := by simp [World.cell?, hx1]
 have fx : ∀ o, W1.frozen? ⟨xb, o, none⟩ = false := fun o => by simp [World.frozen?, hx1]
 have u0 : W2.cell? ⟨xb, 0, none⟩ = some (.int .i64 (s.num + 1)) := by simp [World.cell?, hx2]
 have u1 : W2.cell? ⟨xb, 1, none⟩ = some (.int .i64 0) := by simp [World.cell?, hx2]
 have u2 : W2.cell? ⟨xb, 2, none⟩ = some (.int .i64 0) := by simp [World.cell?, hx2]
 have HX2 := hide hx2
 have HO3 := hide hob3
 have HF3 := hide hF3
 have HW1 := hide hW1
 have HW2 := hide hW2
 simp only [opO] at hW
 clear h h1 h2 h3 hbW hF1 hF2 hF3 dM dh dF hW1 hW2 hba hx1 hx2 hob hob2 hob3
 have ew : IntKind.i64.wrap (s.num + 1) = s.num + 1 := by rw [IntKind.wrap_i64]; omega
 have emin : min (s.num + 1) (1000 : Int) = s.num + 1 := by omega
 have e3 : ¬ s.num + 1 < (0 : Int) := by omega
 have e4 : s.num + 1 ≤ (1000 : Int) := by omega
 go_enter Tryz.func92, Tryz.ntmps92
 go_upto_region 1 with fail
 rw [← hW, ← hobe]
 clear hW hobe
 go_region
 rw [← HW1.out, ← hxb]
 clear hxb b0 b1 b2 b3 b4 b5 b6 b7 c0 c1 c2 c3 c5 c8 c9 c10 c11 c12 c13 z0 z1 z2 hl1 hl2 hl3
 go_upto_region 9 with fail
 rw [← HW2.out]
 clear y0 y1 y2 y3 y4 y5 y6 y7 x0 fx
 go_wp2_with fail
 refine HJ.out.mono ?_
 rintro e w8 ⟨rfl, hm8, hf8⟩
 have hm8 : MX w8 E s cv bv := hm8
 have hx8 := hf8.oth _ _ _ _ HX2.out hxM hxC (by decide) (by decide)
 have ho8 := hf8.oth _ _ _ _ HO3.out hoM hoC (by decide) (by decide)
 have HP := hide (put_any hm8.drew (s.num + 1) hl)
 have HFd := hide ((HF3.out.trans hf8).drew)
 obtain ⟨a0, a1, a2, a3, a4, a5, a6, a7⟩ := op_cells ho8
 simp only [Nat.zero_add] at a0 a1 a2 a3 a4 a5 a6 a7
 have k0 : w8.cell? ⟨xb, 0, none⟩ = some (.int .i64 (s.num + 1)) := by simp [World.cell?, hx8]
 have k1 : w8.cell? ⟨xb, 1, none⟩ = some (.int .i64 0) := by simp [World.cell?, hx8]
 have k2 : w8.cell? ⟨xb, 2, none⟩ = some (.int .i64 0) := by simp [World.cell?, hx8]
 clear hm8 hf8 hx8 ho8 HJ v0 v1 v2 v3 v4 v5 v6 v7 u0 u1 u2
 go_upto_region 10 with fail
 go_still_tail 6, (by kernel_rfl)
 go_wp2_with fail
 refine HP.out.mono ?_
 rintro e w9 ⟨rfl, ⟨cv', hm9⟩, hf9⟩
 have HM9 := hide hm9
 have HF9 := hide (HFd.out.trans hf9)
 clear hm9 hf9 HP a0 a1 a2 a3 a4 a5 a6 a7 k0 k1 k2
 go_wp2
 go_end0
 exact ⟨rfl, ⟨_, HM9.out⟩, HF9.out⟩
end Go.Proofs.YtfnndcbjklppeaaGreatDoor.Vm
