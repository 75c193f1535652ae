import Derived.Shelf.SlSorted.Search
import Derived.Test.YtaccofiegkdlgaaGreatDoorProg
import Derived.Test.YtaccofiegkdlgaaGreatDoorKC
import Derived.Test.YtaccofiegkdlgaaGreatDoorKO
namespace Go.Proofs
open Go.Shelf
def Tryz.search_ren : Go.Shelf.Ren := ⟨fun | 16 => 129 | n => n, fun | 3 => 3 | 4 => 4 | 35 => 49 | 38 => 142 | n => n, fun | n => n⟩
theorem Tryz.search : Go.Proofs.SlLaysO.n16 Tryz.prog Tryz.search_ren := {
 mixed := by kernel_rfl
 f16 := Tryz.func129.trans (congrArg some (by kernel_rfl))
 t3 := Tryz.underlying3
 a3 := Tryz.isAgg3
 z3 := Tryz.sizeOf3
 v3 := Tryz.zeroValue3
 t4 := Tryz.underlying4
 a4 := Tryz.isAgg4
 z4 := Tryz.sizeOf4
 v4 := Tryz.zeroValue4
 t35 := Tryz.underlying49
 a35 := Tryz.isAgg49
 z35 := Tryz.sizeOf49
 v35 := Tryz.zeroValue49
 t38 := Tryz.underlying142
 a38 := Tryz.isAgg142
 z38 := Tryz.sizeOf142
 v38 := Tryz.zeroValue142 }
end Go.Proofs
namespace Go.Proofs.YtaccofiegkdlgaaGreatDoor
set_option maxHeartbeats 2000000
open Go.RowKit Go.Sort Go.Lib Go.Shelf
set_option linter.unusedVariables false
theorem stretch1_any (x b1 b2 : Addr) (c : Nat) (L : RL) (p : Int) (i : Nat) (W : World) (hi : i < L.length) (hl : L.length ≤ 2000) (h1 : W.cell? b1 = some (.slice (some x) L.length c)) (h2 : W.cell? b2 = some (.int .i64 p)) (hc : Cells2 W x L) :
  Calls Tryz.prog 130 #[.int .i64 i, .pointer (some b1), .pointer (some b2)] W fun e w' => e = .returned (.bool (decide (p ≤ L[i].2))) ∧ ∃ q, w' = W.drewN q := by
 obtain ⟨c1, c2⟩ := hc i hi
 obtain ⟨b, hb⟩ : ∃ b, b = L[i].2 := ⟨_, rfl⟩
 rw [← hb] at c2 ⊢
 obtain ⟨n, hn⟩ : ∃ n, n = L.length := ⟨_, rfl⟩
 rw [← hn] at hi hl h1
 have e1 : (i : Int) < (n : Int) := by omega
 have e0 : (0 : Int) ≤ (i : Int) := by omega
 clear hc hb hn c1
 go_enter Tryz.func130, Tryz.ntmps130
 go_wp2
 go_quiet (fail)
 go_wp2
 go_ret
 exact ⟨rfl, _, rfl⟩
theorem enters130 (args : Array Value) (w : World) : (callFunc 130 args).run Tryz.prog w = .ok (.enter 130 args) w := enters_of Tryz.func130 (by kernel_rfl) rfl args w
theorem count_range (L : RL) (p : Int) : (List.range L.length).countP (fun i => !decide (p ≤ (L.getD i (0, 0)).2)) = L.countP (fun r => decide (r.2 < p)) := by
 have h : L = (List.range L.length).map (fun i => L.getD i (0, 0)) := by
  apply List.ext_getElem
  ·simp
  ·intro i h1 h2
   simp [List.getD, h1]
 conv => rhs; rw [h, List.countP_map]
 apply List.countP_congr
 intro i _
 simp [Function.comp]
theorem reads_one {w : World} (v : Value) (t : Nat) : (w.alloc (.cells #[v] t)).cell? ⟨w.heap.size, 0, none⟩ = some v := World.cell?_alloc_at _ _ _ _ rfl
theorem below_grow (w : World) (q : Nat) (os : Array Obj) : Below w.heap.size w (grow (w.drewN q) os) := below_grown_sl _ w q os (Nat.le_refl _)
theorem below_two (w : World) (o o' : Obj) : Below w.heap.size w ((w.alloc o).alloc o') := ((Below.refl _ w).alloc (Nat.le_refl _) o).alloc (by simp) o'
theorem below_both (w w2 : World) (o o' : Obj) (h : Below ((w.alloc o).alloc o').heap.size ((w.alloc o).alloc o') w2) : Below w.heap.size w w2 := (below_two w o o').trans (h.mono (by simp; omega))
theorem stretch_any (v : Value) (L : RL) (p : Int) (w : World) (hv : Reads w v L) (hC : Canon L) (hl : L.length ≤ 2000) :
  Calls Tryz.prog 118 #[v, .int .i64 p] w fun e w' => e = .returned (.tuple #[.bool (stretchL L p).1, .int .i64 (stretchL L p).2]) ∧ Below w.heap.size w w' := by
 obtain ⟨k, hk⟩ : ∃ k, k = L.countP (fun r => decide (r.2 < p)) := ⟨_, rfl⟩
 obtain ⟨s1, s2⟩ := stretch_at L p k hk hC
 have hkl : k ≤ L.length := by rw [hk]; exact List.countP_le_length
 rcases hv with ⟨rfl, rfl⟩ | ⟨x, c, rfl, hc⟩
 ·have S := hide (Any.sort_Search Tryz.search 130 #[.pointer (some ⟨w.heap.size, 0, none⟩), .pointer (some ⟨w.heap.size + 1, 0, none⟩)] 0 (fun _ => false) ((w.alloc (.cells #[.slice none 0 0] 25)).alloc (.cells #[.int .i64 p] 3)) enters130 (by decide) (fun m os i hi => by omega) (fun a b _ h => by omega))
  change Hid (Calls Tryz.prog 129 _ _ _) at S
  clear s1 s2 hk hkl hC
  go_enter Tryz.func118, Tryz.ntmps118
  go_wp2_with fail
  refine S.out.mono ?_
  rintro e w2 ⟨rfl, q, os, hw2⟩
  have hb := below_grow ((w.alloc (.cells #[.slice none 0 0] 25)).alloc (.cells #[.int .i64 p] 3)) q os
  rw [← hw2] at hb
  have d1 : w2.cell? ⟨w.heap.size, 0, none⟩ = some (.slice none 0 0) := below_cell hb (by simp; omega) (cell_alloc_sl _ (reads_one _ _))
  clear hw2 S
  go_wp2
  go_ret2
  exact ⟨rfl, below_both _ _ _ _ hb⟩
 ·obtain ⟨n, hn⟩ : ∃ n, n = L.length := ⟨_, rfl⟩
  have S := hide (Any.sort_Search Tryz.search 130 #[.pointer (some ⟨w.heap.size, 0, none⟩), .pointer (some ⟨w.heap.size + 1, 0, none⟩)] L.length (fun i => decide (p ≤ (L.getD i (0, 0)).2)) ((w.alloc (.cells #[.slice (some x) L.length c] 25)).alloc (.cells #[.int .i64 p] 3)) enters130 (by omega) (fun m os i hi => by
   have hb := below_grow ((w.alloc (.cells #[.slice (some x) L.length c] 25)).alloc (.cells #[.int .i64 p] 3)) m os
   have h := stretch1_any x ⟨w.heap.size, 0, none⟩ ⟨w.heap.size + 1, 0, none⟩ c L p i (grow (((w.alloc (.cells #[.slice (some x) L.length c] 25)).alloc (.cells #[.int .i64 p] 3)).drewN m) os) hi hl (below_cell hb (by simp; omega) (cell_alloc_sl _ (reads_one _ _))) (below_cell hb (by simp) (by have := reads_one (w := w.alloc (.cells #[.slice (some x) L.length c] 25)) (.int .i64 p) 3; simp)) ((hc.below (below_two w _ _)).below hb)
   refine h.mono ?_
   rintro e w' ⟨rfl, q, rfl⟩
   refine ⟨by simp [List.getD, hi], q, #[], by rw [grow_empty]⟩) (fun a b hab hbn h => by
   simp only [decide_eq_true_eq] at h ⊢
   by_cases hab' : a = b
   ·subst hab'; exact h
   ·have hp := hC.2
    rw [List.pairwise_iff_getElem] at hp
    have h1 := hp a b (by omega) hbn (by omega)
    have h2 := hC.1 L[b] (List.getElem_mem _)
    unfold okR at h2
    simp only [List.getD, List.getElem?_eq_getElem hbn, List.getElem?_eq_getElem (show a < L.length by omega), Option.getD_some] at h ⊢
    omega))
  change Hid (Calls Tryz.prog 129 _ _ _) at S
  rw [count_range, ← hk, ← hn] at S
  rw [← hn] at hkl hl s1 ⊢
  have HC := hide hc
  have HN := hide hn
  by_cases hkn : k = n
  ·have E := hide (s1 hkn)
   rw [E.out]
   clear s1 s2 hk hc hn hC
   subst hkn
   go_enter Tryz.func118, Tryz.ntmps118
   go_wp2_with fail
   refine S.out.mono ?_
   rintro e w2 ⟨rfl, q, os, hw2⟩
   have hb := below_grow ((w.alloc (.cells #[.slice (some x) k c] 25)).alloc (.cells #[.int .i64 p] 3)) q os
   rw [← hw2] at hb
   have d1 : w2.cell? ⟨w.heap.size, 0, none⟩ = some (.slice (some x) k c) := below_cell hb (by simp; omega) (cell_alloc_sl _ (reads_one _ _))
   clear hw2 S
   go_wp2
   go_ret2
   exact ⟨rfl, below_both _ _ _ _ hb⟩
  ·have hkL : k < L.length := by omega
   have E := hide (s2 hkL)
   have hr := hC.1 L[k] (List.getElem_mem _)
   unfold okR at hr
   obtain ⟨r, hr'⟩ : ∃ r, r = L[k] := ⟨_, rfl⟩
   rw [← hr'] at hr E
   have HR := hide hr'
   obtain ⟨a, b⟩ := r
   simp only at hr E
   obtain ⟨r0, r1, r2⟩ := hr
   have e1 : (k : Int) < (n : Int) := by omega
   have e0 : (0 : Int) ≤ (k : Int) := by omega
   have e3 : ((k : Int) == (n : Int)) = false := by simp; omega
   have wa : IntKind.i64.wrap (a - 1) = a - 1 := by rw [IntKind.wrap_i64]; omega
   clear s1 s2 hk hn hC hc hr'
   have finish : ∀ (w2 : World), Below ((w.alloc (.cells #[.slice (some x) n c] 25)).alloc (.cells #[.int .i64 p] 3)).heap.size ((w.alloc (.cells #[.slice (some x) n c] 25)).alloc (.cells #[.int .i64 p] 3)) w2 → w2.cell? ⟨w.heap.size, 0, none⟩ = some (.slice (some x) n c) ∧ w2.cell? ⟨w.heap.size + 1, 0, none⟩ = some (.int .i64 p) ∧ w2.cell? (x.add (k * 2)) = some (.int .i64 a) ∧ w2.cell? ⟨(x.add (k * 2)).block, (x.add (k * 2)).off + 1, none⟩ = some (.int .i64 b) := by
    intro w2 hb
    obtain ⟨c1, c2⟩ := ((HC.out.below (below_two w _ _)).below hb) k hkL
    rw [← HR.out] at c1 c2
    exact ⟨below_cell hb (by simp; omega) (cell_alloc_sl _ (reads_one _ _)), below_cell hb (by simp) (by have := reads_one (w := w.alloc (.cells #[.slice (some x) n c] 25)) (.int .i64 p) 3; simp), c1, c2⟩
   have FI := hide finish
   clear finish
   by_cases hpa : p < a
   ·rw [if_pos hpa] at E
    rw [E.out]
    go_enter Tryz.func118, Tryz.ntmps118
    go_wp2_with fail
    refine S.out.mono ?_
    rintro e w2 ⟨rfl, q, os, hw2⟩
    have hb := below_grow ((w.alloc (.cells #[.slice (some x) n c] 25)).alloc (.cells #[.int .i64 p] 3)) q os
    rw [← hw2] at hb
    obtain ⟨d1, d2, d3, d4⟩ := FI.out w2 hb
    clear hw2 S
    go_wp2
    go_quiet (fail)
    go_wp2
    go_quiet (fail)
    go_wp2
    go_ret2
    exact ⟨rfl, below_drewN (below_drewN (below_both _ _ _ _ hb) _) _⟩
   ·rw [if_neg hpa] at E
    rw [E.out]
    have hd : decide (p < a) = false := by simpa using hpa
    go_enter Tryz.func118, Tryz.ntmps118
    go_wp2_with fail
    refine S.out.mono ?_
    rintro e w2 ⟨rfl, q, os, hw2⟩
    have hb := below_grow ((w.alloc (.cells #[.slice (some x) n c] 25)).alloc (.cells #[.int .i64 p] 3)) q os
    rw [← hw2] at hb
    obtain ⟨d1, d2, d3, d4⟩ := FI.out w2 hb
    clear hw2 S
    go_wp2
    go_quiet (fail)
    go_wp2
    go_quiet (fail)
    go_wp2
    go_ret2
    exact ⟨rfl, below_drewN (below_drewN (below_both _ _ _ _ hb) _) _⟩
end Go.Proofs.YtaccofiegkdlgaaGreatDoor
namespace Go.Proofs.YtaccofiegkdlgaaGreatDoor
set_option maxHeartbeats 4000000
open Go.RowKit
set_option linter.unusedVariables false
def Says (g : Nat) (kf : Bool → Bool → Bool) : Prop := ∀ a b w, Calls Tryz.prog g #[.bool a, .bool b] w fun e w' => e = .returned (.bool (kf a b)) ∧ w = w'
theorem upto_rng {f : Int → Bool} {O : RL} {p : Int} (h : Upto f O p) (h0 : 0 ≤ p) (h1 : p ≤ 1114112) : (∀ x ∈ O, 0 ≤ x.2 ∧ x.2 ≤ 1114111) ∧ O.length ≤ 1114112 := by
 refine ⟨fun x hx => ?_, ?_⟩
 ·have := h.1.1 x hx
  unfold okR at this
  omega
 ·have := canon_len h.1 p h0 h.2.1
  omega
theorem kept_any (g : Nat) (kf : Bool → Bool → Bool) (hk : Says g kf) (eg : ∀ args w, (callFunc g args).run Tryz.prog w = .ok (.enter g args) w) (va vb : Value) (A B : RL) (w : World) (hA : Reads w va A) (hB : Reads w vb B) (cA : Canon A) (cB : Canon B) (lA : A.length ≤ 2000) (lB : B.length ≤ 2000) :
  Calls Tryz.prog 97 #[va, vb, .func (.func g) #[] #[]] w fun e w' => ∃ v' O, e = .returned v' ∧ w'.ownsRow w.heap.size 66 2 v' O.length (cells2 O) ∧ IsSet (fun q => kf (ins A q) (ins B q)) O ∧ Below w.heap.size w w' := by
 have HS := hide (fun p w' (hb : Below w.heap.size w w') => stretch_any va A p w' (hA.below hb) cA lA)
 have HT := hide (fun p w' (hb : Below w.heap.size w w') => stretch_any vb B p w' (hB.below hb) cB lB)
 have HK := hide hk
 have CA := hide cA
 have CB := hide cB
 clear hk hA hB cA cB lA lB
 go_enter Tryz.func97, Tryz.ntmps97
 go_wp2
 go_loopw [7, 8] (fun v i wr => ∃ (O : RL) (p : Int), i = .int .i64 p ∧ 0 ≤ p ∧ p ≤ 1114112 ∧ wr.ownsRow w.heap.size 66 2 v O.length (cells2 O) ∧ Upto (fun q => kf (ins A q) (ins B q)) O p ∧ Below w.heap.size w wr) (fun _ i _ => 1114112 - (intOf i).toNat)
 case atStart => exact ⟨[], 0, rfl, by omega, by omega, World.ownsRow_nil _ _ _ _, upto_zero _, Below.refl _ _⟩
 case round =>
  obtain ⟨O, p, rfl, p0, p1, ho, hu, hb⟩ := hrel
  have HO := hide ho
  have HU := hide hu
  have HB := hide hb
  obtain ⟨ao, c, rfl⟩ := own_shape ho
  clear ho
  by_cases hp : p ≤ 1114111
  ·obtain ⟨sa1, sa2, sa3⟩ := stretch_spec CA.out p0 hp
   obtain ⟨sb1, sb2, sb3⟩ := stretch_spec CB.out p0 hp
   have ia := stretch_ins CA.out p0 hp
   have ib := stretch_ins CB.out p0 hp
   have HS1 := hide (HS.out p wr hb)
   have HT1 := hide (fun w' hb' => HT.out p w' hb')
   obtain ⟨xa, la, hx⟩ : ∃ xa la, stretchL A p = (xa, la) := ⟨_, _, rfl⟩
   obtain ⟨xb, lb, hy⟩ : ∃ xb lb, stretchL B p = (xb, lb) := ⟨_, _, rfl⟩
   rw [hx] at HS1 sa1 sa2 sa3 ia
   rw [hy] at HT1 sb1 sb2 sb3 ib
   simp only at HS1 HT1 sa1 sa2 sa3 ia sb1 sb2 sb3 ib
   have l0 : p ≤ min la lb := by omega
   have l1 : min la lb ≤ 1114111 := by omega
   have hconst : Hid (∀ q, p ≤ q → q ≤ min la lb → kf (ins A q) (ins B q) = kf xa xb) := fun q h1 h2 => by rw [sa3 q h1 (by omega), sb3 q h1 (by omega)]
   have HK1 := hide (HK.out xa xb)
   obtain ⟨yes, hyes⟩ : ∃ y, y = kf xa xb := ⟨_, rfl⟩
   rw [← hyes] at HK1 hconst
   have wl : IntKind.i64.wrap (min la lb + 1) = min la lb + 1 := by rw [IntKind.wrap_i64]; omega
   clear sa3 sb3 ia ib hx hy hu hyes hb
   have key : ∀ w2, Below wr.heap.size wr w2 → w2.ownsRow w.heap.size 66 2 (.slice ao O.length c) O.length (cells2 O) := fun w2 h => own_below HO.out h
   have KEY := hide key
   have hsz : Hid (w.heap.size ≤ wr.heap.size) := HB.out.size
   obtain ⟨hrg, hln⟩ := upto_rng HU.out p0 p1
   have HAdd := hide (fun w2 (h : Below wr.heap.size wr w2) => add_any w.heap.size (.slice ao O.length c) O p (min la lb) w2 (Nat.le_trans hsz.out h.size) hrg hln (KEY.out w2 h))
   clear key hrg hln
   cases yes with
   | true =>
    have hup := hide (upto_yes HU.out p0 l0 l1 hconst.out)
    go_wp2_with fail
    refine HS1.out.mono ?_
    rintro e w1 ⟨rfl, hb1⟩
    go_wp2_with fail
    refine (HT1.out w1 (HB.out.trans (hb1.mono hsz.out))).mono ?_
    rintro e w2 ⟨rfl, hb2⟩
    have hb3 := hide (hb1.trans (hb2.mono hb1.size))
    clear hb1 hb2
    go_wp2_with (go_at_fn g; refine (HK1.out _).mono ?_; rintro e w' ⟨rfl, rfl⟩)
    refine (HAdd.out w2 hb3.out).mono ?_
    rintro e w3 ⟨v', rfl, ho3, hb4⟩
    have HO3 := hide ho3
    obtain ⟨ao', c', hv'⟩ := own_shape ho3
    rw [hv'] at HO3 ⊢
    clear ho3 hv'
    go_wp2
    go_roundw
    case rel => exact ⟨_, _, rfl, by omega, by omega, HO3.out, hup.out, HB.out.trans ((hb3.out.mono hsz.out).trans hb4)⟩
    case measure => simp [intOf]; omega
   | false =>
    have hup := hide (upto_no HU.out l0 hconst.out)
    go_wp2_with fail
    refine HS1.out.mono ?_
    rintro e w1 ⟨rfl, hb1⟩
    go_wp2_with fail
    refine (HT1.out w1 (HB.out.trans (hb1.mono hsz.out))).mono ?_
    rintro e w2 ⟨rfl, hb2⟩
    have hb3 := hide (hb1.trans (hb2.mono hb1.size))
    clear hb1 hb2
    go_wp2_with (go_at_fn g; refine (HK1.out _).mono ?_; rintro e w' ⟨rfl, rfl⟩)
    go_roundw
    case rel => exact ⟨_, _, rfl, by omega, by omega, KEY.out _ hb3.out, hup.out, HB.out.trans (hb3.out.mono hsz.out)⟩
    case measure => simp [intOf]; omega
  ·have hE : Hid (IsSet (fun q => kf (ins A q) (ins B q)) O) := upto_all hu (by omega)
   clear hu hb
   go_wp2
   go_ret
   exact ⟨_, rfl, O, HO.out, hE.out, HB.out⟩
end Go.Proofs.YtaccofiegkdlgaaGreatDoor
