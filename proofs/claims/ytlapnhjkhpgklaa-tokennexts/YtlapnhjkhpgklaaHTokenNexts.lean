/-
  The law TokenNexts of the program holds: whatever dialect, pattern and place it is handed, the program's Next answers just what the reference's does, so it answers true, and leaves its arguments as they were. No condition.
-/
import Derived.Test.YtlapnhjkhpgklaaRows
import Derived.Test.YtlapnhjkhpgklaaTnext
import Derived.WalkKit
import Derived.ProofKit
import Derived.OpenShut
import Derived.ChangeOld
import Derived.Below
import Derived.Test.YtlapnhjkhpgklaaRb9
import Derived.Test.YtlapnhjkhpgklaaTnext3
import Derived.Test.YtlapnhjkhpgklaaTmv
import Derived.Test.YtlapnhjkhpgklaaTplain
import Derived.Test.YtlapnhjkhpgklaaRc13
import Derived.Test.YtlapnhjkhpgklaaRc14
import Derived.Test.YtlapnhjkhpgklaaRc15
import Derived.Test.YtlapnhjkhpgklaaRc3
import Derived.Test.YtlapnhjkhpgklaaRc5
import Derived.Test.YtlapnhjkhpgklaaRc7
import Derived.Test.YtlapnhjkhpgklaaRc8
import Derived.Test.YtlapnhjkhpgklaaRc12
import Derived.SizedLaws

/- What came in: numbers, and slices of them. -/
namespace Go.Proofs.Ytlapnhjkhpgklaa
open Go.ChangeShapes Go.WideShapes Go.ChangeAt Go.RowKit
set_option linter.unusedVariables false

theorem own : ownKnob Try.prog.godebug = none := by kernel_rfl
theorem laidOut : laidOutB Try.prog = true := by kernel_rfl
theorem i64_rng {a : Int} (h : (Lit.int .i64 a).wf = true) : -9223372036854775808 ≤ a ∧ a ≤ 9223372036854775807 := by
  simp [Lit.wf, IntKind.min, IntKind.max, IntKind.signed, IntKind.bits] at h
  omega
/-- what came in can be read. -/
theorem open_pat {H : Type} {enc : TypeId × Value → H} {w : World} {base : Nat} {sp : Nat → Bool} {held : Bool} {fuel : Nat} {a : Option Addr} {len cap : Nat} {x : DataW H × List MemPlace}
    (h : DataW.trod enc Try.prog w base sp held fuel 22 (Value.slice a len cap).cells.toList = some x) : ∃ L, PatV w (.slice a len cap) L := by
  rcases open_ints Try.underlying22 Try.underlying3 (by kernel_rfl) h with ⟨hcs, _⟩ | ⟨x, l, c, zs, hcs, _, hl, hm, hz, hx, hcell, hwz⟩
  · simp [Value.cells] at hcs
    obtain ⟨rfl, rfl, rfl⟩ := hcs
    exact ⟨[], .inl ⟨rfl, rfl⟩⟩
  · simp [Value.cells] at hcs
    obtain ⟨rfl, rfl, rfl⟩ := hcs
    have hzl : len ≤ zs.length := by rw [hz]; split <;> omega
    have hlen : (zs.take len).length = len := by rw [List.length_take]; omega
    refine ⟨zs.take len, .inr ⟨x, cap, by rw [hlen], by rw [hlen]; exact hl, fun j hj => ?_⟩⟩
    rw [hlen] at hj
    have := hcell j (by omega)
    rw [this]
    simp [List.getD]
    rw [List.getElem?_eq_getElem (by omega)]
    rfl

end Go.Proofs.Ytlapnhjkhpgklaa

/- TokenNexts' walk: the program's reader and the reference's answer alike. -/
namespace Go.Proofs.Ytlapnhjkhpgklaa
open Go.RowKit
set_option linter.unusedVariables false

theorem tset_other {W : World} {N b : Nat} {o : Obj} {t : Tok} (h : W.heap[b]? = some o) (hb : b ≠ N) : (tset W N t).heap[b]? = some o := by
  simp only [tset]
  rw [Below.heap_setCell _ _ _ _ (fun e => hb e), Below.heap_setCell _ _ _ _ (fun e => hb e), Below.heap_setCell _ _ _ _ (fun e => hb e), Below.heap_setCell _ _ _ _ (fun e => hb e), Below.heap_setCell _ _ _ _ (fun e => hb e), Below.heap_setCell _ _ _ _ (fun e => hb e), Below.heap_setCell _ _ _ _ (fun e => hb e), Below.heap_setCell _ _ _ _ (fun e => hb e)]
  exact h
theorem alloc2_at (w : World) (t t' : Tok) : ((w.alloc (tokO t)).alloc (tokO t')).heap[w.heap.size]? = some (tokO t) := at_old (at_new _ _)

set_option maxRecDepth 100000 in
set_option maxHeartbeats 8000000 in
theorem tokenNexts_bad (d a z : Int) (v : Value) (l : List Int) (w : World) (h : PatV w v l) (hN : nextR d l a = .error z) (hz0 : z ≠ 0) (hz : patE d l = z ∨ (patE d l = 0 ∧ z = 3 ∧ (a < 0 ∨ (l.length : Int) ≤ a))) : Calls Try.prog 3 #[.int .i64 d, v, .int .i64 a] w fun e w' => e = .returned (.bool true) ∧ Below w.heap.size w w' := by
  have HX := hide (next_any2 d a v l w h)
  have HR := hide (fun W (hb : Below w.heap.size w W) => right_any d v l W (h.below hb))
  have HBg := hide (fun W => begun_any W)
  obtain ⟨ao, c, hv⟩ := h.shape
  obtain ⟨n, hn⟩ : ∃ n, n = l.length := ⟨_, rfl⟩
  rw [← hn] at hv hz
  rw [hv] at HX HR ⊢
  have HNn := hide hN
  clear h hv hn hN
  go_enter Try.func3, Try.ntmps3
  go_wp2_with fail
  refine HX.out.mono ?_
  rintro e w1 (⟨t, k, hR, rfl, hkl, hb1⟩ | ⟨z', hR, rfl, hb1⟩)
  · rw [HNn.out] at hR; cases hR
  · have hzz : z' = z := by rw [HNn.out] at hR; injection hR with hR; exact hR.symm
    subst hzz
    have HB1 := hide hb1
    clear hR hb1 HX
    have HRt := hide (HR.out (w1.alloc (tokO {})) (HB1.out.alloc HB1.out.size _))
    simp only [tokO] at HRt
    clear HR
    have hzb : (z' == 0) = false := by simpa using hz0
    simp only [tokV]
    go_wp2_with fail
    refine HRt.out.mono ?_
    rintro e w2 ⟨rfl, hw2⟩
    obtain ⟨w3, hw3⟩ : ∃ w3, w3 = (w1.alloc (tokO {})).alloc (tokO {}) := ⟨_, rfl⟩
    have hT1 : w3.heap[w1.heap.size]? = some (tokO {}) := by rw [hw3]; exact at_old (at_new _ _)
    have hT2 : w3.heap[w1.heap.size + 1]? = some (tokO {}) := by rw [hw3]; exact at_new' _ _ (by simp)
    have hB3 : Below w.heap.size w w3 := by rw [hw3]; exact (HB1.out.alloc HB1.out.size _).alloc (by have := HB1.out.size; simp; omega) _
    have HB3 := hide hB3
    have HT1 := hide hT1
    have HT2 := hide hT2
    have HG := hide (HBg.out w3)
    simp only [tokO] at hw3
    clear hT1 hT2 hB3 HRt HBg
    rcases hz with hpe | ⟨hpe, rfl, hra⟩
    · have hpb : (patE d l == 0) = false := by rw [hpe]; exact hzb
      rw [hpe]
      clear hpb hpe
      subst hw2
      go_wp2_with fail
      rw [← hw3]
      clear hw3
      refine HG.out.mono ?_
      rintro e w4 ⟨rfl, hb4⟩
      have HB4 := hide (HB3.out.trans (hb4.mono HB3.out.size))
      obtain ⟨m0, m1, m2, m3, m4, m5, m6, m7⟩ := tok_cells (below_at hb4 HT1.out)
      obtain ⟨q0, q1, q2, q3, q4, q5, q6, q7⟩ := tok_cells (below_at hb4 HT2.out)
      clear hb4
      go_wp2
      go_ret
      exact ⟨rfl, HB4.out⟩
    · rw [hpe]
      clear hpe
      subst hw2
      by_cases ha : a < 0
      · clear hra
        go_wp2_with fail
        rw [← hw3]
        clear hw3
        refine HG.out.mono ?_
        rintro e w4 ⟨rfl, hb4⟩
        have HB4 := hide (HB3.out.trans (hb4.mono HB3.out.size))
        obtain ⟨m0, m1, m2, m3, m4, m5, m6, m7⟩ := tok_cells (below_at hb4 HT1.out)
        obtain ⟨q0, q1, q2, q3, q4, q5, q6, q7⟩ := tok_cells (below_at hb4 HT2.out)
        clear hb4
        go_wp2
        go_ret
        exact ⟨rfl, HB4.out⟩
      · have hra2 : (n : Int) ≤ a := by omega
        clear hra
        go_wp2_with fail
        rw [← hw3]
        clear hw3
        refine HG.out.mono ?_
        rintro e w4 ⟨rfl, hb4⟩
        have HB4 := hide (HB3.out.trans (hb4.mono HB3.out.size))
        obtain ⟨m0, m1, m2, m3, m4, m5, m6, m7⟩ := tok_cells (below_at hb4 HT1.out)
        obtain ⟨q0, q1, q2, q3, q4, q5, q6, q7⟩ := tok_cells (below_at hb4 HT2.out)
        clear hb4
        go_wp2
        go_ret
        exact ⟨rfl, HB4.out⟩

set_option maxRecDepth 100000 in
set_option maxHeartbeats 8000000 in
theorem tokenNexts_good (hesc : EscOk) (d : Int) (i : Nat) (v : Value) (l : List Int) (w : World) (h : PatV w v l) (hp : patE d l = 0) (hi : i < l.length) : Calls Try.prog 3 #[.int .i64 d, v, .int .i64 i] w fun e w' => e = .returned (.bool true) ∧ Below w.heap.size w w' := by
  obtain ⟨hd, hl, hpts⟩ := patE_ok hp
  have hN : nextR d l i = tokT d l i l[i] := by
    unfold nextR
    rw [if_neg (by rw [hp]; simp), if_neg (by omega)]
    unfold nextT
    rw [Int.toNat_natCast, List.getElem?_eq_getElem hi]
  have HX := hide (next_any2 d i v l w h)
  rw [hN] at HX
  have HR := hide (fun W (hb : Below w.heap.size w W) => right_any d v l W (h.below hb))
  rw [hp] at HR
  have HBg := hide (fun W => begun_any W)
  obtain ⟨x, c, hv, hcap, hrd⟩ := h.some (by omega)
  have HTk := hide (fun W (hb : Below w.heap.size w W) => tokenAt_any hesc d x c l i W (hrd.below hb) hi hl hcap hpts hd)
  obtain ⟨RR, hRR⟩ : ∃ RR, RR = tokT d l i l[i] := ⟨_, rfl⟩
  rw [← hRR] at HX HTk
  obtain ⟨n, hn⟩ : ∃ n, n = l.length := ⟨_, rfl⟩
  rw [← hn] at hv hi HTk
  rw [hv] at HX HR ⊢
  have e0 : ¬ ((i : Int) < 0) := by omega
  have e1 : ¬ ((n : Int) ≤ (i : Int)) := by omega
  clear h hv hn hN hRR hd hl hpts hcap hrd hp hesc
  go_enter Try.func3, Try.ntmps3
  go_wp2_with fail
  refine HX.out.mono ?_
  rintro e w1 (⟨t, k, hR, rfl, hkl, hb1⟩ | ⟨z, hR, rfl, hb1⟩)
  · have HB1 := hide hb1
    have HRt := hide (HR.out (w1.alloc (tokO t)) (HB1.out.alloc HB1.out.size _))
    simp only [tokO] at HRt
    clear HR hb1 HX hkl
    simp only [tokV]
    go_wp2_with fail
    refine HRt.out.mono ?_
    rintro e w2 ⟨rfl, hw2⟩
    obtain ⟨w3, hw3⟩ : ∃ w3, w3 = (w1.alloc (tokO t)).alloc (tokO {}) := ⟨_, rfl⟩
    have hT1 : w3.heap[w1.heap.size]? = some (tokO t) := by rw [hw3]; exact at_old (at_new _ _)
    have hT2 : w3.heap[w1.heap.size + 1]? = some (tokO {}) := by rw [hw3]; exact at_new' _ _ (by simp)
    have hB3 : Below w.heap.size w w3 := by rw [hw3]; exact (HB1.out.alloc HB1.out.size _).alloc (by have := HB1.out.size; simp; omega) _
    have HB3 := hide hB3
    have HT1 := hide hT1
    have HT2 := hide hT2
    simp only [tokO] at hw3
    clear hT1 hT2 hB3 HRt
    subst hw2
    go_wp2_with fail
    rw [← hw3]
    clear hw3
    refine (HTk.out w3 HB3.out).mono ?_
    rintro e w4 (⟨t', k', hR', rfl, hb4⟩ | ⟨z', hR', rfl, hb4⟩)
    · have he : (t, k) = (t', k') := by rw [hR] at hR'; injection hR'
      injection he with e2 e3
      subst e2 e3
      have HB4 := hide (HB3.out.trans (hb4.mono HB3.out.size))
      have HT4 := hide (below_at hb4 HT1.out)
      have HU4 := hide (below_at hb4 HT2.out)
      have hsz := HB1.out.size
      obtain ⟨q0, q1, q2, q3, q4, q5, q6, q7⟩ := tok_cells HU4.out
      have qf := tok_free HU4.out
      clear hb4 HT1 HT2 hR hR' HB3
      simp only [tokV]
      go_upto_region 8 with fail
      obtain ⟨w5, hw5⟩ : ∃ w5, w5 = tset w4 (w1.heap.size + 1) t := ⟨_, rfl⟩
      have hT5 : w5.heap[w1.heap.size]? = some (tokO t) := by rw [hw5]; exact tset_other HT4.out (by omega)
      have hU5 : w5.heap[w1.heap.size + 1]? = some (tokO t) := by rw [hw5]; exact tok_set HU4.out t
      have hB5 : Below w.heap.size w w5 := by rw [hw5]; exact tset_below HB4.out (by omega) _
      have HT5 := hide hT5
      have HU5 := hide hU5
      have HB5 := hide hB5
      simp only [tset] at hw5
      rw [← hw5]
      clear hw5 hT5 hU5 hB5 q0 q1 q2 q3 q4 q5 q6 q7 qf HT4 HU4 HB4
      go_wp2_with fail
      refine (HBg.out w5).mono ?_
      rintro e w6 ⟨rfl, hb6⟩
      have HB6 := hide (HB5.out.trans (hb6.mono HB5.out.size))
      obtain ⟨m0, m1, m2, m3, m4, m5, m6, m7⟩ := tok_cells (below_at hb6 HT5.out)
      obtain ⟨q0, q1, q2, q3, q4, q5, q6, q7⟩ := tok_cells (below_at hb6 HU5.out)
      clear hb6
      go_wp2
      go_ret
      exact ⟨rfl, HB6.out⟩
    · rw [hR] at hR'; cases hR'
  · have HB1 := hide hb1
    have HRt := hide (HR.out (w1.alloc (tokO {})) (HB1.out.alloc HB1.out.size _))
    simp only [tokO] at HRt
    clear HR hb1 HX
    simp only [tokV]
    go_wp2_with fail
    refine HRt.out.mono ?_
    rintro e w2 ⟨rfl, hw2⟩
    obtain ⟨w3, hw3⟩ : ∃ w3, w3 = (w1.alloc (tokO {})).alloc (tokO {}) := ⟨_, rfl⟩
    have hT1 : w3.heap[w1.heap.size]? = some (tokO {}) := by rw [hw3]; exact at_old (at_new _ _)
    have hT2 : w3.heap[w1.heap.size + 1]? = some (tokO {}) := by rw [hw3]; exact at_new' _ _ (by simp)
    have hB3 : Below w.heap.size w w3 := by rw [hw3]; exact (HB1.out.alloc HB1.out.size _).alloc (by have := HB1.out.size; simp; omega) _
    have HB3 := hide hB3
    have HT1 := hide hT1
    have HT2 := hide hT2
    simp only [tokO] at hw3
    clear hT1 hT2 hB3 HRt
    subst hw2
    go_wp2_with fail
    rw [← hw3]
    clear hw3
    refine (HTk.out w3 HB3.out).mono ?_
    rintro e w4 (⟨t', k', hR', rfl, hb4⟩ | ⟨z', hR', rfl, hb4⟩)
    · rw [hR] at hR'; cases hR'
    · have he : z = z' := by rw [hR] at hR'; injection hR'
      subst he
      have HB4 := hide (HB3.out.trans (hb4.mono HB3.out.size))
      have HT4 := hide (below_at hb4 HT1.out)
      have HU4 := hide (below_at hb4 HT2.out)
      have hsz := HB1.out.size
      obtain ⟨q0, q1, q2, q3, q4, q5, q6, q7⟩ := tok_cells HU4.out
      have qf := tok_free HU4.out
      clear hb4 HT1 HT2 hR hR' HB3
      simp only [tokV]
      go_upto_region 8 with fail
      obtain ⟨w5, hw5⟩ : ∃ w5, w5 = tset w4 (w1.heap.size + 1) {} := ⟨_, rfl⟩
      have hT5 : w5.heap[w1.heap.size]? = some (tokO {}) := by rw [hw5]; exact tset_other HT4.out (by omega)
      have hU5 : w5.heap[w1.heap.size + 1]? = some (tokO {}) := by rw [hw5]; exact tok_set HU4.out {}
      have hB5 : Below w.heap.size w w5 := by rw [hw5]; exact tset_below HB4.out (by omega) _
      have HT5 := hide hT5
      have HU5 := hide hU5
      have HB5 := hide hB5
      simp only [tset] at hw5
      rw [← hw5]
      clear hw5 hT5 hU5 hB5 q0 q1 q2 q3 q4 q5 q6 q7 qf HT4 HU4 HB4
      go_wp2_with fail
      refine (HBg.out w5).mono ?_
      rintro e w6 ⟨rfl, hb6⟩
      have HB6 := hide (HB5.out.trans (hb6.mono HB5.out.size))
      obtain ⟨m0, m1, m2, m3, m4, m5, m6, m7⟩ := tok_cells (below_at hb6 HT5.out)
      obtain ⟨q0, q1, q2, q3, q4, q5, q6, q7⟩ := tok_cells (below_at hb6 HU5.out)
      clear hb6
      go_wp2
      go_ret
      exact ⟨rfl, HB6.out⟩

theorem tokenNexts_walk (hesc : EscOk) (d a : Int) (v : Value) (l : List Int) (w : World) (h : PatV w v l) : Calls Try.prog 3 #[.int .i64 d, v, .int .i64 a] w fun e w' => e = .returned (.bool true) ∧ Below w.heap.size w w' := by
  by_cases hp : patE d l = 0
  · by_cases hr : a < 0 ∨ (l.length : Int) ≤ a
    · exact tokenNexts_bad d a 3 v l w h (by unfold nextR; rw [if_neg (by rw [hp]; simp), if_pos hr]) (by decide) (.inr ⟨hp, rfl, hr⟩)
    · obtain ⟨i, rfl⟩ : ∃ i : Nat, a = (i : Int) := ⟨a.toNat, by omega⟩
      exact tokenNexts_good hesc d i v l w h hp (by omega)
  · exact tokenNexts_bad d a (patE d l) v l w h (by unfold nextR; rw [if_pos hp]) hp (.inl rfl)

end Go.Proofs.Ytlapnhjkhpgklaa

/- The reference's Escaped: k, put together. -/
namespace Go.Proofs.Ytlapnhjkhpgklaa
open Go.RowKit
set_option linter.unusedVariables false

theorem esc_k (x : Addr) (c : Nat) (l : List Int) (i : Nat) (w : World) (h : ReadsI w x l) (hi : i < l.length) (hl : l.length ≤ 300) (hcap : l.length ≤ c) (hpts : ∀ p ∈ l, 0 ≤ p ∧ p ≤ 1114111) (hx : l[i] = 107) : Calls Try.prog 20 #[.int .i64 1, .slice (some x) l.length c, .int .i64 i] w fun e w' => NextE (escT 1 l i) w e w' := by
  by_cases hz : nameL l (i + 2) = []
  · cases hm : says l (i + 2) [45] with
    | true => exact esc_kA x c l i w h hi hl hcap hpts hx ⟨hz, hm⟩
    | false => exact esc_kB x c l i w h hi hl hcap hpts hx ⟨hz, hm⟩
  · exact esc_kN x c l i w h hi hl hcap hpts hx hz

end Go.Proofs.Ytlapnhjkhpgklaa

/- The reference's Escaped, whole; and with it the two walks. -/
namespace Go.Proofs.Ytlapnhjkhpgklaa
open Go.RowKit
set_option linter.unusedVariables false

theorem escOk : EscOk := fun d x c l i w h hi hl hcap hpts hd => by
  by_cases hlt : i < l.length
  · rcases hd with rfl | rfl | rfl
    · by_cases hx : l[i] = 120
      · cases hbr : says l (i + 1) [123] with
        | false => exact esc_x0 x c l i w h hlt hl hcap hpts hx hbr
        | true => exact esc_x1 x c l i w h hlt hl hcap hpts hx hbr
      · by_cases hu : l[i] = 117
        · exact esc_u x c l i w h hlt hl hcap hpts hu
        · by_cases hk : l[i] = 107
          · exact esc_k x c l i w h hlt hl hcap hpts hk
          · exact esc_one x c l i w h hlt hl hcap hpts hx hu hk
    · exact esc_two x c l i w h hlt hl hpts
    · exact esc_three x c l i w h hlt hl hcap hpts
  · exact esc_none d x c l i w h (by omega) hl

theorem tokenNexts_law (d : Int) (v : Value) (l : List Int) (a : Int) (w : World) (rd : -9223372036854775808 ≤ d ∧ d ≤ 9223372036854775807) (h : PatV w v l) (ra : -9223372036854775808 ≤ a ∧ a ≤ 9223372036854775807) : Calls Try.prog 3 #[.int .i64 d, v, .int .i64 a] w fun e w' => e = .returned (.bool true) ∧ Below w.heap.size w w' := tokenNexts_walk escOk d a v l w h

end Go.Proofs.Ytlapnhjkhpgklaa

namespace Go.Proofs.Ytlapnhjkhpgklaa.tokenNexts
open Go.ChangeShapes Go.WideShapes Go.ChangeAt Go.RowKit
set_option linter.unusedVariables false

set_option maxRecDepth 100000 in
/-- The row's step. -/
theorem lifted (os : Os) (started : os.Started) (H : Type) (enc : TypeId × Value → H) :
    ReturnsInHanded {} Try.checked os 3 .any (Rows.tokenNextsSpec.pre6 enc Try.prog Try.f3 Rows.tokenNextsRow.domain false) (Rows.tokenNextsSpec.post enc Try.prog Try.f3 false true false false) := by
  refine returnsInHanded_of_change_sized (C := Try.checked) own started (by kernel_rfl) Try.func3
    (ChangeSpec.witness6 (enc := enc) (C := Try.checked) false ⟨#[], #[.int .i64 0, .slice none 0 0, .int .i64 0], []⟩ 8 (by kernel_rfl) (by kernel_rfl) (by kernel_rfl) (by kernel_rfl)) ?_
  intro W base args ds gs before hval0 hW hcnd hsz0 _
  have hval : ∀ (j : Nat) t v, Try.f3.params[j]? = some t → args[j]? = some v → Value.okWide Try.prog W .any base t v := hval0
  have hW' := hW
  obtain ⟨p, q, hA0, hV, rfl, hfz, hnd⟩ := hW
  have hA : DataW.TrodAll enc Try.prog W 0 (fun _ => true) true Try.f3.params.toList args.toList ds p := hA0
  rw [Try.params3] at hA hval
  obtain ⟨v0, vs0, d0, ds0, p0, q0, hargs, rfl, rfl, h0, r0⟩ := trodAll_cons hA
  obtain ⟨v1, vs1, d1, ds1, p1, q1, rfl, rfl, rfl, h1, r1⟩ := trodAll_cons r0
  obtain ⟨v2, vs2, d2, ds2, p2, q2, rfl, rfl, rfl, h2, r2⟩ := trodAll_cons r1
  obtain ⟨rfl, rfl, rfl⟩ := trodAll_nil r2
  obtain rfl : args = #[v0, v1, v2] := by cases args; simp_all
  obtain ⟨rfl, rfl⟩ := trodVars_none hV
  obtain ⟨a0, rfl, rfl, rfl, w0⟩ := open_int Try.underlying3 (hval 0 3 v0 rfl rfl) h0
  have rg0 := i64_rng w0
  obtain ⟨a1, len1, cap1, rfl⟩ := okWide_slice Try.underlying22 (hval 1 22 v1 rfl rfl)
  have k1 := h1
  have lt1 : ∀ x ∈ p1, x.block < W.heap.size := by obtain ⟨m, hm⟩ := k1; exact DataW.trod_lt m _ _ _ hm
  obtain ⟨L1, hL1⟩ : ∃ L, PatV W (.slice a1 len1 cap1) L := by obtain ⟨fuel, hf⟩ := h1; exact open_pat hf
  obtain ⟨a2, rfl, rfl, rfl, w2⟩ := open_int Try.underlying3 (hval 2 3 v2 rfl rfl) h2
  have rg2 := i64_rng w2
  clear hA0 hval0
  refine (tokenNexts_law a0 _ L1 a2 W rg0 hL1 rg2).mono fun e W' ⟨he, bel⟩ => ?_
  subst he
  exact ⟨_, rfl, _, _, _, [], _, [], hW', trodAll_mk1 (shut_bool Try.underlying4 _), (trodAll_cons_mk (shut_int Try.underlying3 w0) (trodAll_cons_mk (Below.trod laidOut (by kernel_rfl) (of_decide_eq_true (by kernel_rfl)) k1 bel lt1) (trodAll_cons_mk (shut_int Try.underlying3 w2) trodAll_mk0))), rfl, bel.frame _, fun h => by cases h⟩

theorem over : Rows.tokenNextsRow.holds Try.pinned (OpenSpec.ofChange Rows.tokenNextsSpec) :=
  OpenClaim.holds_of_wide 3 Try.f3 rfl rfl rfl rfl rfl rfl rfl ⟨rfl, rfl, rfl, rfl, rfl⟩ rfl rfl rfl rfl rfl (by kernel_rfl) Try.func3 (by kernel_rfl)
    (of_decide_eq_true (by kernel_rfl)) (by unfold Func.isWrapper; first | (rw [if_pos (by decide +kernel)]; kernel_rfl) | (rw [if_neg (by decide +kernel)]; exact ⟨rfl, rfl⟩))
    (fun os started H enc _ => lifted os started H enc)

end Go.Proofs.Ytlapnhjkhpgklaa.tokenNexts
namespace Go.Proofs.Ytlapnhjkhpgklaa
/-- The statement. -/
theorem TokenNexts_holds : Rows.TokenNextsSaid := tokenNexts.over
#print axioms TokenNexts_holds
end Go.Proofs.Ytlapnhjkhpgklaa
