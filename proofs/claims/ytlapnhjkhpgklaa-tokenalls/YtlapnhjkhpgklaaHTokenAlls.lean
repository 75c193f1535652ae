/-
  The law TokenAlls of the program holds: whatever dialect and pattern it is handed, the program's All answers just what the reference's goes through, so it answers true, and leaves its arguments as they were. No condition.
-/
import Derived.Test.YtlapnhjkhpgklaaRows
import Derived.Test.YtlapnhjkhpgklaaTnext
import Derived.WalkKit
import Derived.ProofKit
import Derived.OpenShut
import Derived.ChangeOld
import Derived.Below
import Derived.Test.YtlapnhjkhpgklaaTall
import Derived.Test.YtlapnhjkhpgklaaTplain
import Derived.Test.YtlapnhjkhpgklaaRb9
import Derived.Test.YtlapnhjkhpgklaaTnext3
import Derived.Test.YtlapnhjkhpgklaaTmv
import Derived.Deep.QuietTactic
import Derived.BigQuiet
import Derived.Test.YtlapnhjkhpgklaaRc13
import Derived.Test.YtlapnhjkhpgklaaRc14
import Derived.Test.YtlapnhjkhpgklaaRc15
import Derived.Test.YtlapnhjkhpgklaaRc3
import Derived.Test.YtlapnhjkhpgklaaRc5
import Derived.Test.YtlapnhjkhpgklaaRc7
import Derived.Test.YtlapnhjkhpgklaaRc8
import Derived.Test.YtlapnhjkhpgklaaRc12
import Derived.SizedLaws

/- What came in: numbers, and slices of them. -/
namespace Go.Proofs.Ytlapnhjkhpgklaa
open Go.ChangeShapes Go.WideShapes Go.ChangeAt Go.RowKit
set_option linter.unusedVariables false

theorem own : ownKnob Try.prog.godebug = none := by kernel_rfl
theorem laidOut : laidOutB Try.prog = true := by kernel_rfl
theorem i64_rng {a : Int} (h : (Lit.int .i64 a).wf = true) : -9223372036854775808 ≤ a ∧ a ≤ 9223372036854775807 := by
  simp [Lit.wf, IntKind.min, IntKind.max, IntKind.signed, IntKind.bits] at h
  omega
/-- what came in can be read. -/
theorem open_pat {H : Type} {enc : TypeId × Value → H} {w : World} {base : Nat} {sp : Nat → Bool} {held : Bool} {fuel : Nat} {a : Option Addr} {len cap : Nat} {x : DataW H × List MemPlace}
    (h : DataW.trod enc Try.prog w base sp held fuel 22 (Value.slice a len cap).cells.toList = some x) : ∃ L, PatV w (.slice a len cap) L := by
  rcases open_ints Try.underlying22 Try.underlying3 (by kernel_rfl) h with ⟨hcs, _⟩ | ⟨x, l, c, zs, hcs, _, hl, hm, hz, hx, hcell, hwz⟩
  · simp [Value.cells] at hcs
    obtain ⟨rfl, rfl, rfl⟩ := hcs
    exact ⟨[], .inl ⟨rfl, rfl⟩⟩
  · simp [Value.cells] at hcs
    obtain ⟨rfl, rfl, rfl⟩ := hcs
    have hzl : len ≤ zs.length := by rw [hz]; split <;> omega
    have hlen : (zs.take len).length = len := by rw [List.length_take]; omega
    refine ⟨zs.take len, .inr ⟨x, cap, by rw [hlen], by rw [hlen]; exact hl, fun j hj => ?_⟩⟩
    rw [hlen] at hj
    have := hcell j (by omega)
    rw [this]
    simp [List.getD]
    rw [List.getElem?_eq_getElem (by omega)]
    rfl

end Go.Proofs.Ytlapnhjkhpgklaa

/- TokenGreedy's walk. -/
namespace Go.Proofs.Ytlapnhjkhpgklaa
open Go.RowKit
set_option linter.unusedVariables false

theorem cells8_get : ∀ (L : List Tok) (k : Nat) (h : k < L.length) (j : Nat), j < 8 → (cells8 L)[k * 8 + j]? = (encT L[k])[j]? := by
  intro L
  induction L with
  | nil => intro k h; simp at h
  | cons t L ih =>
    intro k h j hj
    have e : cells8 (t :: L) = encT t ++ cells8 L := by simp [cells8]
    rw [e]
    match k with
    | 0 => rw [List.getElem?_append_left (by simp [encT]; omega)]; simp
    | k + 1 =>
      rw [List.getElem?_append_right (by simp [encT]; omega)]
      have e2 : (k + 1) * 8 + j - (encT t).length = k * 8 + j := by simp [encT]; omega
      rw [e2]
      exact ih k (by simpa using h) j hj
theorem tok_at {B n c g : Nat} {w : World} {L : List Tok} (h : w.ownsRow B 24 8 (.slice (some ⟨g, 0, none⟩) n c) n (cells8 L)) (hn : n = L.length) (k : Nat) (hk : k < L.length) :
    w.cell? ⟨g, k * 8, none⟩ = some (.int .i64 L[k].kind) ∧ w.cell? ⟨g, k * 8 + 1, none⟩ = some (.int .i64 L[k].num) ∧ w.cell? ⟨g, k * 8 + 2, none⟩ = some (.string L[k].text) ∧ w.cell? ⟨g, k * 8 + 3, none⟩ = some (.bool L[k].neg) ∧ w.cell? ⟨g, k * 8 + 4, none⟩ = some (.int .i64 L[k].least) ∧ w.cell? ⟨g, k * 8 + 5, none⟩ = some (.int .i64 L[k].most) ∧ w.cell? ⟨g, k * 8 + 6, none⟩ = some (.int .i64 L[k].way) ∧ w.cell? ⟨g, k * 8 + 7, none⟩ = some (.int .i64 L[k].fold) := by
  have key : ∀ j, j < 8 → w.cell? ⟨g, k * 8 + j, none⟩ = (encT L[k])[j]? := fun j hj => by
    rw [h.cellAt (k * 8 + j) (by omega), cells8_get L k hk j hj]
  exact ⟨key 0 (by omega), key 1 (by omega), key 2 (by omega), key 3 (by omega), key 4 (by omega), key 5 (by omega), key 6 (by omega), key 7 (by omega)⟩
theorem own_some {B e : Nat} {w : World} {v : Value} {n k : Nat} {xs : List Value} (h : w.ownsRow B e k v n xs) (hn : 1 ≤ n) : ∃ g cap, v = .slice (some ⟨g, 0, none⟩) n cap := by
  rcases h.2 with ⟨_, h0⟩ | ⟨g, cap, cur, rfl, _⟩
  · omega
  · exact ⟨g, cap, rfl⟩

set_option maxRecDepth 100000 in
set_option maxHeartbeats 16000000 in
theorem tokenGreedy_walk (d : Int) (v : Value) (l : List Int) (w : World) (hrg : -9223372036854775808 ≤ d ∧ d ≤ 9223372036854775807) (h : PatV w v l) : Calls Try.prog 7 #[.int .i64 d, v] w fun e w' => e = .returned (.bool true) ∧ Below w.heap.size w w' := by
  have HB := hide (begun_any w)
  have HA := hide (fun w1 (hb : Below w.heap.size w w1) => all_any d v l w1 (h.below hb))
  obtain ⟨ao, c, hv⟩ := h.shape
  obtain ⟨n, hn⟩ : ∃ n, n = l.length := ⟨_, rfl⟩
  have HN := hide hn
  rw [← hn] at hv
  rw [hv] at HA ⊢
  clear h hv hn hrg
  go_enter Try.func7, Try.ntmps7
  go_wp2_with fail
  refine HB.out.mono ?_
  rintro e w1 ⟨rfl, hb1⟩
  go_wp2_with fail
  refine (HA.out w1 hb1).mono ?_
  rintro e w2 ⟨hb2, ⟨hz, rfl⟩ | ⟨hz, i, L, S, z, hrun, hil, hR, rfl⟩ | ⟨hz, L, S, v1, v2, hrun, rfl, ho1, ho2⟩⟩
  · have HB2 := hide (hb1.trans (hb2.mono hb1.size))
    clear hb1 hb2 HA HB hz
    go_wp2
    go_loop [8] (fun i => i = .int .i64 0) (fun _ => 0)
    case atStart => rfl
    case round =>
      obtain rfl := hrel
      go_wp2
      go_ret
      exact ⟨rfl, HB2.out.alloc HB2.out.size _⟩
  · have HB2 := hide (hb1.trans (hb2.mono hb1.size))
    clear hb1 hb2 HA HB hz hrun hil hR
    go_wp2
    go_loop [8] (fun i => i = .int .i64 0) (fun _ => 0)
    case atStart => rfl
    case round =>
      obtain rfl := hrel
      go_wp2
      go_ret
      exact ⟨rfl, HB2.out.alloc HB2.out.size _⟩
  · have HB2 := hide (hb1.trans (hb2.mono hb1.size))
    have hs1 := hb1.size
    have hll := hrun.len
    have hl3 := (patE_ok hz).2.1
    obtain ⟨a1, k1, rfl⟩ := own_shape ho1
    obtain ⟨a2, k2, rfl⟩ := own_shape ho2
    have HRun := hide hrun
    have HO := hide (ho1.alloc (fauO 0 0))
    have hf := at_new w2 (fauO 0 0)
    have HF := hide hf
    obtain ⟨q, hq⟩ : ∃ q, q = L.length := ⟨_, rfl⟩
    have HQ := hide hq
    rw [← hq] at HO hll ⊢
    have hq3 : q ≤ 300 := by omega
    clear hb1 hb2 HA HB hz ho1 ho2 hf hrun hq hll hl3
    by_cases hd : d = 1
    · subst hd
      go_wp2
      go_loop [8] (fun i => i = .int .i64 0) (fun _ => 0)
      case atStart => rfl
      case round =>
        obtain rfl := hrel
        go_wp2
        all_goals
          go_ret
          exact ⟨rfl, HB2.out.alloc HB2.out.size _⟩
    · have hdb : (d != 1) = true := by simpa using hd
      have HG : Hid (∀ t ∈ L, greedy t) := fun t ht => by
        obtain ⟨j, k, hjk⟩ := HRun.out.mem t ht
        exact greedy_next hd hjk
      clear hd
      go_wp2
      go_loopw [8] (fun i wr => ∃ k : Nat, k ≤ q ∧ i = .int .i64 k ∧ wr.ownsRow w1.heap.size 24 8 (.slice a1 q k1) q (cells8 L) ∧ wr.heap[w2.heap.size]? = some (fauO 0 0) ∧ Below w.heap.size w wr) (fun i _ => q - (intOf i).toNat)
      case atStart => exact ⟨0, Nat.zero_le _, rfl, by rw [HQ.out] at HO ⊢; exact HO.out, HF.out, HB2.out.alloc HB2.out.size _⟩
      case round =>
        obtain ⟨k, hk, rfl, ho, hf, hb⟩ := hrel
        obtain ⟨c0, c1, fz⟩ := fau_cells hf
        have HO1 := hide ho
        have HF1 := hide hf
        have HB1 := hide hb
        by_cases hlt : k < q
        · have hkl : k < L.length := by have := HQ.out; omega
          obtain ⟨g, cp, hv⟩ := own_some ho (by omega)
          obtain ⟨rfl⟩ : a1 = some ⟨g, 0, none⟩ := by cases hv; rfl
          obtain ⟨t0, t1, t2, t3, t4, t5, t6, t7⟩ := tok_at ho HQ.out k hkl
          have hgr := HG.out L[k] (List.getElem_mem _)
          have e1 : (k : Int) < (q : Int) := by omega
          have e0 : (0 : Int) ≤ (k : Int) := by omega
          obtain ⟨t, ht⟩ : ∃ t, t = L[k] := ⟨_, rfl⟩
          rw [← ht] at t0 t1 t2 t3 t4 t5 t6 t7 hgr
          obtain ⟨kd, nm, tx, ng, ls, ms, wy, fo⟩ := t
          simp only at t0 t1 t2 t3 t4 t5 t6 t7
          simp only [greedy] at hgr
          obtain ⟨g6, g0, g7, g11⟩ := hgr
          subst g0
          clear ho hf hb ht hv
          by_cases h6 : kd = 6
          · subst h6
            have := g6 rfl
            subst this
            clear g6 g7 g11
            go_wp2
            go_roundw
            case rel => exact ⟨k + 1, by omega, by go_num, HO1.out.alloc _, at_old HF1.out, HB1.out.alloc HB1.out.size _⟩
            case measure => simp [intOf]; omega
          · have b6 : (kd == 6) = false := by simpa using h6
            have b11 : (kd == 11) = false := by simpa using g11
            by_cases h7 : kd = 7
            · subst h7
              obtain ⟨rfl, rfl⟩ := g7 rfl
              clear g6 g7 g11 h6 b6 b11
              go_wp2
              go_roundw
              case rel => exact ⟨k + 1, by omega, by go_num, HO1.out.alloc _, at_old HF1.out, HB1.out.alloc HB1.out.size _⟩
              case measure => simp [intOf]; omega
            · have b7 : (kd == 7) = false := by simpa using h7
              clear g6 g7 g11 h6 h7
              go_wp2
              go_roundw
              case rel => exact ⟨k + 1, by omega, by go_num, HO1.out.alloc _, at_old HF1.out, HB1.out.alloc HB1.out.size _⟩
              case measure => simp [intOf]; omega
        · have e1 : ¬ (k : Int) < (q : Int) := by omega
          clear ho hf hb
          go_wp2
          go_ret
          exact ⟨rfl, HB1.out⟩

end Go.Proofs.Ytlapnhjkhpgklaa

/- TokenNexts' walk: the program's reader and the reference's answer alike. -/
namespace Go.Proofs.Ytlapnhjkhpgklaa
open Go.RowKit
set_option linter.unusedVariables false

theorem tset_other {W : World} {N b : Nat} {o : Obj} {t : Tok} (h : W.heap[b]? = some o) (hb : b ≠ N) : (tset W N t).heap[b]? = some o := by
  simp only [tset]
  rw [Below.heap_setCell _ _ _ _ (fun e => hb e), Below.heap_setCell _ _ _ _ (fun e => hb e), Below.heap_setCell _ _ _ _ (fun e => hb e), Below.heap_setCell _ _ _ _ (fun e => hb e), Below.heap_setCell _ _ _ _ (fun e => hb e), Below.heap_setCell _ _ _ _ (fun e => hb e), Below.heap_setCell _ _ _ _ (fun e => hb e), Below.heap_setCell _ _ _ _ (fun e => hb e)]
  exact h
theorem alloc2_at (w : World) (t t' : Tok) : ((w.alloc (tokO t)).alloc (tokO t')).heap[w.heap.size]? = some (tokO t) := at_old (at_new _ _)

set_option maxRecDepth 100000 in
set_option maxHeartbeats 8000000 in
theorem tokenNexts_bad (d a z : Int) (v : Value) (l : List Int) (w : World) (h : PatV w v l) (hN : nextR d l a = .error z) (hz0 : z ≠ 0) (hz : patE d l = z ∨ (patE d l = 0 ∧ z = 3 ∧ (a < 0 ∨ (l.length : Int) ≤ a))) : Calls Try.prog 3 #[.int .i64 d, v, .int .i64 a] w fun e w' => e = .returned (.bool true) ∧ Below w.heap.size w w' := by
  have HX := hide (next_any2 d a v l w h)
  have HR := hide (fun W (hb : Below w.heap.size w W) => right_any d v l W (h.below hb))
  have HBg := hide (fun W => begun_any W)
  obtain ⟨ao, c, hv⟩ := h.shape
  obtain ⟨n, hn⟩ : ∃ n, n = l.length := ⟨_, rfl⟩
  rw [← hn] at hv hz
  rw [hv] at HX HR ⊢
  have HNn := hide hN
  clear h hv hn hN
  go_enter Try.func3, Try.ntmps3
  go_wp2_with fail
  refine HX.out.mono ?_
  rintro e w1 (⟨t, k, hR, rfl, hkl, hb1⟩ | ⟨z', hR, rfl, hb1⟩)
  · rw [HNn.out] at hR; cases hR
  · have hzz : z' = z := by rw [HNn.out] at hR; injection hR with hR; exact hR.symm
    subst hzz
    have HB1 := hide hb1
    clear hR hb1 HX
    have HRt := hide (HR.out (w1.alloc (tokO {})) (HB1.out.alloc HB1.out.size _))
    simp only [tokO] at HRt
    clear HR
    have hzb : (z' == 0) = false := by simpa using hz0
    simp only [tokV]
    go_wp2_with fail
    refine HRt.out.mono ?_
    rintro e w2 ⟨rfl, hw2⟩
    obtain ⟨w3, hw3⟩ : ∃ w3, w3 = (w1.alloc (tokO {})).alloc (tokO {}) := ⟨_, rfl⟩
    have hT1 : w3.heap[w1.heap.size]? = some (tokO {}) := by rw [hw3]; exact at_old (at_new _ _)
    have hT2 : w3.heap[w1.heap.size + 1]? = some (tokO {}) := by rw [hw3]; exact at_new' _ _ (by simp)
    have hB3 : Below w.heap.size w w3 := by rw [hw3]; exact (HB1.out.alloc HB1.out.size _).alloc (by have := HB1.out.size; simp; omega) _
    have HB3 := hide hB3
    have HT1 := hide hT1
    have HT2 := hide hT2
    have HG := hide (HBg.out w3)
    simp only [tokO] at hw3
    clear hT1 hT2 hB3 HRt HBg
    rcases hz with hpe | ⟨hpe, rfl, hra⟩
    · have hpb : (patE d l == 0) = false := by rw [hpe]; exact hzb
      rw [hpe]
      clear hpb hpe
      subst hw2
      go_wp2_with fail
      rw [← hw3]
      clear hw3
      refine HG.out.mono ?_
      rintro e w4 ⟨rfl, hb4⟩
      have HB4 := hide (HB3.out.trans (hb4.mono HB3.out.size))
      obtain ⟨m0, m1, m2, m3, m4, m5, m6, m7⟩ := tok_cells (below_at hb4 HT1.out)
      obtain ⟨q0, q1, q2, q3, q4, q5, q6, q7⟩ := tok_cells (below_at hb4 HT2.out)
      clear hb4
      go_wp2
      go_ret
      exact ⟨rfl, HB4.out⟩
    · rw [hpe]
      clear hpe
      subst hw2
      by_cases ha : a < 0
      · clear hra
        go_wp2_with fail
        rw [← hw3]
        clear hw3
        refine HG.out.mono ?_
        rintro e w4 ⟨rfl, hb4⟩
        have HB4 := hide (HB3.out.trans (hb4.mono HB3.out.size))
        obtain ⟨m0, m1, m2, m3, m4, m5, m6, m7⟩ := tok_cells (below_at hb4 HT1.out)
        obtain ⟨q0, q1, q2, q3, q4, q5, q6, q7⟩ := tok_cells (below_at hb4 HT2.out)
        clear hb4
        go_wp2
        go_ret
        exact ⟨rfl, HB4.out⟩
      · have hra2 : (n : Int) ≤ a := by omega
        clear hra
        go_wp2_with fail
        rw [← hw3]
        clear hw3
        refine HG.out.mono ?_
        rintro e w4 ⟨rfl, hb4⟩
        have HB4 := hide (HB3.out.trans (hb4.mono HB3.out.size))
        obtain ⟨m0, m1, m2, m3, m4, m5, m6, m7⟩ := tok_cells (below_at hb4 HT1.out)
        obtain ⟨q0, q1, q2, q3, q4, q5, q6, q7⟩ := tok_cells (below_at hb4 HT2.out)
        clear hb4
        go_wp2
        go_ret
        exact ⟨rfl, HB4.out⟩

set_option maxRecDepth 100000 in
set_option maxHeartbeats 8000000 in
theorem tokenNexts_good (hesc : EscOk) (d : Int) (i : Nat) (v : Value) (l : List Int) (w : World) (h : PatV w v l) (hp : patE d l = 0) (hi : i < l.length) : Calls Try.prog 3 #[.int .i64 d, v, .int .i64 i] w fun e w' => e = .returned (.bool true) ∧ Below w.heap.size w w' := by
  obtain ⟨hd, hl, hpts⟩ := patE_ok hp
  have hN : nextR d l i = tokT d l i l[i] := by
    unfold nextR
    rw [if_neg (by rw [hp]; simp), if_neg (by omega)]
    unfold nextT
    rw [Int.toNat_natCast, List.getElem?_eq_getElem hi]
  have HX := hide (next_any2 d i v l w h)
  rw [hN] at HX
  have HR := hide (fun W (hb : Below w.heap.size w W) => right_any d v l W (h.below hb))
  rw [hp] at HR
  have HBg := hide (fun W => begun_any W)
  obtain ⟨x, c, hv, hcap, hrd⟩ := h.some (by omega)
  have HTk := hide (fun W (hb : Below w.heap.size w W) => tokenAt_any hesc d x c l i W (hrd.below hb) hi hl hcap hpts hd)
  obtain ⟨RR, hRR⟩ : ∃ RR, RR = tokT d l i l[i] := ⟨_, rfl⟩
  rw [← hRR] at HX HTk
  obtain ⟨n, hn⟩ : ∃ n, n = l.length := ⟨_, rfl⟩
  rw [← hn] at hv hi HTk
  rw [hv] at HX HR ⊢
  have e0 : ¬ ((i : Int) < 0) := by omega
  have e1 : ¬ ((n : Int) ≤ (i : Int)) := by omega
  clear h hv hn hN hRR hd hl hpts hcap hrd hp hesc
  go_enter Try.func3, Try.ntmps3
  go_wp2_with fail
  refine HX.out.mono ?_
  rintro e w1 (⟨t, k, hR, rfl, hkl, hb1⟩ | ⟨z, hR, rfl, hb1⟩)
  · have HB1 := hide hb1
    have HRt := hide (HR.out (w1.alloc (tokO t)) (HB1.out.alloc HB1.out.size _))
    simp only [tokO] at HRt
    clear HR hb1 HX hkl
    simp only [tokV]
    go_wp2_with fail
    refine HRt.out.mono ?_
    rintro e w2 ⟨rfl, hw2⟩
    obtain ⟨w3, hw3⟩ : ∃ w3, w3 = (w1.alloc (tokO t)).alloc (tokO {}) := ⟨_, rfl⟩
    have hT1 : w3.heap[w1.heap.size]? = some (tokO t) := by rw [hw3]; exact at_old (at_new _ _)
    have hT2 : w3.heap[w1.heap.size + 1]? = some (tokO {}) := by rw [hw3]; exact at_new' _ _ (by simp)
    have hB3 : Below w.heap.size w w3 := by rw [hw3]; exact (HB1.out.alloc HB1.out.size _).alloc (by have := HB1.out.size; simp; omega) _
    have HB3 := hide hB3
    have HT1 := hide hT1
    have HT2 := hide hT2
    simp only [tokO] at hw3
    clear hT1 hT2 hB3 HRt
    subst hw2
    go_wp2_with fail
    rw [← hw3]
    clear hw3
    refine (HTk.out w3 HB3.out).mono ?_
    rintro e w4 (⟨t', k', hR', rfl, hb4⟩ | ⟨z', hR', rfl, hb4⟩)
    · have he : (t, k) = (t', k') := by rw [hR] at hR'; injection hR'
      injection he with e2 e3
      subst e2 e3
      have HB4 := hide (HB3.out.trans (hb4.mono HB3.out.size))
      have HT4 := hide (below_at hb4 HT1.out)
      have HU4 := hide (below_at hb4 HT2.out)
      have hsz := HB1.out.size
      obtain ⟨q0, q1, q2, q3, q4, q5, q6, q7⟩ := tok_cells HU4.out
      have qf := tok_free HU4.out
      clear hb4 HT1 HT2 hR hR' HB3
      simp only [tokV]
      go_upto_region 8 with fail
      obtain ⟨w5, hw5⟩ : ∃ w5, w5 = tset w4 (w1.heap.size + 1) t := ⟨_, rfl⟩
      have hT5 : w5.heap[w1.heap.size]? = some (tokO t) := by rw [hw5]; exact tset_other HT4.out (by omega)
      have hU5 : w5.heap[w1.heap.size + 1]? = some (tokO t) := by rw [hw5]; exact tok_set HU4.out t
      have hB5 : Below w.heap.size w w5 := by rw [hw5]; exact tset_below HB4.out (by omega) _
      have HT5 := hide hT5
      have HU5 := hide hU5
      have HB5 := hide hB5
      simp only [tset] at hw5
      rw [← hw5]
      clear hw5 hT5 hU5 hB5 q0 q1 q2 q3 q4 q5 q6 q7 qf HT4 HU4 HB4
      go_wp2_with fail
      refine (HBg.out w5).mono ?_
      rintro e w6 ⟨rfl, hb6⟩
      have HB6 := hide (HB5.out.trans (hb6.mono HB5.out.size))
      obtain ⟨m0, m1, m2, m3, m4, m5, m6, m7⟩ := tok_cells (below_at hb6 HT5.out)
      obtain ⟨q0, q1, q2, q3, q4, q5, q6, q7⟩ := tok_cells (below_at hb6 HU5.out)
      clear hb6
      go_wp2
      go_ret
      exact ⟨rfl, HB6.out⟩
    · rw [hR] at hR'; cases hR'
  · have HB1 := hide hb1
    have HRt := hide (HR.out (w1.alloc (tokO {})) (HB1.out.alloc HB1.out.size _))
    simp only [tokO] at HRt
    clear HR hb1 HX
    simp only [tokV]
    go_wp2_with fail
    refine HRt.out.mono ?_
    rintro e w2 ⟨rfl, hw2⟩
    obtain ⟨w3, hw3⟩ : ∃ w3, w3 = (w1.alloc (tokO {})).alloc (tokO {}) := ⟨_, rfl⟩
    have hT1 : w3.heap[w1.heap.size]? = some (tokO {}) := by rw [hw3]; exact at_old (at_new _ _)
    have hT2 : w3.heap[w1.heap.size + 1]? = some (tokO {}) := by rw [hw3]; exact at_new' _ _ (by simp)
    have hB3 : Below w.heap.size w w3 := by rw [hw3]; exact (HB1.out.alloc HB1.out.size _).alloc (by have := HB1.out.size; simp; omega) _
    have HB3 := hide hB3
    have HT1 := hide hT1
    have HT2 := hide hT2
    simp only [tokO] at hw3
    clear hT1 hT2 hB3 HRt
    subst hw2
    go_wp2_with fail
    rw [← hw3]
    clear hw3
    refine (HTk.out w3 HB3.out).mono ?_
    rintro e w4 (⟨t', k', hR', rfl, hb4⟩ | ⟨z', hR', rfl, hb4⟩)
    · rw [hR] at hR'; cases hR'
    · have he : z = z' := by rw [hR] at hR'; injection hR'
      subst he
      have HB4 := hide (HB3.out.trans (hb4.mono HB3.out.size))
      have HT4 := hide (below_at hb4 HT1.out)
      have HU4 := hide (below_at hb4 HT2.out)
      have hsz := HB1.out.size
      obtain ⟨q0, q1, q2, q3, q4, q5, q6, q7⟩ := tok_cells HU4.out
      have qf := tok_free HU4.out
      clear hb4 HT1 HT2 hR hR' HB3
      simp only [tokV]
      go_upto_region 8 with fail
      obtain ⟨w5, hw5⟩ : ∃ w5, w5 = tset w4 (w1.heap.size + 1) {} := ⟨_, rfl⟩
      have hT5 : w5.heap[w1.heap.size]? = some (tokO {}) := by rw [hw5]; exact tset_other HT4.out (by omega)
      have hU5 : w5.heap[w1.heap.size + 1]? = some (tokO {}) := by rw [hw5]; exact tok_set HU4.out {}
      have hB5 : Below w.heap.size w w5 := by rw [hw5]; exact tset_below HB4.out (by omega) _
      have HT5 := hide hT5
      have HU5 := hide hU5
      have HB5 := hide hB5
      simp only [tset] at hw5
      rw [← hw5]
      clear hw5 hT5 hU5 hB5 q0 q1 q2 q3 q4 q5 q6 q7 qf HT4 HU4 HB4
      go_wp2_with fail
      refine (HBg.out w5).mono ?_
      rintro e w6 ⟨rfl, hb6⟩
      have HB6 := hide (HB5.out.trans (hb6.mono HB5.out.size))
      obtain ⟨m0, m1, m2, m3, m4, m5, m6, m7⟩ := tok_cells (below_at hb6 HT5.out)
      obtain ⟨q0, q1, q2, q3, q4, q5, q6, q7⟩ := tok_cells (below_at hb6 HU5.out)
      clear hb6
      go_wp2
      go_ret
      exact ⟨rfl, HB6.out⟩

theorem tokenNexts_walk (hesc : EscOk) (d a : Int) (v : Value) (l : List Int) (w : World) (h : PatV w v l) : Calls Try.prog 3 #[.int .i64 d, v, .int .i64 a] w fun e w' => e = .returned (.bool true) ∧ Below w.heap.size w w' := by
  by_cases hp : patE d l = 0
  · by_cases hr : a < 0 ∨ (l.length : Int) ≤ a
    · exact tokenNexts_bad d a 3 v l w h (by unfold nextR; rw [if_neg (by rw [hp]; simp), if_pos hr]) (by decide) (.inr ⟨hp, rfl, hr⟩)
    · obtain ⟨i, rfl⟩ : ∃ i : Nat, a = (i : Int) := ⟨a.toNat, by omega⟩
      exact tokenNexts_good hesc d i v l w h hp (by omega)
  · exact tokenNexts_bad d a (patE d l) v l w h (by unfold nextR; rw [if_pos hp]) hp (.inl rfl)

end Go.Proofs.Ytlapnhjkhpgklaa

/- TokenAlls: runs are one. -/
namespace Go.Proofs.Ytlapnhjkhpgklaa
open Go.RowKit
set_option linter.unusedVariables false

theorem run_same {d : Int} {l : List Int} {i : Nat} {L : List Tok} {S : List Int} (h : Run d l i L S) : ∀ {j : Nat} {L' : List Tok} {S' : List Int}, Run d l j L' S' → L.length = L'.length → i = j ∧ L = L' ∧ S = S' := by
  induction h with
  | nil =>
    intro j L' S' h' e
    cases h' with
    | nil => exact ⟨rfl, rfl, rfl⟩
    | step a b => simp at e
  | step h1 h2 ih =>
    intro j L' S' h' e
    cases h' with
    | nil => simp at e
    | step a b =>
      obtain ⟨rfl, rfl, rfl⟩ := ih a (by simpa using e)
      rw [h2] at b
      injection b with b
      injection b with b1 b2
      subst b1 b2
      exact ⟨rfl, rfl, rfl⟩
theorem run_cut {d : Int} {l : List Int} {j : Nat} {L' : List Tok} {S' : List Int} (h : Run d l j L' S') : ∀ k, k < L'.length → ∃ i t k2, Run d l i (L'.take k) (S'.take k) ∧ nextT d l i = .ok (t, k2) ∧ L'[k]? = some t ∧ S'[k]? = some (i : Int) := by
  induction h with
  | nil => intro k hk; simp at hk
  | @step i k2 t L S h1 h2 ih =>
    intro k hk
    have hlen := h1.len.2
    simp only [List.length_append, List.length_cons, List.length_nil] at hk
    by_cases hlt : k < L.length
    · obtain ⟨i', t', k', a, b, c, e⟩ := ih k hlt
      refine ⟨i', t', k', ?_, b, ?_, ?_⟩
      · rw [List.take_append_of_le_length (by omega), List.take_append_of_le_length (by omega)]; exact a
      · rw [List.getElem?_append_left hlt]; exact c
      · rw [List.getElem?_append_left (by omega)]; exact e
    · have hk' : k = L.length := by omega
      subst hk'
      refine ⟨i, t, k2, ?_, h2, ?_, ?_⟩
      · rw [List.take_left, show L.length = S.length from hlen.symm, List.take_left]; exact h1
      · simp
      · rw [← hlen]; simp
/-- where a run has not come to its end, the next one is the other run's. -/
theorem run_next {d : Int} {l : List Int} {i j : Nat} {L L' : List Tok} {S S' : List Int} (h : Run d l i L S) (h' : Run d l j L' S') (hl : L.length < L'.length) : ∃ t k2, nextT d l i = .ok (t, k2) ∧ L'[L.length]? = some t ∧ S'[L.length]? = some (i : Int) := by
  obtain ⟨i', t, k2, a, b, c, e⟩ := run_cut h' L.length hl
  obtain ⟨rfl, -, -⟩ := run_same h a (by rw [List.length_take]; omega)
  exact ⟨t, k2, b, c, e⟩
/-- one run ends where the other one does: at the one fault. -/
theorem run_err {d : Int} {l : List Int} {i j : Nat} {L L' : List Tok} {S S' : List Int} {z z' : Int} (h : Run d l i L S) (h' : Run d l j L' S') (e : nextT d l i = .error z) (e' : nextT d l j = .error z') : i = j ∧ z = z' := by
  have hl : L.length = L'.length := by
    rcases Nat.lt_trichotomy L.length L'.length with hlt | heq | hgt
    · obtain ⟨t, k2, a, -⟩ := run_next h h' hlt; rw [e] at a; cases a
    · exact heq
    · obtain ⟨t, k2, a, -⟩ := run_next h' h hgt; rw [e'] at a; cases a
  obtain ⟨rfl, -, -⟩ := run_same h h' hl
  rw [e] at e'
  injection e' with e'
  exact ⟨rfl, e'⟩
/-- .. and no run ends well where there is a fault. -/
theorem run_bad {d : Int} {l : List Int} {i : Nat} {L L' : List Tok} {S S' : List Int} {z : Int} (h : Run d l i L S) (hi : i < l.length) (h' : Run d l l.length L' S') (e : nextT d l i = .error z) : False := by
  rcases Nat.lt_trichotomy L.length L'.length with hlt | heq | hgt
  · obtain ⟨t, k2, a, -⟩ := run_next h h' hlt; rw [e] at a; cases a
  · obtain ⟨e1, -, -⟩ := run_same h h' heq; omega
  · obtain ⟨t, k2, a, -⟩ := run_next h' h hgt
    unfold nextT at a
    rw [List.getElem?_eq_none (Nat.le_refl _)] at a
    cases a
/-- a run that has not come to the end is shorter than the whole one. -/
theorem run_lt {d : Int} {l : List Int} {i : Nat} {L L' : List Tok} {S S' : List Int} (h : Run d l i L S) (hi : i < l.length) (h' : Run d l l.length L' S') : L.length < L'.length := by
  rcases Nat.lt_trichotomy L.length L'.length with hlt | heq | hgt
  · exact hlt
  · obtain ⟨e1, -, -⟩ := run_same h h' heq; omega
  · obtain ⟨t, k2, a, -⟩ := run_next h' h hgt
    unfold nextT at a
    rw [List.getElem?_eq_none (Nat.le_refl _)] at a
    cases a
theorem run_le {d : Int} {l : List Int} {j : Nat} {L' : List Tok} {S' : List Int} (h' : Run d l j L' S') : ∀ {i : Nat} {L : List Tok} {S : List Int}, Run d l i L S → L.length ≤ L'.length → i ≤ j := by
  induction h' with
  | nil =>
    intro i L S h hl
    obtain ⟨rfl, -, -⟩ := run_same h (.nil) (by simp at hl ⊢; exact hl)
    exact Nat.le_refl _
  | @step i1 k2 t L1 S1 h1 h2 ih =>
    intro i L S h hl
    simp only [List.length_append, List.length_cons, List.length_nil] at hl
    by_cases hlt : L.length ≤ L1.length
    · have := ih h hlt
      have := next_pos h2
      omega
    · obtain ⟨rfl, -, -⟩ := run_same h (.step h1 h2) (by simp; omega)
      exact Nat.le_refl _
/-- what is read on the way to the end, or to the fault, ends there at the latest. -/
theorem run_in {d : Int} {l : List Int} {i j k : Nat} {t : Tok} {L L' : List Tok} {S S' : List Int} (h : Run d l i L S) (e : nextT d l i = .ok (t, k)) (h' : Run d l j L' S') (hj : ∀ t k, nextT d l j ≠ .ok (t, k)) : k ≤ j := by
  have hlt : L.length < L'.length := by
    rcases Nat.lt_trichotomy L.length L'.length with hlt | heq | hgt
    · exact hlt
    · obtain ⟨rfl, -, -⟩ := run_same h h' heq; exact absurd e (hj _ _)
    · obtain ⟨t, k2, a, -⟩ := run_next h' h hgt; exact absurd a (hj _ _)
  exact run_le h' (.step h e) (by simp; omega)
theorem next_end (d : Int) (l : List Int) (t : Tok) (k : Nat) : nextT d l l.length ≠ .ok (t, k) := by
  unfold nextT
  rw [List.getElem?_eq_none (Nat.le_refl _)]
  intro h; cases h

end Go.Proofs.Ytlapnhjkhpgklaa

/- TokenAlls' walk. -/
namespace Go.Proofs.Ytlapnhjkhpgklaa
open Go.RowKit
set_option linter.unusedVariables false


set_option maxRecDepth 100000 in
set_option maxHeartbeats 8000000 in
theorem tokenAlls_bad (d : Int) (v : Value) (l : List Int) (w : World) (h : PatV w v l) (hp : patE d l ≠ 0) : Calls Try.prog 4 #[.int .i64 d, v] w fun e w' => e = .returned (.bool true) ∧ Below w.heap.size w w' := by
  have HX := hide (all_any d v l w h)
  have HR := hide (fun W (hb : Below w.heap.size w W) => right_any d v l W (h.below hb))
  have HBg := hide (fun W => begun_any W)
  obtain ⟨ao, c, hv⟩ := h.shape
  obtain ⟨n, hn⟩ : ∃ n, n = l.length := ⟨_, rfl⟩
  rw [← hn] at hv
  rw [hv] at HX HR ⊢
  have HP := hide hp
  clear h hv hn hp
  go_enter Try.func4, Try.ntmps4
  go_wp2_with fail
  refine HX.out.mono ?_
  rintro e w1 ⟨hb1, ⟨hz, rfl⟩ | ⟨hz, i, L, S, z, hrun, hil, hR, rfl⟩ | ⟨hz, L, S, v1, v2, hrun, rfl, ho1, ho2⟩⟩
  · obtain ⟨z, hze⟩ : ∃ z, z = patE d l := ⟨_, rfl⟩
    rw [← hze] at HR hz ⊢
    have hzb : (z != 0) = true := by simpa using hz
    have HB1 := hide hb1
    obtain ⟨w2, hw2⟩ : ∃ w2, w2 = w1.alloc (fauO z 0) := ⟨_, rfl⟩
    have hB2 : Below w.heap.size w w2 := by rw [hw2]; exact HB1.out.alloc HB1.out.size _
    have hF2 : w2.heap[w1.heap.size]? = some (fauO z 0) := by rw [hw2]; exact at_new _ _
    have HB2 := hide hB2
    have HF2 := hide hF2
    simp only [fauO] at hw2
    clear hb1 hz hze hB2 hF2 HX HP
    go_wp2_with fail
    rw [← hw2]
    clear hw2
    refine (HR.out w2 HB2.out).mono ?_
    rintro e w3 ⟨rfl, rfl⟩
    go_wp2_with fail
    refine (HBg.out w2).mono ?_
    rintro e w4 ⟨rfl, hb4⟩
    have HB4 := hide (HB2.out.trans (hb4.mono HB2.out.size))
    have HF4 := hide (below_at hb4 HF2.out)
    clear hb4 HB2 HF2
    go_wp2_with fail
    refine (HBg.out w4).mono ?_
    rintro e w5 ⟨rfl, hb5⟩
    have HB5 := hide (HB4.out.trans (hb5.mono HB4.out.size))
    obtain ⟨c0, c1, fz⟩ := fau_cells (below_at hb5 HF4.out)
    clear hb5 HB4 HF4
    go_wp2
    go_ret
    exact ⟨rfl, HB5.out⟩
  · exact absurd hz HP.out
  · exact absurd hz HP.out

set_option maxRecDepth 100000 in
set_option maxHeartbeats 16000000 in
theorem tokenAlls_good (hesc : EscOk) (d : Int) (v : Value) (l : List Int) (w : World) (h : PatV w v l) (hp : patE d l = 0) : Calls Try.prog 4 #[.int .i64 d, v] w fun e w' => e = .returned (.bool true) ∧ Below w.heap.size w w' := by
  obtain ⟨hd, hl, hpts⟩ := patE_ok hp
  have HX := hide (all_any d v l w h)
  have HR := hide (fun W (hb : Below w.heap.size w W) => right_any d v l W (h.below hb))
  have HBg := hide (fun W => begun_any W)
  have HTk : Hid (∀ W, Below w.heap.size w W → ∀ (i : Nat) (hi : i < l.length), Calls Try.prog 10 #[.int .i64 d, v, .int .i64 i] W fun e w' => NextE (nextT d l i) W e w') := fun W hb i hi => by
    obtain ⟨x, c, hv, hcap, hrd⟩ := h.some (by omega)
    have := tokenAt_any hesc d x c l i W (hrd.below hb) hi hl hcap hpts hd
    rw [show nextT d l i = tokT d l i l[i] from by unfold nextT; rw [List.getElem?_eq_getElem hi], hv]
    exact this
  obtain ⟨ao, c, hv⟩ := h.shape
  rw [hp] at HR
  obtain ⟨n, hn⟩ : ∃ n, n = l.length := ⟨_, rfl⟩
  have HN := hide hn
  rw [← hn] at hv hl HTk
  rw [hv] at HX HR HTk ⊢
  have HP := hide hp
  clear h hv hn hp hd hpts hesc
  go_enter Try.func4, Try.ntmps4
  go_wp2_with fail
  refine HX.out.mono ?_
  rintro e w1 ⟨hb1, ⟨hz, rfl⟩ | ⟨hz, i0, L0, S0, z, hrun, hil, hR, rfl⟩ | ⟨hz, L0, S0, v1, v2, hrun, rfl, ho1, ho2⟩⟩
  · exact absurd HP.out hz
  · -- a fault
    have hzn := next_err hR
    have hzb : (z == 0) = false := by rcases hzn with rfl | rfl | rfl <;> rfl
    have HB1 := hide hb1
    obtain ⟨w2, hw2⟩ : ∃ w2, w2 = w1.alloc (fauO z i0) := ⟨_, rfl⟩
    have hB2 : Below w.heap.size w w2 := by rw [hw2]; exact HB1.out.alloc HB1.out.size _
    have hF2 : w2.heap[w1.heap.size]? = some (fauO z i0) := by rw [hw2]; exact at_new _ _
    have HB2 := hide hB2
    have HF2 := hide hF2
    have HRun0 := hide hrun
    have HR0 := hide hR
    have HIl := hide hil
    simp only [fauO] at hw2
    clear hb1 hz hB2 hF2 HX hrun hR hzn hil
    go_wp2_with fail
    rw [← hw2]
    clear hw2
    refine (HR.out w2 HB2.out).mono ?_
    rintro e w3 ⟨rfl, rfl⟩
    go_wp2_with fail
    refine (HBg.out w2).mono ?_
    rintro e w4 ⟨rfl, hb4⟩
    have HB4 := hide (HB2.out.trans (hb4.mono HB2.out.size))
    have HF4 := hide (below_at hb4 HF2.out)
    clear hb4 HB2 HF2
    go_wp2
    go_loopw [9, 10] (fun s t wr => ∃ (i : Nat) (L : List Tok) (S : List Int), i ≤ n ∧ s = .int .i64 (L.length : Nat) ∧ t = .int .i64 i ∧ Run d l i L S ∧ wr.heap[w1.heap.size]? = some (fauO z i0) ∧ Below w.heap.size w wr) (fun _ t _ => n - (intOf t).toNat)
    case atStart => exact ⟨0, [], [], Nat.zero_le _, rfl, rfl, .nil, HF4.out, HB4.out⟩
    case round =>
      obtain ⟨i, L, S, hin, rfl, rfl, hru, hf, hb⟩ := hrel
      have HRu := hide hru
      have HF5 := hide hf
      have HB5 := hide hb
      have hLl : L.length ≤ 300 := by have := hru.len; omega
      obtain ⟨w5, hw5⟩ : ∃ w5, w5 = wr := ⟨_, rfl⟩
      subst hw5
      clear hf hb hru HF4 HB4
      by_cases hlt : i < n
      · have e1 : (i : Int) < (n : Int) := by omega
        go_wp2_with fail
        refine (HTk.out w5 HB5.out i hlt).mono ?_
        rintro e w6 (⟨t, k, hR6, rfl, hb6⟩ | ⟨z6, hR6, rfl, hb6⟩)
        · have HR6 := hide hR6
          have HB6 := hide (HB5.out.trans (hb6.mono HB5.out.size))
          have HF6 := hide (below_at hb6 HF5.out)
          have hkn : k ≤ n := by have := run_in HRu.out hR6 HRun0.out (fun t k e => by rw [HR0.out] at e; cases e); have := HN.out; have := HIl.out; omega
          have hik := next_pos hR6
          clear hR6 hb6 HB5 HF5
          have HF7 : Hid ((w6.alloc (tokO t)).heap[w1.heap.size]? = some (fauO z i0)) := at_old HF6.out
          have HB7 : Hid (Below w.heap.size w (w6.alloc (tokO t))) := HB6.out.alloc HB6.out.size _
          have hlt6 : w1.heap.size < w6.heap.size := lt_of_block HF6.out
          obtain ⟨w7, hw7⟩ : ∃ w7, w7 = w6.alloc (tokO t) := ⟨_, rfl⟩
          rw [← hw7] at HF7 HB7
          simp only [tokO] at hw7
          obtain ⟨c0, c1, fz⟩ := fau_cells HF7.out
          obtain ⟨q, hq⟩ : ∃ q, q = L.length := ⟨_, rfl⟩
          rw [← hq] at hLl ⊢
          have HQ := hide hq
          clear hq HB6 HF6
          simp only [tokV]
          go_wp2_with fail
          rw [← hw7]
          clear hw7
          go_quiet (fail)
          go_wp2
          go_roundw
          case rel => exact ⟨k, L ++ [t], S ++ [(i : Int)], hkn, by rw [List.length_append]; have := HQ.out; simp; omega, rfl, .step HRu.out HR6.out, HF7.out, HB7.out.trans ⟨rfl, rfl, rfl, Nat.le_refl _, fun _ _ => rfl⟩⟩
          case measure => simp [intOf]; omega
        · obtain ⟨he1, he2⟩ := run_err HRu.out HRun0.out hR6 HR0.out
          subst he1 he2
          have HB6 := hide (HB5.out.trans (hb6.mono HB5.out.size))
          have HF6 := hide (below_at hb6 HF5.out)
          clear hR6 hb6 HB5 HF5
          have HF7 : Hid ((w6.alloc (tokO {})).heap[w1.heap.size]? = some (fauO z6 i)) := at_old HF6.out
          have HB7 : Hid (Below w.heap.size w (w6.alloc (tokO {}))) := HB6.out.alloc HB6.out.size _
          obtain ⟨w7, hw7⟩ : ∃ w7, w7 = w6.alloc (tokO {}) := ⟨_, rfl⟩
          rw [← hw7] at HF7 HB7
          simp only [tokO] at hw7
          obtain ⟨c0, c1, fz⟩ := fau_cells HF7.out
          have hzb2 : (z6 != 0) = true := by simpa using hzb
          clear HB6 HF6
          simp only [tokV]
          go_upto_region 9 with fail
          rw [← hw7]
          clear hw7
          go_wp2
          go_ret
          exact ⟨rfl, HB7.out⟩
      · exfalso
        have hi : i = l.length := by have := HN.out; omega
        subst hi
        exact run_bad HRun0.out (by have := HIl.out; omega) HRu.out HR0.out
  · -- none
    have HB1 := hide hb1
    obtain ⟨a1, k1, rfl⟩ := own_shape ho1
    obtain ⟨a2, k2, rfl⟩ := own_shape ho2
    obtain ⟨w2, hw2⟩ : ∃ w2, w2 = w1.alloc (fauO 0 0) := ⟨_, rfl⟩
    have hB2 : Below w.heap.size w w2 := by rw [hw2]; exact HB1.out.alloc HB1.out.size _
    have hF2 : w2.heap[w1.heap.size]? = some (fauO 0 0) := by rw [hw2]; exact at_new _ _
    have hO1 : w2.ownsRow w.heap.size 24 8 (.slice a1 L0.length k1) L0.length (cells8 L0) := by rw [hw2]; exact ho1.alloc _
    have hO2 : w2.ownsRow w.heap.size 3 1 (.slice a2 S0.length k2) S0.length (i64s S0) := by rw [hw2]; exact ho2.alloc _
    have HB2 := hide hB2
    have HF2 := hide hF2
    have HO1 := hide hO1
    have HO2 := hide hO2
    have HRun0 := hide hrun
    have hSL := hrun.len
    have HS0 := hide hSL.2
    obtain ⟨q0, hq0⟩ : ∃ q0, q0 = L0.length := ⟨_, rfl⟩
    have HQ0 := hide hq0
    rw [hSL.2, ← hq0] at HO2 ⊢
    rw [← hq0] at HO1 hSL
    have hq3 : q0 ≤ 300 := by have := HN.out; omega
    simp only [fauO] at hw2
    clear hb1 hz hB2 hF2 HX hrun hO1 hO2 ho1 ho2 hSL hq0
    go_wp2_with fail
    rw [← hw2]
    clear hw2
    refine (HR.out w2 HB2.out).mono ?_
    rintro e w3 ⟨rfl, rfl⟩
    go_wp2_with fail
    refine (HBg.out w2).mono ?_
    rintro e w4 ⟨rfl, hb4⟩
    have HB4 := hide (HB2.out.trans (hb4.mono HB2.out.size))
    have HF4 := hide (below_at hb4 HF2.out)
    have HP4 := hide (own_keep HO1.out hb4)
    have HQ4 := hide (own_keep HO2.out hb4)
    clear hb4 HB2 HF2 HO1 HO2
    go_wp2
    go_loopw [9, 10] (fun s t wr => ∃ (i : Nat) (L : List Tok) (S : List Int), i ≤ n ∧ s = .int .i64 (L.length : Nat) ∧ t = .int .i64 i ∧ Run d l i L S ∧ wr.heap[w1.heap.size]? = some (fauO 0 0) ∧ Below w.heap.size w wr ∧ wr.ownsRow w.heap.size 24 8 (.slice a1 q0 k1) q0 (cells8 L0) ∧ wr.ownsRow w.heap.size 3 1 (.slice a2 q0 k2) q0 (i64s S0)) (fun _ t _ => n - (intOf t).toNat)
    case atStart => exact ⟨0, [], [], Nat.zero_le _, rfl, rfl, .nil, HF4.out, HB4.out, HP4.out, HQ4.out⟩
    case round =>
      obtain ⟨i, L, S, hin, rfl, rfl, hru, hf, hb, hp5, hq5⟩ := hrel
      have HRu := hide hru
      have HF5 := hide hf
      have HB5 := hide hb
      have HP5 := hide hp5
      have HQ5 := hide hq5
      have hLl : L.length ≤ 300 := by have := hru.len; omega
      obtain ⟨w5, hw5⟩ : ∃ w5, w5 = wr := ⟨_, rfl⟩
      subst hw5
      clear hf hb hru HF4 HB4 HP4 HQ4 hp5 hq5
      by_cases hlt : i < n
      · have e1 : (i : Int) < (n : Int) := by omega
        have hLt := run_lt HRu.out (by have := HN.out; omega) HRun0.out
        rw [← HQ0.out] at hLt
        obtain ⟨t0, k0, r1, r2, r3⟩ := run_next HRu.out HRun0.out (by have := HQ0.out; omega)
        go_wp2_with fail
        refine (HTk.out w5 HB5.out i hlt).mono ?_
        rintro e w6 (⟨t, k, hR6, rfl, hb6⟩ | ⟨z6, hR6, rfl, hb6⟩)
        · have htt : t = t0 := by rw [hR6] at r1; injection r1 with r1; injection r1
          subst htt
          have HR6 := hide hR6
          have HB6 := hide (HB5.out.trans (hb6.mono HB5.out.size))
          have HF6 := hide (below_at hb6 HF5.out)
          have hkn : k ≤ n := by have := run_in HRu.out hR6 HRun0.out (fun t k => next_end d l t k); have := HN.out; omega
          have hik := next_pos hR6
          have HP6 := hide (own_keep HP5.out hb6)
          have HQ6 := hide (own_keep HQ5.out hb6)
          clear hR6 hb6 HB5 HF5 HP5 HQ5 r1
          have HF7 : Hid ((w6.alloc (tokO t)).heap[w1.heap.size]? = some (fauO 0 0)) := at_old HF6.out
          have HB7 : Hid (Below w.heap.size w (w6.alloc (tokO t))) := HB6.out.alloc HB6.out.size _
          have HT7 : Hid ((w6.alloc (tokO t)).heap[w6.heap.size]? = some (tokO t)) := at_new _ _
          have HP7 := hide (HP6.out.alloc (tokO t))
          have HQ7 := hide (HQ6.out.alloc (tokO t))
          obtain ⟨w7, hw7⟩ : ∃ w7, w7 = w6.alloc (tokO t) := ⟨_, rfl⟩
          rw [← hw7] at HF7 HB7 HT7 HP7 HQ7
          simp only [tokO] at hw7
          obtain ⟨M, hM⟩ : ∃ M, M = w6.heap.size := ⟨_, rfl⟩
          have HM := hide hM
          rw [← hM] at HT7
          obtain ⟨c0, c1, fz⟩ := fau_cells HF7.out
          obtain ⟨m0, m1, m2, m3, m4, m5, m6, m7⟩ := tok_cells HT7.out
          have hkl : L.length < L0.length := by have := HQ0.out; omega
          obtain ⟨g1, cp1, hv1⟩ := own_some HP7.out (by omega)
          obtain ⟨rfl⟩ : a1 = some ⟨g1, 0, none⟩ := by cases hv1; rfl
          obtain ⟨t0, t1, t2, t3, t4, t5, t6, t7⟩ := tok_at HP7.out HQ0.out L.length hkl
          rw [show L0[L.length] = t from by rw [List.getElem?_eq_getElem hkl] at r2; injection r2] at t0 t1 t2 t3 t4 t5 t6 t7
          obtain ⟨g2, cp2, hv2⟩ := own_some HQ7.out (by omega)
          obtain ⟨rfl⟩ : a2 = some ⟨g2, 0, none⟩ := by cases hv2; rfl
          have p0 : w7.cell? ⟨g2, L.length, none⟩ = some (.int .i64 i) := by
            rw [HQ7.out.cellAt L.length (by omega)]
            unfold i64s
            rw [List.getElem?_map, r3]; rfl
          obtain ⟨q, hq⟩ : ∃ q, q = L.length := ⟨_, rfl⟩
          rw [← hq] at hLl hLt t0 t1 t2 t3 t4 t5 t6 t7 p0 ⊢
          have HQ := hide hq
          have e2 : (q : Int) < (q0 : Int) := by omega
          have e3 : (0 : Int) ≤ (q : Int) := by omega
          have hd1 : decide ((q0 : Int) ≤ (q : Int)) = false := decide_eq_false (by omega)
          clear hq HB6 HF6 HP6 HQ6 r2 r3 hkl hv1 hv2 hM
          simp only [tokV]
          go_upto_region 11 with fail
          rw [← hw7, ← HM.out]
          clear hw7 HM
          go_quiet (fail)
          go_wp2
          go_roundw
          case rel => exact ⟨k, L ++ [t], S ++ [(i : Int)], hkn, by rw [List.length_append]; have := HQ.out; simp; omega, rfl, .step HRu.out HR6.out, HF7.out, HB7.out.trans ⟨rfl, rfl, rfl, Nat.le_refl _, fun _ _ => rfl⟩, own_keep HP7.out ⟨rfl, rfl, rfl, Nat.le_refl _, fun _ _ => rfl⟩, own_keep HQ7.out ⟨rfl, rfl, rfl, Nat.le_refl _, fun _ _ => rfl⟩⟩
          case measure => simp [intOf]; omega
        · rw [hR6] at r1; cases r1
      · have hi : i = l.length := by have := HN.out; omega
        have hqq : L.length = q0 := by
          rcases Nat.lt_trichotomy L.length L0.length with h1 | h1 | h1
          · obtain ⟨t, k2, a, -⟩ := run_next HRu.out HRun0.out h1
            unfold nextT at a
            rw [hi, List.getElem?_eq_none (Nat.le_refl _)] at a
            cases a
          · have := HQ0.out; omega
          · obtain ⟨t, k2, a, -⟩ := run_next HRun0.out HRu.out h1
            unfold nextT at a
            rw [List.getElem?_eq_none (Nat.le_refl _)] at a
            cases a
        have e1 : ¬ (i : Int) < (n : Int) := by omega
        obtain ⟨q, hq⟩ : ∃ q, q = L.length := ⟨_, rfl⟩
        rw [← hq] at hLl hqq ⊢
        subst hqq
        obtain ⟨c0, c1, fz⟩ := fau_cells HF5.out
        clear hq hi
        go_wp2
        go_ret
        exact ⟨rfl, HB5.out⟩

theorem tokenAlls_walk (hesc : EscOk) (d : Int) (v : Value) (l : List Int) (w : World) (h : PatV w v l) : Calls Try.prog 4 #[.int .i64 d, v] w fun e w' => e = .returned (.bool true) ∧ Below w.heap.size w w' := by
  by_cases hp : patE d l = 0
  · exact tokenAlls_good hesc d v l w h hp
  · exact tokenAlls_bad d v l w h hp

end Go.Proofs.Ytlapnhjkhpgklaa

/- The reference's Escaped: k, put together. -/
namespace Go.Proofs.Ytlapnhjkhpgklaa
open Go.RowKit
set_option linter.unusedVariables false

theorem esc_k (x : Addr) (c : Nat) (l : List Int) (i : Nat) (w : World) (h : ReadsI w x l) (hi : i < l.length) (hl : l.length ≤ 300) (hcap : l.length ≤ c) (hpts : ∀ p ∈ l, 0 ≤ p ∧ p ≤ 1114111) (hx : l[i] = 107) : Calls Try.prog 20 #[.int .i64 1, .slice (some x) l.length c, .int .i64 i] w fun e w' => NextE (escT 1 l i) w e w' := by
  by_cases hz : nameL l (i + 2) = []
  · cases hm : says l (i + 2) [45] with
    | true => exact esc_kA x c l i w h hi hl hcap hpts hx ⟨hz, hm⟩
    | false => exact esc_kB x c l i w h hi hl hcap hpts hx ⟨hz, hm⟩
  · exact esc_kN x c l i w h hi hl hcap hpts hx hz

end Go.Proofs.Ytlapnhjkhpgklaa

/- The reference's Escaped, whole; and with it the two walks. -/
namespace Go.Proofs.Ytlapnhjkhpgklaa
open Go.RowKit
set_option linter.unusedVariables false

theorem escOk : EscOk := fun d x c l i w h hi hl hcap hpts hd => by
  by_cases hlt : i < l.length
  · rcases hd with rfl | rfl | rfl
    · by_cases hx : l[i] = 120
      · cases hbr : says l (i + 1) [123] with
        | false => exact esc_x0 x c l i w h hlt hl hcap hpts hx hbr
        | true => exact esc_x1 x c l i w h hlt hl hcap hpts hx hbr
      · by_cases hu : l[i] = 117
        · exact esc_u x c l i w h hlt hl hcap hpts hu
        · by_cases hk : l[i] = 107
          · exact esc_k x c l i w h hlt hl hcap hpts hk
          · exact esc_one x c l i w h hlt hl hcap hpts hx hu hk
    · exact esc_two x c l i w h hlt hl hpts
    · exact esc_three x c l i w h hlt hl hcap hpts
  · exact esc_none d x c l i w h (by omega) hl

theorem tokenAlls_law (d : Int) (v : Value) (l : List Int) (w : World) (rd : -9223372036854775808 ≤ d ∧ d ≤ 9223372036854775807) (h : PatV w v l) : Calls Try.prog 4 #[.int .i64 d, v] w fun e w' => e = .returned (.bool true) ∧ Below w.heap.size w w' := tokenAlls_walk escOk d v l w h

end Go.Proofs.Ytlapnhjkhpgklaa

namespace Go.Proofs.Ytlapnhjkhpgklaa.tokenAlls
open Go.ChangeShapes Go.WideShapes Go.ChangeAt Go.RowKit
set_option linter.unusedVariables false

set_option maxRecDepth 100000 in
/-- The row's step. -/
theorem lifted (os : Os) (started : os.Started) (H : Type) (enc : TypeId × Value → H) :
    ReturnsInHanded {} Try.checked os 4 .any (Rows.tokenAllsSpec.pre6 enc Try.prog Try.f4 Rows.tokenAllsRow.domain false) (Rows.tokenAllsSpec.post enc Try.prog Try.f4 false true false false) := by
  refine returnsInHanded_of_change_sized (C := Try.checked) own started (by kernel_rfl) Try.func4
    (ChangeSpec.witness6 (enc := enc) (C := Try.checked) false ⟨#[], #[.int .i64 0, .slice none 0 0], []⟩ 8 (by kernel_rfl) (by kernel_rfl) (by kernel_rfl) (by kernel_rfl)) ?_
  intro W base args ds gs before hval0 hW hcnd hsz0 _
  have hval : ∀ (j : Nat) t v, Try.f4.params[j]? = some t → args[j]? = some v → Value.okWide Try.prog W .any base t v := hval0
  have hW' := hW
  obtain ⟨p, q, hA0, hV, rfl, hfz, hnd⟩ := hW
  have hA : DataW.TrodAll enc Try.prog W 0 (fun _ => true) true Try.f4.params.toList args.toList ds p := hA0
  rw [Try.params4] at hA hval
  obtain ⟨v0, vs0, d0, ds0, p0, q0, hargs, rfl, rfl, h0, r0⟩ := trodAll_cons hA
  obtain ⟨v1, vs1, d1, ds1, p1, q1, rfl, rfl, rfl, h1, r1⟩ := trodAll_cons r0
  obtain ⟨rfl, rfl, rfl⟩ := trodAll_nil r1
  obtain rfl : args = #[v0, v1] := by cases args; simp_all
  obtain ⟨rfl, rfl⟩ := trodVars_none hV
  obtain ⟨a0, rfl, rfl, rfl, w0⟩ := open_int Try.underlying3 (hval 0 3 v0 rfl rfl) h0
  have rg0 := i64_rng w0
  obtain ⟨a1, len1, cap1, rfl⟩ := okWide_slice Try.underlying22 (hval 1 22 v1 rfl rfl)
  have k1 := h1
  have lt1 : ∀ x ∈ p1, x.block < W.heap.size := by obtain ⟨m, hm⟩ := k1; exact DataW.trod_lt m _ _ _ hm
  obtain ⟨L1, hL1⟩ : ∃ L, PatV W (.slice a1 len1 cap1) L := by obtain ⟨fuel, hf⟩ := h1; exact open_pat hf
  clear hA0 hval0
  refine (tokenAlls_law a0 _ L1 W rg0 hL1).mono fun e W' ⟨he, bel⟩ => ?_
  subst he
  exact ⟨_, rfl, _, _, _, [], _, [], hW', trodAll_mk1 (shut_bool Try.underlying4 _), (trodAll_cons_mk (shut_int Try.underlying3 w0) (trodAll_cons_mk (Below.trod laidOut (by kernel_rfl) (of_decide_eq_true (by kernel_rfl)) k1 bel lt1) trodAll_mk0)), rfl, bel.frame _, fun h => by cases h⟩

theorem over : Rows.tokenAllsRow.holds Try.pinned (OpenSpec.ofChange Rows.tokenAllsSpec) :=
  OpenClaim.holds_of_wide 4 Try.f4 rfl rfl rfl rfl rfl rfl rfl ⟨rfl, rfl, rfl, rfl, rfl⟩ rfl rfl rfl rfl rfl (by kernel_rfl) Try.func4 (by kernel_rfl)
    (of_decide_eq_true (by kernel_rfl)) (by unfold Func.isWrapper; first | (rw [if_pos (by decide +kernel)]; kernel_rfl) | (rw [if_neg (by decide +kernel)]; exact ⟨rfl, rfl⟩))
    (fun os started H enc _ => lifted os started H enc)

end Go.Proofs.Ytlapnhjkhpgklaa.tokenAlls
namespace Go.Proofs.Ytlapnhjkhpgklaa
/-- The statement. -/
theorem TokenAlls_holds : Rows.TokenAllsSaid := tokenAlls.over
#print axioms TokenAlls_holds
end Go.Proofs.Ytlapnhjkhpgklaa
