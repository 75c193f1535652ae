/- TokenGreedy's walk. -/
import Derived.Test.YtlapnhjkhpgklaaTall
import Derived.Test.YtlapnhjkhpgklaaTplain
namespace Go.Proofs.Ytlapnhjkhpgklaa
open Go.RowKit
set_option linter.unusedVariables false

theorem cells8_get : ∀ (L : List Tok) (k : Nat) (h : k < L.length) (j : Nat), j < 8 → (cells8 L)[k * 8 + j]? = (encT L[k])[j]? := by
  intro L
  induction L with
  | nil => intro k h; simp at h
  | cons t L ih =>
    intro k h j hj
    have e : cells8 (t :: L) = encT t ++ cells8 L := by simp [cells8]
    rw [e]
    match k with
    | 0 => rw [List.getElem?_append_left (by simp [encT]; omega)]; simp
    | k + 1 =>
      rw [List.getElem?_append_right (by simp [encT]; omega)]
      have e2 : (k + 1) * 8 + j - (encT t).length = k * 8 + j := by simp [encT]; omega
      rw [e2]
      exact ih k (by simpa using h) j hj
theorem tok_at {B n c g : Nat} {w : World} {L : List Tok} (h : w.ownsRow B 24 8 (.slice (some ⟨g, 0, none⟩) n c) n (cells8 L)) (hn : n = L.length) (k : Nat) (hk : k < L.length) :
    w.cell? ⟨g, k * 8, none⟩ = some (.int .i64 L[k].kind) ∧ w.cell? ⟨g, k * 8 + 1, none⟩ = some (.int .i64 L[k].num) ∧ w.cell? ⟨g, k * 8 + 2, none⟩ = some (.string L[k].text) ∧ w.cell? ⟨g, k * 8 + 3, none⟩ = some (.bool L[k].neg) ∧ w.cell? ⟨g, k * 8 + 4, none⟩ = some (.int .i64 L[k].least) ∧ w.cell? ⟨g, k * 8 + 5, none⟩ = some (.int .i64 L[k].most) ∧ w.cell? ⟨g, k * 8 + 6, none⟩ = some (.int .i64 L[k].way) ∧ w.cell? ⟨g, k * 8 + 7, none⟩ = some (.int .i64 L[k].fold) := by
  have key : ∀ j, j < 8 → w.cell? ⟨g, k * 8 + j, none⟩ = (encT L[k])[j]? := fun j hj => by
    rw [h.cellAt (k * 8 + j) (by omega), cells8_get L k hk j hj]
  exact ⟨key 0 (by omega), key 1 (by omega), key 2 (by omega), key 3 (by omega), key 4 (by omega), key 5 (by omega), key 6 (by omega), key 7 (by omega)⟩
theorem own_some {B e : Nat} {w : World} {v : Value} {n k : Nat} {xs : List Value} (h : w.ownsRow B e k v n xs) (hn : 1 ≤ n) : ∃ g cap, v = .slice (some ⟨g, 0, none⟩) n cap := by
  rcases h.2 with ⟨_, h0⟩ | ⟨g, cap, cur, rfl, _⟩
  · omega
  · exact ⟨g, cap, rfl⟩

set_option maxRecDepth 100000 in
set_option maxHeartbeats 16000000 in
theorem tokenGreedy_walk (d : Int) (v : Value) (l : List Int) (w : World) (hrg : -9223372036854775808 ≤ d ∧ d ≤ 9223372036854775807) (h : PatV w v l) : Calls Try.prog 7 #[.int .i64 d, v] w fun e w' => e = .returned (.bool true) ∧ Below w.heap.size w w' := by
  have HB := hide (begun_any w)
  have HA := hide (fun w1 (hb : Below w.heap.size w w1) => all_any d v l w1 (h.below hb))
  obtain ⟨ao, c, hv⟩ := h.shape
  obtain ⟨n, hn⟩ : ∃ n, n = l.length := ⟨_, rfl⟩
  have HN := hide hn
  rw [← hn] at hv
  rw [hv] at HA ⊢
  clear h hv hn hrg
  go_enter Try.func7, Try.ntmps7
  go_wp2_with fail
  refine HB.out.mono ?_
  rintro e w1 ⟨rfl, hb1⟩
  go_wp2_with fail
  refine (HA.out w1 hb1).mono ?_
  rintro e w2 ⟨hb2, ⟨hz, rfl⟩ | ⟨hz, i, L, S, z, hrun, hil, hR, rfl⟩ | ⟨hz, L, S, v1, v2, hrun, rfl, ho1, ho2⟩⟩
  · have HB2 := hide (hb1.trans (hb2.mono hb1.size))
    clear hb1 hb2 HA HB hz
    go_wp2
    go_loop [8] (fun i => i = .int .i64 0) (fun _ => 0)
    case atStart => rfl
    case round =>
      obtain rfl := hrel
      go_wp2
      go_ret
      exact ⟨rfl, HB2.out.alloc HB2.out.size _⟩
  · have HB2 := hide (hb1.trans (hb2.mono hb1.size))
    clear hb1 hb2 HA HB hz hrun hil hR
    go_wp2
    go_loop [8] (fun i => i = .int .i64 0) (fun _ => 0)
    case atStart => rfl
    case round =>
      obtain rfl := hrel
      go_wp2
      go_ret
      exact ⟨rfl, HB2.out.alloc HB2.out.size _⟩
  · have HB2 := hide (hb1.trans (hb2.mono hb1.size))
    have hs1 := hb1.size
    have hll := hrun.len
    have hl3 := (patE_ok hz).2.1
    obtain ⟨a1, k1, rfl⟩ := own_shape ho1
    obtain ⟨a2, k2, rfl⟩ := own_shape ho2
    have HRun := hide hrun
    have HO := hide (ho1.alloc (fauO 0 0))
    have hf := at_new w2 (fauO 0 0)
    have HF := hide hf
    obtain ⟨q, hq⟩ : ∃ q, q = L.length := ⟨_, rfl⟩
    have HQ := hide hq
    rw [← hq] at HO hll ⊢
    have hq3 : q ≤ 300 := by omega
    clear hb1 hb2 HA HB hz ho1 ho2 hf hrun hq hll hl3
    by_cases hd : d = 1
    · subst hd
      go_wp2
      go_loop [8] (fun i => i = .int .i64 0) (fun _ => 0)
      case atStart => rfl
      case round =>
        obtain rfl := hrel
        go_wp2
        all_goals
          go_ret
          exact ⟨rfl, HB2.out.alloc HB2.out.size _⟩
    · have hdb : (d != 1) = true := by simpa using hd
      have HG : Hid (∀ t ∈ L, greedy t) := fun t ht => by
        obtain ⟨j, k, hjk⟩ := HRun.out.mem t ht
        exact greedy_next hd hjk
      clear hd
      go_wp2
      go_loopw [8] (fun i wr => ∃ k : Nat, k ≤ q ∧ i = .int .i64 k ∧ wr.ownsRow w1.heap.size 24 8 (.slice a1 q k1) q (cells8 L) ∧ wr.heap[w2.heap.size]? = some (fauO 0 0) ∧ Below w.heap.size w wr) (fun i _ => q - (intOf i).toNat)
      case atStart => exact ⟨0, Nat.zero_le _, rfl, by rw [HQ.out] at HO ⊢; exact HO.out, HF.out, HB2.out.alloc HB2.out.size _⟩
      case round =>
        obtain ⟨k, hk, rfl, ho, hf, hb⟩ := hrel
        obtain ⟨c0, c1, fz⟩ := fau_cells hf
        have HO1 := hide ho
        have HF1 := hide hf
        have HB1 := hide hb
        by_cases hlt : k < q
        · have hkl : k < L.length := by have := HQ.out; omega
          obtain ⟨g, cp, hv⟩ := own_some ho (by omega)
          obtain ⟨rfl⟩ : a1 = some ⟨g, 0, none⟩ := by cases hv; rfl
          obtain ⟨t0, t1, t2, t3, t4, t5, t6, t7⟩ := tok_at ho HQ.out k hkl
          have hgr := HG.out L[k] (List.getElem_mem _)
          have e1 : (k : Int) < (q : Int) := by omega
          have e0 : (0 : Int) ≤ (k : Int) := by omega
          obtain ⟨t, ht⟩ : ∃ t, t = L[k] := ⟨_, rfl⟩
          rw [← ht] at t0 t1 t2 t3 t4 t5 t6 t7 hgr
          obtain ⟨kd, nm, tx, ng, ls, ms, wy, fo⟩ := t
          simp only at t0 t1 t2 t3 t4 t5 t6 t7
          simp only [greedy] at hgr
          obtain ⟨g6, g0, g7, g11⟩ := hgr
          subst g0
          clear ho hf hb ht hv
          by_cases h6 : kd = 6
          · subst h6
            have := g6 rfl
            subst this
            clear g6 g7 g11
            go_wp2
            go_roundw
            case rel => exact ⟨k + 1, by omega, by go_num, HO1.out.alloc _, at_old HF1.out, HB1.out.alloc HB1.out.size _⟩
            case measure => simp [intOf]; omega
          · have b6 : (kd == 6) = false := by simpa using h6
            have b11 : (kd == 11) = false := by simpa using g11
            by_cases h7 : kd = 7
            · subst h7
              obtain ⟨rfl, rfl⟩ := g7 rfl
              clear g6 g7 g11 h6 b6 b11
              go_wp2
              go_roundw
              case rel => exact ⟨k + 1, by omega, by go_num, HO1.out.alloc _, at_old HF1.out, HB1.out.alloc HB1.out.size _⟩
              case measure => simp [intOf]; omega
            · have b7 : (kd == 7) = false := by simpa using h7
              clear g6 g7 g11 h6 h7
              go_wp2
              go_roundw
              case rel => exact ⟨k + 1, by omega, by go_num, HO1.out.alloc _, at_old HF1.out, HB1.out.alloc HB1.out.size _⟩
              case measure => simp [intOf]; omega
        · have e1 : ¬ (k : Int) < (q : Int) := by omega
          clear ho hf hb
          go_wp2
          go_ret
          exact ⟨rfl, HB1.out⟩

end Go.Proofs.Ytlapnhjkhpgklaa
