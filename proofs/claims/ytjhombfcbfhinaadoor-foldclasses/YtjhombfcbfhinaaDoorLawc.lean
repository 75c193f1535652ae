/- The law FoldClasses returns true, where the table of letters lies in memory. -/
import Derived.Test.YtjhombfcbfhinaaDoorRanges
namespace Go.Proofs.YtjhombfcbfhinaaDoor
open Go.RowKit
set_option linter.unusedVariables false

set_option maxHeartbeats 1000000 in
theorem classOf_any (s : ByteArray) (hs : s ∈ names) (w : World) :
    Calls Tryd.prog 18 #[.string s] w fun e w' => ∃ v, e = .returned v ∧ w'.ownsRow w.heap.size 49 2 v (clsOf s).length (cells2 (clsOf s)) ∧ Below w.heap.size w w' := by
  have H := hide (ranges_any s hs w.heap.size (w.alloc (.cells #[.string s] 9)) (heap_alloc_new w _))
  have hmf : ∀ (fn : Fn) (first cap : Array Value) (w : World), (Instr.makeFunc fn first cap).run Tryd.prog w = .ok (.func fn first cap) w := fun _ _ _ _ => rfl
  clear hs
  go_enter Tryd.func18, Tryd.ntmps18
  go_wp2_with fail
  refine H.out.mono ?_
  rintro e w1 ⟨v, rfl, ho, hb⟩
  have ho2 : w1.ownsRow w.heap.size 49 2 v (clsOf s).length (cells2 (clsOf s)) := own_base ho (by simp)
  have hb2 : Below w.heap.size w w1 := ((Below.refl _ w).alloc (Nat.le_refl _) _).trans (hb.mono (by simp))
  obtain ⟨ao, c, hv⟩ := own_shape ho2
  have HO := hide ho2
  rw [hv] at HO
  rw [hv]
  clear hv ho ho2 hb
  go_wp2
  go_ret
  exact ⟨_, rfl, HO.out, hb2⟩

set_option maxHeartbeats 1000000 in
theorem sameSet_yes (L : List (Int × Int)) (g h ca cb : Nat) (hl : L.length ≤ 4000) (w : World) (ha : ∀ k (hk : k < L.length), w.cell? ⟨g, k * 2, none⟩ = some (.int .i64 L[k].1) ∧ w.cell? ⟨g, k * 2 + 1, none⟩ = some (.int .i64 L[k].2)) (hb : ∀ k (hk : k < L.length), w.cell? ⟨h, k * 2, none⟩ = some (.int .i64 L[k].1) ∧ w.cell? ⟨h, k * 2 + 1, none⟩ = some (.int .i64 L[k].2)) :
    Calls Tryd.prog 17 #[.slice (some ⟨g, 0, none⟩) L.length ca, .slice (some ⟨h, 0, none⟩) L.length cb] w fun e w' => e = .returned (.bool true) ∧ ∃ q, w' = w.drewN q := by
  have HA := hide ha
  have HB := hide hb
  clear ha hb
  obtain ⟨n, hn⟩ : ∃ n, n = L.length := ⟨_, rfl⟩
  rw [← hn] at hl ⊢
  have HN := hide hn
  clear hn
  go_enter Tryd.func17, Tryd.ntmps17
  go_wp2
  go_loopw [5] (fun i wr => ∃ k q : Nat, k ≤ n ∧ i = .int .i64 k ∧ wr = w.drewN q) (fun i _ => n - (intOf i).toNat)
  case atStart => exact ⟨0, 0, Nat.zero_le _, rfl, rfl⟩
  case round =>
    obtain ⟨k, q, hk, rfl, hw⟩ := hrel
    have HW := hide hw
    by_cases hlt : k < n
    · have hkL : k < L.length := by have := HN.out; omega
      obtain ⟨a1, a2⟩ := HA.out k hkL
      obtain ⟨b1, b2⟩ := HB.out k hkL
      obtain ⟨x, hx⟩ : ∃ x, x = L[k] := ⟨_, rfl⟩
      rw [← hx] at a1 a2 b1 b2
      obtain ⟨x1, x2⟩ := x
      have c1 : wr.cell? ⟨g, k * 2, none⟩ = some (.int .i64 x1) := by rw [hw]; exact a1
      have c2 : wr.cell? ⟨g, k * 2 + 1, none⟩ = some (.int .i64 x2) := by rw [hw]; exact a2
      have d1 : wr.cell? ⟨h, k * 2, none⟩ = some (.int .i64 x1) := by rw [hw]; exact b1
      have d2 : wr.cell? ⟨h, k * 2 + 1, none⟩ = some (.int .i64 x2) := by rw [hw]; exact b2
      have e1 : (k : Int) < (n : Int) := by omega
      have e0 : (0 : Int) ≤ (k : Int) := by omega
      clear hx hw a1 a2 b1 b2
      go_wp2
      go_quiet (fail)
      go_wp2
      go_roundw
      case rel => obtain ⟨q2, hq2⟩ := drewN_plus HW.out nq; exact ⟨k + 1, q2, by omega, by go_num, hq2⟩
      case measure => simp [intOf]; omega
    · clear hw
      go_wp2
      go_ret
      exact ⟨rfl, _, HW.out⟩

set_option maxHeartbeats 2000000 in
theorem foldClasses_walk (s : ByteArray) (w : World) (hT : Tab w) (hpos : 0 < w.heap.size) :
    Calls Tryd.prog 4 #[.string s] w fun e w' => e = .returned (.bool true) ∧ Below w.heap.size w w' := by
  have HB : Hid (∀ w1, Below w.heap.size w w1 → Calls Tryd.prog 12 #[] w1 fun e w' => e = .returned (.bool true) ∧ Below w1.heap.size w1 w') := fun w1 hb => begun_any w1 (hT.below hb hpos) (Nat.lt_of_lt_of_le hpos hb.size)
  have HN := hide (isClass_any s)
  clear hT hpos
  by_cases hs : s ∈ names
  · rw [(isName_iff s).2 hs] at HN
    have HC := hide (fun w => Class_some s w hs)
    have HK := hide (classOf_any s hs)
    have hlen := cls_len s hs
    obtain ⟨L, hL⟩ : ∃ L, L = clsOf s := ⟨_, rfl⟩
    rw [← hL] at HC HK hlen
    obtain ⟨l1, l2⟩ := hlen
    clear hL hs
    go_enter Tryd.func4, Tryd.ntmps4
    go_wp2_with fail
    refine (HC.out _).mono ?_
    rintro e w1 ⟨v, rfl, ho1, hb1⟩
    obtain ⟨g, c, rfl⟩ := own_some ho1 l1
    have HO1 := hide ho1
    clear ho1
    go_wp2_with fail
    refine (HN.out _).mono ?_
    rintro e w2 ⟨rfl, hb2⟩
    have hc2 := hb1.trans (hb2.mono hb1.size)
    go_wp2_with fail
    refine (HB.out _ hc2).mono ?_
    rintro e w3 ⟨rfl, hb3⟩
    have hc3 := hc2.trans (hb3.mono hc2.size)
    go_wp2_with fail
    refine (HK.out _).mono ?_
    rintro e w4 ⟨v4, rfl, ho4, hb4⟩
    have hc4 := hc3.trans (hb4.mono hc3.size)
    obtain ⟨g4, c4, rfl⟩ := own_some ho4 l1
    have HS := hide (sameSet_yes L g g4 c c4 (by omega) w4 (own_cell49 (own_below (own_below (own_below HO1.out hb2) hb3) hb4)) (own_cell49 ho4))
    clear ho4 hb1 hb2 hb3 hb4 hc2 hc3
    go_wp2_with fail
    refine HS.out.mono ?_
    rintro e w5 ⟨rfl, q, hq⟩
    have hc5 : Below w.heap.size w w5 := by rw [hq]; exact below_drewN hc4 _
    clear hq
    go_wp2
    go_ret
    exact ⟨rfl, hc5⟩
  · rw [isName_no hs] at HN
    have HC := hide (fun w => Class_none s w hs)
    clear hs
    go_enter Tryd.func4, Tryd.ntmps4
    go_wp2_with fail
    refine (HC.out _).mono ?_
    rintro e w1 ⟨rfl, hb1⟩
    go_wp2_with fail
    refine (HN.out _).mono ?_
    rintro e w2 ⟨rfl, hb2⟩
    have hc2 := hb1.trans (hb2.mono hb1.size)
    go_wp2_with fail
    refine (HB.out _ hc2).mono ?_
    rintro e w3 ⟨rfl, hb3⟩
    have hc3 := hc2.trans (hb3.mono hc2.size)
    go_wp2
    go_ret
    exact ⟨rfl, hc3⟩

end Go.Proofs.YtjhombfcbfhinaaDoor
