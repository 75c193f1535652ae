/- Roads: what Along answers. -/
import Derived.Test.YtljankfhnmcbaaaGreatDoorKe
namespace Go.Proofs.YtljankfhnmcbaaaGreatDoor.SP
open Go.RowKit Go.PlainAid
set_option linter.unusedVariables false

def encB (enc : Int) : Bool := decide (1 ≤ enc ∧ enc ≤ 4)
def ShE (b : Bool) (e : Ending) : Prop := ∃ ao n c, e = .returned (.tuple #[.slice ao n c, .bool b])
theorem below_allocs {w w1 w2 : World} {o : Obj} (h : Below w.heap.size w w1) (e : w2 = w1.alloc o) : Below w.heap.size w w2 := by rw [e]; exact h.alloc h.size o
set_option maxRecDepth 100000 in
set_option maxHeartbeats 4000000 in
theorem shapesOf_any (enc : Int) (w : World) : Calls Tryz.prog 31 #[.int .i64 enc] w fun e w' => ShE (encB enc) e ∧ Below w.heap.size w w' := by
  by_cases h : 1 ≤ enc ∧ enc ≤ 4
  · rcases (by omega : enc = 1 ∨ enc = 2 ∨ enc = 3 ∨ enc = 4) with rfl | rfl | rfl | rfl <;>
      (clear h
       go_enter Tryz.func31, Tryz.ntmps31
       go_wp2
       go_ret2
       refine ⟨⟨_, _, _, rfl⟩, ?_⟩
       repeat' first | exact Below.refl _ _ | refine Below.alloc ?_ (by simp <;> omega) _)
  · have HE : Hid (encB enc = false) := by show _ = _; unfold encB; exact decide_eq_false h
    have b1 : (enc == 1) = false := by simp; omega
    have b2 : (enc == 2) = false := by simp; omega
    have b3 : (enc == 3) = false := by simp; omega
    have b4 : (enc == 4) = false := by simp; omega
    rw [HE.out]
    clear h HE
    go_enter Tryz.func31, Tryz.ntmps31
    go_wp2
    go_ret2
    exact ⟨⟨_, _, _, rfl⟩, Below.refl _ _⟩

/-- what Along answers. -/
def AlongR (enc : Int) (LL : List RL) (s : ByteArray) (a : Int) (n z : Int) : Prop :=
  (encB enc = false ∧ n = 0 ∧ z = 7) ∨ (encB enc = true ∧ LL.any noRd = true ∧ n = 0 ∧ z = 1) ∨
  (encB enc = true ∧ LL.any noRd = false ∧ (a < 0 ∨ (s.size : Int) < a) ∧ n = 0 ∧ z = 3) ∨
  (encB enc = true ∧ LL.any noRd = false ∧ 0 ≤ a ∧ a ≤ s.size ∧ z = 0 ∧
    ((∃ j, ∃ h : j < LL.length, GoesAt LL[j] s a.toNat ∧ (∀ i (hi : i < LL.length), i < j → ¬ GoesAt LL[i] s a.toNat) ∧ n = LL[j].length) ∨
     ((∀ i (hi : i < LL.length), ¬ GoesAt LL[i] s a.toNat) ∧ n = 0)))
def AlongE (enc : Int) (LL : List RL) (s : ByteArray) (a : Int) (e : Ending) : Prop := ∃ n z : Int, e = .returned (.tuple #[.int .i64 n, .int .i64 z]) ∧ AlongR enc LL s a n z
theorem bt_extract (s : ByteArray) (a i : Nat) (h : i < (s.extract a s.size).size) : bt (s.extract a s.size) i = bt s (a + i) := by
  have h2 : a + i < s.size := by rw [ByteArray.size_extract] at h; omega
  unfold bt
  rw [dif_pos h, dif_pos h2]
  have : (s.extract a s.size)[i]'h = s[a + i]'h2 := by
    simp [ByteArray.getElem_extract]
  rw [this]
theorem noRd_len {L : RL} (h : noRd L = false) : 1 ≤ L.length ∧ L.length ≤ 4 := by
  unfold noRd at h
  rw [Bool.or_eq_false_iff, Bool.or_eq_false_iff] at h
  have h1 := of_decide_eq_false h.1.1
  have h2 := of_decide_eq_false h.1.2
  omega
set_option maxRecDepth 100000 in
set_option maxHeartbeats 4000000 in
theorem along_any (enc : Int) (v : Value) (LL : List RL) (s : ByteArray) (a : Int) (w : World) (h : RdC w v LL) (hsz : s.size ≤ 9223372036854775807) : Calls Tryz.prog 17 #[.int .i64 enc, v, .string s, .int .i64 a] w fun e w' => AlongE enc LL s a e ∧ Below w.heap.size w w' := by
  have HSh := hide (shapesOf_any enc w)
  have HCt := hide (fun W (hW : Below w.heap.size w W) => containsRR_any v LL W (h.below hW))
  have HRd := hide h
  obtain ⟨ao, c, rfl, hl⟩ := h.shape
  obtain ⟨m, hm⟩ : ∃ m, m = LL.length := ⟨_, rfl⟩
  have HM := hide hm
  rw [← hm] at HCt HRd hl ⊢
  obtain ⟨b0, hb0⟩ : ∃ b0, b0 = encB enc := ⟨_, rfl⟩
  obtain ⟨b1, hb1⟩ : ∃ b1, b1 = LL.any noRd := ⟨_, rfl⟩
  have HB0 := hide hb0
  have HB1 := hide hb1
  rw [← hb0] at HSh
  rw [← hb1] at HCt
  clear h hm hb0 hb1
  go_enter Tryz.func17, Tryz.ntmps17
  go_wp2_with fail
  refine HSh.out.mono ?_
  rintro e w1 ⟨⟨so, sn, sc, rfl⟩, hbw1⟩
  have HW1 := hide hbw1
  clear hbw1 HSh
  cases b0 with
  | false =>
    go_wp2
    go_ret2
    exact ⟨⟨_, _, rfl, .inl ⟨HB0.out.symm, rfl, rfl⟩⟩, HW1.out⟩
  | true =>
    go_wp2_with fail
    refine (HCt.out w1 HW1.out).mono ?_
    rintro e w2 ⟨rfl, hbw2⟩
    have HW2 := hide (HW1.out.trans (hbw2.mono HW1.out.size))
    clear hbw2 HCt
    cases b1 with
    | true =>
      go_wp2
      go_ret2
      exact ⟨⟨_, _, rfl, .inr (.inl ⟨HB0.out.symm, HB1.out.symm, rfl, rfl⟩)⟩, HW2.out⟩
    | false =>
      by_cases ha0 : a < 0
      · go_wp2
        go_ret2
        exact ⟨⟨_, _, rfl, .inr (.inr (.inl ⟨HB0.out.symm, HB1.out.symm, .inl ha0, rfl, rfl⟩))⟩, HW2.out⟩
      · have c0 : decide (a < 0) = false := decide_eq_false ha0
        by_cases ha1 : (s.size : Int) < a
        · go_wp2
          go_ret2
          exact ⟨⟨_, _, rfl, .inr (.inr (.inl ⟨HB0.out.symm, HB1.out.symm, .inr ha1, rfl, rfl⟩))⟩, HW2.out⟩
        · have c1 : decide ((s.size : Int) < a) = false := decide_eq_false ha1
          obtain ⟨k, rfl⟩ : ∃ k : Nat, a = k := ⟨a.toNat, by omega⟩
          have hks : k ≤ s.size := by omega
          have e9 : (k : Int) ≤ (s.size : Int) := by omega
          have e10 : (0 : Int) ≤ (k : Int) := by omega
          obtain ⟨t, ht⟩ : ∃ t, t = s.extract k s.size := ⟨_, rfl⟩
          have hts : k + t.size = s.size := by rw [ht, ByteArray.size_extract]; omega
          have htb : ∀ i, i < t.size → bt t i = bt s (k + i) := fun i hi => by
            have := bt_extract s k i (by rw [← ht]; exact hi)
            rw [← ht] at this
            exact this
          have HGo : Hid (∀ W u (L : RL), Reads W u L → L.length ≤ 4 → Calls Tryz.prog 50 #[u, .string t] W fun e w' => GoE L s k e ∧ Below W.heap.size W w') := fun W u L hu hL => goesAlong_any u L s t k W hu hL hts htb
          have hsl : ∀ W, (Instr.sliceAt 9 (.string s) (some (.int .i64 (k : Int))) none none).run Tryz.prog W = .ok (.string t) W := fun W => by
            rw [ht, run_sliceAt_string W 9 _ _ _ _ Tryz.underlying9]
            have := run_slice_string_l (P := Tryz.prog) (w := W) (t := 9) (s := s) Tryz.underlying9 .i64 (k : Int) e10 e9
            simpa using this
          have HHk := hide hks
          have c2 : decide (s.size < k) = false := decide_eq_false (by omega)
          have c3 : ¬ s.size < k := by omega
          subst ht
          clear hsl
          clear hts htb hks ha0 ha1
          go_wp2
          go_loopw [33] (fun q wr => ∃ (j : Nat), j ≤ m ∧ q = .int .i64 j ∧ (∀ i (hi : i < LL.length), i < j → ¬ GoesAt LL[i] s k) ∧ Below w.heap.size w wr) (fun q _ => m - (intOf q).toNat)
          case atStart => exact ⟨0, Nat.zero_le _, rfl, fun i _ h => absurd h (by omega), HW2.out⟩
          case round =>
            obtain ⟨j, hj, rfl, hne, hb⟩ := hrel
            obtain ⟨w3, hw3⟩ : ∃ w3, w3 = wr := ⟨_, rfl⟩
            subst hw3
            have HN := hide hne
            have HB := hide hb
            clear hne hb HW1 HW2
            by_cases hlt : j < m
            · have hjL : j < LL.length := by have := HM.out; omega
              have hnr : noRd LL[j] = false := by
                have := HB1.out.symm
                rw [List.any_eq_false] at this
                simpa using this LL[j] (List.getElem_mem hjL)
              have hln := noRd_len hnr
              obtain ⟨x, u, hao, hu, hru⟩ : ∃ x u, ao = some x ∧ w3.cell? (x.add (j * 1)) = some u ∧ Reads w3 u LL[j] := by
                rcases HRd.out.below HB.out with ⟨_, h0⟩ | ⟨x, c', h1, h2, h3⟩
                · rw [h0] at hjL; simp at hjL
                · injection h1 with h1
                  obtain ⟨u, a1, a2, a3⟩ := h3 j hjL
                  exact ⟨x, u, h1, a1, a2⟩
              subst hao
              have HC := hide (HGo.out w3 u LL[j] hru hln.2)
              have HY : Hid (GoesAt LL[j] s k → AlongR enc LL s k LL[j].length 0) := fun hh => .inr (.inr (.inr ⟨HB0.out.symm, HB1.out.symm, by omega, by omega, rfl, .inl ⟨j, hjL, hh, HN.out, rfl⟩⟩))
              have HNo : Hid (¬ GoesAt LL[j] s k → ∀ i (hi : i < LL.length), i < j + 1 → ¬ GoesAt LL[i] s k) := fun hh i hi hij => by
                by_cases e : i = j
                · subst e; exact hh
                · exact HN.out i hi (by omega)
              obtain ⟨uo, uc, rfl⟩ := hru.shape
              obtain ⟨um, hum⟩ : ∃ um, um = LL[j].length := ⟨_, rfl⟩
              rw [Nat.mul_one] at hu
              rw [← hum] at HC hu HY
              have e5 : (j : Int) < (m : Int) := by omega
              have e6 : (0 : Int) ≤ (j : Int) := by omega
              have hkw : IntKind.i64.wrap ((j : Int) + 1) = (j : Int) + 1 := by rw [IntKind.wrap_i64]; omega
              clear hnr hln hru hum
              go_wp2_with fail
              refine HC.out.mono ?_
              rintro e w4 ⟨⟨bb, rfl, hbb⟩, hb4⟩
              have HB4 := hide (HB.out.trans (hb4.mono HB.out.size))
              have HBB := hide hbb
              clear hb4 HC hu hbb
              cases bb with
              | true =>
                have HYY := hide (HY.out (HBB.out.1 rfl))
                clear HY HNo HBB
                go_wp2
                go_ret2
                exact ⟨⟨_, _, rfl, HYY.out⟩, HB4.out⟩
              | false =>
                have HNN := hide (HNo.out (fun hh => by have := HBB.out.2 hh; exact absurd this (by decide)))
                clear HY HNo HBB
                go_wp2
                go_roundw
                case rel => exact ⟨j + 1, by omega, by go_num, HNN.out, HB4.out⟩
                case measure => simp [intOf]; omega
            · have e5 : ¬ (j : Int) < (m : Int) := by omega
              have HF : Hid (AlongR enc LL s k 0 0) := .inr (.inr (.inr ⟨HB0.out.symm, HB1.out.symm, by omega, by omega, rfl, .inr ⟨fun i hi => HN.out i hi (by have := HM.out; omega), rfl⟩⟩))
              clear HN
              go_wp2
              go_ret2
              exact ⟨⟨_, _, rfl, HF.out⟩, HB.out⟩

end Go.Proofs.YtljankfhnmcbaaaGreatDoor.SP
