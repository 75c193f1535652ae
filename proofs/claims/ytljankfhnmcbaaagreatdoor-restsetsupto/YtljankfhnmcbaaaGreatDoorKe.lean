/- Roads: what isNoRoad, goesAlong and their like answer. -/
import Derived.Test.YtljankfhnmcbaaaGreatDoorSbase
import Derived.Deep.Cut
import Derived.PlainAid
import Derived.Laws.DeepStrings4
namespace Go.Proofs.YtljankfhnmcbaaaGreatDoor.SP
open Go.RowKit
set_option linter.unusedVariables false

theorem at_newS (w : World) (o : Obj) : (w.alloc o).heap[w.heap.size]? = some o := heap_alloc_new w o
/-- some roads in memory. -/
def RdC (w : World) (v : Value) (L : List RL) : Prop := (v = .slice none 0 0 ∧ L = []) ∨ ∃ x c, v = .slice (some x) L.length c ∧ (L.length ≤ c ∧ c ≤ 9223372036854775807) ∧ ∀ j (h : j < L.length), ∃ u, w.cell? (x.add (j * 1)) = some u ∧ Reads w u L[j] ∧ L[j].length ≤ 9223372036854775807
theorem RdC.below {w w' : World} {v : Value} {L : List RL} (h : RdC w v L) (hb : Below w.heap.size w w') : RdC w' v L := by
  rcases h with h | ⟨x, c, h1, h2, h3⟩
  · exact .inl h
  · refine .inr ⟨x, c, h1, h2, fun j hj => ?_⟩
    obtain ⟨u, hu, hr, hl⟩ := h3 j hj
    exact ⟨u, below_cell hb (lt_of_cell hu) hu, hr.below hb, hl⟩
theorem RdC.shape {w : World} {v : Value} {L : List RL} (h : RdC w v L) : ∃ ao c, v = .slice ao L.length c ∧ L.length ≤ 9223372036854775807 := by
  rcases h with ⟨rfl, rfl⟩ | ⟨x, c, rfl, h, _⟩
  · exact ⟨_, _, rfl, by simp⟩
  · exact ⟨_, _, rfl, by omega⟩
/-- no range of bytes. -/
def badR (r : Int × Int) : Bool := decide (r.1 < 0) || decide (255 < r.2) || decide (r.2 < r.1)
/-- no road. -/
def noRd (L : RL) : Bool := decide (L.length < 1) || decide (4 < L.length) || L.any badR
abbrev rgOS (a b : Int) : Obj := .cells #[.int .i64 a, .int .i64 b] 25
theorem rg_cellsS {w : World} {k : Nat} {a b : Int} (h : w.heap[k]? = some (rgOS a b)) : w.cell? ⟨k, 0, none⟩ = some (.int .i64 a) ∧ w.cell? ⟨k, 1, none⟩ = some (.int .i64 b) := by
  constructor <;> simp [World.cell?, h]
set_option maxRecDepth 100000 in
set_option maxHeartbeats 1000000 in
theorem noRoad1_any (a b : Int) (w : World) : Calls Tryz.prog 72 #[.agg #[.int .i64 a, .int .i64 b]] w fun e w' => e = .returned (.bool (badR (a, b))) ∧ Below w.heap.size w w' := by
  obtain ⟨w1, hw1⟩ : ∃ w1, w1 = w.alloc (rgOS a b) := ⟨_, rfl⟩
  have hX1 : w1.heap[w.heap.size]? = some (rgOS a b) := by rw [hw1]; exact at_newS _ _
  have HB1 : Hid (Below w.heap.size w w1) := by show Below _ _ _; rw [hw1]; exact (Below.refl _ w).alloc (Nat.le_refl _) _
  obtain ⟨d0, d1⟩ := rg_cellsS hX1
  have HE : Hid (badR (a, b) = (decide (a < 0) || decide (255 < b) || decide (b < a))) := rfl
  rw [HE.out]
  simp only [rgOS] at hw1
  clear hX1 HE
  by_cases h1 : a < 0
  · rw [decide_eq_true h1]
    go_enter Tryz.func72, Tryz.ntmps72
    go_upto_region 1 with fail
    rw [← hw1]
    clear hw1
    go_wp2
    go_ret
    exact ⟨rfl, HB1.out⟩
  · have b1 : decide (a < 0) = false := decide_eq_false h1
    rw [b1]
    by_cases h2 : 255 < b
    · rw [decide_eq_true h2]
      go_enter Tryz.func72, Tryz.ntmps72
      go_upto_region 1 with fail
      rw [← hw1]
      clear hw1
      go_wp2
      go_ret
      exact ⟨rfl, HB1.out⟩
    · have b2 : decide (255 < b) = false := decide_eq_false h2
      rw [b2]
      go_enter Tryz.func72, Tryz.ntmps72
      go_upto_region 1 with fail
      rw [← hw1]
      clear hw1
      go_wp2
      go_ret
      exact ⟨by simp, HB1.out⟩
def IdxS (b : Bool) (e : Ending) : Prop := ∃ z : Int, e = .returned (.int .i64 z) ∧ decide (z ≥ 0) = b
set_option maxRecDepth 100000 in
set_option maxHeartbeats 2000000 in
theorem indexR_any (v : Value) (L : RL) (w : World) (h : Reads w v L) (hl : L.length ≤ 9223372036854775807) : Calls Tryz.prog 91 #[v, .func (.func 72) #[] #[]] w fun e w' => IdxS (L.any badR) e ∧ Below w.heap.size w w' := by
  obtain ⟨ao, c, rfl⟩ := h.shape
  obtain ⟨m, hm⟩ : ∃ m, m = L.length := ⟨_, rfl⟩
  have HM := hide hm
  have HR := hide h
  rw [← hm] at HR hl ⊢
  clear hm h
  go_enter Tryz.func91, Tryz.ntmps91
  go_wp2
  go_loopw [8] (fun t wr => ∃ (j : Nat), j ≤ m ∧ t = .int .i64 j ∧ (∀ i (hi : i < L.length), i < j → badR L[i] = false) ∧ Below w.heap.size w wr) (fun t _ => m - (intOf t).toNat)
  case atStart => exact ⟨0, Nat.zero_le _, rfl, fun i _ h => absurd h (by omega), Below.refl _ _⟩
  case round =>
    obtain ⟨j, hj, rfl, hne, hb⟩ := hrel
    obtain ⟨w2, hw2⟩ : ∃ w2, w2 = wr := ⟨_, rfl⟩
    subst hw2
    have HN := hide hne
    have HB := hide hb
    clear hne hb
    by_cases hlt : j < m
    · have hjL : j < L.length := by have := HM.out; omega
      obtain ⟨x, hao, hcl⟩ : ∃ x, ao = some x ∧ Cells2 w x L := by
        rcases HR.out with ⟨_, h0⟩ | ⟨x, c', h1, h2⟩
        · rw [h0] at hjL; simp at hjL
        · injection h1 with h1; exact ⟨x, h1, h2⟩
      subst hao
      obtain ⟨m0, m1⟩ := hcl.below HB.out j hjL
      have HT : Hid (badR L[j] = true → L.any badR = true) := fun h => List.any_eq_true.2 ⟨L[j], List.getElem_mem hjL, h⟩
      have HF : Hid (badR L[j] = false → ∀ i (hi : i < L.length), i < j + 1 → badR L[i] = false) := fun h i hi hij => by
        by_cases e : i = j
        · subst e; exact h
        · exact HN.out i hi (by omega)
      obtain ⟨r, hr⟩ : ∃ r, r = L[j] := ⟨_, rfl⟩
      rw [← hr] at m0 m1 HT HF
      obtain ⟨a, b⟩ := r
      simp only at m0 m1
      have HC := hide (noRoad1_any a b w2)
      obtain ⟨z, hz⟩ : ∃ z, z = badR (a, b) := ⟨_, rfl⟩
      rw [← hz] at HC HT HF
      have e1 : (j : Int) < (m : Int) := by omega
      have e0 : (0 : Int) ≤ (j : Int) := by omega
      have hjw : IntKind.i64.wrap ((j : Int) + 1) = (j : Int) + 1 := by rw [IntKind.wrap_i64]; omega
      clear hcl hr hz hjL
      cases z with
      | true =>
        have HTT := hide (HT.out rfl)
        clear HT HF
        go_wp2_with fail
        refine HC.out.mono ?_
        rintro e w3 ⟨rfl, hb3⟩
        have HB3 := hide (HB.out.trans (hb3.mono HB.out.size))
        clear hb3 HC m0 m1
        go_wp2
        go_ret
        exact ⟨⟨_, rfl, by rw [HTT.out]; simp⟩, HB3.out⟩
      | false =>
        have HFF := hide (HF.out rfl)
        clear HT HF
        go_wp2_with fail
        refine HC.out.mono ?_
        rintro e w3 ⟨rfl, hb3⟩
        have HB3 := hide (HB.out.trans (hb3.mono HB.out.size))
        clear hb3 HC m0 m1
        go_wp2
        go_roundw
        case rel => exact ⟨j + 1, by omega, by go_num, HFF.out, HB3.out⟩
        case measure => simp [intOf]; omega
    · have e1 : ¬ (j : Int) < (m : Int) := by omega
      have HC : Hid (L.any badR = false) := by
        show _ = _
        rw [Bool.eq_false_iff]
        intro h
        obtain ⟨r, hr, hh⟩ := List.any_eq_true.1 h
        obtain ⟨i, hi, rfl⟩ := List.mem_iff_getElem.1 hr
        rw [HN.out i hi (by have := HM.out; omega)] at hh
        exact absurd hh (by decide)
      clear HN
      go_wp2
      go_ret
      exact ⟨⟨_, rfl, by rw [HC.out]; decide⟩, HB.out⟩
set_option maxRecDepth 100000 in
set_option maxHeartbeats 2000000 in
theorem containsR_any (v : Value) (L : RL) (w : World) (h : Reads w v L) (hl : L.length ≤ 9223372036854775807) : Calls Tryz.prog 71 #[v, .func (.func 72) #[] #[]] w fun e w' => e = .returned (.bool (L.any badR)) ∧ Below w.heap.size w w' := by
  have HC := hide (indexR_any v L w h hl)
  obtain ⟨ao, c, rfl⟩ := h.shape
  obtain ⟨b, hb⟩ : ∃ b, b = L.any badR := ⟨_, rfl⟩
  rw [← hb] at HC ⊢
  clear h hb hl
  go_enter Tryz.func71, Tryz.ntmps71
  go_wp2_with fail
  refine HC.out.mono ?_
  rintro e w' ⟨⟨z, rfl, hz⟩, hb'⟩
  have HZ : Hid (decide (0 ≤ z) = b) := hz
  have HB := hide hb'
  clear hz hb' HC
  go_wp2
  go_ret
  exact ⟨by rw [← HZ.out]; rfl, HB.out⟩
set_option maxRecDepth 100000 in
set_option maxHeartbeats 2000000 in
theorem noRoad_any (v : Value) (L : RL) (w : World) (h : Reads w v L) (hl : L.length ≤ 9223372036854775807) : Calls Tryz.prog 49 #[v] w fun e w' => e = .returned (.bool (noRd L)) ∧ Below w.heap.size w w' := by
  have HC := hide (containsR_any v L w h hl)
  obtain ⟨ao, c, rfl⟩ := h.shape
  have HE : Hid (noRd L = (decide (L.length < 1) || decide (4 < L.length) || L.any badR)) := rfl
  rw [HE.out]
  obtain ⟨b, hb⟩ : ∃ b, b = L.any badR := ⟨_, rfl⟩
  rw [← hb] at HC ⊢
  obtain ⟨m, hm⟩ : ∃ m, m = L.length := ⟨_, rfl⟩
  rw [← hm] at HC hl ⊢
  clear h hb hm HE
  by_cases h1 : m < 1
  · rw [decide_eq_true h1]
    have e1 : (m : Int) < 1 := by omega
    have e2 : decide ((m : Int) < 1) = true := decide_eq_true e1
    have hm0 : m = 0 := by omega
    subst hm0
    clear e1 e2 h1
    go_enter Tryz.func49, Tryz.ntmps49
    go_wp2
    go_ret
    exact ⟨rfl, Below.refl _ _⟩
  · rw [decide_eq_false h1]
    have e1 : ¬ (m : Int) < 1 := by omega
    have e2 : decide ((m : Int) < 1) = false := decide_eq_false e1
    by_cases h4 : 4 < m
    · rw [decide_eq_true h4]
      have e3 : (4 : Int) < (m : Int) := by omega
      clear h1
      go_enter Tryz.func49, Tryz.ntmps49
      go_wp2
      go_ret
      exact ⟨rfl, Below.refl _ _⟩
    · rw [decide_eq_false h4]
      have e3 : ¬ (4 : Int) < (m : Int) := by omega
      have e4 : decide ((4 : Int) < (m : Int)) = false := decide_eq_false e3
      clear h1
      go_enter Tryz.func49, Tryz.ntmps49
      go_wp2_with fail
      refine HC.out.mono ?_
      rintro e w' ⟨rfl, hb'⟩
      have HB := hide hb'
      clear hb' HC
      go_wp2
      go_ret
      exact ⟨by first | rfl | simp, HB.out⟩

end Go.Proofs.YtljankfhnmcbaaaGreatDoor.SP

namespace Go.Proofs.YtljankfhnmcbaaaGreatDoor.SP
open Go.RowKit Go.PlainAid
set_option linter.unusedVariables false

set_option maxRecDepth 100000 in
set_option maxHeartbeats 2000000 in
theorem indexRR_any (v : Value) (L : List RL) (w : World) (h : RdC w v L) : Calls Tryz.prog 70 #[v, .func (.func 49) #[] #[]] w fun e w' => IdxS (L.any noRd) e ∧ Below w.heap.size w w' := by
  obtain ⟨ao, c, rfl, hl⟩ := h.shape
  obtain ⟨m, hm⟩ : ∃ m, m = L.length := ⟨_, rfl⟩
  have HM := hide hm
  have HR := hide h
  rw [← hm] at HR hl ⊢
  clear hm h
  go_enter Tryz.func70, Tryz.ntmps70
  go_wp2
  go_loopw [8] (fun t wr => ∃ (j : Nat), j ≤ m ∧ t = .int .i64 j ∧ (∀ i (hi : i < L.length), i < j → noRd L[i] = false) ∧ Below w.heap.size w wr) (fun t _ => m - (intOf t).toNat)
  case atStart => exact ⟨0, Nat.zero_le _, rfl, fun i _ h => absurd h (by omega), Below.refl _ _⟩
  case round =>
    obtain ⟨j, hj, rfl, hne, hb⟩ := hrel
    obtain ⟨w2, hw2⟩ : ∃ w2, w2 = wr := ⟨_, rfl⟩
    subst hw2
    have HN := hide hne
    have HB := hide hb
    clear hne hb
    by_cases hlt : j < m
    · have hjL : j < L.length := by have := HM.out; omega
      obtain ⟨x, u, hao, hu, hru, hlu⟩ : ∃ x u, ao = some x ∧ w2.cell? (x.add (j * 1)) = some u ∧ Reads w2 u L[j] ∧ L[j].length ≤ 9223372036854775807 := by
        rcases HR.out.below HB.out with ⟨_, h0⟩ | ⟨x, c', h1, h2, h3⟩
        · rw [h0] at hjL; simp at hjL
        · injection h1 with h1
          obtain ⟨u, a1, a2, a3⟩ := h3 j hjL
          exact ⟨x, u, h1, a1, a2, a3⟩
      subst hao
      have HT : Hid (noRd L[j] = true → L.any noRd = true) := fun h => List.any_eq_true.2 ⟨L[j], List.getElem_mem hjL, h⟩
      have HF : Hid (noRd L[j] = false → ∀ i (hi : i < L.length), i < j + 1 → noRd L[i] = false) := fun h i hi hij => by
        by_cases e : i = j
        · subst e; exact h
        · exact HN.out i hi (by omega)
      have HC := hide (noRoad_any u L[j] w2 hru hlu)
      obtain ⟨z, hz⟩ : ∃ z, z = noRd L[j] := ⟨_, rfl⟩
      rw [← hz] at HC HT HF
      obtain ⟨uo, uc, rfl⟩ := hru.shape
      obtain ⟨um, hum⟩ : ∃ um, um = L[j].length := ⟨_, rfl⟩
      rw [← hum] at HC hu
      rw [Nat.mul_one] at hu
      have e1 : (j : Int) < (m : Int) := by omega
      have e0 : (0 : Int) ≤ (j : Int) := by omega
      have hjw : IntKind.i64.wrap ((j : Int) + 1) = (j : Int) + 1 := by rw [IntKind.wrap_i64]; omega
      clear hru hlu hz hum hjL
      cases z with
      | true =>
        have HTT := hide (HT.out rfl)
        clear HT HF
        go_wp2_with fail
        refine HC.out.mono ?_
        rintro e w3 ⟨rfl, hb3⟩
        have HB3 := hide (HB.out.trans (hb3.mono HB.out.size))
        clear hb3 HC hu
        go_wp2
        go_ret
        exact ⟨⟨_, rfl, by rw [HTT.out]; simp⟩, HB3.out⟩
      | false =>
        have HFF := hide (HF.out rfl)
        clear HT HF
        go_wp2_with fail
        refine HC.out.mono ?_
        rintro e w3 ⟨rfl, hb3⟩
        have HB3 := hide (HB.out.trans (hb3.mono HB.out.size))
        clear hb3 HC hu
        go_wp2
        go_roundw
        case rel => exact ⟨j + 1, by omega, by go_num, HFF.out, HB3.out⟩
        case measure => simp [intOf]; omega
    · have e1 : ¬ (j : Int) < (m : Int) := by omega
      have HC : Hid (L.any noRd = false) := by
        show _ = _
        rw [Bool.eq_false_iff]
        intro h
        obtain ⟨r, hr, hh⟩ := List.any_eq_true.1 h
        obtain ⟨i, hi, rfl⟩ := List.mem_iff_getElem.1 hr
        rw [HN.out i hi (by have := HM.out; omega)] at hh
        exact absurd hh (by decide)
      clear HN
      go_wp2
      go_ret
      exact ⟨⟨_, rfl, by rw [HC.out]; decide⟩, HB.out⟩
set_option maxRecDepth 100000 in
set_option maxHeartbeats 2000000 in
theorem containsRR_any (v : Value) (L : List RL) (w : World) (h : RdC w v L) : Calls Tryz.prog 48 #[v, .func (.func 49) #[] #[]] w fun e w' => e = .returned (.bool (L.any noRd)) ∧ Below w.heap.size w w' := by
  have HC := hide (indexRR_any v L w h)
  obtain ⟨ao, c, rfl, _⟩ := h.shape
  obtain ⟨b, hb⟩ : ∃ b, b = L.any noRd := ⟨_, rfl⟩
  rw [← hb] at HC ⊢
  clear h hb
  go_enter Tryz.func48, Tryz.ntmps48
  go_wp2_with fail
  refine HC.out.mono ?_
  rintro e w' ⟨⟨z, rfl, hz⟩, hb'⟩
  have HZ : Hid (decide (0 ≤ z) = b) := hz
  have HB := hide hb'
  clear hz hb' HC
  go_wp2
  go_ret
  exact ⟨by rw [← HZ.out]; rfl, HB.out⟩

/-- the bytes from a on go along a road. -/
def GoesAt (L : RL) (s : ByteArray) (a : Nat) : Prop := a + L.length ≤ s.size ∧ ∀ i (h : i < L.length), L[i].1 ≤ bt s (a + i) ∧ bt s (a + i) ≤ L[i].2
/-- what goesAlong answers. -/
def GoE (L : RL) (s : ByteArray) (a : Nat) (e : Ending) : Prop := ∃ b : Bool, e = .returned (.bool b) ∧ (b = true ↔ GoesAt L s a)
set_option maxRecDepth 100000 in
set_option maxHeartbeats 4000000 in
theorem goesAlong_any (v : Value) (L : RL) (s t : ByteArray) (a : Nat) (w : World) (h : Reads w v L) (hl : L.length ≤ 4) (hs : a + t.size = s.size) (ht : ∀ i, i < t.size → bt t i = bt s (a + i)) : Calls Tryz.prog 50 #[v, .string t] w fun e w' => GoE L s a e ∧ Below w.heap.size w w' := by
  have hg := get_bt t
  obtain ⟨ao, c, rfl⟩ := h.shape
  obtain ⟨m, hm⟩ : ∃ m, m = L.length := ⟨_, rfl⟩
  have HM := hide hm
  have HR := hide h
  have HS := hide hs
  have HT := hide ht
  rw [← hm] at HR hl ⊢
  clear hm h hs ht
  by_cases h1 : t.size < m
  · have HF : Hid (¬ GoesAt L s a) := fun hh => by have := hh.1; have := HM.out; have := HS.out; omega
    have e1 : (t.size : Int) < (m : Int) := by omega
    clear hg
    go_enter Tryz.func50, Tryz.ntmps50
    go_wp2
    go_ret
    exact ⟨⟨false, rfl, by simp [HF.out]⟩, Below.refl _ _⟩
  · have e1 : ¬ (t.size : Int) < (m : Int) := by omega
    go_enter Tryz.func50, Tryz.ntmps50
    go_wp2
    go_loopw [15] (fun q wr => ∃ (j : Nat), j ≤ m ∧ q = .int .i64 j ∧ (∀ i (h : i < L.length), i < j → L[i].1 ≤ bt s (a + i) ∧ bt s (a + i) ≤ L[i].2) ∧ Below w.heap.size w wr) (fun q _ => m - (intOf q).toNat)
    case atStart => exact ⟨0, Nat.zero_le _, rfl, fun i _ h => absurd h (by omega), Below.refl _ _⟩
    case round =>
      obtain ⟨j, hj, rfl, hne, hb⟩ := hrel
      obtain ⟨w2, hw2⟩ : ∃ w2, w2 = wr := ⟨_, rfl⟩
      subst hw2
      have HN := hide hne
      have HB := hide hb
      clear hne hb
      by_cases hlt : j < m
      · have hjL : j < L.length := by have := HM.out; omega
        obtain ⟨x, hao, hcl⟩ : ∃ x, ao = some x ∧ Cells2 w x L := by
          rcases HR.out with ⟨_, h0⟩ | ⟨x, c', h1, h2⟩
          · rw [h0] at hjL; simp at hjL
          · injection h1 with h1; exact ⟨x, h1, h2⟩
        subst hao
        obtain ⟨m0, m1⟩ := hcl.below HB.out j hjL
        have hjt : j < t.size := by omega
        have hbt := HT.out j hjt
        have HNo : Hid (¬ (L[j].1 ≤ bt s (a + j) ∧ bt s (a + j) ≤ L[j].2) → ¬ GoesAt L s a) := fun hh hg' => hh (hg'.2 j hjL)
        have HYe : Hid ((L[j].1 ≤ bt s (a + j) ∧ bt s (a + j) ≤ L[j].2) → ∀ i (h : i < L.length), i < j + 1 → L[i].1 ≤ bt s (a + i) ∧ bt s (a + i) ≤ L[i].2) := fun hh i hi hij => by
          by_cases e : i = j
          · subst e; exact hh
          · exact HN.out i hi (by omega)
        obtain ⟨r, hr⟩ : ∃ r, r = L[j] := ⟨_, rfl⟩
        rw [← hr] at m0 m1 HNo HYe
        obtain ⟨lo, hi⟩ := r
        simp only at m0 m1 HNo HYe
        obtain ⟨by1, hby⟩ : ∃ by1, by1 = bt t j := ⟨_, rfl⟩
        rw [← hbt, ← hby] at HNo HYe
        have hbb : (0 : Int) ≤ by1 ∧ by1 ≤ 255 := by rw [hby]; unfold bt; rw [dif_pos hjt]; have := (t[j]'hjt).toNat_lt; omega
        have hgj : ∀ h, ((t[j]'h).toNat : Int) = by1 := fun h => by rw [hby]; exact hg j h
        obtain ⟨w3, hw3⟩ : ∃ w3, w3 = w2.alloc (rgOS lo hi) := ⟨_, rfl⟩
        have hX3 : w3.heap[w2.heap.size]? = some (rgOS lo hi) := by rw [hw3]; exact at_newS _ _
        have HB3 : Hid (Below w.heap.size w w3) := by show Below _ _ _; rw [hw3]; exact HB.out.alloc HB.out.size _
        obtain ⟨f0, f1⟩ := rg_cellsS hX3
        obtain ⟨bx, hbx⟩ : ∃ bx, bx = w2.heap.size := ⟨_, rfl⟩
        rw [← hbx] at f0 f1
        have e5 : (j : Int) < (m : Int) := by omega
        have e6 : (0 : Int) ≤ (j : Int) := by omega
        have e7 : (j : Int) < (t.size : Int) := by omega
        have hkw : IntKind.i64.wrap ((j : Int) + 1) = (j : Int) + 1 := by rw [IntKind.wrap_i64]; omega
        simp only [rgOS] at hw3
        clear hcl hr hX3 hbt hby hjL hg
        go_upto_region 6 with fail
        rw [← hw3, ← hbx]
        clear hw3 hbx m0 m1
        by_cases c1 : by1 < lo
        · have HFF := hide (HNo.out (by omega))
          clear HNo HYe
          go_wp2
          go_ret
          exact ⟨⟨false, rfl, by simp [HFF.out]⟩, HB3.out⟩
        · have b1 : decide (by1 < lo) = false := decide_eq_false c1
          by_cases c2 : hi < by1
          · have HFF := hide (HNo.out (by omega))
            clear HNo HYe
            go_wp2
            go_ret
            exact ⟨⟨false, rfl, by simp [HFF.out]⟩, HB3.out⟩
          · have b2 : decide (hi < by1) = false := decide_eq_false c2
            have HFF := hide (HYe.out (by omega))
            clear HNo HYe
            go_wp2
            go_roundw
            case rel => exact ⟨j + 1, by omega, by go_num, HFF.out, HB3.out⟩
            case measure => simp [intOf]; omega
      · have e5 : ¬ (j : Int) < (m : Int) := by omega
        have HF : Hid (GoesAt L s a) := ⟨by have := HM.out; have := HS.out; omega, fun i hi => HN.out i hi (by have := HM.out; omega)⟩
        clear HN
        go_wp2
        go_ret
        exact ⟨⟨true, rfl, by simp [HF.out]⟩, HB.out⟩

end Go.Proofs.YtljankfhnmcbaaaGreatDoor.SP
