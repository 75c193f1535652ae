/- What must be in any case is: foldBegun answers true; and which names are those of classes. -/
import Derived.Test.YtjhombfcbfhinaaDoorOrbit
import Derived.Test.YtjhombfcbfhinaaDoorClass
namespace Go.Proofs.YtjhombfcbfhinaaDoor
open Go.RowKit
set_option linter.unusedVariables false

theorem least_k : least 107 = 75 := by decide +kernel
theorem blank_len : (clsOf nm_blank).length = 2 := by decide +kernel
theorem blank_mem : nm_blank ∈ names := by simp [names]

set_option maxHeartbeats 1000000 in
theorem begun_any (w : World) (hT : Tab w) (hpos : 0 < w.heap.size) : Calls Tryd.prog 12 #[] w fun e w' => e = .returned (.bool true) ∧ Below w.heap.size w w' := by
  have H1 := Least_yes 107 w (by decide) (by decide) hT hpos
  rw [least_k] at H1
  have HH1 := hide H1
  have H2 : ∀ w1 : World, Calls Tryd.prog 15 #[.string ⟨#[98, 108, 97, 110, 107]⟩] w1 fun e w' => ∃ ao c, e = .returned (.tuple #[.slice ao 2 c, .int .i64 0]) ∧ Below w1.heap.size w1 w' := fun w1 =>
    (Class_some nm_blank w1 blank_mem).mono fun e w' ⟨v, h1, h2, h3⟩ => by
      rw [blank_len] at h2
      obtain ⟨ao, c, rfl⟩ := own_shape h2
      exact ⟨ao, c, h1, h3⟩
  have HH2 := hide H2
  clear H1 H2 hT
  go_enter Tryd.func12, Tryd.ntmps12
  go_wp2_with fail
  refine HH1.out.mono ?_
  rintro e w1 ⟨rfl, hb1⟩
  go_wp2_with fail
  refine (HH2.out _).mono ?_
  rintro e w2 ⟨ao, c, rfl, hb2⟩
  go_wp2
  go_ret
  exact ⟨rfl, hb1.trans (hb2.mono hb1.size)⟩

def isName (s : ByteArray) : Bool := names.any fun x => decide (x = s)
theorem isName_iff (s : ByteArray) : isName s = true ↔ s ∈ names := by
  simp [isName]
theorem isName_no {s : ByteArray} (h : s ∉ names) : isName s = false := by
  rw [Bool.eq_false_iff, ne_eq, isName_iff]; exact h
def nameRow : Array Value := (names.map Value.string).toArray

theorem beq_bytes (a b : ByteArray) : (a.toList == b.toList) = decide (a = b) := by
  rw [ByteArray.toList_eq, ByteArray.toList_eq, Bool.eq_iff_iff]
  simp only [beq_iff_eq, decide_eq_true_eq]
  constructor
  · intro h
    cases a; cases b
    simp only at h
    congr 1
    exact Array.toList_inj.1 h
  · intro h; rw [h]

set_option maxHeartbeats 1000000 in
set_option maxRecDepth 10000 in
theorem classNames_any (w : World) : Calls Tryd.prog 32 #[] w fun e w' => e = .returned (.slice (some ⟨w.heap.size, 0, none⟩) 14 14) ∧ w' = w.alloc (.cells nameRow 9) := by
  go_enter Tryd.func32, Tryd.ntmps32
  go_wp2
  go_ret
  exact ⟨rfl, rfl⟩

set_option maxHeartbeats 1000000 in
theorem isClass_any (s : ByteArray) (w : World) : Calls Tryd.prog 16 #[.string s] w fun e w' => e = .returned (.bool (isName s)) ∧ Below w.heap.size w w' := by
  have HN := hide classNames_any
  have HC : Hid (∀ k (h : k < 14), (w.alloc (.cells nameRow 9)).cell? ⟨w.heap.size, k, none⟩ = some (.string (names[k]'h))) := by
    intro k h
    rw [World.cell?_alloc_at _ _ _ _ rfl]
    have : nameRow[k]? = some (.string (names[k]'h)) := by
      simp only [nameRow, List.getElem?_toArray, List.getElem?_map, List.getElem?_eq_getElem (show k < names.length from h), Option.map_some]
      rfl
    exact this
  obtain ⟨row, hrow⟩ : ∃ row, row = nameRow := ⟨_, rfl⟩
  rw [← hrow] at HN HC
  clear hrow
  go_enter Tryd.func16, Tryd.ntmps16
  go_wp2_with fail
  refine (HN.out _).mono ?_
  rintro e w1 ⟨rfl, rfl⟩
  go_wp2
  go_loop [4] (fun i => ∃ k : Nat, k ≤ 14 ∧ i = .int .i64 k ∧ s ∉ names.take k) (fun i => 14 - (intOf i).toNat)
  case atStart => exact ⟨0, Nat.zero_le _, rfl, by simp⟩
  case round =>
    obtain ⟨k, hk, rfl, hn⟩ := hrel
    by_cases hlt : k < 14
    · have hc := HC.out k hlt
      obtain ⟨y, hy⟩ : ∃ y, y = names[k]'hlt := ⟨_, rfl⟩
      rw [← hy] at hc
      have hmem : y ∈ names := by rw [hy]; exact List.getElem_mem _
      have HY := hide hy
      have HN2 := hide hn
      have HM := hide hmem
      clear hy hn hmem
      by_cases hxy : y = s
      · have hb : (y.toList == s.toList) = true := by rw [beq_bytes]; simpa using hxy
        have HX := hide hxy
        clear hxy
        go_wp2
        go_ret
        exact ⟨ret_bool ((isName_iff s).2 (by have h1 := HX.out; have h2 := HM.out; rw [h1] at h2; exact h2)).symm, (Below.refl _ w).alloc (Nat.le_refl _) _⟩
      · have hb : (y.toList == s.toList) = false := by rw [beq_bytes]; simpa using hxy
        have HX := hide hxy
        clear hxy
        go_wp2
        go_round
        case rel => exact ⟨k + 1, by omega, by go_num, by
          rw [List.take_add_one, List.getElem?_eq_getElem (show k < names.length from hlt)]
          simp only [List.mem_append, not_or, Option.toList_some, List.mem_singleton]
          exact ⟨HN2.out, fun e => HX.out (HY.out.trans e.symm)⟩⟩
        case measure => simp [intOf]; omega
    · have hkl : k = 14 := by omega
      have HN2 := hide hn
      have HK := hide hkl
      clear hn hkl
      go_wp2
      go_ret
      exact ⟨ret_bool (isName_no (by have h := HN2.out; rw [HK.out, List.take_of_length_le (by decide)] at h; exact h)).symm, (Below.refl _ w).alloc (Nat.le_refl _) _⟩

end Go.Proofs.YtjhombfcbfhinaaDoor
