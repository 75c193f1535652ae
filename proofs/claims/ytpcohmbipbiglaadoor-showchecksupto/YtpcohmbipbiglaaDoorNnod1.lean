/- What node answers: a node by itself. -/
import Derived.Test.YtpcohmbipbiglaaDoorNchk
import Derived.Deep.QuietTactic
import Derived.BigQuiet
import Derived.Deep.Cut
namespace Go.Proofs.YtpcohmbipbiglaaDoor
open Go.RowKit
set_option linter.unusedVariables false

set_option maxRecDepth 100000 in
set_option maxHeartbeats 8000000 in
theorem node_kind (B : Nat) (n : NV) (t : Tr) (w : World) (cb : Nat) (s : St) (h : NodeC w n t) (hB : B ≤ w.heap.size) (hck : CK B w cb s) (hbad : ¬ (1 ≤ t.kind ∧ t.kind ≤ 18)) : Calls Tryd.prog 27 #[.pointer (some ⟨cb, 0, none⟩), nvV n] w fun e w' => e = .panicked [{ v := .iface 26 (.int .i64 7), recovered := false }] ∧ Below w.heap.size w w' := by
  obtain ⟨k0, k1, k2, k3, k4, k5, hr, vs, hk, hkids⟩ := h.open
  have hb : Below w.heap.size w (w.alloc (nvO n)) := (Below.refl _ _).alloc (Nat.le_refl _) _
  have HHK := hide (fun W (hW : Below w.heap.size w W) => hasItsKids_any n t W (h.keep hW))
  have HHF := hide (fun W (hW : Below w.heap.size w W) => hasItsFields_any n t W (h.keep hW))
  have HHR := hide (fun W (hW : Below w.heap.size w W) => checkRepeat_any n t W (h.keep hW))
  have HSC := hide (fun W (hW : Below w.heap.size w W) => check_any _ t.set W (hr.below hW))
  have HY := hide (fun k W => must_yes k W)
  have HM : Hid (∀ k W, Calls Tryd.prog 42 #[.bool false, .int .i64 k] W fun e w' => e = .panicked [{ v := .iface 26 (.int .i64 k), recovered := false }] ∧ W = w') := fun k W => must_no k W
  obtain ⟨w1, hw1⟩ : ∃ w1, w1 = w.alloc (nvO n) := ⟨_, rfl⟩
  have hbox : w1.heap[w.heap.size]? = some (nvO n) := by rw [hw1]; exact at_new _ _
  rw [← hw1] at hb
  have HB := hide hb
  have HX := hide hbox
  have HCK := hide hck
  obtain ⟨d0, d1, d2, d3, d4, d5, d6, d7⟩ := nv_cells hbox
  simp only [nvO] at hw1
  rw [k0] at hbad
  clear h hr hk hkids hbox hb k0 k1 k2 k3 k4 k5 HHK HHF HHR HSC HX HCK hck hB
  by_cases g1 : 1 ≤ n.kind
  · have g2 : decide (n.kind ≤ 18) = false := decide_eq_false (by omega)
    clear hbad
    go_enter Tryd.func27, Tryd.ntmps27
    go_wp2_with fail
    rw [← hw1]
    clear hw1
    refine (HM.out 7 w1).mono ?_
    rintro e w' ⟨rfl, rfl⟩
    go_wp2
    exact ⟨rfl, rfl, HB.out⟩
  · clear hbad
    go_enter Tryd.func27, Tryd.ntmps27
    go_wp2_with fail
    rw [← hw1]
    clear hw1
    refine (HM.out 7 w1).mono ?_
    rintro e w' ⟨rfl, rfl⟩
    go_wp2
    exact ⟨rfl, rfl, HB.out⟩

set_option maxRecDepth 100000 in
set_option maxHeartbeats 8000000 in
theorem node_form (B : Nat) (n : NV) (t : Tr) (w : World) (cb : Nat) (s : St) (h : NodeC w n t) (hB : B ≤ w.heap.size) (hck : CK B w cb s) (hkd : 1 ≤ t.kind ∧ t.kind ≤ 18) (hbad : (kidsB t && fieldsB t) = false) : Calls Tryd.prog 27 #[.pointer (some ⟨cb, 0, none⟩), nvV n] w fun e w' => e = .panicked [{ v := .iface 26 (.int .i64 1), recovered := false }] ∧ Below w.heap.size w w' := by
  obtain ⟨k0, k1, k2, k3, k4, k5, hr, vs, hk, hkids⟩ := h.open
  have hb : Below w.heap.size w (w.alloc (nvO n)) := (Below.refl _ _).alloc (Nat.le_refl _) _
  have HHK := hide (fun W (hW : Below w.heap.size w W) => hasItsKids_any n t W (h.keep hW))
  have HHF := hide (fun W (hW : Below w.heap.size w W) => hasItsFields_any n t W (h.keep hW))
  have HHR := hide (fun W (hW : Below w.heap.size w W) => checkRepeat_any n t W (h.keep hW))
  have HSC := hide (fun W (hW : Below w.heap.size w W) => check_any _ t.set W (hr.below hW))
  have HY := hide (fun k W => must_yes k W)
  have HM : Hid (∀ k W, Calls Tryd.prog 42 #[.bool false, .int .i64 k] W fun e w' => e = .panicked [{ v := .iface 26 (.int .i64 k), recovered := false }] ∧ W = w') := fun k W => must_no k W
  obtain ⟨w1, hw1⟩ : ∃ w1, w1 = w.alloc (nvO n) := ⟨_, rfl⟩
  have hbox : w1.heap[w.heap.size]? = some (nvO n) := by rw [hw1]; exact at_new _ _
  rw [← hw1] at hb
  have HB := hide hb
  have HX := hide hbox
  have HCK := hide hck
  obtain ⟨d0, d1, d2, d3, d4, d5, d6, d7⟩ := nv_cells hbox
  simp only [nvO] at hw1
  rw [k0] at hkd
  obtain ⟨g1, g2⟩ := hkd
  obtain ⟨b1, hb1⟩ : ∃ b1, b1 = kidsB t := ⟨_, rfl⟩
  obtain ⟨b2, hb2⟩ : ∃ b2, b2 = fieldsB t := ⟨_, rfl⟩
  rw [← hb1] at HHK hbad
  rw [← hb2] at HHF hbad
  clear h hr hk hkids hbox hb k0 k1 k2 k3 k4 k5 HHR HSC HCK hck hB hb1 hb2
  cases b1 with
  | false =>
    have HB1 := HB
    have HX1 := HX
    clear HB HX
    go_enter Tryd.func27, Tryd.ntmps27
    go_wp2_with fail
    rw [← hw1]
    clear hw1
    refine (HY.out 7 w1).mono ?_
    rintro e w' ⟨rfl, rfl⟩
    go_wp2_with fail
    refine (HHK.out w1 HB1.out).mono ?_
    rintro e w2 ⟨rfl, hb2⟩
    have HB2 := hide (HB1.out.trans (hb2.mono HB1.out.size))
    have HX2 := hide (show w2.heap[w.heap.size]? = some (nvO n) by rw [hb2.block _ (lt_of_block HX1.out)]; exact HX1.out)
    clear hb2 HB1 HX1 d0 d1 d2 d3 d4 d5 d6 d7
    obtain ⟨d0, d1, d2, d3, d4, d5, d6, d7⟩ := nv_cells HX2.out
    go_wp2_with fail
    refine (HM.out 1 w2).mono ?_
    rintro e w' ⟨rfl, rfl⟩
    go_wp2
    exact ⟨rfl, rfl, HB2.out⟩
  | true =>
    cases b2 with
    | true => cases hbad
    | false =>
      have HB1 := HB
      have HX1 := HX
      clear HB HX
      go_enter Tryd.func27, Tryd.ntmps27
      go_wp2_with fail
      rw [← hw1]
      clear hw1
      refine (HY.out 7 w1).mono ?_
      rintro e w' ⟨rfl, rfl⟩
      go_wp2_with fail
      refine (HHK.out w1 HB1.out).mono ?_
      rintro e w2 ⟨rfl, hb2⟩
      have HB2 := hide (HB1.out.trans (hb2.mono HB1.out.size))
      have HX2 := hide (show w2.heap[w.heap.size]? = some (nvO n) by rw [hb2.block _ (lt_of_block HX1.out)]; exact HX1.out)
      clear hb2 HB1 HX1 d0 d1 d2 d3 d4 d5 d6 d7
      obtain ⟨d0, d1, d2, d3, d4, d5, d6, d7⟩ := nv_cells HX2.out
      go_wp2_with fail
      refine (HHF.out w2 HB2.out).mono ?_
      rintro e w3 ⟨rfl, hb3⟩
      have HB3 := hide (HB2.out.trans (hb3.mono HB2.out.size))
      have HX3 := hide (show w3.heap[w.heap.size]? = some (nvO n) by rw [hb3.block _ (lt_of_block HX2.out)]; exact HX2.out)
      clear hb3 HB2 HX2 d0 d1 d2 d3 d4 d5 d6 d7
      obtain ⟨d0, d1, d2, d3, d4, d5, d6, d7⟩ := nv_cells HX3.out
      go_wp2_with fail
      refine (HM.out 1 w3).mono ?_
      rintro e w' ⟨rfl, rfl⟩
      go_wp2
      exact ⟨rfl, rfl, HB3.out⟩

set_option maxRecDepth 100000 in
set_option maxHeartbeats 8000000 in
theorem node_set (B : Nat) (n : NV) (t : Tr) (w : World) (cb : Nat) (s : St) (h : NodeC w n t) (hB : B ≤ w.heap.size) (hck : CK B w cb s) (hkd : 1 ≤ t.kind ∧ t.kind ≤ 18) (hok : (kidsB t && fieldsB t) = true) (hbad : checkE t.set ≠ 0) : Calls Tryd.prog 27 #[.pointer (some ⟨cb, 0, none⟩), nvV n] w fun e w' => e = .panicked [{ v := .iface 26 (.int .i64 (checkE t.set)), recovered := false }] ∧ Below w.heap.size w w' := by
  obtain ⟨k0, k1, k2, k3, k4, k5, hr, vs, hk, hkids⟩ := h.open
  have hb : Below w.heap.size w (w.alloc (nvO n)) := (Below.refl _ _).alloc (Nat.le_refl _) _
  have HHK := hide (fun W (hW : Below w.heap.size w W) => hasItsKids_any n t W (h.keep hW))
  have HHF := hide (fun W (hW : Below w.heap.size w W) => hasItsFields_any n t W (h.keep hW))
  have HHR := hide (fun W (hW : Below w.heap.size w W) => checkRepeat_any n t W (h.keep hW))
  have HSC := hide (fun W (hW : Below w.heap.size w W) => check_any _ t.set W (hr.below hW))
  have HY := hide (fun k W => must_yes k W)
  have HM : Hid (∀ k W, Calls Tryd.prog 42 #[.bool false, .int .i64 k] W fun e w' => e = .panicked [{ v := .iface 26 (.int .i64 k), recovered := false }] ∧ W = w') := fun k W => must_no k W
  obtain ⟨w1, hw1⟩ : ∃ w1, w1 = w.alloc (nvO n) := ⟨_, rfl⟩
  have hbox : w1.heap[w.heap.size]? = some (nvO n) := by rw [hw1]; exact at_new _ _
  rw [← hw1] at hb
  have HB := hide hb
  have HX := hide hbox
  have HCK := hide hck
  obtain ⟨d0, d1, d2, d3, d4, d5, d6, d7⟩ := nv_cells hbox
  simp only [nvO] at hw1
  rw [k0] at hkd
  obtain ⟨g1, g2⟩ := hkd
  rw [Bool.and_eq_true] at hok
  rw [hok.1] at HHK
  rw [hok.2] at HHF
  obtain ⟨z, hz⟩ : ∃ z, z = checkE t.set := ⟨_, rfl⟩
  rw [← hz] at HSC hbad ⊢
  have hzb : (z == 0) = false := by simpa using hbad
  clear h hr hk hkids hbox hb k0 k1 k2 k3 k4 k5 HHR HCK hck hB hok hz hbad
  have HB1 := HB
  have HX1 := HX
  clear HB HX
  go_enter Tryd.func27, Tryd.ntmps27
  go_wp2_with fail
  rw [← hw1]
  clear hw1
  refine (HY.out 7 w1).mono ?_
  rintro e w' ⟨rfl, rfl⟩
  go_wp2_with fail
  refine (HHK.out w1 HB1.out).mono ?_
  rintro e w2 ⟨rfl, hb2⟩
  have HB2 := hide (HB1.out.trans (hb2.mono HB1.out.size))
  have HX2 := hide (show w2.heap[w.heap.size]? = some (nvO n) by rw [hb2.block _ (lt_of_block HX1.out)]; exact HX1.out)
  clear hb2 HB1 HX1 d0 d1 d2 d3 d4 d5 d6 d7
  obtain ⟨d0, d1, d2, d3, d4, d5, d6, d7⟩ := nv_cells HX2.out
  go_wp2_with fail
  refine (HHF.out w2 HB2.out).mono ?_
  rintro e w3 ⟨rfl, hb3⟩
  have HB3 := hide (HB2.out.trans (hb3.mono HB2.out.size))
  have HX3 := hide (show w3.heap[w.heap.size]? = some (nvO n) by rw [hb3.block _ (lt_of_block HX2.out)]; exact HX2.out)
  clear hb3 HB2 HX2 d0 d1 d2 d3 d4 d5 d6 d7
  obtain ⟨d0, d1, d2, d3, d4, d5, d6, d7⟩ := nv_cells HX3.out
  go_wp2_with fail
  refine (HY.out 1 w3).mono ?_
  rintro e w' ⟨rfl, rfl⟩
  go_wp2_with fail
  refine (HSC.out w3 HB3.out).mono ?_
  rintro e w4 ⟨rfl, hb4⟩
  have HB4 := hide (HB3.out.trans (hb4.mono HB3.out.size))
  have HX4 := hide (show w4.heap[w.heap.size]? = some (nvO n) by rw [hb4.block _ (lt_of_block HX3.out)]; exact HX3.out)
  clear hb4 HB3 HX3 d0 d1 d2 d3 d4 d5 d6 d7
  obtain ⟨d0, d1, d2, d3, d4, d5, d6, d7⟩ := nv_cells HX4.out
  go_wp2_with fail
  refine (HM.out z w4).mono ?_
  rintro e w' ⟨rfl, rfl⟩
  go_wp2
  exact ⟨rfl, rfl, HB4.out⟩

end Go.Proofs.YtpcohmbipbiglaaDoor
