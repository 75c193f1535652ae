/- What node answers: a group whose number is wrong. -/
import Derived.Test.YtpcohmbipbiglaaDoorNnod3
import Derived.StillTailTactics
import Derived.Deep.QuietTactic
import Derived.BigQuiet
import Derived.Deep.Cut
namespace Go.Proofs.YtpcohmbipbiglaaDoor
open Go.RowKit
set_option linter.unusedVariables false

set_option maxRecDepth 100000 in
set_option maxHeartbeats 8000000 in
theorem node_groupbad (w0 : World) (n : NV) (set : RL) (ks : List Tr) (vs : Nat → NV) (h0 : NodeC w0 n (.mk n.kind n.num n.least n.most n.way n.fold set ks)) (hk : KidsC w0 n.ka n.kl n.kc ks.length vs) (w : World) (hw0 : Below w0.heap.size w0 w) (cb : Nat) (s : St) (hck : CK w0.heap.size w cb s) (hkd : 1 ≤ n.kind ∧ n.kind ≤ 18) (hok : (kidsB (.mk n.kind n.num n.least n.most n.way n.fold set ks) && fieldsB (.mk n.kind n.num n.least n.most n.way n.fold set ks)) = true) (hzs : checkE set = 0) (hk11 : n.kind = 11) (hnum : n.num ≠ s.1 + 1) (hsz : 0 ≤ s.1 ∧ s.1 + szL ks + 1 ≤ 1000000) : Calls Tryd.prog 27 #[.pointer (some ⟨cb, 0, none⟩), nvV n] w fun e w' => e = .panicked [{ v := .iface 26 (.int .i64 4), recovered := false }] ∧ Below w0.heap.size w w' := by
  have h := h0.keep hw0
  have hr := h.open.2.2.2.2.2.2.1
  obtain ⟨t, ht⟩ : ∃ t, t = Tr.mk n.kind n.num n.least n.most n.way n.fold set ks := ⟨_, rfl⟩
  have hset : t.set = set := by rw [ht]; rfl
  rw [← ht] at h hr hok
  rw [← hset] at hzs
  have hb : Below w.heap.size w (w.alloc (nvO n)) := (Below.refl _ _).alloc (Nat.le_refl _) _
  rw [Bool.and_eq_true] at hok
  have HHK := hide (fun W (hW : Below w.heap.size w W) => hasItsKids_any n t W (h.keep hW))
  have HHF := hide (fun W (hW : Below w.heap.size w W) => hasItsFields_any n t W (h.keep hW))
  have HHR := hide (fun W (hW : Below w.heap.size w W) => checkRepeat_any n t W (h.keep hW))
  have HSC := hide (fun W (hW : Below w.heap.size w W) => check_any _ t.set W (hr.below hW))
  rw [hok.1] at HHK
  rw [hok.2] at HHF
  rw [hzs] at HSC
  have HY := hide (fun k W => must_yes k W)
  have HM : Hid (∀ k W, Calls Tryd.prog 42 #[.bool false, .int .i64 k] W fun e w' => e = .panicked [{ v := .iface 26 (.int .i64 k), recovered := false }] ∧ W = w') := fun k W => must_no k W
  have HKL : Hid (n.kl = ks.length) := hk.len
  have HK := hide hk
  have HW0 := hide hw0
  obtain ⟨w1, hw1⟩ : ∃ w1, w1 = w.alloc (nvO n) := ⟨_, rfl⟩
  have hbox : w1.heap[w.heap.size]? = some (nvO n) := by rw [hw1]; exact at_new _ _
  rw [← hw1] at hb
  have HB1 := hide hb
  have HX1 := hide hbox
  have HCK := hide hck
  obtain ⟨d0, d1, d2, d3, d4, d5, d6, d7⟩ := nv_cells hbox
  simp only [nvO] at hw1
  obtain ⟨g1, g2⟩ := hkd
  have b12 : (n.kind == 12) = false := by simp only [beq_eq_false_iff_ne, ne_eq]; omega
  have b11 : (n.kind == 11) = true := by simpa using hk11
  have hnb : (n.num == s.1 + 1) = false := by simpa using hnum
  clear h0 h hr hok hzs hset ht hbox hb hk hw0 hck hk11 hnum
  go_enter Tryd.func27, Tryd.ntmps27
  go_wp2_with fail
  rw [← hw1]
  clear hw1
  refine (HY.out 7 w1).mono ?_
  rintro e w' ⟨rfl, rfl⟩
  go_wp2_with fail
  refine (HHK.out w1 HB1.out).mono ?_
  rintro e w2 ⟨rfl, hb2⟩
  have HB2 := hide (HB1.out.trans (hb2.mono HB1.out.size))
  have HX2 := hide (show w2.heap[w.heap.size]? = some (nvO n) by rw [hb2.block _ (lt_of_block HX1.out)]; exact HX1.out)
  clear hb2 HB1 HX1 d0 d1 d2 d3 d4 d5 d6 d7
  obtain ⟨d0, d1, d2, d3, d4, d5, d6, d7⟩ := nv_cells HX2.out
  go_wp2_with fail
  refine (HHF.out w2 HB2.out).mono ?_
  rintro e w3 ⟨rfl, hb3⟩
  have HB3 := hide (HB2.out.trans (hb3.mono HB2.out.size))
  have HX3 := hide (show w3.heap[w.heap.size]? = some (nvO n) by rw [hb3.block _ (lt_of_block HX2.out)]; exact HX2.out)
  clear hb3 HB2 HX2 d0 d1 d2 d3 d4 d5 d6 d7
  obtain ⟨d0, d1, d2, d3, d4, d5, d6, d7⟩ := nv_cells HX3.out
  go_wp2_with fail
  refine (HY.out 1 w3).mono ?_
  rintro e w' ⟨rfl, rfl⟩
  go_wp2_with fail
  refine (HSC.out w3 HB3.out).mono ?_
  rintro e w4 ⟨rfl, hb4⟩
  have HB4 := hide (HB3.out.trans (hb4.mono HB3.out.size))
  have HX4 := hide (show w4.heap[w.heap.size]? = some (nvO n) by rw [hb4.block _ (lt_of_block HX3.out)]; exact HX3.out)
  clear hb4 HB3 HX3 d0 d1 d2 d3 d4 d5 d6 d7
  obtain ⟨d0, d1, d2, d3, d4, d5, d6, d7⟩ := nv_cells HX4.out
  go_wp2_with fail
  refine (HY.out 0 w4).mono ?_
  rintro e w' ⟨rfl, rfl⟩
  have HC4 := hide (HCK.out.keep HB4.out)
  obtain ⟨cv, c0, c1, -, -, cf, clt⟩ := HC4.out.cells
  have clw : cb < w.heap.size := (HCK.out.cells).choose_spec.2.2.2.2.2
  have cn1 : ¬ cb = w.heap.size := by omega
  have cn2 : ¬ w.heap.size = cb := by omega
  have hgw : IntKind.i64.wrap (s.1 + 1) = s.1 + 1 := by rw [IntKind.wrap_i64]; omega
  go_upto_region 10 with fail
  obtain ⟨w5, hw5⟩ : ∃ w5, w5 = w4.setCell ⟨cb, 0, none⟩ (.int .i64 (s.1 + 1)) := ⟨_, rfl⟩
  have HC5 := hide (HC4.out.groups (s.1 + 1))
  have HX5 : Hid (w5.heap[w.heap.size]? = some (nvO n)) := by show _ = _; rw [hw5, Below.heap_setCell _ _ _ _ cn2]; exact HX4.out
  have HBw : Hid (Below w0.heap.size w w5) := by show Below _ _ _; rw [hw5]; exact (HB4.out.mono HW0.out.size).setCell (HCK.out.1) _
  rw [← hw5] at HC5
  rw [← hw5]
  clear hw5 d0 d1 d2 d3 d4 d5 d6 d7 c0 c1 cf clt HX4
  obtain ⟨cv5, c0, c1, -, -, cf, clt⟩ := HC5.out.cells
  obtain ⟨d0, d1, d2, d3, d4, d5, d6, d7⟩ := nv_cells HX5.out
  simp only at c0
  clear HX5
  go_still_tail 7, (by kernel_rfl)
  go_wp2_with fail
  refine (HM.out 4 _).mono ?_
  rintro e w' ⟨rfl, rfl⟩
  go_wp2
  exact ⟨rfl, rfl, HBw.out.trans ⟨rfl, rfl, rfl, Nat.le_refl _, fun _ _ => rfl⟩⟩

end Go.Proofs.YtpcohmbipbiglaaDoor
