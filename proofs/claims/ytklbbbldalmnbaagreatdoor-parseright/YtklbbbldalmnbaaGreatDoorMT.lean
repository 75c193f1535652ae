import Derived.Test.YtklbbbldalmnbaaGreatDoorMS
import Derived.Deep.QuietTactic
import Derived.BigQuiet
import Derived.Deep.Cut
import Derived.StillTailTactics
import Derived.Deep.RegionLaw
import Derived.Deep.AppendLies
namespace Go.Proofs.YtklbbbldalmnbaaGreatDoor.TR
set_option maxHeartbeats 8000000
set_option maxRecDepth 100000
open Go.RowKit
set_option linter.unusedVariables false
theorem node_group (w0 : World) (n : NV) (set : RL) (ks : List Tr) (vs : Nat → NV) (h0 : NodeC w0 n (.mk n.kind n.num n.least n.most n.way n.fold set ks)) (hk : KidsC w0 n.ka n.kl n.kc ks.length vs) (w : World) (hw0 : Below w0.heap.size w0 w) (cb : Nat) (s : St) (hck : CK w0.heap.size w cb s) (hkd : 1 ≤ n.kind ∧ n.kind ≤ 18) (hok : (kidsB (.mk n.kind n.num n.least n.most n.way n.fold set ks) && fieldsB (.mk n.kind n.num n.least n.most n.way n.fold set ks)) = true) (hzs : checkE set = 0) (hk11 : n.kind = 11) (hnum : n.num = s.1 + 1) (hsz : 0 ≤ s.1 ∧ s.1 + szL ks + 1 ≤ 1000000 ∧ s.2.length + szL ks + 1 ≤ 1000000) (ih : ∀ j (hj : j < ks.length) (W : World) (s : St), Below w0.heap.size w0 W → CK w0.heap.size W cb s → 0 ≤ s.1 ∧ s.1 + szT ks[j] ≤ 1000000 ∧ s.2.length + szT ks[j] ≤ 1000000 → Calls Tryz.prog 34 #[.pointer (some ⟨cb, 0, none⟩), nvV (vs j)] W fun e w' => NodeE w0.heap.size (chkT ks[j] s) cb W e w') : Calls Tryz.prog 34 #[.pointer (some ⟨cb, 0, none⟩), nvV n] w fun e w' => NodeE w0.heap.size (chkT (.mk n.kind n.num n.least n.most n.way n.fold set ks) s) cb w e w' := by
 have h := h0.keep hw0
 have hr := h.open.2.2.2.2.2.2.1
 obtain ⟨t, ht⟩ : ∃ t, t = Tr.mk n.kind n.num n.least n.most n.way n.fold set ks := ⟨_, rfl⟩
 have hset : t.set = set := by rw [ht]; rfl
 rw [← ht] at h hr hok  ⊢
 rw [← hset] at hzs
 have hb : Below w.heap.size w (w.alloc (nvO n)) := (Below.refl _ _).alloc (Nat.le_refl _) _
 rw [Bool.and_eq_true] at hok
 have HHK := hide (fun W (hW : Below w.heap.size w W) => hasItsKids_any n t W (h.keep hW))
 have HHF := hide (fun W (hW : Below w.heap.size w W) => hasItsFields_any n t W (h.keep hW))
 have HHR := hide (fun W (hW : Below w.heap.size w W) => checkRepeat_any n t W (h.keep hW))
 have HSC := hide (fun W (hW : Below w.heap.size w W) => check_any _ t.set W (hr.below hW))
 rw [hok.1] at HHK
 rw [hok.2] at HHF
 rw [hzs] at HSC
 have HY := hide (fun k W => must_yes k W)
 have HM : Hid (∀ k W, Calls Tryz.prog 53 #[.bool false, .int .i64 k] W fun e w' => e = .panicked [{ v := .iface 29 (.int .i64 k), recovered := false }] ∧ W = w') := fun k W => must_no k W
 have HKL : Hid (n.kl = ks.length) := hk.len
 have HK := hide hk
 have HW0 := hide hw0
 obtain ⟨w1, hw1⟩ : ∃ w1, w1 = w.alloc (nvO n) := ⟨_, rfl⟩
 have hbox : w1.heap[w.heap.size]? = some (nvO n) := by rw [hw1]; exact at_new _ _
 rw [← hw1] at hb
 have HB1 := hide hb
 have HX1 := hide hbox
 have HCK := hide hck
 obtain ⟨d0, d1, d2, d3, d4, d5, d6, d7⟩ := nv_cells hbox
 simp only [nvO] at hw1
 obtain ⟨g1, g2⟩ := hkd
 have HIH := hide ih
 have HFin : Hid (chkT t s = chkL ks (s.1 + 1, s.2)) := by
  show _ = _
  rw [chkT_kids]
  have hn : nodeS t s = .ok (s.1 + 1, s.2) := by
   unfold nodeS
   have hkk : t.kind = n.kind := by rw [ht]; rfl
   have hnn : t.num = n.num := by rw [ht]; rfl
   rw [hkk, hnn, if_neg (by omega), if_neg (by rw [hok.1, hok.2]; decide), if_neg (by omega)]
   rw [if_neg (by omega), if_pos hk11, if_pos hnum]
  rw [hn, ht]; rfl
 have b12 : (n.kind == 12) = false := by simp only [beq_eq_false_iff_ne, ne_eq]; omega
 have b11 : (n.kind == 11) = true := by simpa using hk11
 have HNu := hide hnum
 clear hk11 hnum
 clear h0 h hr hok hzs hset ht hbox hb hk hw0 hck ih
 go_enter Tryz.func34, Tryz.ntmps34
 go_wp2_with fail
 rw [← hw1]
 clear hw1
 refine (HY.out 7 w1).mono ?_
 rintro e w' ⟨rfl, rfl⟩
 go_wp2_with fail
 refine (HHK.out w1 HB1.out).mono ?_
 rintro e w2 ⟨rfl, hb2⟩
 have HB2 := hide (HB1.out.trans (hb2.mono HB1.out.size))
 have HX2 := hide (show w2.heap[w.heap.size]? = some (nvO n) by rw [hb2.block _ (lt_of_block HX1.out)]; exact HX1.out)
 clear hb2 HB1 HX1 d0 d1 d2 d3 d4 d5 d6 d7
 obtain ⟨d0, d1, d2, d3, d4, d5, d6, d7⟩ := nv_cells HX2.out
 go_wp2_with fail
 refine (HHF.out w2 HB2.out).mono ?_
 rintro e w3 ⟨rfl, hb3⟩
 have HB3 := hide (HB2.out.trans (hb3.mono HB2.out.size))
 have HX3 := hide (show w3.heap[w.heap.size]? = some (nvO n) by rw [hb3.block _ (lt_of_block HX2.out)]; exact HX2.out)
 clear hb3 HB2 HX2 d0 d1 d2 d3 d4 d5 d6 d7
 obtain ⟨d0, d1, d2, d3, d4, d5, d6, d7⟩ := nv_cells HX3.out
 go_wp2_with fail
 refine (HY.out 1 w3).mono ?_
 rintro e w' ⟨rfl, rfl⟩
 go_wp2_with fail
 refine (HSC.out w3 HB3.out).mono ?_
 rintro e w4 ⟨rfl, hb4⟩
 have HB4 := hide (HB3.out.trans (hb4.mono HB3.out.size))
 have HX4 := hide (show w4.heap[w.heap.size]? = some (nvO n) by rw [hb4.block _ (lt_of_block HX3.out)]; exact HX3.out)
 clear hb4 HB3 HX3 d0 d1 d2 d3 d4 d5 d6 d7
 obtain ⟨d0, d1, d2, d3, d4, d5, d6, d7⟩ := nv_cells HX4.out
 go_wp2_with fail
 refine (HY.out 0 w4).mono ?_
 rintro e w' ⟨rfl, rfl⟩
 have HC4 := hide (HCK.out.keep HB4.out)
 obtain ⟨cv, c0, c1, -, -, cf, clt⟩ := HC4.out.cells
 have clw : cb < w.heap.size := (HCK.out.cells).choose_spec.2.2.2.2.2
 have cn1 : ¬ cb = w.heap.size := by omega
 have cn2 : ¬ w.heap.size = cb := by omega
 have hgw : IntKind.i64.wrap (s.1 + 1) = s.1 + 1 := by rw [IntKind.wrap_i64]; omega
 go_upto_region 10 with fail
 obtain ⟨w5, hw5⟩ : ∃ w5, w5 = w4.setCell ⟨cb, 0, none⟩ (.int .i64 (s.1 + 1)) := ⟨_, rfl⟩
 have HC5 := hide (HC4.out.groups (s.1 + 1))
 have HX5 : Hid (w5.heap[w.heap.size]? = some (nvO n)) := by show _ = _; rw [hw5, Below.heap_setCell _ _ _ _ cn2]; exact HX4.out
 have HBw : Hid (Below w0.heap.size w w5) := by show Below _ _ _; rw [hw5]; exact (HB4.out.mono HW0.out.size).setCell (HCK.out.1) _
 rw [← hw5] at HC5
 rw [← hw5]
 clear hw5 d0 d1 d2 d3 d4 d5 d6 d7 c0 c1 cf clt HX4
 obtain ⟨cv5, c0, c1, -, -, cf, clt⟩ := HC5.out.cells
 obtain ⟨d0, d1, d2, d3, d4, d5, d6, d7⟩ := nv_cells HX5.out
 simp only at c0
 have hnq := HNu.out
 rw [hnq] at d3
 clear hnq
 go_quiet (first | (go_at_call 53; exact Calls.quiet_of_same (must_yes' _ _)))
 go_wp2
 clear d0 d1 d2 d3 d4 d5 d6 d7
 have hsz2 := hsz
 go_loopw [69] (fun t wr => ∃ (j : Nat) (s2 : St), j ≤ ks.length ∧ t = .int .i64 j ∧ chkL ks (s.1 + 1, s.2) = chkL (ks.drop j) s2 ∧ CK w0.heap.size wr cb s2 ∧ (0 ≤ s2.1 ∧ s2.1 + szL (ks.drop j) ≤ 1000000 ∧ s2.2.length + szL (ks.drop j) ≤ 1000000) ∧ Below w0.heap.size w wr) (fun t _ => ks.length - (intOf t).toNat)
 case atStart => exact ⟨0, (s.1 + 1, s.2), Nat.zero_le _, rfl, rfl, HC5.out.keep ⟨rfl, rfl, rfl, Nat.le_refl _, fun _ _ => rfl⟩, by have h := hsz2; simp only [List.drop_zero]; omega, HBw.out.trans ⟨rfl, rfl, rfl, Nat.le_refl _, fun _ _ => rfl⟩⟩
 case round =>
  obtain ⟨j, s2, hj, rfl, hE, hck2, hbd, hb⟩ := hrel
  have HE := hide hE
  have HBr := hide hb
  have HCr := hide hck2
  obtain ⟨w20, hw20⟩ : ∃ w20, w20 = wr := ⟨_, rfl⟩
  subst hw20
  clear hb hE hck2
  by_cases hlt : j < ks.length
  ·have e2 : (j : Int) < (n.kl : Int) := by have := HKL.out; omega
   have e4 : (0 : Int) ≤ (j : Int) := by omega
   rcases HK.out with ⟨_, _, _, h00⟩ | ⟨x, hx, hkk, hmx, hcl⟩
   ·exact absurd h00 (by omega)
   ·obtain ⟨d0, d1, d2, d3, d4, d5, d6, d7⟩ := (hcl j hlt).below (HW0.out.trans HBr.out)
    have hszj := szL_drop hlt
    have hB3 : Below w20.heap.size w20 (w20.alloc (nvO (vs j))) := (Below.refl _ _).alloc (Nat.le_refl _) _
    have HC := hide (HIH.out j hlt (w20.alloc (nvO (vs j))) s2 (HW0.out.trans (HBr.out.trans (hB3.mono (Nat.le_trans HW0.out.size HBr.out.size)))) (HCr.out.keep hB3) (by omega))
    obtain ⟨w21, hw21⟩ : ∃ w21, w21 = w20.alloc (nvO (vs j)) := ⟨_, rfl⟩
    have hbx : w21.heap[w20.heap.size]? = some (nvO (vs j)) := by rw [hw21]; exact at_new _ _
    rw [← hw21] at HC hB3
    have HB21 := hide (HBr.out.trans (hB3.mono (Nat.le_trans HW0.out.size HBr.out.size)))
    obtain ⟨b0, b1, b2, b3, b4, b5, b6, b7⟩ := nv_cells hbx
    simp only [nvO] at hw21
    have hjw : IntKind.i64.wrap ((j : Int) + 1) = (j : Int) + 1 := by rw [IntKind.wrap_i64]; omega
    have HD := hide (chkL_drop hlt s2)
    have HBD := hide hbd
    have HSJ := hide hszj
    rw [hx]
    clear hcl hx hkk hB3 hbx hszj hbd
    go_wp2_with fail
    rw [← hw21]
    clear hw21
    refine HC.out.mono ?_
    rintro e w22 ⟨hb22, ⟨s3, hR, rfl, hck3⟩ | ⟨z, hR, rfl⟩⟩
    ·have HB22 := hide (HB21.out.trans hb22)
     have HC3 := hide hck3
     have hgr := chkT_grow _ _ _ hR
     have HNx : Hid (chkL ks (s.1 + 1, s.2) = chkL (ks.drop (j + 1)) s3) := by show _ = _; rw [HE.out, HD.out, hR]
     have HBd3 : Hid (0 ≤ s3.1 ∧ s3.1 + szL (ks.drop (j + 1)) ≤ 1000000 ∧ s3.2.length + szL (ks.drop (j + 1)) ≤ 1000000) := by have := HBD.out; have := HSJ.out; show _ ∧ _ ∧ _; omega
     clear hb22 hck3 hgr hR HC HBD
     go_wp2
     go_roundw
     case rel => exact ⟨j + 1, s3, by omega, by go_num, HNx.out, HC3.out, HBd3.out, HB22.out⟩
     case measure => simp [intOf]; omega
    ·have HB22 := hide (HB21.out.trans hb22)
     have hF : Hid (chkT t s = .error z) := by show _ = _; rw [HFin.out, HE.out, HD.out, hR]
     clear hb22 hR HC
     go_wp2
     exact ⟨rfl, HB22.out, .inr ⟨z, hF.out, rfl⟩⟩
  ·have e2 : ¬ (j : Int) < (n.kl : Int) := by have := HKL.out; omega
   have hF : Hid (chkT t s = .ok s2) := by
    show _ = _
    rw [HFin.out, HE.out, List.drop_eq_nil_of_le (by omega)]; rfl
   go_wp2
   go_end0
   exact ⟨HBr.out, .inl ⟨s2, hF.out, rfl, HCr.out⟩⟩
end Go.Proofs.YtklbbbldalmnbaaGreatDoor.TR
namespace Go.Proofs.YtklbbbldalmnbaaGreatDoor.TR
set_option maxHeartbeats 8000000
set_option maxRecDepth 100000
open Go.RowKit
set_option linter.unusedVariables false
theorem node_groupbad (w0 : World) (n : NV) (set : RL) (ks : List Tr) (vs : Nat → NV) (h0 : NodeC w0 n (.mk n.kind n.num n.least n.most n.way n.fold set ks)) (hk : KidsC w0 n.ka n.kl n.kc ks.length vs) (w : World) (hw0 : Below w0.heap.size w0 w) (cb : Nat) (s : St) (hck : CK w0.heap.size w cb s) (hkd : 1 ≤ n.kind ∧ n.kind ≤ 18) (hok : (kidsB (.mk n.kind n.num n.least n.most n.way n.fold set ks) && fieldsB (.mk n.kind n.num n.least n.most n.way n.fold set ks)) = true) (hzs : checkE set = 0) (hk11 : n.kind = 11) (hnum : n.num ≠ s.1 + 1) (hsz : 0 ≤ s.1 ∧ s.1 + szL ks + 1 ≤ 1000000) : Calls Tryz.prog 34 #[.pointer (some ⟨cb, 0, none⟩), nvV n] w fun e w' => e = .panicked [{ v := .iface 29 (.int .i64 4), recovered := false }] ∧ Below w0.heap.size w w' := by
 have h := h0.keep hw0
 have hr := h.open.2.2.2.2.2.2.1
 obtain ⟨t, ht⟩ : ∃ t, t = Tr.mk n.kind n.num n.least n.most n.way n.fold set ks := ⟨_, rfl⟩
 have hset : t.set = set := by rw [ht]; rfl
 rw [← ht] at h hr hok
 rw [← hset] at hzs
 have hb : Below w.heap.size w (w.alloc (nvO n)) := (Below.refl _ _).alloc (Nat.le_refl _) _
 rw [Bool.and_eq_true] at hok
 have HHK := hide (fun W (hW : Below w.heap.size w W) => hasItsKids_any n t W (h.keep hW))
 have HHF := hide (fun W (hW : Below w.heap.size w W) => hasItsFields_any n t W (h.keep hW))
 have HHR := hide (fun W (hW : Below w.heap.size w W) => checkRepeat_any n t W (h.keep hW))
 have HSC := hide (fun W (hW : Below w.heap.size w W) => check_any _ t.set W (hr.below hW))
 rw [hok.1] at HHK
 rw [hok.2] at HHF
 rw [hzs] at HSC
 have HY := hide (fun k W => must_yes k W)
 have HM : Hid (∀ k W, Calls Tryz.prog 53 #[.bool false, .int .i64 k] W fun e w' => e = .panicked [{ v := .iface 29 (.int .i64 k), recovered := false }] ∧ W = w') := fun k W => must_no k W
 have HKL : Hid (n.kl = ks.length) := hk.len
 have HK := hide hk
 have HW0 := hide hw0
 obtain ⟨w1, hw1⟩ : ∃ w1, w1 = w.alloc (nvO n) := ⟨_, rfl⟩
 have hbox : w1.heap[w.heap.size]? = some (nvO n) := by rw [hw1]; exact at_new _ _
 rw [← hw1] at hb
 have HB1 := hide hb
 have HX1 := hide hbox
 have HCK := hide hck
 obtain ⟨d0, d1, d2, d3, d4, d5, d6, d7⟩ := nv_cells hbox
 simp only [nvO] at hw1
 obtain ⟨g1, g2⟩ := hkd
 have b12 : (n.kind == 12) = false := by simp only [beq_eq_false_iff_ne, ne_eq]; omega
 have b11 : (n.kind == 11) = true := by simpa using hk11
 have hnb : (n.num == s.1 + 1) = false := by simpa using hnum
 clear h0 h hr hok hzs hset ht hbox hb hk hw0 hck hk11 hnum
 go_enter Tryz.func34, Tryz.ntmps34
 go_wp2_with fail
 rw [← hw1]
 clear hw1
 refine (HY.out 7 w1).mono ?_
 rintro e w' ⟨rfl, rfl⟩
 go_wp2_with fail
 refine (HHK.out w1 HB1.out).mono ?_
 rintro e w2 ⟨rfl, hb2⟩
 have HB2 := hide (HB1.out.trans (hb2.mono HB1.out.size))
 have HX2 := hide (show w2.heap[w.heap.size]? = some (nvO n) by rw [hb2.block _ (lt_of_block HX1.out)]; exact HX1.out)
 clear hb2 HB1 HX1 d0 d1 d2 d3 d4 d5 d6 d7
 obtain ⟨d0, d1, d2, d3, d4, d5, d6, d7⟩ := nv_cells HX2.out
 go_wp2_with fail
 refine (HHF.out w2 HB2.out).mono ?_
 rintro e w3 ⟨rfl, hb3⟩
 have HB3 := hide (HB2.out.trans (hb3.mono HB2.out.size))
 have HX3 := hide (show w3.heap[w.heap.size]? = some (nvO n) by rw [hb3.block _ (lt_of_block HX2.out)]; exact HX2.out)
 clear hb3 HB2 HX2 d0 d1 d2 d3 d4 d5 d6 d7
 obtain ⟨d0, d1, d2, d3, d4, d5, d6, d7⟩ := nv_cells HX3.out
 go_wp2_with fail
 refine (HY.out 1 w3).mono ?_
 rintro e w' ⟨rfl, rfl⟩
 go_wp2_with fail
 refine (HSC.out w3 HB3.out).mono ?_
 rintro e w4 ⟨rfl, hb4⟩
 have HB4 := hide (HB3.out.trans (hb4.mono HB3.out.size))
 have HX4 := hide (show w4.heap[w.heap.size]? = some (nvO n) by rw [hb4.block _ (lt_of_block HX3.out)]; exact HX3.out)
 clear hb4 HB3 HX3 d0 d1 d2 d3 d4 d5 d6 d7
 obtain ⟨d0, d1, d2, d3, d4, d5, d6, d7⟩ := nv_cells HX4.out
 go_wp2_with fail
 refine (HY.out 0 w4).mono ?_
 rintro e w' ⟨rfl, rfl⟩
 have HC4 := hide (HCK.out.keep HB4.out)
 obtain ⟨cv, c0, c1, -, -, cf, clt⟩ := HC4.out.cells
 have clw : cb < w.heap.size := (HCK.out.cells).choose_spec.2.2.2.2.2
 have cn1 : ¬ cb = w.heap.size := by omega
 have cn2 : ¬ w.heap.size = cb := by omega
 have hgw : IntKind.i64.wrap (s.1 + 1) = s.1 + 1 := by rw [IntKind.wrap_i64]; omega
 go_upto_region 10 with fail
 obtain ⟨w5, hw5⟩ : ∃ w5, w5 = w4.setCell ⟨cb, 0, none⟩ (.int .i64 (s.1 + 1)) := ⟨_, rfl⟩
 have HC5 := hide (HC4.out.groups (s.1 + 1))
 have HX5 : Hid (w5.heap[w.heap.size]? = some (nvO n)) := by show _ = _; rw [hw5, Below.heap_setCell _ _ _ _ cn2]; exact HX4.out
 have HBw : Hid (Below w0.heap.size w w5) := by show Below _ _ _; rw [hw5]; exact (HB4.out.mono HW0.out.size).setCell (HCK.out.1) _
 rw [← hw5] at HC5
 rw [← hw5]
 clear hw5 d0 d1 d2 d3 d4 d5 d6 d7 c0 c1 cf clt HX4
 obtain ⟨cv5, c0, c1, -, -, cf, clt⟩ := HC5.out.cells
 obtain ⟨d0, d1, d2, d3, d4, d5, d6, d7⟩ := nv_cells HX5.out
 simp only at c0
 clear HX5
 go_still_tail 7, (by kernel_rfl)
 go_wp2_with fail
 refine (HM.out 4 _).mono ?_
 rintro e w' ⟨rfl, rfl⟩
 go_wp2
 exact ⟨rfl, rfl, HBw.out.trans ⟨rfl, rfl, rfl, Nat.le_refl _, fun _ _ => rfl⟩⟩
end Go.Proofs.YtklbbbldalmnbaaGreatDoor.TR
namespace Go.Proofs.YtklbbbldalmnbaaGreatDoor.TR
open Go.RowKit
set_option linter.unusedVariables false
theorem own_shape {B e : Nat} {w : World} {v : Value} {n k : Nat} {xs : List Value} (h : w.ownsRow B e k v n xs) : ∃ ao cap, v = .slice ao n cap := by
 rcases h.2 with ⟨rfl, rfl⟩ | ⟨g, cap, cur, rfl, _⟩
 ·exact ⟨_, _, rfl⟩
 ·exact ⟨_, _, rfl⟩
theorem info_parts {o : Option TypeInfo} {z : Option Value} {s b : Nat} (h : o.map (fun i => (i.zero, i.size, i.bytes)) = some (z, s, b)) : ∃ i, o = some i ∧ i.zero = z ∧ i.size = s ∧ i.bytes = b := by
 cases o with
 | none => simp at h
 | some i => simp at h; exact ⟨i, rfl, h.1, h.2.1, h.2.2⟩
theorem info3 : (Tryz.prog.info? 3).map (fun i => (i.zero, i.size, i.bytes)) = some (some (.int .i64 0), 1, 8) := by kernel_rfl
theorem below_drew {B : Nat} {w w' : World} (h : Below B w w') : Below B w w'.drew := ⟨h.1, h.2, h.3, h.4, h.5⟩
theorem grown_below {B : Nat} {w wr w1 : World} {v : Value} {n : Nat} {xs : List Value} (ho : wr.ownsRow B 3 1 v n xs) (hb : Below B w wr) (hB : B ≤ wr.heap.size) {o : Obj} (hg : (wr.alloc o).drew.grownBy w1 v.ownBlock) : Below B w w1 :=
 hb.trans (((below_drew ((Below.refl B wr).alloc hB o))).grown hg (by show B ≤ (wr.alloc o).heap.size; simp; omega) (fun k hk => (ho.lt k hk).1))
theorem grown_at {wr w1 : World} {v : Value} {o : Obj} (hg : (wr.alloc o).drew.grownBy w1 v.ownBlock) {k : Nat} (hk : k < wr.heap.size) (hne : v.ownBlock ≠ some k) : w1.heap[k]? = wr.heap[k]? := by
 rw [hg.block k (by show k < (wr.alloc o).heap.size; simp; omega) (fun e => hne e.symm)]
 show (wr.alloc o).heap[k]? = _
 rw [Below.heap_alloc _ _ _ hk]
theorem CK.again {B : Nat} {wr w1 : World} {cb : Nat} {s : St} {o : Obj} {ro : Option Addr} {rc gg cap : Nat} {num : Int} (hB : B ≤ cb) (hc : wr.heap[cb]? = some (.cells #[.int .i64 s.1, .slice ro s.2.length rc] 79 (0, 0))) (hne : (Value.slice ro s.2.length rc).ownBlock ≠ some cb) (hg : (wr.alloc o).drew.grownBy w1 (Value.slice ro s.2.length rc).ownBlock) (hown : w1.ownsRow B 3 1 (.slice (some ⟨gg, 0, none⟩) (s.2.length + 1) cap) (s.2.length + 1) (i64s s.2 ++ [.int .i64 num])) (hat : (Value.slice ro s.2.length rc).ownBlock = some gg ∨ gg = wr.heap.size + 1) : CK B (w1.setCell ⟨cb, 1, none⟩ (.slice (some ⟨gg, 0, none⟩) (s.2.length + 1) cap)) cb (s.1, s.2 ++ [num]) := by
 have hlt := lt_of_block hc
 have h1 : w1.heap[cb]? = some (.cells #[.int .i64 s.1, .slice ro s.2.length rc] 79 (0, 0)) := by rw [grown_at hg hlt hne]; exact hc
 have hn2 : (Value.slice (some ⟨gg, 0, none⟩) (s.2.length + 1) cap).ownBlock ≠ some cb := by
  rcases hat with e | e
  ·show some gg ≠ some cb
   rw [← e]; exact hne
  ·show some gg ≠ some cb
   intro e2
   have := Option.some.inj e2
   omega
 refine ⟨hB, _, by rw [set_one h1]; rfl, ?_, hn2⟩
 have := own_set (cb := cb) (o := 1) (u := .slice (some ⟨gg, 0, none⟩) (s.2.length + 1) cap) hown hn2
 simpa [i64s] using this
theorem own_row_elem {B e k n : Nat} {w : World} {v : Value} {xs : List Value} (h : w.ownsRow B e k v n xs) {g : Nat} (hg : v.ownBlock = some g) : ∃ cur, w.heap[g]? = some (.cells cur e (0, 0)) := by
 rcases h.2 with ⟨rfl, _⟩ | ⟨g', cap, cur, rfl, _, hh, _⟩
 ·cases hg
 ·have : g' = g := Option.some.inj hg
  subst this
  exact ⟨_, hh⟩
end Go.Proofs.YtklbbbldalmnbaaGreatDoor.TR
namespace Go.Proofs.YtklbbbldalmnbaaGreatDoor.TR
set_option maxHeartbeats 8000000
set_option maxRecDepth 100000
open Go.RowKit
set_option linter.unusedVariables false
theorem node_again (w0 : World) (n : NV) (set : RL) (ks : List Tr) (vs : Nat → NV) (h0 : NodeC w0 n (.mk n.kind n.num n.least n.most n.way n.fold set ks)) (hk : KidsC w0 n.ka n.kl n.kc ks.length vs) (w : World) (hw0 : Below w0.heap.size w0 w) (cb : Nat) (s : St) (hck : CK w0.heap.size w cb s) (hkd : 1 ≤ n.kind ∧ n.kind ≤ 18) (hok : (kidsB (.mk n.kind n.num n.least n.most n.way n.fold set ks) && fieldsB (.mk n.kind n.num n.least n.most n.way n.fold set ks)) = true) (hzs : checkE set = 0) (hk18 : n.kind = 18) (hsz : 0 ≤ s.1 ∧ s.1 + szL ks + 1 ≤ 1000000 ∧ s.2.length + szL ks + 1 ≤ 1000000) (ih : ∀ j (hj : j < ks.length) (W : World) (s : St), Below w0.heap.size w0 W → CK w0.heap.size W cb s → 0 ≤ s.1 ∧ s.1 + szT ks[j] ≤ 1000000 ∧ s.2.length + szT ks[j] ≤ 1000000 → Calls Tryz.prog 34 #[.pointer (some ⟨cb, 0, none⟩), nvV (vs j)] W fun e w' => NodeE w0.heap.size (chkT ks[j] s) cb W e w') : Calls Tryz.prog 34 #[.pointer (some ⟨cb, 0, none⟩), nvV n] w fun e w' => NodeE w0.heap.size (chkT (.mk n.kind n.num n.least n.most n.way n.fold set ks) s) cb w e w' := by
 have h := h0.keep hw0
 have hr := h.open.2.2.2.2.2.2.1
 obtain ⟨t, ht⟩ : ∃ t, t = Tr.mk n.kind n.num n.least n.most n.way n.fold set ks := ⟨_, rfl⟩
 have hset : t.set = set := by rw [ht]; rfl
 rw [← ht] at h hr hok  ⊢
 rw [← hset] at hzs
 have hb : Below w.heap.size w (w.alloc (nvO n)) := (Below.refl _ _).alloc (Nat.le_refl _) _
 rw [Bool.and_eq_true] at hok
 have HHK := hide (fun W (hW : Below w.heap.size w W) => hasItsKids_any n t W (h.keep hW))
 have HHF := hide (fun W (hW : Below w.heap.size w W) => hasItsFields_any n t W (h.keep hW))
 have HHR := hide (fun W (hW : Below w.heap.size w W) => checkRepeat_any n t W (h.keep hW))
 have HSC := hide (fun W (hW : Below w.heap.size w W) => check_any _ t.set W (hr.below hW))
 rw [hok.1] at HHK
 rw [hok.2] at HHF
 rw [hzs] at HSC
 have HY := hide (fun k W => must_yes k W)
 have HM : Hid (∀ k W, Calls Tryz.prog 53 #[.bool false, .int .i64 k] W fun e w' => e = .panicked [{ v := .iface 29 (.int .i64 k), recovered := false }] ∧ W = w') := fun k W => must_no k W
 have HKL : Hid (n.kl = ks.length) := hk.len
 have HK := hide hk
 have HW0 := hide hw0
 obtain ⟨w1, hw1⟩ : ∃ w1, w1 = w.alloc (nvO n) := ⟨_, rfl⟩
 have hbox : w1.heap[w.heap.size]? = some (nvO n) := by rw [hw1]; exact at_new _ _
 rw [← hw1] at hb
 have HB1 := hide hb
 have HX1 := hide hbox
 have HCK := hide hck
 obtain ⟨d0, d1, d2, d3, d4, d5, d6, d7⟩ := nv_cells hbox
 simp only [nvO] at hw1
 obtain ⟨g1, g2⟩ := hkd
 have HIH := hide ih
 have HFin : Hid (chkT t s = chkL ks (s.1, s.2 ++ [n.num])) := by
  show _ = _
  rw [chkT_kids]
  have hn : nodeS t s = .ok (s.1, s.2 ++ [n.num]) := by
   unfold nodeS
   have hkk : t.kind = n.kind := by rw [ht]; rfl
   have hnn : t.num = n.num := by rw [ht]; rfl
   rw [hkk, hnn, if_neg (by omega), if_neg (by rw [hok.1, hok.2]; decide), if_neg (by omega)]
   rw [if_neg (by omega), if_neg (by omega), if_pos hk18]
  rw [hn, ht]; rfl
 have b12 : (n.kind == 12) = false := by simp only [beq_eq_false_iff_ne, ne_eq]; omega
 have b11 : (n.kind == 11) = false := by simp only [beq_eq_false_iff_ne, ne_eq]; omega
 have b18 : (n.kind == 18) = true := by simpa using hk18
 clear hk18
 clear h0 h hr hok hzs hset ht hbox hb hk hw0 hck ih
 go_enter Tryz.func34, Tryz.ntmps34
 go_wp2_with fail
 rw [← hw1]
 clear hw1
 refine (HY.out 7 w1).mono ?_
 rintro e w' ⟨rfl, rfl⟩
 go_wp2_with fail
 refine (HHK.out w1 HB1.out).mono ?_
 rintro e w2 ⟨rfl, hb2⟩
 have HB2 := hide (HB1.out.trans (hb2.mono HB1.out.size))
 have HX2 := hide (show w2.heap[w.heap.size]? = some (nvO n) by rw [hb2.block _ (lt_of_block HX1.out)]; exact HX1.out)
 clear hb2 HB1 HX1 d0 d1 d2 d3 d4 d5 d6 d7
 obtain ⟨d0, d1, d2, d3, d4, d5, d6, d7⟩ := nv_cells HX2.out
 go_wp2_with fail
 refine (HHF.out w2 HB2.out).mono ?_
 rintro e w3 ⟨rfl, hb3⟩
 have HB3 := hide (HB2.out.trans (hb3.mono HB2.out.size))
 have HX3 := hide (show w3.heap[w.heap.size]? = some (nvO n) by rw [hb3.block _ (lt_of_block HX2.out)]; exact HX2.out)
 clear hb3 HB2 HX2 d0 d1 d2 d3 d4 d5 d6 d7
 obtain ⟨d0, d1, d2, d3, d4, d5, d6, d7⟩ := nv_cells HX3.out
 go_wp2_with fail
 refine (HY.out 1 w3).mono ?_
 rintro e w' ⟨rfl, rfl⟩
 go_wp2_with fail
 refine (HSC.out w3 HB3.out).mono ?_
 rintro e w4 ⟨rfl, hb4⟩
 have HB4 := hide (HB3.out.trans (hb4.mono HB3.out.size))
 have HX4 := hide (show w4.heap[w.heap.size]? = some (nvO n) by rw [hb4.block _ (lt_of_block HX3.out)]; exact HX3.out)
 clear hb4 HB3 HX3 d0 d1 d2 d3 d4 d5 d6 d7
 obtain ⟨d0, d1, d2, d3, d4, d5, d6, d7⟩ := nv_cells HX4.out
 go_wp2_with fail
 refine (HY.out 0 w4).mono ?_
 rintro e w' ⟨rfl, rfl⟩
 have HC4 := hide (HCK.out.keep HB4.out)
 obtain ⟨i0, hi, hz0, hz1, hz2⟩ := info_parts info3
 obtain ⟨hBc, cv, hcc, ho, hne⟩ := HC4.out
 obtain ⟨ro, rc, rfl⟩ := own_shape ho
 have clw : cb < w.heap.size := (HCK.out.cells).choose_spec.2.2.2.2.2
 have cn1 : ¬ cb = w.heap.size := by omega
 have cn2 : ¬ w.heap.size = cb := by omega
 have HBw4 : Hid (Below w0.heap.size w w4) := HB4.out.mono HW0.out.size
 have hB4 : w0.heap.size ≤ w4.heap.size := Nat.le_trans HW0.out.size HB4.out.size
 have hx4 : w.heap.size < w4.heap.size := lt_of_block HX4.out
 have hnx : (Value.slice ro s.2.length rc).ownBlock ≠ some w.heap.size := fun e => by
  obtain ⟨cur, hcur⟩ := own_row_elem ho e
  have h2 := HX4.out
  rw [hcur] at h2
  exact absurd (Obj.cells.inj (Option.some.inj h2)).2.1 (by decide)
 have c0 : w4.cell? ⟨cb, 0, none⟩ = some (.int .i64 s.1) := by simp [World.cell?, hcc]
 have c1 : w4.cell? ⟨cb, 1, none⟩ = some (.slice ro s.2.length rc) := by simp [World.cell?, hcc]
 have HO := hide ho
 have HCC := hide hcc
 have HNE := hide hne
 have HNX := hide hnx
 have HBc := hide hBc
 obtain ⟨q, hq⟩ : ∃ q, q = s.2.length := ⟨_, rfl⟩
 have HQ := hide hq
 have hq1 : q + 1 ≤ 1000000 := by omega
 rw [← hq] at c1
 clear ho hcc hne hnx hBc hq
 have HOq : Hid (w4.ownsRow w0.heap.size 3 1 (.slice ro q rc) q (i64s s.2)) := by show World.ownsRow _ _ _ _ _ _ _; rw [HQ.out]; exact HO.out
 have HNXq : Hid ((Value.slice ro q rc).ownBlock ≠ some w.heap.size) := by show _ ≠ _; rw [HQ.out]; exact HNX.out
 have HC5q : Hid (∀ (o : Obj) (w5 : World), (w4.alloc o).drew.grownBy w5 (Value.slice ro q rc).ownBlock → w5.heap[cb]? = some (.cells #[.int .i64 s.1, .slice ro q rc] 79 (0, 0))) := fun o w5 hg => by
  have hq := HQ.out
  subst hq
  rw [grown_at hg (lt_of_block HCC.out) HNE.out]; exact HCC.out
 have c1a := below_cell ((Below.refl _ w4).alloc (Nat.le_refl _) (.cells #[.int .i64 n.num] 3)) (lt_of_cell c1) c1
 have clt4 : cb < w4.heap.size := lt_of_block HCC.out
 go_upto_region 12 with fail
 go_region_law
  ((refine step_append_lies _ (by rfl) _ _ _ (by rfl) w0.heap.size 3 i0 _ 1 8 Tryz.underlying36 hi hz0 hz1 hz2 rfl (by omega) (.slice ro q rc) q (i64s s.2) (by rfl) ((HOq.out.alloc _).drew) ⟨w4.heap.size, 0, none⟩ 1 1 [.int .i64 n.num] (by rfl) (by rfl) (World.news_of_block (cs := #[.int .i64 n.num]) (t := 3) (fr := (0, 0)) (heap_alloc_new w4 _)) (by simp [Value.oneCell']) (by omega) (by unfold maxLen; omega) (by omega) (by first | (simp; done) | (simp; omega)) (w4.heap.size + 1) (by simp) ?_; intro gg cap w5 hown1 hgrow hat hltt; have HG5 := hide hgrow; have HA5 := hide hat; have HOW := hide hown1; have hcc5 := HC5q.out _ _ hgrow; have k1 : w5.cell? ⟨cb, 1, none⟩ = some (.slice ro q rc) := (by simp [World.cell?, hcc5]); have k2 : ∀ o, w5.frozen? ⟨cb, o, none⟩ = false := (by intro o; simp [World.frozen?, hcc5]); clear hat hown1 hcc5))
 all_goals
  obtain ⟨w6, hw6⟩ : ∃ w6, w6 = w5.setCell ⟨cb, 1, none⟩ (.slice (some ⟨gg, 0, none⟩) (q + 1) cap) := ⟨_, rfl⟩
  have HX6 : Hid (w6.heap[w.heap.size]? = some (nvO n)) := by show _ = _; rw [hw6, Below.heap_setCell _ _ _ _ (fun e => cn2 e), grown_at HG5.out hx4 HNXq.out]; exact HX4.out
  have HC6 : Hid (CK w0.heap.size w6 cb (s.1, s.2 ++ [n.num])) := by
   have hq := HQ.out
   subst hq
   show CK _ _ _ _
   rw [hw6]
   exact CK.again HBc.out HCC.out HNE.out HG5.out HOW.out HA5.out
  have HBw : Hid (Below w0.heap.size w w6) := by
   show Below _ _ _
   rw [hw6]
   exact (grown_below HOq.out HBw4.out hB4 HG5.out).setCell HBc.out _
  rw [← hw6]
  clear hw6 d0 d1 d2 d3 d4 d5 d6 d7 c0 c1 c1a k1 k2
  obtain ⟨d0, d1, d2, d3, d4, d5, d6, d7⟩ := nv_cells HX6.out
  go_wp2
  clear d0 d1 d2 d3 d4 d5 d6 d7
  have hsz2 := hsz
  go_loopw [69] (fun t wr => ∃ (j : Nat) (s2 : St), j ≤ ks.length ∧ t = .int .i64 j ∧ chkL ks (s.1, s.2 ++ [n.num]) = chkL (ks.drop j) s2 ∧ CK w0.heap.size wr cb s2 ∧ (0 ≤ s2.1 ∧ s2.1 + szL (ks.drop j) ≤ 1000000 ∧ s2.2.length + szL (ks.drop j) ≤ 1000000) ∧ Below w0.heap.size w wr) (fun t _ => ks.length - (intOf t).toNat)
  case atStart => exact ⟨0, (s.1, s.2 ++ [n.num]), Nat.zero_le _, rfl, rfl, HC6.out, by have h := hsz2; simp only [List.drop_zero, List.length_append, List.length_cons, List.length_nil]; omega, HBw.out⟩
  case round =>
   obtain ⟨j, s2, hj, rfl, hE, hck2, hbd, hb⟩ := hrel
   have HE := hide hE
   have HBr := hide hb
   have HCr := hide hck2
   obtain ⟨w20, hw20⟩ : ∃ w20, w20 = wr := ⟨_, rfl⟩
   subst hw20
   clear hb hE hck2
   by_cases hlt : j < ks.length
   ·have e2 : (j : Int) < (n.kl : Int) := by have := HKL.out; omega
    have e4 : (0 : Int) ≤ (j : Int) := by omega
    rcases HK.out with ⟨_, _, _, h00⟩ | ⟨x, hx, hkk, hmx, hcl⟩
    ·exact absurd h00 (by omega)
    ·obtain ⟨d0, d1, d2, d3, d4, d5, d6, d7⟩ := (hcl j hlt).below (HW0.out.trans HBr.out)
     have hszj := szL_drop hlt
     have hB3 : Below w20.heap.size w20 (w20.alloc (nvO (vs j))) := (Below.refl _ _).alloc (Nat.le_refl _) _
     have HC := hide (HIH.out j hlt (w20.alloc (nvO (vs j))) s2 (HW0.out.trans (HBr.out.trans (hB3.mono (Nat.le_trans HW0.out.size HBr.out.size)))) (HCr.out.keep hB3) (by omega))
     obtain ⟨w21, hw21⟩ : ∃ w21, w21 = w20.alloc (nvO (vs j)) := ⟨_, rfl⟩
     have hbx : w21.heap[w20.heap.size]? = some (nvO (vs j)) := by rw [hw21]; exact at_new _ _
     rw [← hw21] at HC hB3
     have HB21 := hide (HBr.out.trans (hB3.mono (Nat.le_trans HW0.out.size HBr.out.size)))
     obtain ⟨b0, b1, b2, b3, b4, b5, b6, b7⟩ := nv_cells hbx
     simp only [nvO] at hw21
     have hjw : IntKind.i64.wrap ((j : Int) + 1) = (j : Int) + 1 := by rw [IntKind.wrap_i64]; omega
     have HD := hide (chkL_drop hlt s2)
     have HBD := hide hbd
     have HSJ := hide hszj
     rw [hx]
     clear hcl hx hkk hB3 hbx hszj hbd
     go_wp2_with fail
     rw [← hw21]
     clear hw21
     refine HC.out.mono ?_
     rintro e w22 ⟨hb22, ⟨s3, hR, rfl, hck3⟩ | ⟨z, hR, rfl⟩⟩
     ·have HB22 := hide (HB21.out.trans hb22)
      have HC3 := hide hck3
      have hgr := chkT_grow _ _ _ hR
      have HNx : Hid (chkL ks (s.1, s.2 ++ [n.num]) = chkL (ks.drop (j + 1)) s3) := by show _ = _; rw [HE.out, HD.out, hR]
      have HBd3 : Hid (0 ≤ s3.1 ∧ s3.1 + szL (ks.drop (j + 1)) ≤ 1000000 ∧ s3.2.length + szL (ks.drop (j + 1)) ≤ 1000000) := by have := HBD.out; have := HSJ.out; show _ ∧ _ ∧ _; omega
      clear hb22 hck3 hgr hR HC HBD
      go_wp2
      go_roundw
      case rel => exact ⟨j + 1, s3, by omega, by go_num, HNx.out, HC3.out, HBd3.out, HB22.out⟩
      case measure => simp [intOf]; omega
     ·have HB22 := hide (HB21.out.trans hb22)
      have hF : Hid (chkT t s = .error z) := by show _ = _; rw [HFin.out, HE.out, HD.out, hR]
      clear hb22 hR HC
      go_wp2
      exact ⟨rfl, HB22.out, .inr ⟨z, hF.out, rfl⟩⟩
   ·have e2 : ¬ (j : Int) < (n.kl : Int) := by have := HKL.out; omega
    have hF : Hid (chkT t s = .ok s2) := by
     show _ = _
     rw [HFin.out, HE.out, List.drop_eq_nil_of_le (by omega)]; rfl
    go_wp2
    go_end0
    exact ⟨HBr.out, .inl ⟨s2, hF.out, rfl, HCr.out⟩⟩
end Go.Proofs.YtklbbbldalmnbaaGreatDoor.TR
namespace Go.Proofs.YtklbbbldalmnbaaGreatDoor.TR
open Go.RowKit
set_option linter.unusedVariables false
theorem node_any {w0 : World} {n : NV} {t : Tr} (h : NodeC w0 n t) : ∀ (cb : Nat) (w : World) (s : St), Below w0.heap.size w0 w → CK w0.heap.size w cb s → 0 ≤ s.1 ∧ s.1 + szT t ≤ 1000000 ∧ s.2.length + szT t ≤ 1000000 → Calls Tryz.prog 34 #[.pointer (some ⟨cb, 0, none⟩), nvV n] w fun e w' => NodeE w0.heap.size (chkT t s) cb w e w' := by
 induction h with
 | mk n set ks vs hs hk hkids ih =>
  intro cb w s hw0 hck hsz
  have h0 : NodeC w0 n (.mk n.kind n.num n.least n.most n.way n.fold set ks) := .mk n set ks vs hs hk hkids
  have hN := h0.keep hw0
  have hB := hw0.size
  rw [szT] at hsz
  obtain ⟨z1, z2, z3⟩ := hsz
  have hsz' : 0 ≤ s.1 ∧ s.1 + szL ks + 1 ≤ 1000000 ∧ s.2.length + szL ks + 1 ≤ 1000000 := ⟨z1, by omega, by omega⟩
  have hih : ∀ j (hj : j < ks.length) (W : World) (s : St), Below w0.heap.size w0 W → CK w0.heap.size W cb s → 0 ≤ s.1 ∧ s.1 + szT ks[j] ≤ 1000000 ∧ s.2.length + szT ks[j] ≤ 1000000 → Calls Tryz.prog 34 #[.pointer (some ⟨cb, 0, none⟩), nvV (vs j)] W fun e w' => NodeE w0.heap.size (chkT ks[j] s) cb W e w' := fun j hj W s => ih j hj cb W s
  have err : ∀ z, nodeS (.mk n.kind n.num n.least n.most n.way n.fold set ks) s = .error z → chkT (.mk n.kind n.num n.least n.most n.way n.fold set ks) s = .error z := fun z hz => by rw [chkT_kids, hz]
  by_cases hkd : 1 ≤ n.kind ∧ n.kind ≤ 18
  ·by_cases hok : (kidsB (.mk n.kind n.num n.least n.most n.way n.fold set ks) && fieldsB (.mk n.kind n.num n.least n.most n.way n.fold set ks)) = true
   ·by_cases hzs : checkE set = 0
    ·by_cases h12 : n.kind = 12
     ·by_cases hrep : repE (.mk n.kind n.num n.least n.most n.way n.fold set ks) = 0
      ·exact node_rep w0 n set ks vs h0 hk w hw0 cb s hck hkd hok hzs h12 hrep hsz' hih
      ·refine (node_repbad w0 n set ks vs h0 hk w hw0 cb s hck hkd hok hzs h12 hrep).mono ?_
       rintro e w' ⟨rfl, hb⟩
       refine ⟨hb.mono hB, .inr ⟨_, err _ ?_, rfl⟩⟩
       unfold nodeS
       rw [if_neg (by show ¬ ¬ (1 ≤ n.kind ∧ n.kind ≤ 18); omega), if_neg (by rw [hok]; decide), if_neg (by show ¬ checkE set ≠ 0; omega), if_pos (show (Tr.mk n.kind n.num n.least n.most n.way n.fold set ks).kind = 12 from h12), if_neg hrep]
     ·by_cases h11 : n.kind = 11
      ·by_cases hnum : n.num = s.1 + 1
       ·exact node_group w0 n set ks vs h0 hk w hw0 cb s hck hkd hok hzs h11 hnum hsz' hih
       ·refine (node_groupbad w0 n set ks vs h0 hk w hw0 cb s hck hkd hok hzs h11 hnum ⟨hsz'.1, hsz'.2.1⟩).mono ?_
        rintro e w' ⟨rfl, hb⟩
        refine ⟨hb, .inr ⟨_, err _ ?_, rfl⟩⟩
        unfold nodeS
        rw [if_neg (by show ¬ ¬ (1 ≤ n.kind ∧ n.kind ≤ 18); omega), if_neg (by rw [hok]; decide), if_neg (by show ¬ checkE set ≠ 0; omega), if_neg (show ¬ (Tr.mk n.kind n.num n.least n.most n.way n.fold set ks).kind = 12 from h12), if_pos (show (Tr.mk n.kind n.num n.least n.most n.way n.fold set ks).kind = 11 from h11), if_neg (show ¬ (Tr.mk n.kind n.num n.least n.most n.way n.fold set ks).num = s.1 + 1 from hnum)]
      ·by_cases h18 : n.kind = 18
       ·exact node_again w0 n set ks vs h0 hk w hw0 cb s hck hkd hok hzs h18 hsz' hih
       ·exact node_other w0 n set ks vs h0 hk w hw0 cb s hck hkd hok hzs ⟨h12, h11, h18⟩ hsz' hih
    ·refine (node_set w0.heap.size n _ w cb s hN hB hck hkd hok hzs).mono ?_
     rintro e w' ⟨rfl, hb⟩
     refine ⟨hb.mono hB, .inr ⟨_, err _ ?_, rfl⟩⟩
     unfold nodeS
     rw [if_neg (by show ¬ ¬ (1 ≤ n.kind ∧ n.kind ≤ 18); omega), if_neg (by rw [hok]; decide), if_pos (show checkE (Tr.mk n.kind n.num n.least n.most n.way n.fold set ks).set ≠ 0 from hzs)]
   ·have hok' : (kidsB (.mk n.kind n.num n.least n.most n.way n.fold set ks) && fieldsB (.mk n.kind n.num n.least n.most n.way n.fold set ks)) = false := by simpa using hok
    refine (node_form w0.heap.size n _ w cb s hN hB hck hkd hok').mono ?_
    rintro e w' ⟨rfl, hb⟩
    refine ⟨hb.mono hB, .inr ⟨_, err _ ?_, rfl⟩⟩
    unfold nodeS
    rw [if_neg (by show ¬ ¬ (1 ≤ n.kind ∧ n.kind ≤ 18); omega), if_pos hok']
  ·refine (node_kind w0.heap.size n _ w cb s hN hB hck hkd).mono ?_
   rintro e w' ⟨rfl, hb⟩
   refine ⟨hb.mono hB, .inr ⟨_, err _ ?_, rfl⟩⟩
   unfold nodeS
   rw [if_pos (show ¬ (1 ≤ (Tr.mk n.kind n.num n.least n.most n.way n.fold set ks).kind ∧ (Tr.mk n.kind n.num n.least n.most n.way n.fold set ks).kind ≤ 18) from hkd)]
end Go.Proofs.YtklbbbldalmnbaaGreatDoor.TR
