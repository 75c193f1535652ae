import Derived.Test.YtfnndcbjklppeaaGreatDoorUF
import Derived.Deep.QuietTactic
import Derived.BigQuiet
import Derived.Test.YtfnndcbjklppeaaGreatDoorUG
import Derived.Deep.Cut
import Derived.StillTailTactics
set_option maxHeartbeats 8000000
set_option maxRecDepth 100000
set_option linter.unusedVariables false
namespace Go.Proofs.YtfnndcbjklppeaaGreatDoor
open Go.RowKit
theorem node_other (w0 : World) (n : NV) (set : RL) (ks : List Tr) (vs : Nat → NV) (h0 : NodeC w0 n (.mk n.kind n.num n.least n.most n.way n.fold set ks)) (hk : KidsC w0 n.ka n.kl n.kc ks.length vs) (w : World) (hw0 : Below w0.heap.size w0 w) (cb : Nat) (s : St) (hck : CK w0.heap.size w cb s) (hkd : 1 ≤ n.kind ∧ n.kind ≤ 18) (hok : (kidsB (.mk n.kind n.num n.least n.most n.way n.fold set ks) && fieldsB (.mk n.kind n.num n.least n.most n.way n.fold set ks)) = true) (hzs : checkE set = 0) (hne : n.kind ≠ 12 ∧ n.kind ≠ 11 ∧ n.kind ≠ 18) (hsz : 0 ≤ s.1 ∧ s.1 + szL ks + 1 ≤ 1000000 ∧ s.2.length + szL ks + 1 ≤ 1000000) (ih : ∀ j (hj : j < ks.length) (W : World) (s : St), Below w0.heap.size w0 W → CK w0.heap.size W cb s → 0 ≤ s.1 ∧ s.1 + szT ks[j] ≤ 1000000 ∧ s.2.length + szT ks[j] ≤ 1000000 → Calls Tryz.prog 101 #[.pointer (some ⟨cb, 0, none⟩), nvV (vs j)] W fun e w' => NodeE w0.heap.size (chkT ks[j] s) cb W e w') : Calls Tryz.prog 101 #[.pointer (some ⟨cb, 0, none⟩), nvV n] w fun e w' => NodeE w0.heap.size (chkT (.mk n.kind n.num n.least n.most n.way n.fold set ks) s) cb w e w' := by
 have h := h0.keep hw0
 have hr := h.open.2.2.2.2.2.2.1
 obtain ⟨t, ht⟩ : ∃ t, t = Tr.mk n.kind n.num n.least n.most n.way n.fold set ks := ⟨_, rfl⟩
 have hset : t.set = set := by rw [ht]; rfl
 rw [← ht] at h hr hok  ⊢
 rw [← hset] at hzs
 have hb : Below w.heap.size w (w.alloc (nvO n)) := (Below.refl _ _).alloc (Nat.le_refl _) _
 rw [Bool.and_eq_true] at hok
 have HHK := hide (fun W (hW : Below w.heap.size w W) => hasItsKids_any n t W (h.keep hW))
 have HHF := hide (fun W (hW : Below w.heap.size w W) => hasItsFields_any n t W (h.keep hW))
 have HHR := hide (fun W (hW : Below w.heap.size w W) => checkRepeat_any n t W (h.keep hW))
 have HSC := hide (fun W (hW : Below w.heap.size w W) => check_any _ t.set W (hr.below hW))
 rw [hok.1] at HHK
 rw [hok.2] at HHF
 rw [hzs] at HSC
 have HY := hide (fun k W => must_yes k W)
 have HM : Hid (∀ k W, Calls Tryz.prog 138 #[.bool false, .int .i64 k] W fun e w' => e = .panicked [{ v := .iface 26 (.int .i64 k), recovered := false }] ∧ W = w') := fun k W => must_no k W
 have HKL : Hid (n.kl = ks.length) := hk.len
 have HK := hide hk
 have HW0 := hide hw0
 obtain ⟨w1, hw1⟩ : ∃ w1, w1 = w.alloc (nvO n) := ⟨_, rfl⟩
 have hbox : w1.heap[w.heap.size]? = some (nvO n) := by rw [hw1]; exact at_new _ _
 rw [← hw1] at hb
 have HB1 := hide hb
 have HX1 := hide hbox
 have HCK := hide hck
 obtain ⟨d0, d1, d2, d3, d4, d5, d6, d7⟩ := nv_cells hbox
 simp only [nvO] at hw1
 obtain ⟨g1, g2⟩ := hkd
 have HIH := hide ih
 have HFin : Hid (chkT t s = chkL ks s) := by
  show _ = _
  rw [chkT_kids]
  have hn : nodeS t s = .ok s := by
   unfold nodeS
   have hkk : t.kind = n.kind := by rw [ht]; rfl
   have hnn : t.num = n.num := by rw [ht]; rfl
   rw [hkk, hnn, if_neg (by omega), if_neg (by rw [hok.1, hok.2]; decide), if_neg (by omega)]
   rw [if_neg (by omega), if_neg (by omega), if_neg (by omega)]
  rw [hn, ht]; rfl
 have b12 : (n.kind == 12) = false := by simp only [beq_eq_false_iff_ne, ne_eq]; omega
 have b11 : (n.kind == 11) = false := by simp only [beq_eq_false_iff_ne, ne_eq]; omega
 have b18 : (n.kind == 18) = false := by simp only [beq_eq_false_iff_ne, ne_eq]; omega
 clear hne
 clear h0 h hr hok hzs hset ht hbox hb hk hw0 hck ih
 go_enter Tryz.func101, Tryz.ntmps101
 go_wp2_with fail
 rw [← hw1]
 clear hw1
 refine (HY.out 7 w1).mono ?_
 rintro e w' ⟨rfl, rfl⟩
 go_wp2_with fail
 refine (HHK.out w1 HB1.out).mono ?_
 rintro e w2 ⟨rfl, hb2⟩
 have HB2 := hide (HB1.out.trans (hb2.mono HB1.out.size))
 have HX2 := hide (show w2.heap[w.heap.size]? = some (nvO n) by rw [hb2.block _ (lt_of_block HX1.out)]; exact HX1.out)
 clear hb2 HB1 HX1 d0 d1 d2 d3 d4 d5 d6 d7
 obtain ⟨d0, d1, d2, d3, d4, d5, d6, d7⟩ := nv_cells HX2.out
 go_wp2_with fail
 refine (HHF.out w2 HB2.out).mono ?_
 rintro e w3 ⟨rfl, hb3⟩
 have HB3 := hide (HB2.out.trans (hb3.mono HB2.out.size))
 have HX3 := hide (show w3.heap[w.heap.size]? = some (nvO n) by rw [hb3.block _ (lt_of_block HX2.out)]; exact HX2.out)
 clear hb3 HB2 HX2 d0 d1 d2 d3 d4 d5 d6 d7
 obtain ⟨d0, d1, d2, d3, d4, d5, d6, d7⟩ := nv_cells HX3.out
 go_wp2_with fail
 refine (HY.out 1 w3).mono ?_
 rintro e w' ⟨rfl, rfl⟩
 go_wp2_with fail
 refine (HSC.out w3 HB3.out).mono ?_
 rintro e w4 ⟨rfl, hb4⟩
 have HB4 := hide (HB3.out.trans (hb4.mono HB3.out.size))
 have HX4 := hide (show w4.heap[w.heap.size]? = some (nvO n) by rw [hb4.block _ (lt_of_block HX3.out)]; exact HX3.out)
 clear hb4 HB3 HX3 d0 d1 d2 d3 d4 d5 d6 d7
 obtain ⟨d0, d1, d2, d3, d4, d5, d6, d7⟩ := nv_cells HX4.out
 go_wp2_with fail
 refine (HY.out 0 w4).mono ?_
 rintro e w' ⟨rfl, rfl⟩
 have HC4 := hide (HCK.out.keep HB4.out)
 have HBw : Hid (Below w0.heap.size w w4) := HB4.out.mono HW0.out.size
 go_wp2
 clear d0 d1 d2 d3 d4 d5 d6 d7
 have hsz2 := hsz
 go_loopw [69] (fun t wr => ∃ (j : Nat) (s2 : St), j ≤ ks.length ∧ t = .int .i64 j ∧ chkL ks s = chkL (ks.drop j) s2 ∧ CK w0.heap.size wr cb s2 ∧ (0 ≤ s2.1 ∧ s2.1 + szL (ks.drop j) ≤ 1000000 ∧ s2.2.length + szL (ks.drop j) ≤ 1000000) ∧ Below w0.heap.size w wr) (fun t _ => ks.length - (intOf t).toNat)
 case atStart => exact ⟨0, s, Nat.zero_le _, rfl, rfl, HC4.out, by have h := hsz2; simp only [List.drop_zero]; omega, HBw.out⟩
 case round =>
  obtain ⟨j, s2, hj, rfl, hE, hck2, hbd, hb⟩ := hrel
  have HE := hide hE
  have HBr := hide hb
  have HCr := hide hck2
  obtain ⟨w20, hw20⟩ : ∃ w20, w20 = wr := ⟨_, rfl⟩
  subst hw20
  clear hb hE hck2
  by_cases hlt : j < ks.length
  ·have e2 : (j : Int) < (n.kl : Int) := by have := HKL.out; omega
   have e4 : (0 : Int) ≤ (j : Int) := by omega
   rcases HK.out with ⟨_, _, _, h00⟩ | ⟨x, hx, hkk, hmx, hcl⟩
   ·exact absurd h00 (by omega)
   ·obtain ⟨d0, d1, d2, d3, d4, d5, d6, d7⟩ := (hcl j hlt).below (HW0.out.trans HBr.out)
    have hszj := szL_drop hlt
    have hB3 : Below w20.heap.size w20 (w20.alloc (nvO (vs j))) := (Below.refl _ _).alloc (Nat.le_refl _) _
    have HC := hide (HIH.out j hlt (w20.alloc (nvO (vs j))) s2 (HW0.out.trans (HBr.out.trans (hB3.mono (Nat.le_trans HW0.out.size HBr.out.size)))) (HCr.out.keep hB3) (by omega))
    obtain ⟨w21, hw21⟩ : ∃ w21, w21 = w20.alloc (nvO (vs j)) := ⟨_, rfl⟩
    have hbx : w21.heap[w20.heap.size]? = some (nvO (vs j)) := by rw [hw21]; exact at_new _ _
    rw [← hw21] at HC hB3
    have HB21 := hide (HBr.out.trans (hB3.mono (Nat.le_trans HW0.out.size HBr.out.size)))
    obtain ⟨b0, b1, b2, b3, b4, b5, b6, b7⟩ := nv_cells hbx
    simp only [nvO] at hw21
    have hjw : IntKind.i64.wrap ((j : Int) + 1) = (j : Int) + 1 := by rw [IntKind.wrap_i64]; omega
    have HD := hide (chkL_drop hlt s2)
    have HBD := hide hbd
    have HSJ := hide hszj
    rw [hx]
    clear hcl hx hkk hB3 hbx hszj hbd
    go_wp2_with fail
    rw [← hw21]
    clear hw21
    refine HC.out.mono ?_
    rintro e w22 ⟨hb22, ⟨s3, hR, rfl, hck3⟩ | ⟨z, hR, rfl⟩⟩
    ·have HB22 := hide (HB21.out.trans hb22)
     have HC3 := hide hck3
     have hgr := chkT_grow _ _ _ hR
     have HNx : Hid (chkL ks s = chkL (ks.drop (j + 1)) s3) := by show _ = _; rw [HE.out, HD.out, hR]
     have HBd3 : Hid (0 ≤ s3.1 ∧ s3.1 + szL (ks.drop (j + 1)) ≤ 1000000 ∧ s3.2.length + szL (ks.drop (j + 1)) ≤ 1000000) := by have := HBD.out; have := HSJ.out; show _ ∧ _ ∧ _; omega
     clear hb22 hck3 hgr hR HC HBD
     go_wp2
     go_roundw
     case rel => exact ⟨j + 1, s3, by omega, by go_num, HNx.out, HC3.out, HBd3.out, HB22.out⟩
     case measure => simp [intOf]; omega
    ·have HB22 := hide (HB21.out.trans hb22)
     have hF : Hid (chkT t s = .error z) := by show _ = _; rw [HFin.out, HE.out, HD.out, hR]
     clear hb22 hR HC
     go_wp2
     exact ⟨rfl, HB22.out, .inr ⟨z, hF.out, rfl⟩⟩
  ·have e2 : ¬ (j : Int) < (n.kl : Int) := by have := HKL.out; omega
   have hF : Hid (chkT t s = .ok s2) := by
    show _ = _
    rw [HFin.out, HE.out, List.drop_eq_nil_of_le (by omega)]; rfl
   go_wp2
   go_end0
   exact ⟨HBr.out, .inl ⟨s2, hF.out, rfl, HCr.out⟩⟩
theorem node_group (w0 : World) (n : NV) (set : RL) (ks : List Tr) (vs : Nat → NV) (h0 : NodeC w0 n (.mk n.kind n.num n.least n.most n.way n.fold set ks)) (hk : KidsC w0 n.ka n.kl n.kc ks.length vs) (w : World) (hw0 : Below w0.heap.size w0 w) (cb : Nat) (s : St) (hck : CK w0.heap.size w cb s) (hkd : 1 ≤ n.kind ∧ n.kind ≤ 18) (hok : (kidsB (.mk n.kind n.num n.least n.most n.way n.fold set ks) && fieldsB (.mk n.kind n.num n.least n.most n.way n.fold set ks)) = true) (hzs : checkE set = 0) (hk11 : n.kind = 11) (hnum : n.num = s.1 + 1) (hsz : 0 ≤ s.1 ∧ s.1 + szL ks + 1 ≤ 1000000 ∧ s.2.length + szL ks + 1 ≤ 1000000) (ih : ∀ j (hj : j < ks.length) (W : World) (s : St), Below w0.heap.size w0 W → CK w0.heap.size W cb s → 0 ≤ s.1 ∧ s.1 + szT ks[j] ≤ 1000000 ∧ s.2.length + szT ks[j] ≤ 1000000 → Calls Tryz.prog 101 #[.pointer (some ⟨cb, 0, none⟩), nvV (vs j)] W fun e w' => NodeE w0.heap.size (chkT ks[j] s) cb W e w') : Calls Tryz.prog 101 #[.pointer (some ⟨cb, 0, none⟩), nvV n] w fun e w' => NodeE w0.heap.size (chkT (.mk n.kind n.num n.least n.most n.way n.fold set ks) s) cb w e w' := by
 have h := h0.keep hw0
 have hr := h.open.2.2.2.2.2.2.1
 obtain ⟨t, ht⟩ : ∃ t, t = Tr.mk n.kind n.num n.least n.most n.way n.fold set ks := ⟨_, rfl⟩
 have hset : t.set = set := by rw [ht]; rfl
 rw [← ht] at h hr hok  ⊢
 rw [← hset] at hzs
 have hb : Below w.heap.size w (w.alloc (nvO n)) := (Below.refl _ _).alloc (Nat.le_refl _) _
 rw [Bool.and_eq_true] at hok
 have HHK := hide (fun W (hW : Below w.heap.size w W) => hasItsKids_any n t W (h.keep hW))
 have HHF := hide (fun W (hW : Below w.heap.size w W) => hasItsFields_any n t W (h.keep hW))
 have HHR := hide (fun W (hW : Below w.heap.size w W) => checkRepeat_any n t W (h.keep hW))
 have HSC := hide (fun W (hW : Below w.heap.size w W) => check_any _ t.set W (hr.below hW))
 rw [hok.1] at HHK
 rw [hok.2] at HHF
 rw [hzs] at HSC
 have HY := hide (fun k W => must_yes k W)
 have HM : Hid (∀ k W, Calls Tryz.prog 138 #[.bool false, .int .i64 k] W fun e w' => e = .panicked [{ v := .iface 26 (.int .i64 k), recovered := false }] ∧ W = w') := fun k W => must_no k W
 have HKL : Hid (n.kl = ks.length) := hk.len
 have HK := hide hk
 have HW0 := hide hw0
 obtain ⟨w1, hw1⟩ : ∃ w1, w1 = w.alloc (nvO n) := ⟨_, rfl⟩
 have hbox : w1.heap[w.heap.size]? = some (nvO n) := by rw [hw1]; exact at_new _ _
 rw [← hw1] at hb
 have HB1 := hide hb
 have HX1 := hide hbox
 have HCK := hide hck
 obtain ⟨d0, d1, d2, d3, d4, d5, d6, d7⟩ := nv_cells hbox
 simp only [nvO] at hw1
 obtain ⟨g1, g2⟩ := hkd
 have HIH := hide ih
 have HFin : Hid (chkT t s = chkL ks (s.1 + 1, s.2)) := by
  show _ = _
  rw [chkT_kids]
  have hn : nodeS t s = .ok (s.1 + 1, s.2) := by
   unfold nodeS
   have hkk : t.kind = n.kind := by rw [ht]; rfl
   have hnn : t.num = n.num := by rw [ht]; rfl
   rw [hkk, hnn, if_neg (by omega), if_neg (by rw [hok.1, hok.2]; decide), if_neg (by omega)]
   rw [if_neg (by omega), if_pos hk11, if_pos hnum]
  rw [hn, ht]; rfl
 have b12 : (n.kind == 12) = false := by simp only [beq_eq_false_iff_ne, ne_eq]; omega
 have b11 : (n.kind == 11) = true := by simpa using hk11
 have HNu := hide hnum
 clear hk11 hnum
 clear h0 h hr hok hzs hset ht hbox hb hk hw0 hck ih
 go_enter Tryz.func101, Tryz.ntmps101
 go_wp2_with fail
 rw [← hw1]
 clear hw1
 refine (HY.out 7 w1).mono ?_
 rintro e w' ⟨rfl, rfl⟩
 go_wp2_with fail
 refine (HHK.out w1 HB1.out).mono ?_
 rintro e w2 ⟨rfl, hb2⟩
 have HB2 := hide (HB1.out.trans (hb2.mono HB1.out.size))
 have HX2 := hide (show w2.heap[w.heap.size]? = some (nvO n) by rw [hb2.block _ (lt_of_block HX1.out)]; exact HX1.out)
 clear hb2 HB1 HX1 d0 d1 d2 d3 d4 d5 d6 d7
 obtain ⟨d0, d1, d2, d3, d4, d5, d6, d7⟩ := nv_cells HX2.out
 go_wp2_with fail
 refine (HHF.out w2 HB2.out).mono ?_
 rintro e w3 ⟨rfl, hb3⟩
 have HB3 := hide (HB2.out.trans (hb3.mono HB2.out.size))
 have HX3 := hide (show w3.heap[w.heap.size]? = some (nvO n) by rw [hb3.block _ (lt_of_block HX2.out)]; exact HX2.out)
 clear hb3 HB2 HX2 d0 d1 d2 d3 d4 d5 d6 d7
 obtain ⟨d0, d1, d2, d3, d4, d5, d6, d7⟩ := nv_cells HX3.out
 go_wp2_with fail
 refine (HY.out 1 w3).mono ?_
 rintro e w' ⟨rfl, rfl⟩
 go_wp2_with fail
 refine (HSC.out w3 HB3.out).mono ?_
 rintro e w4 ⟨rfl, hb4⟩
 have HB4 := hide (HB3.out.trans (hb4.mono HB3.out.size))
 have HX4 := hide (show w4.heap[w.heap.size]? = some (nvO n) by rw [hb4.block _ (lt_of_block HX3.out)]; exact HX3.out)
 clear hb4 HB3 HX3 d0 d1 d2 d3 d4 d5 d6 d7
 obtain ⟨d0, d1, d2, d3, d4, d5, d6, d7⟩ := nv_cells HX4.out
 go_wp2_with fail
 refine (HY.out 0 w4).mono ?_
 rintro e w' ⟨rfl, rfl⟩
 have HC4 := hide (HCK.out.keep HB4.out)
 obtain ⟨cv, c0, c1, -, -, cf, clt⟩ := HC4.out.cells
 have clw : cb < w.heap.size := (HCK.out.cells).choose_spec.2.2.2.2.2
 have cn1 : ¬ cb = w.heap.size := by omega
 have cn2 : ¬ w.heap.size = cb := by omega
 have hgw : IntKind.i64.wrap (s.1 + 1) = s.1 + 1 := by rw [IntKind.wrap_i64]; omega
 go_upto_region 10 with fail
 obtain ⟨w5, hw5⟩ : ∃ w5, w5 = w4.setCell ⟨cb, 0, none⟩ (.int .i64 (s.1 + 1)) := ⟨_, rfl⟩
 have HC5 := hide (HC4.out.groups (s.1 + 1))
 have HX5 : Hid (w5.heap[w.heap.size]? = some (nvO n)) := by show _ = _; rw [hw5, Below.heap_setCell _ _ _ _ cn2]; exact HX4.out
 have HBw : Hid (Below w0.heap.size w w5) := by show Below _ _ _; rw [hw5]; exact (HB4.out.mono HW0.out.size).setCell (HCK.out.1) _
 rw [← hw5] at HC5
 rw [← hw5]
 clear hw5 d0 d1 d2 d3 d4 d5 d6 d7 c0 c1 cf clt HX4
 obtain ⟨cv5, c0, c1, -, -, cf, clt⟩ := HC5.out.cells
 obtain ⟨d0, d1, d2, d3, d4, d5, d6, d7⟩ := nv_cells HX5.out
 simp only at c0
 have hnq := HNu.out
 rw [hnq] at d3
 clear hnq
 go_quiet (first | (go_at_call 138; exact Calls.quiet_of_same (must_yes' _ _)))
 go_wp2
 clear d0 d1 d2 d3 d4 d5 d6 d7
 have hsz2 := hsz
 go_loopw [69] (fun t wr => ∃ (j : Nat) (s2 : St), j ≤ ks.length ∧ t = .int .i64 j ∧ chkL ks (s.1 + 1, s.2) = chkL (ks.drop j) s2 ∧ CK w0.heap.size wr cb s2 ∧ (0 ≤ s2.1 ∧ s2.1 + szL (ks.drop j) ≤ 1000000 ∧ s2.2.length + szL (ks.drop j) ≤ 1000000) ∧ Below w0.heap.size w wr) (fun t _ => ks.length - (intOf t).toNat)
 case atStart => exact ⟨0, (s.1 + 1, s.2), Nat.zero_le _, rfl, rfl, HC5.out.keep ⟨rfl, rfl, rfl, Nat.le_refl _, fun _ _ => rfl⟩, by have h := hsz2; simp only [List.drop_zero]; omega, HBw.out.trans ⟨rfl, rfl, rfl, Nat.le_refl _, fun _ _ => rfl⟩⟩
 case round =>
  obtain ⟨j, s2, hj, rfl, hE, hck2, hbd, hb⟩ := hrel
  have HE := hide hE
  have HBr := hide hb
  have HCr := hide hck2
  obtain ⟨w20, hw20⟩ : ∃ w20, w20 = wr := ⟨_, rfl⟩
  subst hw20
  clear hb hE hck2
  by_cases hlt : j < ks.length
  ·have e2 : (j : Int) < (n.kl : Int) := by have := HKL.out; omega
   have e4 : (0 : Int) ≤ (j : Int) := by omega
   rcases HK.out with ⟨_, _, _, h00⟩ | ⟨x, hx, hkk, hmx, hcl⟩
   ·exact absurd h00 (by omega)
   ·obtain ⟨d0, d1, d2, d3, d4, d5, d6, d7⟩ := (hcl j hlt).below (HW0.out.trans HBr.out)
    have hszj := szL_drop hlt
    have hB3 : Below w20.heap.size w20 (w20.alloc (nvO (vs j))) := (Below.refl _ _).alloc (Nat.le_refl _) _
    have HC := hide (HIH.out j hlt (w20.alloc (nvO (vs j))) s2 (HW0.out.trans (HBr.out.trans (hB3.mono (Nat.le_trans HW0.out.size HBr.out.size)))) (HCr.out.keep hB3) (by omega))
    obtain ⟨w21, hw21⟩ : ∃ w21, w21 = w20.alloc (nvO (vs j)) := ⟨_, rfl⟩
    have hbx : w21.heap[w20.heap.size]? = some (nvO (vs j)) := by rw [hw21]; exact at_new _ _
    rw [← hw21] at HC hB3
    have HB21 := hide (HBr.out.trans (hB3.mono (Nat.le_trans HW0.out.size HBr.out.size)))
    obtain ⟨b0, b1, b2, b3, b4, b5, b6, b7⟩ := nv_cells hbx
    simp only [nvO] at hw21
    have hjw : IntKind.i64.wrap ((j : Int) + 1) = (j : Int) + 1 := by rw [IntKind.wrap_i64]; omega
    have HD := hide (chkL_drop hlt s2)
    have HBD := hide hbd
    have HSJ := hide hszj
    rw [hx]
    clear hcl hx hkk hB3 hbx hszj hbd
    go_wp2_with fail
    rw [← hw21]
    clear hw21
    refine HC.out.mono ?_
    rintro e w22 ⟨hb22, ⟨s3, hR, rfl, hck3⟩ | ⟨z, hR, rfl⟩⟩
    ·have HB22 := hide (HB21.out.trans hb22)
     have HC3 := hide hck3
     have hgr := chkT_grow _ _ _ hR
     have HNx : Hid (chkL ks (s.1 + 1, s.2) = chkL (ks.drop (j + 1)) s3) := by show _ = _; rw [HE.out, HD.out, hR]
     have HBd3 : Hid (0 ≤ s3.1 ∧ s3.1 + szL (ks.drop (j + 1)) ≤ 1000000 ∧ s3.2.length + szL (ks.drop (j + 1)) ≤ 1000000) := by have := HBD.out; have := HSJ.out; show _ ∧ _ ∧ _; omega
     clear hb22 hck3 hgr hR HC HBD
     go_wp2
     go_roundw
     case rel => exact ⟨j + 1, s3, by omega, by go_num, HNx.out, HC3.out, HBd3.out, HB22.out⟩
     case measure => simp [intOf]; omega
    ·have HB22 := hide (HB21.out.trans hb22)
     have hF : Hid (chkT t s = .error z) := by show _ = _; rw [HFin.out, HE.out, HD.out, hR]
     clear hb22 hR HC
     go_wp2
     exact ⟨rfl, HB22.out, .inr ⟨z, hF.out, rfl⟩⟩
  ·have e2 : ¬ (j : Int) < (n.kl : Int) := by have := HKL.out; omega
   have hF : Hid (chkT t s = .ok s2) := by
    show _ = _
    rw [HFin.out, HE.out, List.drop_eq_nil_of_le (by omega)]; rfl
   go_wp2
   go_end0
   exact ⟨HBr.out, .inl ⟨s2, hF.out, rfl, HCr.out⟩⟩
theorem node_groupbad (w0 : World) (n : NV) (set : RL) (ks : List Tr) (vs : Nat → NV) (h0 : NodeC w0 n (.mk n.kind n.num n.least n.most n.way n.fold set ks)) (hk : KidsC w0 n.ka n.kl n.kc ks.length vs) (w : World) (hw0 : Below w0.heap.size w0 w) (cb : Nat) (s : St) (hck : CK w0.heap.size w cb s) (hkd : 1 ≤ n.kind ∧ n.kind ≤ 18) (hok : (kidsB (.mk n.kind n.num n.least n.most n.way n.fold set ks) && fieldsB (.mk n.kind n.num n.least n.most n.way n.fold set ks)) = true) (hzs : checkE set = 0) (hk11 : n.kind = 11) (hnum : n.num ≠ s.1 + 1) (hsz : 0 ≤ s.1 ∧ s.1 + szL ks + 1 ≤ 1000000) : Calls Tryz.prog 101 #[.pointer (some ⟨cb, 0, none⟩), nvV n] w fun e w' => e = .panicked [{ v := .iface 26 (.int .i64 4), recovered := false }] ∧ Below w0.heap.size w w' := by
 have h := h0.keep hw0
 have hr := h.open.2.2.2.2.2.2.1
 obtain ⟨t, ht⟩ : ∃ t, t = Tr.mk n.kind n.num n.least n.most n.way n.fold set ks := ⟨_, rfl⟩
 have hset : t.set = set := by rw [ht]; rfl
 rw [← ht] at h hr hok
 rw [← hset] at hzs
 have hb : Below w.heap.size w (w.alloc (nvO n)) := (Below.refl _ _).alloc (Nat.le_refl _) _
 rw [Bool.and_eq_true] at hok
 have HHK := hide (fun W (hW : Below w.heap.size w W) => hasItsKids_any n t W (h.keep hW))
 have HHF := hide (fun W (hW : Below w.heap.size w W) => hasItsFields_any n t W (h.keep hW))
 have HHR := hide (fun W (hW : Below w.heap.size w W) => checkRepeat_any n t W (h.keep hW))
 have HSC := hide (fun W (hW : Below w.heap.size w W) => check_any _ t.set W (hr.below hW))
 rw [hok.1] at HHK
 rw [hok.2] at HHF
 rw [hzs] at HSC
 have HY := hide (fun k W => must_yes k W)
 have HM : Hid (∀ k W, Calls Tryz.prog 138 #[.bool false, .int .i64 k] W fun e w' => e = .panicked [{ v := .iface 26 (.int .i64 k), recovered := false }] ∧ W = w') := fun k W => must_no k W
 have HKL : Hid (n.kl = ks.length) := hk.len
 have HK := hide hk
 have HW0 := hide hw0
 obtain ⟨w1, hw1⟩ : ∃ w1, w1 = w.alloc (nvO n) := ⟨_, rfl⟩
 have hbox : w1.heap[w.heap.size]? = some (nvO n) := by rw [hw1]; exact at_new _ _
 rw [← hw1] at hb
 have HB1 := hide hb
 have HX1 := hide hbox
 have HCK := hide hck
 obtain ⟨d0, d1, d2, d3, d4, d5, d6, d7⟩ := nv_cells hbox
 simp only [nvO] at hw1
 obtain ⟨g1, g2⟩ := hkd
 have b12 : (n.kind == 12) = false := by simp only [beq_eq_false_iff_ne, ne_eq]; omega
 have b11 : (n.kind == 11) = true := by simpa using hk11
 have hnb : (n.num == s.1 + 1) = false := by simpa using hnum
 clear h0 h hr hok hzs hset ht hbox hb hk hw0 hck hk11 hnum
 go_enter Tryz.func101, Tryz.ntmps101
 go_wp2_with fail
 rw [← hw1]
 clear hw1
 refine (HY.out 7 w1).mono ?_
 rintro e w' ⟨rfl, rfl⟩
 go_wp2_with fail
 refine (HHK.out w1 HB1.out).mono ?_
 rintro e w2 ⟨rfl, hb2⟩
 have HB2 := hide (HB1.out.trans (hb2.mono HB1.out.size))
 have HX2 := hide (show w2.heap[w.heap.size]? = some (nvO n) by rw [hb2.block _ (lt_of_block HX1.out)]; exact HX1.out)
 clear hb2 HB1 HX1 d0 d1 d2 d3 d4 d5 d6 d7
 obtain ⟨d0, d1, d2, d3, d4, d5, d6, d7⟩ := nv_cells HX2.out
 go_wp2_with fail
 refine (HHF.out w2 HB2.out).mono ?_
 rintro e w3 ⟨rfl, hb3⟩
 have HB3 := hide (HB2.out.trans (hb3.mono HB2.out.size))
 have HX3 := hide (show w3.heap[w.heap.size]? = some (nvO n) by rw [hb3.block _ (lt_of_block HX2.out)]; exact HX2.out)
 clear hb3 HB2 HX2 d0 d1 d2 d3 d4 d5 d6 d7
 obtain ⟨d0, d1, d2, d3, d4, d5, d6, d7⟩ := nv_cells HX3.out
 go_wp2_with fail
 refine (HY.out 1 w3).mono ?_
 rintro e w' ⟨rfl, rfl⟩
 go_wp2_with fail
 refine (HSC.out w3 HB3.out).mono ?_
 rintro e w4 ⟨rfl, hb4⟩
 have HB4 := hide (HB3.out.trans (hb4.mono HB3.out.size))
 have HX4 := hide (show w4.heap[w.heap.size]? = some (nvO n) by rw [hb4.block _ (lt_of_block HX3.out)]; exact HX3.out)
 clear hb4 HB3 HX3 d0 d1 d2 d3 d4 d5 d6 d7
 obtain ⟨d0, d1, d2, d3, d4, d5, d6, d7⟩ := nv_cells HX4.out
 go_wp2_with fail
 refine (HY.out 0 w4).mono ?_
 rintro e w' ⟨rfl, rfl⟩
 have HC4 := hide (HCK.out.keep HB4.out)
 obtain ⟨cv, c0, c1, -, -, cf, clt⟩ := HC4.out.cells
 have clw : cb < w.heap.size := (HCK.out.cells).choose_spec.2.2.2.2.2
 have cn1 : ¬ cb = w.heap.size := by omega
 have cn2 : ¬ w.heap.size = cb := by omega
 have hgw : IntKind.i64.wrap (s.1 + 1) = s.1 + 1 := by rw [IntKind.wrap_i64]; omega
 go_upto_region 10 with fail
 obtain ⟨w5, hw5⟩ : ∃ w5, w5 = w4.setCell ⟨cb, 0, none⟩ (.int .i64 (s.1 + 1)) := ⟨_, rfl⟩
 have HC5 := hide (HC4.out.groups (s.1 + 1))
 have HX5 : Hid (w5.heap[w.heap.size]? = some (nvO n)) := by show _ = _; rw [hw5, Below.heap_setCell _ _ _ _ cn2]; exact HX4.out
 have HBw : Hid (Below w0.heap.size w w5) := by show Below _ _ _; rw [hw5]; exact (HB4.out.mono HW0.out.size).setCell (HCK.out.1) _
 rw [← hw5] at HC5
 rw [← hw5]
 clear hw5 d0 d1 d2 d3 d4 d5 d6 d7 c0 c1 cf clt HX4
 obtain ⟨cv5, c0, c1, -, -, cf, clt⟩ := HC5.out.cells
 obtain ⟨d0, d1, d2, d3, d4, d5, d6, d7⟩ := nv_cells HX5.out
 simp only at c0
 clear HX5
 go_still_tail 7, (by kernel_rfl)
 go_wp2_with fail
 refine (HM.out 4 _).mono ?_
 rintro e w' ⟨rfl, rfl⟩
 go_wp2
 exact ⟨rfl, rfl, HBw.out.trans ⟨rfl, rfl, rfl, Nat.le_refl _, fun _ _ => rfl⟩⟩
end Go.Proofs.YtfnndcbjklppeaaGreatDoor
